import PyProof.Rows.All
import Wide.All
import OpenK.AllK
import Wide.FinOn
import Lean
import PyProof.EqAt
import PyProof.EqKinds
import PyProof.TupleCall
import PyProof.NeData
import PyProof.Rows.SumAny
import PyProof.ListRange
import PyProof.Rows.Range3
import OpenK.KOwn
import KE.KTryMore
import PyProof.RulesAs
import PyProof.MinMaxWalk
import PyProof.WalkInts
import PyProof.Rows.CallKwBuiltin
import KE.KMinKey
import PyProof.Draws
import OpenK.KMake
import PyProof.Rows.TupIter
import PySem.Challenge.RW_eightsides_k27_image_least
set_option Elab.async false
set_option linter.all false
set_option maxRecDepth 100000
namespace L2
open PySem PySem.Spec PyProof.Rows
abbrev Key := Sum Int Str
def e6k : Key -> Value -> Bool
 | .inl k, v => Value.isInt k v
 | .inr x, v => Value.isStrOf x v
def g0k (w : World) : Key -> Int
 | .inl k => hashInt k
 | .inr x => hashStr w x
theorem a3m : ∀ {k : Key} {v : Value}, e6k k v = true -> (∃ i t, k = Sum.inl i /\ v = Value.int i t) \/ (∃ x t, k = Sum.inr x /\ v = Value.str x t)
 | .inl i, v, h => by
  obtain ⟨t, e⟩ := Value.isInt_shape (k := i) (v := v) h
  exact .inl ⟨i, t, rfl, e⟩
 | .inr x, v, h => by
  obtain ⟨t, e⟩ := Value.isStrOf_shape (x := x) (v := v) h
  exact .inr ⟨x, t, rfl, e⟩
theorem e7l (a b : Int) : decide ((Sum.inl a : Key) = Sum.inl b) = (a == b) := by
 by_cases e : a = b
 · subst e; simp
 · have h : ¬ (Sum.inl a : Key) = Sum.inl b := fun q => e (Sum.inl.inj q)
   rw [decide_eq_false h]
   exact (beq_eq_false_iff_ne.mpr e).symm
theorem e5q (a b : Str) : decide ((Sum.inr a : Key) = Sum.inr b) = decide (a = b) := by
 by_cases e : a = b
 · subst e; simp
 · have h : ¬ (Sum.inr a : Key) = Sum.inr b := fun q => e (Sum.inr.inj q)
   rw [decide_eq_false h, decide_eq_false e]
theorem e6z (a : Int) (b : Str) : decide ((Sum.inl a : Key) = Sum.inr b) = false := decide_eq_false (fun q => nomatch q)
theorem e6x (a : Str) (b : Int) : decide ((Sum.inr a : Key) = Sum.inl b) = false := decide_eq_false (fun q => nomatch q)
def d7o (prog : Program) (w : World) : PySem.KeyKind prog w Key where
 is := e6k
 hash := g0k w
 inj := fun v a b ha hb => by
  rcases a3m ha with ⟨i, t, rfl, rfl⟩ | ⟨x, t, rfl, rfl⟩
  · rcases a3m hb with ⟨j, u, rfl, e⟩ | ⟨y, u, rfl, e⟩
    · injection e with e1 _; rw [e1]
    · exact nomatch e
  · rcases a3m hb with ⟨j, u, rfl, e⟩ | ⟨y, u, rfl, e⟩
    · exact nomatch e
    · injection e with e1 _; rw [e1]
 byValue := fun k v h => by
  rcases a3m h with ⟨i, t, rfl, rfl⟩ | ⟨x, t, rfl, rfl⟩ <;> rfl
 pyHash := fun hv h => by
  rcases a3m hv with ⟨i, t, rfl, rfl⟩ | ⟨x, t, rfl, rfl⟩
  · exact wpAny_pyHash_int h
  · exact wpAny_pyHash_str h
 eqBool := fun hu hv h => by
  rcases a3m hu with ⟨i, t, rfl, rfl⟩ | ⟨x, t, rfl, rfl⟩
  · rcases a3m hv with ⟨j, u, rfl, rfl⟩ | ⟨y, u, rfl, rfl⟩
    · rw [e7l] at h; exact wpAny_eqBool_int h
    · rw [e6z] at h; exact SeqAt.EqAt.int_str i t y u _ _ _ _ h
  · rcases a3m hv with ⟨j, u, rfl, rfl⟩ | ⟨y, u, rfl, rfl⟩
    · rw [e6x] at h; exact SeqAt.EqAt.str_int x t j u _ _ _ _ h
    · rw [e5q] at h; exact wpAny_eqBool_str h
 «strs» := fun k x t v h => by
  rcases a3m h with ⟨i, u, rfl, e⟩ | ⟨y, u, rfl, e⟩
  · exact nomatch e
  · injection e with e1 _
    subst e1
    cases v <;> rfl
end L2
namespace L2
open PySem PySem.Spec PyProof.Rows
inductive V where
 | non | bl (b : Bool) | int (i : Int) | str (x : Str) | byt (b : Array UInt8) | flt (b : UInt64) | ref (a : Addr) | ty (n : String)
 deriving DecidableEq
def a6m : V -> Value -> Prop
 | .non, u => u = Value.none
 | .bl b, u => u = Value.bool b
 | .int i, u => ∃ t, u = Value.int i t
 | .str x, u => ∃ t, u = Value.str x t
 | .byt b, u => ∃ t, u = Value.bytes b t
 | .flt b, u => ∃ t, u = Value.float b t
 | .ref a, u => u = Value.ref a
 | .ty n, u => u = Value.type n
abbrev a4b : List V -> List Value -> Prop := Paired a6m
theorem a4b.length {xs : List V} {us : List Value} (r : a4b xs us) : xs.length = us.length := Paired.length r
theorem a4b.get : ∀ {xs : List V} {us : List Value} {i : Nat} {x : V}, a4b xs us -> xs[i]? = some x -> ∃ u, us[i]? = some u /\ a6m x u
 | _, _, _, _, .nil, e => by simp at e
 | _, _, 0, _, .cons r _, e => by simp at e; subst e; exact ⟨_, rfl, r⟩
 | _, _, i + 1, x, .cons _ t, e => by
  obtain ⟨u, h1, h2⟩ := a4b.get (i := i) (x := x) t (by simpa using e)
  exact ⟨u, by simpa using h1, h2⟩
theorem a4b.set {x : V} {u : Value} (r : a6m x u) : ∀ {xs : List V} {us : List Value} (i : Nat), a4b xs us -> a4b (xs.set i x) (us.set i u)
 | _, _, _, .nil => .nil
 | _, _, 0, .cons _ t => .cons r t
 | _, _, i + 1, .cons q t => .cons q (a4b.set r i t)
theorem a4b.append : ∀ {xs ys : List V} {us ws : List Value}, a4b xs us -> a4b ys ws -> a4b (xs ++ ys) (us ++ ws)
 | _, _, _, _, .nil, s => s
 | _, _, _, _, .cons r t, s => .cons r (a4b.append t s)
theorem a4b.take : ∀ {xs : List V} {us : List Value} (n : Nat), a4b xs us -> a4b (xs.take n) (us.take n)
 | _, _, 0, _ => .nil
 | _, _, _ + 1, .nil => .nil
 | _, _, n + 1, .cons r t => .cons r (a4b.take n t)
theorem a4b.drop : ∀ {xs : List V} {us : List Value} (n : Nat), a4b xs us -> a4b (xs.drop n) (us.drop n)
 | _, _, 0, r => r
 | _, _, _ + 1, .nil => .nil
 | _, _, n + 1, .cons _ t => a4b.drop n t
def d8z : Option V -> Option Value -> Prop
 | some v, some u => a6m v u
 | none, none => True
 | _, _ => False
def KV {κ : Type} : List (κ × V) -> List (κ × Value) -> Prop := Paired fun (p : κ × V) (q : κ × Value) => p.1 = q.1 /\ a6m p.2 q.2
def kV : Key -> V
 | .inl i => .int i
 | .inr x => .str x
inductive HO where
 | lst (xs : List V)
 | tup (xs : List V)
 | dK (kvs : List (Key × V)) | dT (kvs : List (List Key × V))
 | set (S : Int -> Bool) (n : Nat)
 | ins (C dx : Addr) (fs : List (Str × V))
 | own (x : Addr)
 | xd (fs : List (Str × V))
 | met (f x : Addr)
 | rng (lo hi : Int)
 | frz (o : Obj) (u : HO)
 | tbl (ps : Array Value)
 | ext (φ : Heap -> Prop)
abbrev Hp := Addr -> Option HO
def upd (H : Hp) (a : Addr) (o : HO) : Hp := fun b => if b = a then some o else H b
theorem a0g {H : Hp} {a : Addr} {o : HO} : upd H a o a = some o := by unfold upd; rw [if_pos rfl]
theorem a1z {H : Hp} {a b : Addr} {o : HO} (h : b ≠ a) : upd H a o b = H b := by unfold upd; rw [if_neg h]
theorem e8c {H : Hp} {a b : Addr} {o u : HO} (h : H a = some o) (h' : H b = some u) (d : o ≠ u) : a ≠ b := by
 intro e; subst e; rw [h] at h'; exact d (Option.some.inj h')
theorem a2p {H : Hp} {a b : Addr} {o : HO} (h : H a = some o) (h' : H b = none) : a ≠ b := by
 intro e; subst e; rw [h] at h'; cases h'
section
variable (P : Program) (w : World)
def a9p (H : Hp) (h : Heap) (a : Addr) : HO -> Prop
 | .lst xs => xs.length <= sizeLine /\ ∃ (its : List Value) (n : Nat), a4b xs its /\ h.get? a = some { cls := .type "list", data := .seq its.toArray n }
 | .tup xs => xs.length <= sizeLine /\ ∃ its : List Value, a4b xs its /\ IsTup h a its.toArray
 | .dK kvs => kvs.length <= sizeLine /\ (a == sysModules) = false /\ ∃ vs, KV kvs vs /\ h.DictOf (d7o P w) a vs
 | .dT kvs => kvs.length <= sizeLine /\ (a == sysModules) = false /\ ∃ xs : List (List Key × Addr × Value),
   Paired (fun (p : List Key × V) (q : List Key × Addr × Value) => p.1 = q.1 /\ H q.2.1 = some (.tup (p.1.map kV)) /\ a6m p.2 q.2.2) kvs xs /\
   ∃ o es ep, h.get? a = some o /\ o.ExactDict /\ o.data = .dict es ep /\ es.toList = xs.map (entryOfKey (tupleKind (d7o P w))) /\ (xs.map (·.1)).Nodup
 | .set S n => h.SetOf (intKind P w) a S n
 | .ins C dx fs => H dx = some (.own a) /\ fs.length <= 1000 /\ dx ≠ a /\ h.get? a = some (PySem.W.instObj C dx) /\
   ∃ mA, h.Ns1 dx mA /\ (∀ f, d8z (fs.lookup f) (mA f)) /\ PySem.Within mA (fs.map (·.1))
 | .own _ => ∃ o, h.get? a = some o
 | .xd fs => ∃ mA, h.Ns1 a mA /\ ∀ f, d8z (fs.lookup f) (mA f)
 | .rng lo hi => ∃ t u v, h.get? a = some { cls := .type "range", data := .fields #[.int lo t, .int hi u, .int 1 v] }
 | .frz o u => h.get? a = some o /\ a9p H h a u
 | .tbl ps => h.get? a = some { cls := .none, data := .fields ps }
 | .met f x => h.get? a = some (PySem.W.methodObj (.ref f) (.ref x))
 | .ext φ => φ h /\ (∃ o, h.get? a = some o) /\ ∀ h1 h2 : Heap, φ h1 -> (∀ o, h1.get? a = some o -> h2.get? a = some o) -> φ h2
def HOk (H : Hp) (h : Heap) : Prop := ∀ a o, H a = some o -> a9p P w H h a o
end
section
variable {P : Program} {w : World} {H H' : Hp} {h h' : Heap} {a : Addr} {o : HO}
theorem a9p.lt (x : a9p P w H h a o) : a < h.objs.size := by
 cases o with
 | lst xs => obtain ⟨_, _, _, _, e⟩ := x; exact Heap.lt_size e
 | tup xs => obtain ⟨_, _, _, p⟩ := x; exact p.lt
 | dK kvs => obtain ⟨_, _, _, _, o, _, _, e, _⟩ := x; exact Heap.lt_size e
 | dT kvs => obtain ⟨_, _, _, _, o, _, _, e, _⟩ := x; exact Heap.lt_size e
 | set S n => obtain ⟨o, _, _, _, e, _⟩ := x; exact Heap.lt_size e
 | ins C dx fs => obtain ⟨_, _, _, e, _⟩ := x; exact Heap.lt_size e
 | own y => obtain ⟨_, e⟩ := x; exact Heap.lt_size e
 | xd fs => obtain ⟨_, ⟨_, _, _, e, _⟩, _⟩ := x; exact Heap.lt_size e
 | rng lo hi => obtain ⟨_, _, _, e⟩ := x; exact Heap.lt_size e
 | frz ob u => obtain ⟨e, _⟩ := x; exact Heap.lt_size e
 | tbl ps => exact Heap.lt_size (show h.get? a = some _ from x)
 | met f y => exact Heap.lt_size (show h.get? a = some _ from x)
 | ext φ => obtain ⟨_, ⟨_, e⟩, _⟩ := x; exact Heap.lt_size e
theorem Paired.mapP {α β : Type} {F G : α -> β -> Prop} : ∀ {l₁ : List α} {l₂ : List β}, Paired F l₁ l₂ -> (∀ a b, F a b -> G a b) -> Paired G l₁ l₂
 | _, _, .nil, _ => .nil
 | _, _, .cons r t, f => .cons (f _ _ r) (Paired.mapP t f)
theorem a9p.stay (x : a9p P w H h a o) (k : ∀ b u, (b = a \/ H b = some (.own a)) -> h.get? b = some u -> h'.get? b = some u)
  (ho : ∀ b, H b = some (.own a) -> H' b = some (.own a)) (ht : ∀ b xs, H b = some (.tup xs) -> H' b = some (.tup xs)) : a9p P w H' h' a o := by
 induction o with
 | lst xs => obtain ⟨z, its, n, r, e⟩ := x; exact ⟨z, its, n, r, k _ _ (.inl rfl) e⟩
 | tup xs => obtain ⟨z, its, r, ob, e, c⟩ := x; exact ⟨z, its, r, ob, k _ _ (.inl rfl) e, c⟩
 | dK kvs => obtain ⟨z, y, vs, r, ob, es, ep, e, c⟩ := x; exact ⟨z, y, vs, r, ob, es, ep, k _ _ (.inl rfl) e, c⟩
 | dT kvs =>
  obtain ⟨z, y, xs, r, ob, es, ep, e, c⟩ := x
  exact ⟨z, y, xs, Paired.mapP r fun p q z => ⟨z.1, ht _ _ z.2.1, z.2.2⟩, ob, es, ep, k _ _ (.inl rfl) e, c⟩
 | set S n => obtain ⟨ob, es, ep, t, e, c⟩ := x; exact ⟨ob, es, ep, t, k _ _ (.inl rfl) e, c⟩
 | ins C dx fs =>
  obtain ⟨d, z, ne, e, mA, ⟨od, es, ep, e2, c⟩, r⟩ := x
  exact ⟨ho _ d, z, ne, k _ _ (.inl rfl) e, mA, ⟨od, es, ep, k _ _ (.inr d) e2, c⟩, r⟩
 | own y => obtain ⟨ob, e⟩ := x; exact ⟨ob, k _ _ (.inl rfl) e⟩
 | xd fs => obtain ⟨mA, ⟨od, es, ep, e, c⟩, r⟩ := x; exact ⟨mA, ⟨od, es, ep, k _ _ (.inl rfl) e, c⟩, r⟩
 | rng lo hi => obtain ⟨t, u, v, e⟩ := x; exact ⟨t, u, v, k _ _ (.inl rfl) e⟩
 | frz ob u ih => obtain ⟨e, q⟩ := x; exact ⟨k _ _ (.inl rfl) e, ih q⟩
 | tbl ps =>
  have e : h.get? a = some { cls := .none, data := .fields ps } := x
  show h'.get? a = some { cls := .none, data := .fields ps }
  exact k a _ (.inl rfl) e
 | met f y =>
  have e : h.get? a = some (PySem.W.methodObj (.ref f) (.ref y)) := x
  show h'.get? a = some (PySem.W.methodObj (.ref f) (.ref y))
  exact k a _ (.inl rfl) e
 | ext φ => obtain ⟨p, ⟨o, e⟩, st⟩ := x; exact ⟨st _ _ p fun o q => k _ _ (.inl rfl) q, ⟨o, k _ _ (.inl rfl) e⟩, st⟩
theorem HOk.lt (x : HOk P w H h) (e : H a = some o) : a < h.objs.size := (x a o e).lt
theorem HOk.fresh (x : HOk P w H h) (e : h.objs.size <= a) : H a = none := by
 cases q : H a with
 | none => rfl
 | some u => exact absurd (Nat.lt_of_lt_of_le (x.lt q) e) (Nat.lt_irrefl _)
theorem HOk.kept (x : HOk P w H h) (k : ∀ b u, h.get? b = some u -> h'.get? b = some u) : HOk P w H h' := fun a o e =>
 (x a o e).stay (fun b u _ q => k b u q) (fun _ q => q) fun _ _ q => q
theorem HOk.laid (x : HOk P w H h) (k : ∀ b u, h.get? b = some u -> h'.get? b = some u) (hp : h.objs.size <= a) (new : a9p P w (upd H a o) h' a o) : HOk P w (upd H a o) h' := fun b u e => by
 have hn := x.fresh hp
 by_cases hb : b = a
 · subst hb; rw [a0g] at e; cases e; exact new
 · rw [a1z hb] at e
   exact (x b u e).stay (fun c v _ q => k c v q) (fun c q => by rw [a1z (a2p q hn)]; exact q) fun c xs q => by rw [a1z (a2p q hn)]; exact q
end
def Rd (H : Hp) (a : Addr) (u : HO) : Prop := H a = some u \/ ∃ o, H a = some (.frz o u)
theorem Rd.ok {P : Program} {w : World} {H : Hp} {h : Heap} {a : Addr} {u : HO} (r : Rd H a u) (x : HOk P w H h) : a9p P w H h a u := by
 rcases r with r | ⟨o, r⟩
 · exact x a u r
 · obtain ⟨_, q⟩ := x a _ r
   exact q
def Mut : Option HO -> Prop
 | some (.lst _) => True
 | some (.dK _) => True
 | some (.dT _) => True
 | some (.set _ _) => True
 | some (.ins _ _ _) => True
 | some (.ext _) => True
 | _ => False
section
variable {P : Program} {w : World} {H : Hp} {h h' : Heap} {x e : Addr} {o' : HO}
theorem HOk.write (ok : HOk P w H h) (mu : Mut (H x)) (he : e = x \/ H e = some (.own x)) (k : ∀ b u, b ≠ e -> h.get? b = some u -> h'.get? b = some u) (heo : ∃ u, h'.get? e = some u)
  (new : a9p P w (upd H x o') h' x o') : HOk P w (upd H x o') h' := fun b u q => by
 have nown : ∀ c y, H c = some (.own y) -> c ≠ x := fun c y r z => by subst z; rw [r] at mu; exact mu
 have ntup : ∀ c xs, H c = some (.tup xs) -> c ≠ x := fun c xs r z => by subst z; rw [r] at mu; exact mu
 by_cases hb : b = x
 · subst hb; rw [a0g] at q; cases q; exact new
 · rw [a1z hb] at q
   by_cases hbe : b = e
   · have q' : H b = some (.own x) := by
      rcases he with z | z
      · exact absurd (hbe.trans z) hb
      · rw [hbe]; exact z
     rw [q] at q'; cases q'
     obtain ⟨v, hv⟩ := heo
     exact ⟨v, by rw [hbe]; exact hv⟩
   · refine (ok b u q).stay (fun c v hc r => k c v ?_ r) (fun c r => by rw [a1z (nown c b r)]; exact r) fun c xs r => by rw [a1z (ntup c xs r)]; exact r
     rcases hc with rfl | hc
     · exact hbe
     · rintro rfl
       rcases he with z | z
       · exact nown c b hc z
       · rw [hc] at z; cases z; exact hb rfl
end
structure Un (fs ex : List Addr) (H H' : Hp) (h h' : Heap) : Prop where
 keep : ∀ b o, h.get? b = some o -> H b = none -> b ∉ fs -> b ∉ ex -> h'.get? b = some o
 slot : ∀ b o, h.get? b = some o -> H b = none -> b ∈ fs -> b ∉ ex -> ∃ sl, h'.get? b = some { o with slots := sl }
 free : ∀ b o, h.get? b = some o -> H b = none -> b ∉ ex -> H' b = none
 there : ∀ b o, h.get? b = some o -> b ∉ ex -> ∃ o', h'.get? b = some o'
 tups : ∀ b xs, H b = some (.tup xs) -> H' b = some (.tup xs)
 frzs : ∀ b o u, H b = some (.frz o u) -> H' b = some (.frz o u)
 tbls : ∀ b ps, H b = some (.tbl ps) -> ∃ more, H' b = some (.tbl (ps ++ more))
section
variable {fs fs' ex ex' : List Addr} {H H1 H2 : Hp} {h h1 h2 h' : Heap} {a x e : Addr} {o : HO}
theorem Un.any (u : Un fs ex H H1 h h1) {b : Addr} {ob : Obj} (q : h.get? b = some ob) (n : H b = none) (hx : b ∉ ex) : ∃ sl, h1.get? b = some { ob with slots := sl } := by
 by_cases hb : b ∈ fs
 · exact u.slot b ob q n hb hx
 · exact ⟨ob.slots, u.keep b ob q n hb hx⟩
theorem Un.trans (a : Un fs ex H H1 h h1) (b : Un fs ex H1 H2 h1 h2) : Un fs ex H H2 h h2 where
 keep := fun c ob q n hc hx => b.keep c ob (a.keep c ob q n hc hx) (a.free c ob q n hx) hc hx
 slot := fun c ob q n hc hx => by
  obtain ⟨sl, e1⟩ := a.slot c ob q n hc hx
  obtain ⟨sl', e2⟩ := b.slot c _ e1 (a.free c ob q n hx) hc hx
  exact ⟨sl', e2⟩
 free := fun c ob q n hx => by
  obtain ⟨o', e1⟩ := a.there c ob q hx
  exact b.free c o' e1 (a.free c ob q n hx) hx
 there := fun c ob q hx => by
  obtain ⟨o', e1⟩ := a.there c ob q hx
  exact b.there c o' e1 hx
 tups := fun c xs q => b.tups c xs (a.tups c xs q)
 frzs := fun c ob xs q => b.frzs c ob xs (a.frzs c ob xs q)
 tbls := fun c ps q => by
  obtain ⟨m1, e1⟩ := a.tbls c ps q
  obtain ⟨m2, e2⟩ := b.tbls c _ e1
  exact ⟨m1 ++ m2, by rw [e2, Array.append_assoc]⟩
theorem Un.kept (k : ∀ b u, h.get? b = some u -> h'.get? b = some u) : Un fs ex H H h h' :=
 ⟨fun b ob q _ _ _ => k b ob q, fun b ob q _ _ _ => ⟨ob.slots, k b ob q⟩, fun _ _ _ n _ => n, fun b ob q _ => ⟨ob, k b ob q⟩, fun _ _ q => q, fun _ _ _ q => q, fun _ ps q => ⟨#[], by rw [q]; simp⟩⟩
theorem Un.refl : Un fs ex H H h h := Un.kept fun _ _ q => q
theorem Un.laid (k : ∀ b u, h.get? b = some u -> h'.get? b = some u) (hp : h.objs.size <= a) (hn : H a = none) : Un fs ex H (upd H a o) h h' where
 keep := fun b u q _ _ _ => k b u q
 slot := fun b u q _ _ _ => ⟨u.slots, k b u q⟩
 free := fun b u q n _ => by rw [a1z (Nat.ne_of_lt (Nat.lt_of_lt_of_le (Heap.lt_size q) hp))]; exact n
 there := fun b u q _ => ⟨u, k b u q⟩
 tups := fun b xs q => by rw [a1z (a2p q hn)]; exact q
 frzs := fun b u xs q => by rw [a1z (a2p q hn)]; exact q
 tbls := fun b ps q => ⟨#[], by rw [a1z (a2p q hn), q]; simp⟩
theorem Un.write (mu : Mut (H x)) (he : e = x \/ H e = some (.own x)) (k : ∀ b u, b ≠ e -> h.get? b = some u -> h'.get? b = some u) (heo : ∃ u, h'.get? e = some u) : Un fs ex H (upd H x o) h h' := by
 have hx : ∀ b, H b = none -> b ≠ x := fun b n z => by subst z; rw [n] at mu; exact mu
 have hb : ∀ b, H b = none -> b ≠ e := fun b n z => by
  subst z
  rcases he with r | r
  · exact hx b n r
  · rw [n] at r; cases r
 have hm : ∀ b u, H b = some u -> ¬ Mut (some u) -> b ≠ x := fun b u q nm z => by subst z; rw [q] at mu; exact nm mu
 refine ⟨fun b u q n _ _ => k b u (hb b n) q, fun b u q n _ _ => ⟨u.slots, k b u (hb b n) q⟩, fun b u q n _ => by rw [a1z (hx b n)]; exact n, fun b u q _ => ?_,
  fun b xs q => by rw [a1z (hm b _ q fun z => z)]; exact q, fun b u xs q => by rw [a1z (hm b _ q fun z => z)]; exact q, fun b ps q => ⟨#[], by rw [a1z (hm b _ q fun z => z), q]; simp⟩⟩
 by_cases hbe : b = e
 · subst hbe; exact heo
 · exact ⟨u, k b u hbe q⟩
end
def trk (h : Heap) (H : Hp) : List Addr := (List.range h.objs.size).filter fun a => (H a).isSome
def e0r (h : Heap) (H : Hp) : Heap := PySem.W.hideAll h (trk h H)
theorem d7j (h : Heap) (H : Hp) : (e0r h H).objs.size = h.objs.size := PySem.W.hideAll_size _ _
theorem e0v {h : Heap} {H : Hp} {b : Addr} {o : Obj} (e : h.get? b = some o) (n : H b = none) : (e0r h H).get? b = some o :=
 PySem.W.hideAll_get _ e fun hm => by
  have q : (H b).isSome = true := (List.mem_filter.mp hm).2
  rw [n] at q; simp at q
theorem e4m {h : Heap} {H : Hp} {b : Addr} {o : Obj} (e : (e0r h H).get? b = some o) : h.get? b = some o /\ H b = none := by
 have e' : h.get? b = some o := PySem.W.of_hideAll (trk h H) e
 refine ⟨e', ?_⟩
 cases q : H b with
 | none => rfl
 | some x =>
  have hm : b ∈ trk h H := List.mem_filter.mpr ⟨List.mem_range.mpr (Heap.lt_size e'), by simp [q]⟩
  have z : (e0r h H).get? b = none := PySem.W.hideAll_none (trk h H) hm
  rw [z] at e; cases e
end L2
namespace L2
open PySem PySem.Spec PyProof.Rows
structure Mod (K : PySem.W.Frag) (mg : Str -> Option Value) (base : Heap) : Prop where
 kin : K.In base
 glob : base.Ns mainGlobals mg
 blt : ∃ mb, base.Ns builtinsNs mb /\ ∀ x : Str, x ≠ "__name__" -> mb x = bootBuiltins x
 nolimit : base.NoLimit
structure Cx where
 prog : Program
 w : World
 K : PySem.W.Frag
 mg : Str -> Option Value
 base : Heap
 A : Around
 N : List Str
 s₀ : Shared
 H₀ : Hp
 env : Env
 outer : List Env
 stack : List Env
 ex : List Addr
 fn : Str -> Bool
 calm : Bool
 pn : List (Addr × Obj)
 xe : Value -> Shared -> Prop
def frs (l : List Env) : List Addr := l.filterMap (·.frame)
abbrev Cx.fs (X : Cx) : List Addr := frs X.outer
def Vis (sc : Scope) (x : Str) : Prop := sc.names.lookup x = some .local \/ sc.names.lookup x = some .cell \/ sc.names.lookup x = some .free
def Loc (sc : Scope) (x : Str) : Prop := sc.names.lookup x = some .local \/ sc.names.lookup x = some .cell
def g0m (env : Env) (h : Heap) (m : Str -> Option Value) (x : Str) (u : Value) : Prop :=
 (env.kindOf x = some .local /\ m x = some u) \/ ((env.kindOf x = some .cell \/ env.kindOf x = some .free) /\ ∃ c, env.cells.lookup x = some c /\ h.IsCell c (some u))
structure Cx.Ok (X : Cx) : Prop where
 mod : Mod X.K X.mg X.base
 kind : X.env.scope.kind = .function
 glob : X.env.globals = mainGlobals
 blt : X.env.builtins = builtinsNs
 above : X.s₀.heap.objs.size <= X.env.locals
 inj : ∀ x y c, X.env.cells.lookup x = some c -> X.env.cells.lookup y = some c -> x = y
 has : ∀ x, (X.env.kindOf x = some .cell \/ X.env.kindOf x = some .free) -> ∃ c, X.env.cells.lookup x = some c
 cab : ∀ x c, X.fn x = true -> X.env.cells.lookup x = some c -> X.s₀.heap.objs.size <= c
 hd : X.calm = true -> X.A.handled = none
 frames : X.A.frames = some X.stack
 stk : X.stack = X.outer \/ (X.stack = X.env :: X.outer /\ X.env.frame = some X.env.locals)
 exf : ∀ b ∈ X.ex, b ≠ X.env.locals /\ ∀ x c, X.env.cells.lookup x = some c -> c ≠ b
 bs : ∀ b o, X.base.get? b = some o -> X.s₀.heap.get? b = some o /\ X.H₀ b = none
 bsz : X.base.objs.size <= X.s₀.heap.objs.size
 noex : ∀ b o, X.base.get? b = some o -> b ∉ X.ex
 exfs : ∀ b ∈ X.ex, b ∉ X.fs
 funs : X.s₀.heap.FunFrames X.base X.outer
 frf : ∀ b ∈ X.fs, X.H₀ b = none
structure Inv (X : Cx) (pins : List (Addr × Obj)) (σ : List (Option V)) (H : Hp) (s : Shared) : Prop where
 ok : X.Ok
 os : s.os = X.s₀.os
 bare : AllBare s.gens
 base : Un X.fs X.ex X.H₀ H X.s₀.heap s.heap
 loc : ∃ m, s.heap.Ns X.env.locals m /\ ∀ (i : Nat) (x : Str) (v : V), X.N[i]? = some x -> σ[i]? = some (some v) -> Vis X.env.scope x -> ∃ u, a6m v u /\ g0m X.env s.heap m x u
 cell : ∀ x c, X.env.cells.lookup x = some c -> ∃ v, s.heap.IsCell c v
 free : H X.env.locals = none
 freeC : ∀ x c, X.env.cells.lookup x = some c -> H c = none
 pin : ∀ p ∈ X.pn ++ pins, s.heap.get? p.1 = some p.2 /\ H p.1 = none /\ p.1 ≠ X.env.locals /\ p.1 ∉ X.fs /\ ∀ v, p.2.data ≠ .cell v
 hok : HOk X.prog X.w H s.heap
 len : σ.length = X.N.length
section
variable {X : Cx} {pins : List (Addr × Obj)} {σ : List (Option V)} {H H' : Hp} {s : Shared} {h' : Heap}
theorem Cx.Ok.nofr (ok : X.Ok) {b : Addr} {o : Obj} (e : X.base.get? b = some o) : b ∉ X.fs := fun hb => by
 have := (ok.funs.mem hb).1
 rw [e] at this; cases this
theorem Inv.bs (I : Inv X pins σ H s) : ∀ b o, X.base.get? b = some o -> s.heap.get? b = some o /\ H b = none := fun b o e =>
 ⟨I.base.keep b o (I.ok.bs b o e).1 (I.ok.bs b o e).2 (I.ok.nofr e) (I.ok.noex b o e), I.base.free b o (I.ok.bs b o e).1 (I.ok.bs b o e).2 (I.ok.noex b o e)⟩
theorem Inv.bk (I : Inv X pins σ H s) : ∀ b o, X.base.get? b = some o -> s.heap.get? b = some o := fun b o e => (I.bs b o e).1
theorem Inv.mod (I : Inv X pins σ H s) : Mod X.K X.mg X.base := I.ok.mod
theorem Inv.kIn (I : Inv X pins σ H s) : X.K.In s.heap := I.ok.mod.kin.keeps I.bk
theorem Inv.lt (I : Inv X pins σ H s) : X.env.locals < s.heap.objs.size := let ⟨_, hn, _⟩ := I.loc; hn.lt
theorem Inv.sz (I : Inv X pins σ H s) : X.s₀.heap.objs.size <= s.heap.objs.size := Nat.le_trans I.ok.above (Nat.le_of_lt I.lt)
theorem Inv.nofs (I : Inv X pins σ H s) {a : Addr} (h : s.heap.objs.size <= a) : a ∉ X.fs := fun hb => by
 obtain ⟨_, o, ho, _⟩ := I.ok.funs.mem hb
 exact absurd (Nat.lt_of_lt_of_le (Heap.lt_size ho) (Nat.le_trans I.sz h)) (Nat.lt_irrefl _)
theorem Inv.cne (I : Inv X pins σ H s) : ∀ x c, X.env.cells.lookup x = some c -> c ≠ X.env.locals := fun x c e z => by
 obtain ⟨v, o, ho, hd⟩ := I.cell x c e
 obtain ⟨m, ⟨o', es, ep, ho', hd', _⟩, _⟩ := I.loc
 rw [z, ho'] at ho; cases ho; rw [hd'] at hd; cases hd
theorem Inv.funs (I : Inv X pins σ H s) : s.heap.FunFrames X.base X.outer := by
 have all : ∀ (l : List Env), (∀ b ∈ frs l, b ∈ X.fs) -> X.s₀.heap.FunFrames X.base l -> s.heap.FunFrames X.base l := by
  intro l
  induction l with
  | nil => intro _ _; trivial
  | cons env r ih =>
   intro hs hl
   obtain ⟨hk, ⟨L, o, hf, hn, ho, hd⟩, hr⟩ := hl
   have hL : L ∈ X.fs := hs L (by unfold frs; rw [List.filterMap_cons, hf]; exact List.mem_cons_self)
   obtain ⟨sl, e⟩ := I.base.slot L o ho (I.ok.frf L hL) hL fun z => I.ok.exfs L z hL
   exact ⟨hk, ⟨L, _, hf, hn, e, hd⟩, ih (fun b hb => hs b (by unfold frs; rw [List.filterMap_cons, hf]; exact List.mem_cons_of_mem _ hb)) hr⟩
 exact all X.outer (fun _ hb => hb) I.ok.funs
theorem Inv.stack (I : Inv X pins σ H s) : s.heap.FunFrames X.base X.stack := by
 rcases I.ok.stk with e | ⟨e, hf⟩
 · rw [e]; exact I.funs
 · rw [e]
   obtain ⟨m, hn, _⟩ := I.loc
   refine .cons (by rw [I.ok.kind]; decide) hf hn ?_ I.funs
   exact Heap.get?_none_of_le (Nat.le_trans I.ok.bsz I.ok.above)
theorem Inv.stkSub (I : Inv X pins σ H s) : ∀ b ∈ frs X.stack, b ∈ X.env.locals :: X.fs := fun b hb => by
 rcases I.ok.stk with e | ⟨e, hf⟩
 · rw [e] at hb; exact List.mem_cons_of_mem _ hb
 · rw [e] at hb
   unfold frs at hb
   rw [List.filterMap_cons, hf] at hb
   exact hb
theorem Inv.stkFree (I : Inv X pins σ H s) : ∀ b ∈ frs X.stack, H b = none := fun b hb => by
 rcases List.mem_cons.mp (I.stkSub b hb) with e | hb
 · rw [e]; exact I.free
 · obtain ⟨_, o, ho, _⟩ := I.ok.funs.mem hb
   exact I.base.free b o ho (I.ok.frf b hb) fun z => I.ok.exfs b z hb
theorem Inv.step {g' : Array GenState} {t' : Nat} {d' : Drawn} {ch : List Addr} (I : Inv X pins σ H s)
  (hch : ∀ b ∈ ch, (b ∈ X.ex \/ X.s₀.heap.objs.size <= b) /\ b ≠ X.env.locals /\ (∀ x c, X.env.cells.lookup x = some c -> c ≠ b) /\ ∀ p ∈ X.pn ++ pins, p.1 ≠ b)
  (keep : ∀ b o, b ≠ X.env.locals -> b ∉ X.fs -> b ∉ ch -> s.heap.get? b = some o -> H b = none -> h'.get? b = some o)
  (slot : ∀ b o, b ≠ X.env.locals -> b ∈ X.fs -> b ∉ ch -> s.heap.get? b = some o -> H b = none -> ∃ sl, h'.get? b = some { o with slots := sl }) (free : ∀ b o, b ∉ ch -> s.heap.get? b = some o -> H b = none -> H' b = none)
  (there : ∀ b o, b ∉ ch -> s.heap.get? b = some o -> ∃ o', h'.get? b = some o')
  (tups : ∀ b xs, H b = some (.tup xs) -> H' b = some (.tup xs)) (frzs : ∀ b o u, H b = some (.frz o u) -> H' b = some (.frz o u)) (tbls : ∀ b ps, H b = some (.tbl ps) -> ∃ more, H' b = some (.tbl (ps ++ more)))
  (ns : ∀ m, s.heap.Ns X.env.locals m -> h'.Ns X.env.locals m) (hok : HOk X.prog X.w H' h') (hg : AllBare g') :
  Inv X pins σ H' { s with heap := h', gens := g', drawn := d', toks := t' } := by
 have neL : ∀ b o, X.s₀.heap.get? b = some o -> b ≠ X.env.locals := fun b o e => Nat.ne_of_lt (Nat.lt_of_lt_of_le (Heap.lt_size e) I.ok.above)
 have neC : ∀ b o, X.s₀.heap.get? b = some o -> b ∉ X.ex -> b ∉ ch := fun b o e hx hb => by
  rcases (hch b hb).1 with z | z
  · exact hx z
  · exact absurd (Nat.lt_of_lt_of_le (Heap.lt_size e) z) (Nat.lt_irrefl _)
 have cellK : ∀ x c, X.env.cells.lookup x = some c -> ∀ v, s.heap.IsCell c v -> h'.IsCell c v := fun x c e v ⟨o, ho, hd⟩ => by
  have nch : c ∉ ch := fun z => (hch c z).2.2.1 x c e rfl
  by_cases hc : c ∈ X.fs
  · obtain ⟨sl, q⟩ := slot c o (I.cne x c e) hc nch ho (I.freeC x c e)
    exact ⟨_, q, hd⟩
  · exact ⟨o, keep c o (I.cne x c e) hc nch ho (I.freeC x c e), hd⟩
 refine ⟨I.ok, I.os, hg, ⟨fun b o e n hb hx => ?_, fun b o e n hb hx => ?_, fun b o e n hx => ?_, fun b o e hx => ?_, fun b xs e => tups b xs (I.base.tups b xs e), fun b o xs e => frzs b o xs (I.base.frzs b o xs e), fun b ps e => ?_⟩, ?_, fun x c e => ?_, ?_, fun x c e => ?_, fun p hp => ?_, hok, I.len⟩
 · exact keep b o (neL b o e) hb (neC b o e hx) (I.base.keep b o e n hb hx) (I.base.free b o e n hx)
 · obtain ⟨sl, e1⟩ := I.base.slot b o e n hb hx
   obtain ⟨sl', e2⟩ := slot b _ (neL b o e) hb (neC b o e hx) e1 (I.base.free b o e n hx)
   exact ⟨sl', e2⟩
 · obtain ⟨o', e1⟩ := I.base.there b o e hx
   exact free b o' (neC b o e hx) e1 (I.base.free b o e n hx)
 · obtain ⟨o', e1⟩ := I.base.there b o e hx
   exact there b o' (neC b o e hx) e1
 · obtain ⟨m1, e1⟩ := I.base.tbls b ps e
   obtain ⟨m2, e2⟩ := tbls b _ e1
   exact ⟨m1 ++ m2, by rw [e2, Array.append_assoc]⟩
 · obtain ⟨m, hn, hl⟩ := I.loc
   refine ⟨m, ns m hn, fun i x v e1 e2 e3 => ?_⟩
   obtain ⟨u, r, l⟩ := hl i x v e1 e2 e3
   refine ⟨u, r, ?_⟩
   rcases l with l | ⟨k, c, e, z⟩
   · exact .inl l
   · exact .inr ⟨k, c, e, cellK x c e _ z⟩
 · obtain ⟨v, z⟩ := I.cell x c e
   exact ⟨v, cellK x c e v z⟩
 · obtain ⟨m, ⟨o, _, _, ho, _⟩, _⟩ := I.loc
   exact free _ o (fun z => (hch _ z).2.1 rfl) ho I.free
 · obtain ⟨v, o, ho, hd⟩ := I.cell x c e
   exact free c o (fun z => (hch c z).2.2.1 x c e rfl) ho (I.freeC x c e)
 · obtain ⟨e, n, ne, nf, d⟩ := I.pin p hp
   have nch : p.1 ∉ ch := fun z => (hch p.1 z).2.2.2 p hp rfl
   exact ⟨keep p.1 p.2 ne nf nch e n, free p.1 p.2 nch e n, ne, nf, d⟩
theorem Inv.un {t' : Nat} (I : Inv X pins σ H s) (u : Un X.fs [] H H' s.heap h') (hok : HOk X.prog X.w H' h') : Inv X pins σ H' { s with heap := h', toks := t' } := by
 obtain ⟨m, ⟨o, es, ep, ho, r⟩, _⟩ := id I.loc
 obtain ⟨sl, hL⟩ := u.any ho I.free (by simp)
 exact I.step (g' := s.gens) (d' := s.drawn) (ch := []) (fun _ z => nomatch z) (fun b o _ hb _ e n => u.keep b o e n hb (by simp)) (fun b o _ hb _ e n => u.slot b o e n hb (by simp)) (fun b o _ e n => u.free b o e n (by simp)) (fun b o _ e => u.there b o e (by simp)) u.tups u.frzs u.tbls (fun m' hm => by
  obtain ⟨o', es', ep', ho', r'⟩ := hm
  rw [ho] at ho'; cases ho'
  exact ⟨_, es', ep', hL, r'⟩) hok I.bare
theorem Inv.call {g' : Array GenState} {t' : Nat} {d' : Drawn} {ch : List Addr} (I : Inv X pins σ H s) (u : Un (frs X.stack) ch H H' s.heap h') (hok : HOk X.prog X.w H' h') (hg : AllBare g')
  (hch : ∀ b ∈ ch, (b ∈ X.ex \/ X.s₀.heap.objs.size <= b) /\ b ≠ X.env.locals /\ (∀ x c, X.env.cells.lookup x = some c -> c ≠ b) /\ ∀ p ∈ X.pn ++ pins, p.1 ≠ b) :
  Inv X pins σ H' { s with heap := h', gens := g', drawn := d', toks := t' } := by
 obtain ⟨m, ⟨o, es, ep, ho, r⟩, _⟩ := id I.loc
 obtain ⟨sl, hL⟩ := u.any ho I.free fun z => (hch _ z).2.1 rfl
 exact I.step (ch := ch) hch (fun b o hL hb hc e n => u.keep b o e n (fun z => (List.mem_cons.mp (I.stkSub b z)).elim hL hb) hc) (fun b o _ _ hc e n => u.any e n hc) (fun b o hc e n => u.free b o e n hc) (fun b o hc e => u.there b o e hc) u.tups u.frzs u.tbls (fun m' hm => by
  obtain ⟨o', es', ep', ho', r'⟩ := hm
  rw [ho] at ho'; cases ho'
  exact ⟨_, es', ep', hL, r'⟩) hok hg
theorem Inv.turned {t' : Nat} {it : Addr} (I : Inv X pins σ H s) (k : ∀ b o, b ≠ it -> s.heap.get? b = some o -> h'.get? b = some o) (hn : H it = none) (hL : it ≠ X.env.locals)
  (h1 : it ∈ X.ex \/ X.s₀.heap.objs.size <= it) (h2 : ∀ x c, X.env.cells.lookup x = some c -> c ≠ it) (h3 : ∀ p ∈ X.pn ++ pins, p.1 ≠ it) : Inv X pins σ H { s with heap := h', toks := t' } := by
 have nit : ∀ b u, H b = some u -> b ≠ it := fun b u e z => by rw [z, hn] at e; cases e
 refine I.step (g' := s.gens) (d' := s.drawn) (ch := [it]) (fun b hb => ?_) (fun b o _ _ hc e _ => k b o (fun z => hc (by simp [z])) e) (fun b o _ _ hc e _ => ⟨o.slots, k b o (fun z => hc (by simp [z])) e⟩) (fun _ _ _ _ n => n)
  (fun b o hc e => ⟨o, k b o (fun z => hc (by simp [z])) e⟩) (fun _ _ e => e) (fun _ _ _ e => e) (fun b ps e => ⟨#[], by rw [e]; simp⟩) (fun m hm => ?_) (fun b u e => ?_) I.bare
 · have e : b = it := by simpa using hb
   subst e
   exact ⟨h1, hL, h2, h3⟩
 · obtain ⟨o, es, ep, ho, r⟩ := hm
   exact ⟨o, es, ep, k _ o (Ne.symm hL) ho, r⟩
 · refine (I.hok b u e).stay (fun c v hc q => k c v ?_ q) (fun _ q => q) fun _ _ q => q
   rcases hc with z | z
   · rw [z]; exact nit b u e
   · exact nit c _ z
theorem Inv.tok (I : Inv X pins σ H s) (t : Nat) : Inv X pins σ H { s with toks := t } := I.un (h' := s.heap) (t' := t) Un.refl I.hok
theorem Inv.kept {t' : Nat} (I : Inv X pins σ H s) (k : ∀ b u, s.heap.get? b = some u -> h'.get? b = some u) : Inv X pins σ H { s with heap := h', toks := t' } := I.un (Un.kept k) (I.hok.kept k)
theorem Inv.laid {a : Addr} {o : HO} {t' : Nat} (I : Inv X pins σ H s) (k : ∀ b u, s.heap.get? b = some u -> h'.get? b = some u) (hp : s.heap.objs.size <= a) (new : a9p X.prog X.w (upd H a o) h' a o) :
  Inv X pins σ (upd H a o) { s with heap := h', toks := t' } := I.un (Un.laid k hp (I.hok.fresh hp)) (I.hok.laid k hp new)
theorem Inv.write {x e : Addr} {o : HO} {t' : Nat} (I : Inv X pins σ H s) (mu : Mut (H x)) (he : e = x \/ H e = some (.own x)) (k : ∀ b u, b ≠ e -> s.heap.get? b = some u -> h'.get? b = some u) (heo : ∃ u, h'.get? e = some u)
  (new : a9p X.prog X.w (upd H x o) h' x o) : Inv X pins σ (upd H x o) { s with heap := h', toks := t' } := I.un (Un.write mu he k heo) (I.hok.write mu he k heo new)
theorem Inv.pins_of {pins' : List (Addr × Obj)} (I : Inv X pins σ H s) (h : ∀ p ∈ pins', s.heap.get? p.1 = some p.2 /\ H p.1 = none /\ p.1 ≠ X.env.locals /\ p.1 ∉ X.fs /\ ∀ v, p.2.data ≠ .cell v) : Inv X pins' σ H s :=
 ⟨I.ok, I.os, I.bare, I.base, I.loc, I.cell, I.free, I.freeC, fun p hp => (List.mem_append.mp hp).elim (fun z => I.pin p (List.mem_append_left _ z)) (h p), I.hok, I.len⟩
theorem d2s {N : List Str} (hN : N.Nodup) {i j : Nat} {x : Str} (a : N[i]? = some x) (b : N[j]? = some x) : i = j := by
 obtain ⟨h1, e1⟩ := List.getElem?_eq_some_iff.mp a
 obtain ⟨h2, e2⟩ := List.getElem?_eq_some_iff.mp b
 exact (List.getElem_inj hN).mp (e1.trans e2.symm)
theorem c0x {M : Model} {A : Around} {E : Value -> Shared -> Prop} {i : Nat} {x : Str} {v : V} {u : Value} {Q : Unit -> Shared -> Prop} (I : Inv X pins σ H s) (hN : X.N.Nodup) (hi : X.N[i]? = some x) (hx : Loc X.env.scope x) (r : a6m v u)
  (h : ∀ s', Inv X pins (σ.set i (some v)) H s' -> (∃ a, Heap.SameBut a s.heap s'.heap /\ (a = X.env.locals \/ X.env.cells.lookup x = some a)) -> Q () s') (hf : X.fn x = true \/ X.env.scope.names.lookup x = some .local := by first | exact .inl rfl | exact .inr rfl | assumption) : wpAny M A (storeName X.env x u) Q E s := by
 obtain ⟨m, hn, hl⟩ := id I.loc
 have hcls : (X.env.scope.kind == .class || (X.env.scope.kind == .module && X.env.locals != X.env.globals)) = false := by rw [I.ok.kind]; rfl
 have hiσ : i < σ.length := by rw [I.len]; exact (List.getElem?_eq_some_iff.mp hi).1
 have cne := I.cne
 have tracked : ∀ {a : Addr} {h' : Heap}, (∃ o, s.heap.get? a = some o /\ H a = none) -> Heap.SameBut a s.heap h' -> HOk X.prog X.w H h' := fun {a h'} ha hs b ob e => by
  obtain ⟨_, _, hfree⟩ := ha
  refine (I.hok b ob e).stay (fun c w' hc q => (hs.2 c ?_).trans q) (fun _ q => q) fun _ _ q => q
  rintro rfl
  rcases hc with rfl | hc
  · rw [hfree] at e; cases e
  · rw [hfree] at hc; cases hc
 rcases hx with hk | hk
 · refine wpAny_storeName_local hk hn (fun h' hn' hs => ?_) hcls
   obtain ⟨oL, _, _, hoL, _⟩ := id hn
   refine h _ ⟨I.ok, I.os, I.bare, ⟨fun b o e n hb hx => ?_, fun b o e n hb hx => ?_, I.base.free, fun b o e hx => ?_, I.base.tups, I.base.frzs, I.base.tbls⟩, ⟨_, hn', fun j y v' e1 e2 e3 => ?_⟩, fun y c e => ?_, I.free, I.freeC, fun p hp => ?_, tracked ⟨oL, hoL, I.free⟩ hs, by simpa using I.len⟩ ⟨_, hs, .inl rfl⟩
   · exact (hs.2 b (Nat.ne_of_lt (Nat.lt_of_lt_of_le (Heap.lt_size e) I.ok.above))).trans (I.base.keep b o e n hb hx)
   · obtain ⟨sl, e1⟩ := I.base.slot b o e n hb hx
     exact ⟨sl, (hs.2 b (Nat.ne_of_lt (Nat.lt_of_lt_of_le (Heap.lt_size e) I.ok.above))).trans e1⟩
   · obtain ⟨o', e1⟩ := I.base.there b o e hx
     exact ⟨o', (hs.2 b (Nat.ne_of_lt (Nat.lt_of_lt_of_le (Heap.lt_size e) I.ok.above))).trans e1⟩
   · by_cases hj : j = i
     · subst hj
       rw [hi] at e1; cases e1
       rw [List.getElem?_set_self hiσ] at e2
       cases e2
       exact ⟨u, r, .inl ⟨hk, by simp⟩⟩
     · rw [List.getElem?_set_ne (Ne.symm hj)] at e2
       obtain ⟨u', r', q⟩ := hl j y v' e1 e2 e3
       refine ⟨u', r', ?_⟩
       rcases q with ⟨k, e⟩ | ⟨k, c, e, z⟩
       · refine .inl ⟨k, ?_⟩
         have : y ≠ x := fun e => hj (d2s hN e1 (e ▸ hi))
         simp [this, e]
       · exact .inr ⟨k, c, e, z.sameBut hs (cne y c e)⟩
   · obtain ⟨w', z⟩ := I.cell y c e
     exact ⟨w', z.sameBut hs (cne y c e)⟩
   · obtain ⟨e, n, ne, nf, d⟩ := I.pin p hp
     exact ⟨(hs.2 p.1 ne).trans e, n, ne, nf, d⟩
 · have hfn : X.fn x = true := by
    rcases hf with z | z
    · exact z
    · rw [z] at hk; cases hk
   obtain ⟨c, hc⟩ := I.ok.has x (.inl hk)
   obtain ⟨w', z⟩ := I.cell x c hc
   refine wpAny_storeName_cell I.ok.kind hk hc z (fun h' hc' hs => ?_)
   obtain ⟨oc, hoc, hocd⟩ := id z
   refine h { s with heap := h' } ⟨I.ok, I.os, I.bare, ⟨fun b o e n hb hx => ?_, fun b o e n hb hx => ?_, I.base.free, fun b o e hx => ?_, I.base.tups, I.base.frzs, I.base.tbls⟩, ⟨m, hn.sameBut hs (Ne.symm (cne x c hc)), fun j y v' e1 e2 e3 => ?_⟩, fun y c' e => ?_, I.free, I.freeC, fun p hp => ?_, tracked ⟨oc, hoc, I.freeC x c hc⟩ hs, by simpa using I.len⟩ ⟨c, hs, .inr hc⟩
   · exact (hs.2 b (Nat.ne_of_lt (Nat.lt_of_lt_of_le (Heap.lt_size e) (I.ok.cab x c hfn hc)))).trans (I.base.keep b o e n hb hx)
   · obtain ⟨sl, e1⟩ := I.base.slot b o e n hb hx
     exact ⟨sl, (hs.2 b (Nat.ne_of_lt (Nat.lt_of_lt_of_le (Heap.lt_size e) (I.ok.cab x c hfn hc)))).trans e1⟩
   · obtain ⟨o', e1⟩ := I.base.there b o e hx
     exact ⟨o', (hs.2 b (Nat.ne_of_lt (Nat.lt_of_lt_of_le (Heap.lt_size e) (I.ok.cab x c hfn hc)))).trans e1⟩
   · by_cases hj : j = i
     · subst hj
       rw [hi] at e1; cases e1
       rw [List.getElem?_set_self hiσ] at e2
       cases e2
       exact ⟨u, r, .inr ⟨.inl hk, c, hc, hc'⟩⟩
     · rw [List.getElem?_set_ne (Ne.symm hj)] at e2
       obtain ⟨u', r', q⟩ := hl j y v' e1 e2 e3
       refine ⟨u', r', ?_⟩
       rcases q with q | ⟨k, c', e, z'⟩
       · exact .inl q
       · refine .inr ⟨k, c', e, z'.sameBut hs ?_⟩
         rintro rfl
         exact hj (d2s hN e1 (I.ok.inj _ _ _ e hc ▸ hi))
   · by_cases hcc : c' = c
     · subst hcc; exact ⟨_, hc'⟩
     · obtain ⟨w2, z2⟩ := I.cell y c' e
       exact ⟨w2, z2.sameBut hs hcc⟩
   · obtain ⟨e, n, ne, nf, d⟩ := I.pin p hp
     refine ⟨(hs.2 p.1 ?_).trans e, n, ne, nf, d⟩
     intro q
     rw [q, hoc] at e
     have q' : oc = p.2 := Option.some.inj e
     exact d w' (by rw [← q']; exact hocd)
theorem d2m {M : Model} {A : Around} {E : Value -> Shared -> Prop} {i : Nat} {x : Str} {v : V} {u : Value} {Q : Unit -> Shared -> Prop} (I : Inv X pins σ H s) (hN : X.N.Nodup) (hi : X.N[i]? = some x) (hx : Loc X.env.scope x) (r : a6m v u)
  (h : ∀ s', Inv X pins (σ.set i (some v)) H s' -> Q () s') (hf : X.fn x = true \/ X.env.scope.names.lookup x = some .local := by first | exact .inl rfl | exact .inr rfl | assumption) : wpAny M A (storeName X.env x u) Q E s :=
 c0x I hN hi hx r (fun s' I' _ => h s' I') hf
theorem Inv.call' {s' : Shared} {ch : List Addr} (I : Inv X pins σ H s) (ho : s'.os = s.os) (u : Un (frs X.stack) ch H H' s.heap s'.heap) (hok : HOk X.prog X.w H' s'.heap) (hg : AllBare s'.gens)
  (hch : ∀ b ∈ ch, (b ∈ X.ex \/ X.s₀.heap.objs.size <= b) /\ b ≠ X.env.locals /\ (∀ x c, X.env.cells.lookup x = some c -> c ≠ b) /\ ∀ p ∈ X.pn ++ pins, p.1 ≠ b) : Inv X pins σ H' s' := by
 obtain ⟨h', g', d', t', o'⟩ := s'
 have e : o' = s.os := ho
 subst e
 exact I.call (g' := g') (t' := t') (d' := d') u hok hg hch
end
abbrev XK := Value -> Option Addr -> Hp -> Prop
abbrev St := List (Option V)
abbrev VK := V -> Hp -> Prop
abbrev TE := St -> Hp -> VK -> Prop
abbrev TT := St -> Hp -> (Bool -> Hp -> Prop) -> Prop
abbrev TA := St -> Hp -> (List V -> Hp -> Prop) -> Prop
structure d8c where
 nx : St -> Hp -> Prop
 rt : VK
 bk : St -> Hp -> Prop := fun _ _ => False
 ct : St -> Hp -> Prop := fun _ _ => False
abbrev TS := d8c -> St -> Hp -> Prop
def EP (X : Cx) (pins : List (Addr × Obj)) (σ : St) (Q : VK) (u : Value) (s' : Shared) : Prop := ∃ v H', Inv X pins σ H' s' /\ a6m v u /\ Q v H'
def TP (X : Cx) (pins : List (Addr × Obj)) (σ : St) (Q : Bool -> Hp -> Prop) (b : Bool) (s' : Shared) : Prop := ∃ H', Inv X pins σ H' s' /\ Q b H'
def AP (X : Cx) (pins : List (Addr × Obj)) (σ : St) (Q : List V -> Hp -> Prop) (us : List Value) (s' : Shared) : Prop := ∃ vs H', Inv X pins σ H' s' /\ a4b vs us /\ Q vs H'
def SP (X : Cx) (pins : List (Addr × Obj)) (D : d8c) (f : Flow) (s' : Shared) : Prop :=
 match f with
 | .next => ∃ σ' H', Inv X pins σ' H' s' /\ D.nx σ' H'
 | .brk => ∃ σ' H', Inv X pins σ' H' s' /\ D.bk σ' H'
 | .cont => ∃ σ' H', Inv X pins σ' H' s' /\ D.ct σ' H'
 | .ret u => ∃ v σ' H', Inv X pins σ' H' s' /\ a6m v u /\ D.rt v H'
def PE (X : Cx) (e : Expr) (t : TE) : Prop :=
 ∀ (pins : List (Addr × Obj)) (s : Shared) (σ : St) (H : Hp) (Q : VK), Inv X pins σ H s -> t σ H Q -> wpAny (model X.prog X.w) X.A (eval e X.env) (EP X pins σ Q) X.xe s
def PT (X : Cx) (e : Expr) (t : TT) : Prop :=
 ∀ (pins : List (Addr × Obj)) (s : Shared) (σ : St) (H : Hp) (Q : Bool -> Hp -> Prop), Inv X pins σ H s -> t σ H Q -> wpAny (model X.prog X.w) X.A (isTrue e X.env (eval e X.env)) (TP X pins σ Q) X.xe s
def PW (X : Cx) (e : Expr) (t : TT) : Prop :=
 ∀ (whole : Sem Value) (pins : List (Addr × Obj)) (s : Shared) (σ : St) (H : Hp) (Q : Bool -> Hp -> Prop), Inv X pins σ H s -> t σ H Q -> wpAny (model X.prog X.w) X.A (isTrue e X.env whole) (TP X pins σ Q) X.xe s
theorem PW.pt {X : Cx} {e : Expr} {t : TT} (h : PW X e t) : PT X e t := h _
def PA (X : Cx) (es : List Expr) (t : TA) : Prop :=
 ∀ (pos : Pos) (pins : List (Addr × Obj)) (s : Shared) (σ : St) (H : Hp) (Q : List V -> Hp -> Prop), Inv X pins σ H s -> t σ H Q -> wpAny (model X.prog X.w) X.A (spliced (backTo pos (starEach es X.env))) (AP X pins σ Q) X.xe s
def PS (X : Cx) (st : Stmt) (t : TS) : Prop :=
 ∀ (pins : List (Addr × Obj)) (s : Shared) (σ : St) (H : Hp) (D : d8c), Inv X pins σ H s -> t D σ H -> wpAny (model X.prog X.w) X.A (exec st X.env) (SP X pins D) X.xe s
def PSs (X : Cx) (st : List Stmt) (t : TS) : Prop :=
 ∀ (pins : List (Addr × Obj)) (s : Shared) (σ : St) (H : Hp) (D : d8c), Inv X pins σ H s -> t D σ H -> wpAny (model X.prog X.w) X.A (execs st X.env) (SP X pins D) X.xe s
theorem thn {α : Type} {t : Sem α} {Q Q' : α -> Shared -> Prop} {M : Model} {A : Around} {E : Value -> Shared -> Prop} {s : Shared} (h : wpAny M A t Q E s) (hQ : ∀ a s, Q a s -> Q' a s) : wpAny M A t Q' E s := wpAny_mono h hQ fun _ _ x => x
end L2
namespace L2
open PySem PySem.Spec PyProof.Rows
section
variable {X : Cx}
def d4t (i : Nat) : TE := fun σ H Q => ∃ v, σ[i]? = some (some v) /\ Q v H
def tC (v : V) : TE := fun _ H Q => Q v H
theorem e5z {i : Nat} {x : Str} {pos : Pos} (hN : X.N[i]? = some x) (hv : Vis X.env.scope x) (hd : (x == ("__debug__" : Str)) = false := by decide) (hcd : (x == ("__classdict__" : Str)) = false := by decide) : PE X (.Name x pos) (d4t i) := by
 intro pins s σ H Q I h
 obtain ⟨v, e, h⟩ := h
 obtain ⟨m, hn, hl⟩ := I.loc
 obtain ⟨u, r, l⟩ := hl i x v hN e hv
 have fin : EP X pins σ Q u s := ⟨v, H, I, r, h⟩
 rcases l with ⟨hk, hm⟩ | ⟨hk, c, hc, hcell⟩
 · exact wpAny_Name (wpAny_loadName_local I.ok.kind hk hn hm fin) hd
 · rcases hk with hk | hk
   · exact wpAny_Name (wpAny_loadName_cell I.ok.kind hk hc hcell fin) hd
   · exact wpAny_Name (wpAny_loadName_free I.ok.kind hk hc hcell fin hcd) hd
theorem a0d {i j pos} : PE X (.Constant (.int i) j pos) (tC (.int i)) := fun _ _ _ H _ I h => wpAny_Constant_int ⟨.int i, H, I.tok _, ⟨_, rfl⟩, h⟩
theorem b3f {b j pos} : PE X (.Constant (.bool b) j pos) (tC (.bl b)) := fun _ _ _ H _ I h => Constant_bool ⟨.bl b, H, I, rfl, h⟩
theorem a0w {j pos} : PE X (.Constant .none j pos) (tC .non) := fun _ _ _ H _ I h => Constant_none ⟨.non, H, I, rfl, h⟩
theorem a4r {x j pos} : PE X (.Constant (.str x) j pos) (tC (.str x)) := fun _ _ _ H _ I h => Calls.Constant_str ⟨.str x, H, I.tok _, ⟨_, rfl⟩, h⟩
def Gl (X : Cx) (x : Str) : Prop := X.env.kindOf x = some .globalImplicit
theorem c9z {E : Value -> Shared -> Prop} {pins : List (Addr × Obj)} {s : Shared} {σ : St} {H : Hp} {x : Str} {u : Value} {pos : Pos} {Q : Value -> Shared -> Prop} (I : Inv X pins σ H s) (hg : Gl X x) (hm : X.mg x = some u) (h : Q u s)
  (hd : (x == ("__debug__" : Str)) = false := by decide) : wpAny (model X.prog X.w) X.A (eval (.Name x pos) X.env) Q E s :=
 Calls.Name_function_global I.ok.kind hg (Calls.loadGlobal_global (by rw [I.ok.glob]; exact I.mod.glob.keeps I.bk) hm h) hd
theorem b5e {E : Value -> Shared -> Prop} {pins : List (Addr × Obj)} {s : Shared} {σ : St} {H : Hp} {x : Str} {u : Value} {pos : Pos} {Q : Value -> Shared -> Prop} (I : Inv X pins σ H s) (hg : Gl X x) (hm : X.mg x = none) (hv : bootBuiltins x = some u) (h : Q u s)
  (hn : x ≠ "__name__" := by decide) (hd : (x == ("__debug__" : Str)) = false := by decide) : wpAny (model X.prog X.w) X.A (eval (.Name x pos) X.env) Q E s := by
 obtain ⟨mb, h1, h2⟩ := I.mod.blt
 exact Calls.Name_function_global I.ok.kind hg (Calls.loadGlobal_builtin (by rw [I.ok.glob]; exact I.mod.glob.keeps I.bk) hm (by rw [I.ok.blt]; exact h1.keeps I.bk) ((h2 x hn).trans hv) h) hd
theorem b6t {x : Str} {v : V} {u : Value} {pos : Pos} (hg : Gl X x) (hm : X.mg x = none) (hv : bootBuiltins x = some u) (r : a6m v u) (hn : x ≠ "__name__" := by decide) (hd : (x == ("__debug__" : Str)) = false := by decide) : PE X (.Name x pos) (tC v) :=
 fun _ _ _ H _ I h => b5e I hg hm hv ⟨v, H, I, r, h⟩ hn hd
variable {a b : Expr} {ta tb : TE} {pos : Pos}
def tB (t : TE) : TT := fun σ H Q => t σ H fun x H1 => ∃ c, x = .bl c /\ Q c H1
theorem a7r {e : Expr} {t : TE} (h : PE X e t) (he : ∀ whole, isTrue e X.env whole = (do let v ← whole; standAt e.pos; holding [v] (truthy v)) := by intro _; rfl) : PT X e (tB t) := by
 intro pins s σ H Q I hw
 refine isTrue_plain (thn (h pins s σ H _ I hw) fun v s1 ⟨x, H1, I1, r1, q1⟩ => ?_) (he _)
 obtain ⟨d, rfl, q⟩ := q1
 cases r1
 exact wpAny_truthy_bool ⟨H1, I1, q⟩
variable {tA tB' : TT} {rest : List Expr}
def e9k (t u : TT) : TT := fun σ H Q => t σ H fun c H1 => if c = true then u σ H1 Q else Q false H1
def tOr (t u : TT) : TT := fun σ H Q => t σ H fun c H1 => if c = true then Q true H1 else u σ H1 Q
def e9o (t : TT) : TT := fun σ H Q => t σ H fun c H1 => Q (!c) H1
theorem c0e (ha : PT X a tA) : PW X (.BoolOp .And [a] pos) tA := by
 intro wh pins s σ H Q I h
 refine isTrue_and (thn (ha pins s σ H Q I h) fun c s1 e => ?_)
 cases c with
 | true => exact isTrue_and_nil e
 | false => exact e
theorem b2j (ha : PT X a tA) : PW X (.BoolOp .Or [a] pos) tA := by
 intro wh pins s σ H Q I h
 refine isTrue_or (thn (ha pins s σ H Q I h) fun c s1 e => ?_)
 cases c with
 | false => exact isTrue_or_nil e
 | true => exact e
theorem c1w (ha : PT X a tA) (hb : PW X (.BoolOp .And (b :: rest) pos) tB') : PW X (.BoolOp .And (a :: b :: rest) pos) (e9k tA tB') := by
 intro wh pins s σ H Q I h
 refine isTrue_and (thn (ha pins s σ H _ I h) fun c s1 ⟨H1, I1, q1⟩ => ?_)
 cases c with
 | true => exact hb wh pins s1 σ H1 Q I1 q1
 | false => exact ⟨H1, I1, q1⟩
theorem b8k (ha : PT X a tA) (hb : PW X (.BoolOp .Or (b :: rest) pos) tB') : PW X (.BoolOp .Or (a :: b :: rest) pos) (tOr tA tB') := by
 intro wh pins s σ H Q I h
 refine isTrue_or (thn (ha pins s σ H _ I h) fun c s1 ⟨H1, I1, q1⟩ => ?_)
 cases c with
 | true => exact ⟨H1, I1, q1⟩
 | false => exact hb wh pins s1 σ H1 Q I1 q1
theorem b1f (ha : PT X a tA) : PT X (.UnaryOp .Not a pos) (e9o tA) := by
 intro pins s σ H Q I h
 exact isTrue_not (ha pins s σ H (fun c H1 => Q (!c) H1) I h)
def e3h (ta tb : TE) : TE := fun σ H Q => ta σ H fun x H1 => ∃ c, x = .bl c /\ if c = true then tb σ H1 Q else Q (.bl false) H1
def e9w (ta tb : TE) : TE := fun σ H Q => ta σ H fun x H1 => ∃ c, x = .bl c /\ if c = true then Q (.bl true) H1 else tb σ H1 Q
def e4l (ta : TE) : TE := fun σ H Q => ta σ H fun x H1 => ∃ c, x = .bl c /\ Q (.bl (!c)) H1
theorem d6h {op} {t : TE} (h : PE X a t) : PE X (.BoolOp op [a] pos) t := fun pins s σ H Q I hw => BoolOp_one (h pins s σ H Q I hw)
theorem d4v (ha : PE X a ta) (hb : PE X (.BoolOp .And (b :: rest) pos) tb) : PE X (.BoolOp .And (a :: b :: rest) pos) (e3h ta tb) := by
 intro pins s σ H Q I h
 refine BoolOp_and (thn (ha pins s σ H _ I h) fun v s1 ⟨x, H1, I1, r1, q1⟩ => ?_)
 obtain ⟨c, rfl, q1⟩ := q1
 cases r1
 refine wpAny_truthy_bool ?_
 cases c with
 | true => exact hb pins s1 σ H1 Q I1 q1
 | false => exact ⟨.bl false, H1, I1, rfl, q1⟩
theorem e6w (ha : PE X a ta) : PE X (.UnaryOp .Not a pos) (e4l ta) := by
 intro pins s σ H Q I h
 refine UnaryOp_ (thn (ha pins s σ H _ I h) fun v s1 ⟨x, H1, I1, r1, q1⟩ => ?_)
 obtain ⟨c, rfl, q1⟩ := q1
 cases r1
 exact not_of (wpAny_truthy_bool ⟨.bl (!c), H1, I1, rfl, q1⟩)
def tIf (t : TT) (ta tb : TE) : TE := fun σ H Q => t σ H fun c H1 => if c = true then ta σ H1 Q else tb σ H1 Q
theorem e0o {c : Expr} (hc : PT X c tA) (ha : PE X a ta) (hb : PE X b tb) : PE X (.IfExp c a b pos) (tIf tA ta tb) := by
 intro pins s σ H Q I h
 refine wpAny_IfExp (thn (hc pins s σ H _ I h) fun d s1 ⟨H1, I1, q1⟩ => ?_)
 cases d with
 | true => exact ha pins s1 σ H1 Q I1 q1
 | false => exact hb pins s1 σ H1 Q I1 q1
end
end L2
namespace L2
open PySem PySem.Spec PyProof.Rows
def SqL (K : PySem.W.Frag) (H : Hp) (a : Addr) (xs : List V) : Prop :=
 Rd H a (.lst xs) \/
  ∃ (o : Obj) (its : Array Value) (n : Nat), K.lookup a = some o /\ o.cls = .type "list" /\ o.dict = none /\ o.data = .seq its n /\ its.size <= sizeLine /\ a4b xs its.toList
def SqT (K : PySem.W.Frag) (H : Hp) (a : Addr) (xs : List V) : Prop :=
 Rd H a (.tup xs) \/
  ∃ (o : Obj) (its : Array Value) (n : Nat), K.lookup a = some o /\ o.cls = .type "tuple" /\ o.data = .seq its n /\ its.size <= sizeLine /\ a4b xs its.toList
def g0q : Value -> Option V
 | .none => some .non
 | .bool b => some (.bl b)
 | .int i _ => some (.int i)
 | .str x _ => some (.str x)
 | .bytes b _ => some (.byt b)
 | .float b _ => some (.flt b)
 | .ref a => some (.ref a)
 | .type n => some (.ty n)
 | _ => none
theorem a6m.abs {x : V} {u : Value} (r : a6m x u) : g0q u = some x := by
 cases x with
 | non => cases r; rfl
 | bl _ => cases r; rfl
 | int _ => obtain ⟨t, rfl⟩ := r; rfl
 | str _ => obtain ⟨t, rfl⟩ := r; rfl
 | byt _ => obtain ⟨t, rfl⟩ := r; rfl
 | flt _ => obtain ⟨t, rfl⟩ := r; rfl
 | ref _ => cases r; rfl
 | ty _ => cases r; rfl
theorem a6m.inj {x y : V} {u : Value} (r : a6m x u) (q : a6m y u) : x = y := Option.some.inj (r.abs.symm.trans q.abs)
theorem a4b.inj : ∀ {xs ys : List V} {us : List Value}, a4b xs us -> a4b ys us -> xs = ys
 | _, _, _, .nil, .nil => rfl
 | _, _, _, .cons r t, .cons r' t' => by rw [r.inj r', a4b.inj t t']
section
variable {X : Cx} {pins : List (Addr × Obj)} {σ : St} {H : Hp} {s : Shared} {a : Addr} {xs ys : List V}
theorem SqL.of {K : PySem.W.Frag} (h : H a = some (.lst xs)) : SqL K H a xs := .inl (.inl h)
theorem SqT.of {K : PySem.W.Frag} (h : H a = some (.tup xs)) : SqT K H a xs := .inl (.inl h)
theorem Inv.list (I : Inv X pins σ H s) (h : SqL X.K H a xs) : ∃ its : List Value, a4b xs its /\ PlainL s.heap a its.toArray /\ xs.length <= sizeLine := by
 rcases h with h | ⟨o, its, n, hk, hc, hd, hs, hz, r⟩
 · obtain ⟨z, its, n, r, e⟩ := h.ok I.hok
   exact ⟨its, r, ⟨_, n, e, rfl, rfl, rfl⟩, z⟩
 · refine ⟨its.toList, r, ⟨o, n, I.kIn a o hk, hc, hd, by simpa using hs⟩, ?_⟩
   have e := r.length
   simp only [Array.length_toList] at e
   omega
theorem Inv.tuple (I : Inv X pins σ H s) (h : SqT X.K H a xs) : ∃ its : List Value, a4b xs its /\ IsTup s.heap a its.toArray /\ xs.length <= sizeLine := by
 rcases h with h | ⟨o, its, n, hk, hc, hs, hz, r⟩
 · obtain ⟨z, its, r, p⟩ := h.ok I.hok
   exact ⟨its, r, p, z⟩
 · refine ⟨its.toList, r, ⟨o, I.kIn a o hk, hc, n, by simpa using hs⟩, ?_⟩
   have e := r.length
   simp only [Array.length_toList] at e
   omega
theorem Inv.list_inj (I : Inv X pins σ H s) (h : SqL X.K H a xs) (h' : SqL X.K H a ys) : xs = ys := by
 obtain ⟨its, r, ⟨o, n, e, _, _, d⟩, _⟩ := I.list h
 obtain ⟨its', r', ⟨o', n', e', _, _, d'⟩, _⟩ := I.list h'
 rw [e] at e'; cases e'
 rw [d] at d'
 injection d' with d1 _
 have : its = its' := by simpa using congrArg Array.toList d1
 subst this
 exact r.inj r'
theorem Inv.tuple_inj (I : Inv X pins σ H s) (h : SqT X.K H a xs) (h' : SqT X.K H a ys) : xs = ys := by
 obtain ⟨its, r, ⟨o, e, _, n, d⟩, _⟩ := I.tuple h
 obtain ⟨its', r', ⟨o', e', _, n', d'⟩, _⟩ := I.tuple h'
 rw [e] at e'; cases e'
 rw [d] at d'
 injection d' with d1 _
 have : its = its' := by simpa using congrArg Array.toList d1
 subst this
 exact r.inj r'
end
abbrev Cx.wish (X : Cx) (E : Value -> Shared -> Prop) : Cx := { X with xe := E }
abbrev Cx.nox (X : Cx) : Cx := X.wish fun _ _ => False
theorem Cx.Ok.wish {X : Cx} (ok : X.Ok) (E : Value -> Shared -> Prop) : (X.wish E).Ok :=
 ⟨ok.mod, ok.kind, ok.glob, ok.blt, ok.above, ok.inj, ok.has, ok.cab, ok.hd, ok.frames, ok.stk, ok.exf, ok.bs, ok.bsz, ok.noex, ok.exfs, ok.funs, ok.frf⟩
theorem Cx.Ok.unwish {X : Cx} {E : Value -> Shared -> Prop} (ok : (X.wish E).Ok) : X.Ok :=
 ⟨ok.mod, ok.kind, ok.glob, ok.blt, ok.above, ok.inj, ok.has, ok.cab, ok.hd, ok.frames, ok.stk, ok.exf, ok.bs, ok.bsz, ok.noex, ok.exfs, ok.funs, ok.frf⟩
section
variable {X : Cx} {pins : List (Addr × Obj)} {σ : St} {H : Hp} {s : Shared} {E : Value -> Shared -> Prop}
theorem Inv.wish (I : Inv X pins σ H s) (E : Value -> Shared -> Prop) : Inv (X.wish E) pins σ H s := ⟨I.ok.wish E, I.os, I.bare, I.base, I.loc, I.cell, I.free, I.freeC, I.pin, I.hok, I.len⟩
theorem Inv.unwish (I : Inv (X.wish E) pins σ H s) : Inv X pins σ H s := ⟨I.ok.unwish, I.os, I.bare, I.base, I.loc, I.cell, I.free, I.freeC, I.pin, I.hok, I.len⟩
theorem SP.unwish {D : d8c} {f : Flow} {s' : Shared} (h : SP (X.wish E) pins D f s') : SP X pins D f s' := by
 cases f with
 | next => obtain ⟨σ', H', I, q⟩ := h; exact ⟨σ', H', I.unwish, q⟩
 | brk => obtain ⟨σ', H', I, q⟩ := h; exact ⟨σ', H', I.unwish, q⟩
 | cont => obtain ⟨σ', H', I, q⟩ := h; exact ⟨σ', H', I.unwish, q⟩
 | ret u => obtain ⟨v, σ', H', I, r, q⟩ := h; exact ⟨v, σ', H', I.unwish, r, q⟩
theorem PSs.nox {st : List Stmt} {t : TS} (h : PSs X.nox st t) : PSs X st t := fun pins s σ H D I hw =>
 wpAny_mono (h pins s σ H D (I.wish _) hw) (fun _ _ q => q.unwish) fun _ _ z => False.elim z
end
section
variable {X : Cx} {st : Stmt} {rest : List Stmt} {t u : TS} {e : Expr} {te : TE} {pos : Pos}
def e3x : TS := fun D σ H => D.nx σ H
def e7x (t u : TS) : TS := fun D σ H => t { D with nx := u D } σ H
theorem a0o : PSs X [] e3x := fun _ _ σ H _ I h => wpAny_execs_nil ⟨σ, H, I, h⟩
theorem a0f (h1 : PS X st t) (h2 : PSs X rest u) : PSs X (st :: rest) (e7x t u) := by
 intro pins s σ H D I h
 refine wpAny_execs_cons (thn (h1 pins s σ H { D with nx := u D } I h) fun f s1 q => ?_)
 cases f with
 | next =>
  obtain ⟨σ', H', I', q⟩ := q
  exact h2 pins s1 σ' H' D I' q
 | ret v => exact q
 | brk => exact q
 | cont => exact q
theorem a0h (h1 : PS X st t) : PSs X [st] t := by
 intro pins s σ H D I h
 refine wpAny_execs_cons (thn (h1 pins s σ H D I h) fun f s1 q => ?_)
 cases f with
 | next => exact wpAny_execs_nil q
 | ret v => exact q
 | brk => exact q
 | cont => exact q
theorem Inv.quiet {pins : List (Addr × Obj)} {σ : St} {H : Hp} {s : Shared} (I : Inv X pins σ H s) : interactive X.env = false := by simp [interactive, I.ok.kind]
def e3d (te : TE) : TS := fun D σ H => te σ H fun _ H1 => D.nx σ H1
theorem b4e (he : PE X e te) (hs : swapsWith e none pos.line X.env = pure false := by rfl) : PS X (.Expr e pos) (e3d te) := by
 intro pins s σ H D I h
 exact wpAny_Expr_any (thn (he pins s σ H _ I h) fun v s1 ⟨x, H1, I1, r1, q1⟩ => ⟨σ, H1, I1, q1⟩) I.quiet hs
def e5i (te : TE) : TS := fun D σ H => te σ H D.rt
theorem a0l (he : PE X e te) : PS X (.Return (some e) pos) (e5i te) := by
 intro pins s σ H D I h
 exact wpAny_Return_some (thn (he pins s σ H _ I h) fun v s1 ⟨x, H1, I1, r1, q1⟩ => ⟨x, σ, H1, I1, r1, q1⟩)
def e8r (c : TT) (t u : TS) : TS := fun D σ H => c σ H fun b H1 => if b = true then t D σ H1 else u D σ H1
theorem a1d {c : Expr} {a b : List Stmt} {tc : TT} (hc : PT X c tc) (ha : PSs X a t) (hb : PSs X b u) : PS X (.If c a b pos) (e8r tc t u) := by
 intro pins s σ H D I h
 refine wpAny_If (thn (hc pins s σ H _ I h) fun d s1 ⟨H1, I1, q1⟩ => ?_)
 cases d with
 | true => exact ha pins s1 σ H1 D I1 q1
 | false => exact hb pins s1 σ H1 D I1 q1
end
abbrev TG := V -> St -> Hp -> (St -> Hp -> Prop) -> Prop
abbrev TGs := List V -> St -> Hp -> (St -> Hp -> Prop) -> Prop
def PG (X : Cx) (target : Expr) (t : TG) : Prop :=
 ∀ (pins : List (Addr × Obj)) (s : Shared) (σ : St) (H : Hp) (v : V) (u : Value) (Q : St -> Hp -> Prop), Inv X pins σ H s -> a6m v u -> t v σ H Q ->
  wpAny (model X.prog X.w) X.A (assign target X.env u) (fun _ s' => ∃ σ' H', Inv X pins σ' H' s' /\ Q σ' H') X.xe s
def PGs (X : Cx) (ts : List Expr) (t : TGs) : Prop :=
 ∀ (pins : List (Addr × Obj)) (s : Shared) (σ : St) (H : Hp) (vs : List V) (us : List Value) (Q : St -> Hp -> Prop), Inv X pins σ H s -> a4b vs us -> t vs σ H Q ->
  wpAny (model X.prog X.w) X.A (assignInOrder ((assignEach ts X.env).map (·.2)) us) (fun _ s' => ∃ σ' H', Inv X pins σ' H' s' /\ Q σ' H') X.xe s
abbrev e8e := V -> V -> V -> Hp -> (Hp -> Prop) -> Prop
def e9r (X : Cx) (t : e8e) : Prop :=
 ∀ (pins : List (Addr × Obj)) (s : Shared) (σ : St) (H : Hp) (o i v : V) (ov iv u : Value) (Q : Hp -> Prop), Inv X pins σ H s -> a6m o ov -> a6m i iv -> a6m v u -> t o i v H Q ->
  wpAny (model X.prog X.w) X.A (setItem ov iv u) (fun _ s' => ∃ H', Inv X pins σ H' s' /\ Q H') X.xe s
section
variable {X : Cx} {pos : Pos}
def b5r (i : Nat) : TG := fun v σ H Q => Q (σ.set i (some v)) H
theorem b6r {i : Nat} {x : Str} (hN : X.N.Nodup) (hi : X.N[i]? = some x) (hx : Loc X.env.scope x) (hf : X.fn x = true \/ X.env.scope.names.lookup x = some .local := by first | exact .inl rfl | exact .inr rfl | assumption) : PG X (.Name x pos) (b5r i) := by
 intro pins s σ H v u Q I r h
 exact wpAny_assign_Name (d2m I hN hi hx r (fun s' I' => ⟨_, H, I', h⟩) hf)
def e9s : TGs := fun vs σ H Q => vs = [] /\ Q σ H
def e4a (t : TG) (u : TGs) : TGs := fun vs σ H Q => ∃ v r, vs = v :: r /\ t v σ H fun σ' H' => u r σ' H' Q
theorem e2k : PGs X [] e9s := by
 intro pins s σ H vs us Q I r h
 obtain ⟨e, h⟩ := h
 subst e
 cases r
 exact assignInOrder_nil ⟨σ, H, I, h⟩
theorem d1v {e : Expr} {es : List Expr} {t : TG} {u : TGs} (h1 : PG X e t) (h2 : PGs X es u)
  (hs : (assignEach (e :: es) X.env).map (·.2) = assign e X.env :: (assignEach es X.env).map (·.2) := by rfl) : PGs X (e :: es) (e4a t u) := by
 intro pins s σ H vs us Q I r h
 obtain ⟨v, vr, e1, h⟩ := h
 subst e1
 cases r with
 | cons r rr =>
  rw [hs]
  refine assignInOrder_cons (thn (h1 pins s σ H _ _ _ I r h) fun _ s1 ⟨σ1, H1, I1, q1⟩ => ?_)
  exact h2 pins s1 σ1 H1 _ _ Q I1 rr q1
def g0a (K : PySem.W.Frag) (n : Nat) (t : TGs) : TG := fun v σ H Q => ∃ a xs, v = .ref a /\ SqT K H a xs /\ xs.length = n /\ t xs σ H Q
theorem e7a {es : List Expr} {k : Nat} {t : TGs} {n : Nat} (hc : X.calm = true) (h : PGs X es t)
  (hn : (assignEach es X.env).length = n := by rfl) (hst : (assignEach es X.env).findIdx? (·.1) = none := by rfl) : PG X (.Tuple es k pos) (g0a X.K n t) := by
 intro pins s σ H v u Q I r hw
 obtain ⟨a, xs, e1, hq, hl, hw⟩ := hw
 subst e1
 cases r
 obtain ⟨its, rv, ht, hz⟩ := I.tuple hq
 refine assign_Tuple_tuple (I.ok.hd hc) ht (by simp [hn, ← hl, rv.length]) hst fun h' hx => ?_
 have I1 : Inv X pins σ H { s with heap := h' } := I.kept (t' := s.toks) fun b o e => hx b o (Nat.ne_of_lt (Heap.lt_size e)) e
 exact h pins _ σ H xs _ Q I1 (by simpa using rv) hw
def g0i (to ti : TE) (t : e8e) : TG := fun v σ H Q => to σ H fun o H1 => ti σ H1 fun i H2 => t o i v H2 fun H3 => Q σ H3
theorem e1q {o i : Expr} {to ti : TE} {t : e8e} (ho : PE X o to) (hi : PE X i ti) (hs : e9r X t)
  (ha : ∀ v, assign (.Subscript o i pos) X.env v = (do
   let ov ← holding [v] (eval o X.env)
   let iv ← holding [v, ov] (eval i X.env)
   standAt pos
   holding [v, ov, iv] (setItem ov iv v)
   release [v, ov, iv] []) := by intro _; rfl) : PG X (.Subscript o i pos) (g0i to ti t) := by
 intro pins s σ H v u Q I r h
 rw [ha]
 refine wpAny_bind (wpAny_holding (thn (ho pins s σ H _ I h) fun ov s1 ⟨x, H1, I1, r1, q1⟩ => ?_))
 refine wpAny_bind (wpAny_holding (thn (hi pins s1 σ H1 _ I1 q1) fun iv s2 ⟨y, H2, I2, r2, q2⟩ => ?_))
 refine wpAny_bind (wpAny_standAt (wpAny_bind (wpAny_holding (thn (hs pins s2 σ H2 x y v ov iv u _ I2 r1 r2 r q2) fun _ s3 ⟨H3, I3, q3⟩ => ?_))))
 exact wpAny_release ⟨σ, H3, I3, q3⟩
def e2n (te : TE) (g : TG) : TS := fun D σ H => te σ H fun x H1 => g x σ H1 D.nx
theorem e2d {tg e : Expr} {te : TE} {g : TG} (he : PE X e te) (hg : PG X tg g) (hs : swapsWithSole [tg] e pos.line X.env = pure false := by rfl) (hw : swappedStores [tg] e X.env = pure none := by rfl)
  (h1 : (assignEach [tg] X.env).map (·.2) = [assign tg X.env] := by rfl) : PS X (.Assign [tg] e pos) (e2n te g) := by
 intro pins s σ H D I h
 refine wpAny_Assign_stores (thn (he pins s σ H _ I h) fun v s1 ⟨x, H1, I1, r1, q1⟩ => ?_) hs hw
 rw [h1]
 exact thn (hg pins s1 σ H1 x v _ I1 r1 q1) fun _ s2 q => q
theorem e7e {i : Nat} {x : Str} {e : Expr} {te : TE} {pos' : Pos} (hN : X.N.Nodup) (hi : X.N[i]? = some x) (hx : Loc X.env.scope x) (he : PE X e te) (hs : swapsWith e (some (.Name x pos')) pos.line X.env = pure false := by rfl) (hf : X.fn x = true \/ X.env.scope.names.lookup x = some .local := by first | exact .inl rfl | exact .inr rfl | assumption) :
  PS X (.Assign [.Name x pos'] e pos) (e2n te (b5r i)) := by
 intro pins s σ H D I h
 refine wpAny_Assign_Name (thn (he pins s σ H _ I h) fun v s1 ⟨y, H1, I1, r1, q1⟩ => ?_) hs
 exact d2m I1 hN hi hx r1 (fun s2 I2 => ⟨_, H1, I2, q1⟩) hf
end
section
variable {X : Cx} {pos : Pos}
end
structure It where
 go : Nat -> Hp -> Prop
 yld : Nat -> Hp -> V -> Hp -> Prop
 stop : Nat -> Hp -> Prop
def b1g (X : Cx) (pins : List (Addr × Obj)) (H : Hp) (b : Addr) : Prop :=
 H b = none /\ b ≠ X.env.locals /\ b ∉ X.fs /\ (b ∈ X.ex \/ X.s₀.heap.objs.size <= b) /\ (∀ x c, X.env.cells.lookup x = some c -> c ≠ b) /\ ∀ p ∈ X.pn ++ pins, p.1 ≠ b
theorem Inv.fpOk {X : Cx} {pins : List (Addr × Obj)} {σ : St} {H H' : Hp} {s : Shared} {b : Addr} (I : Inv X pins σ H s) (hb : s.heap.objs.size <= b) (hn : H' b = none) : b1g X pins H' b := by
 refine ⟨hn, Nat.ne_of_gt (Nat.lt_of_lt_of_le I.lt hb), I.nofs hb, .inr (Nat.le_trans I.sz hb), fun x c e z => ?_, fun p hp z => ?_⟩
 · obtain ⟨v, q⟩ := I.cell x c e
   exact absurd (Nat.lt_of_lt_of_le q.lt (by rw [z]; exact hb)) (Nat.lt_irrefl _)
 · exact absurd (Nat.lt_of_lt_of_le (Heap.lt_size (I.pin p hp).1) (by rw [z]; exact hb)) (Nat.lt_irrefl _)
structure d8i (P : Program) (w : World) (K : PySem.W.Frag) (tg : Expr) (J : It) (fp : List Addr) (it : Addr) (tn : Nat -> Heap -> Prop) : Prop where
 mem : it ∈ fp
 obj : ∀ i h, tn i h -> ∀ b ∈ fp, ∃ o, h.get? b = some o /\ ∀ v, o.data ≠ .cell v
 keep : ∀ i h h', tn i h -> (∀ b ∈ fp, ∀ o, h.get? b = some o -> h'.get? b = some o) -> tn i h'
 item : ∀ (X : Cx), X.prog = P -> X.w = w -> X.K = K -> X.calm = true -> ∀ (i : Nat) (pins : List (Addr × Obj)) (s : Shared) (σ : St) (H : Hp) (E : Value -> Shared -> Prop), Inv X pins σ H s -> (∀ b ∈ fp, b1g X pins H b) -> tn i s.heap -> J.go i H ->
  wpAny (model P w) X.A (pyNext (.ref it)) (fun r s1 => ∃ u, r = some u /\
   wpAny (model P w) X.A (letOwnedTupleGo tg (.ref it) u) (fun _ s2 => ∃ x H', Inv X pins σ H' s2 /\ a6m x u /\ J.yld i H x H' /\ tn (i + 1) s2.heap /\ ∀ b ∈ fp, H' b = none) E s1) E s
 done : ∀ (X : Cx), X.prog = P -> X.w = w -> X.K = K -> X.calm = true -> ∀ (i : Nat) (pins : List (Addr × Obj)) (s : Shared) (σ : St) (H : Hp) (E : Value -> Shared -> Prop), Inv X pins σ H s -> (∀ b ∈ fp, b1g X pins H b) -> tn i s.heap -> J.stop i H ->
  wpAny (model P w) X.A (pyNext (.ref it)) (fun r s1 => r = none /\ Inv X pins σ H s1) E s
 self : ∀ (A : Around) (i : Nat) (s : Shared) (Q : Value -> Shared -> Prop) (E : Value -> Shared -> Prop), tn i s.heap -> Q (.ref it) s -> wpAny (model P w) A (pyIter (.ref it)) Q E s
abbrev TI := St -> Hp -> (It -> Hp -> Prop) -> Prop
def PIE (X : Cx) (pins : List (Addr × Obj)) (σ : St) (tg : Expr) (R : It -> Hp -> Prop) (itv : Value) (s2 : Shared) : Prop :=
 ∃ (it : Addr) (fp : List Addr) (tn : Nat -> Heap -> Prop) (J : It) (H' : Hp), itv = .ref it /\ Inv X pins σ H' s2 /\ d8i X.prog X.w X.K tg J fp it tn /\ tn 0 s2.heap /\ (∀ b ∈ fp, b1g X pins H' b) /\ R J H'
def PI (X : Cx) (tg iter : Expr) (wi : TI) : Prop :=
 ∀ (pins : List (Addr × Obj)) (s : Shared) (σ : St) (H : Hp) (R : It -> Hp -> Prop), Inv X pins σ H s -> wi σ H R ->
  wpAny (model X.prog X.w) X.A (eval iter X.env) (fun v s1 => wpAny (model X.prog X.w) X.A (pyIter v) (PIE X pins σ tg R) X.xe s1) X.xe s
theorem e4h {M : Model} {A : Around} {E : Value -> Shared -> Prop} {s : Shared} {tg : Expr} {it : Addr} {u : Value} {o : Obj} {n : String} {vs : Array Value} {Q : Unit -> Shared -> Prop} (ho : s.heap.get? it = some o) (hc : o.cls = .type n) (hd : o.data = .fields vs)
  (hn : ["enumerate", "zip", "dict_itemiterator", "dict_reverseitemiterator", "odict_iterator", "itertools.zip_longest", "itertools.pairwise"].contains n = false) (hQ : Q () s) : wpAny M A (letOwnedTupleGo tg (.ref it) u) Q E s := by
 unfold letOwnedTupleGo
 cases tg <;> first
  | exact wpAny_pure hQ
  | (cases u <;> first
    | exact wpAny_pure hQ
    | (refine wpAny_bind (wpAny_load ho ?_)
       rw [hc, hd]
       show wpAny M A (if (["enumerate", "zip", "dict_itemiterator", "dict_reverseitemiterator", "odict_iterator", "itertools.zip_longest", "itertools.pairwise"].contains n && vs[0]? == some (rawInt _)) = true then _ else _) Q E s
       rw [if_neg (by intro h; rw [hn, Bool.false_and] at h; cases h)]
       exact wpAny_pure hQ))
def Itl (K : PySem.W.Frag) (a : Addr) : It :=
 ⟨fun i H => ∃ xs x, SqL K H a xs /\ xs[i]? = some x, fun i H x H' => H' = H /\ ∀ xs, SqL K H a xs -> xs[i]? = some x, fun i H => ∃ xs, SqL K H a xs /\ xs.length <= i⟩
def Itt (K : PySem.W.Frag) (a : Addr) : It :=
 ⟨fun i H => ∃ xs x, SqT K H a xs /\ xs[i]? = some x, fun i H x H' => H' = H /\ ∀ xs, SqT K H a xs -> xs[i]? = some x, fun i H => ∃ xs, SqT K H a xs /\ xs.length <= i⟩
def Itr (lo : Int) (n : Nat) : It := ⟨fun i _ => i < n, fun i H x H' => H' = H /\ x = .int (lo + i), fun i _ => n <= i⟩
theorem d6v {P : Program} {w : World} {K : PySem.W.Frag} {tg : Expr} (a it : Addr) : d8i P w K tg (Itl K a) [it] it (fun i h => h.IsListIter it a i) where
 mem := by simp
 obj := fun i h st b hb => by
  have e : b = it := by simpa using hb
  subst e
  obtain ⟨o, e, c, d⟩ := st
  exact ⟨o, e, fun v z => by rw [d] at z; cases z⟩
 keep := fun i h h' st k => st.at fun o e => k it (by simp) o e
 item := by
  intro X hP hw hK hc i pins s σ H E I hf st hg
  subst hP hw hK
  obtain ⟨xs, x, hq, hx⟩ := hg
  obtain ⟨its, rv, p, hz⟩ := I.list hq
  obtain ⟨u, hu, ru⟩ := rv.get hx
  obtain ⟨f0, f1, f2, f3, f4, f5⟩ := hf it (by simp)
  refine wpAny_pyNext_list_item st p.isList (x := u) (by simpa using hu) fun h' st' sb => ?_
  have I1 : Inv X pins σ H { s with heap := h' } := I.turned (t' := s.toks) (fun b o hb e => (sb.2 b hb).trans e) f0 f1 f3 f4 f5
  obtain ⟨o, e, c, d⟩ := id st'
  exact ⟨u, rfl, e4h (s := { s with heap := h' }) e c d (by decide) ⟨x, H, I1, ru, ⟨rfl, fun ys hy => by rw [I.list_inj hy hq]; exact hx⟩, st', fun b hb => (hf b hb).1⟩⟩
 done := by
  intro X hP hw hK hc i pins s σ H E I hf st hg
  subst hP hw hK
  obtain ⟨xs, hq, hx⟩ := hg
  obtain ⟨its, rv, p, hz⟩ := I.list hq
  obtain ⟨f0, f1, f2, f3, f4, f5⟩ := hf it (by simp)
  have hl := rv.length
  exact wpAny_pyNext_list_end (I.ok.hd hc) st p.isList (by simp; omega) fun h' eb => ⟨rfl, I.turned (t' := s.toks) (fun b o hb e => eb b o hb e) f0 f1 f3 f4 f5⟩
 self := fun _ _ _ _ _ st h => wpAny_pyIter_listiter st h
theorem d4h {P : Program} {w : World} {K : PySem.W.Frag} {tg : Expr} (a it : Addr) : d8i P w K tg (Itt K a) [it] it (fun i h => h.IsTupleIter it a i) where
 mem := by simp
 obj := fun i h st b hb => by
  have e : b = it := by simpa using hb
  subst e
  obtain ⟨o, e, c, d⟩ := st
  exact ⟨o, e, fun v z => by rw [d] at z; cases z⟩
 keep := fun i h h' st k => st.at fun o e => k it (by simp) o e
 item := by
  intro X hP hw hK hc i pins s σ H E I hf st hg
  subst hP hw hK
  obtain ⟨xs, x, hq, hx⟩ := hg
  obtain ⟨its, rv, p, hz⟩ := I.tuple hq
  obtain ⟨u, hu, ru⟩ := rv.get hx
  obtain ⟨f0, f1, f2, f3, f4, f5⟩ := hf it (by simp)
  refine wpAny_pyNext_tuple_item st (show s.heap.IsTuple a its.toArray from p) (x := u) (by simpa using hu) fun h' st' sb => ?_
  have I1 : Inv X pins σ H { s with heap := h' } := I.turned (t' := s.toks) (fun b o hb e => (sb.2 b hb).trans e) f0 f1 f3 f4 f5
  obtain ⟨o, e, c, d⟩ := id st'
  exact ⟨u, rfl, e4h (s := { s with heap := h' }) e c d (by decide) ⟨x, H, I1, ru, ⟨rfl, fun ys hy => by rw [I.tuple_inj hy hq]; exact hx⟩, st', fun b hb => (hf b hb).1⟩⟩
 done := by
  intro X hP hw hK hc i pins s σ H E I hf st hg
  subst hP hw hK
  obtain ⟨xs, hq, hx⟩ := hg
  obtain ⟨its, rv, p, hz⟩ := I.tuple hq
  obtain ⟨f0, f1, f2, f3, f4, f5⟩ := hf it (by simp)
  have hl := rv.length
  exact wpAny_pyNext_tuple_end (I.ok.hd hc) st (show s.heap.IsTuple a its.toArray from p) (by simp; omega) fun h' eb => ⟨rfl, I.turned (t' := s.toks) (fun b o hb e => eb b o hb e) f0 f1 f3 f4 f5⟩
 self := fun _ _ _ _ _ st h => wpAny_pyIter_tupleiter st h
theorem d4k {P : Program} {w : World} {K : PySem.W.Frag} {tg : Expr} (it : Addr) (lo : Int) (n : Nat) : d8i P w K tg (Itr lo n) [it] it (fun i h => IsRangeIter h it (lo + (i : Nat) * 1) ((n : Int) - (i : Nat)) 1) where
 mem := by simp
 obj := fun i h st b hb => by
  have e : b = it := by simpa using hb
  subst e
  exact ⟨_, st, fun v z => by
   have z' : Data.fields _ = Data.cell v := z
   cases z'⟩
 keep := fun i h h' st k => k it (by simp) _ st
 item := by
  intro X hP hw hK hc i pins s σ H E I hf st hg
  subst hP hw hK
  obtain ⟨f0, f1, f2, f3, f4, f5⟩ := hf it (by simp)
  have W := Walks.range (prog := X.prog) (w := X.w) (I.ok.hd hc) it lo 1 n
  refine W.item i s _ _ hg st fun v h' tk hv st' kk => ?_
  obtain ⟨t, rfl⟩ := hv
  have I1 : Inv X pins σ H { s with heap := h', toks := tk } := I.turned (fun b o hb e => kk b o (by simpa using hb) e) f0 f1 f3 f4 f5
  refine ⟨_, rfl, e4h (s := { s with heap := h', toks := tk }) (n := "range_iterator") st' rfl rfl (by decide) ⟨.int (lo + i), H, I1, ⟨t, ?_⟩, ⟨rfl, rfl⟩, st', fun b hb => (hf b hb).1⟩⟩
  rw [Int.mul_one]
 done := by
  intro X hP hw hK hc i pins s σ H E I hf st hg
  subst hP hw hK
  obtain ⟨f0, f1, f2, f3, f4, f5⟩ := hf it (by simp)
  exact wpAny_pyNext_range_end (I.ok.hd hc) st (by have : n <= i := hg; omega) fun h' eb => ⟨rfl, I.turned (t' := s.toks) (fun b o hb e => eb b o hb e) f0 f1 f3 f4 f5⟩
 self := fun _ _ _ _ _ st h => wpAny_pyIter_rangeiter st h
end L2
namespace L2
open PySem PySem.Spec PyProof.Rows
section
variable {X : Cx} {tg : Expr}
def e5n (K : PySem.W.Frag) (tl : TE) : TI := fun σ H R => tl σ H fun x H1 => ∃ a, x = .ref a /\ (∃ xs, SqL K H1 a xs) /\ R (Itl K a) H1
def g0e (K : PySem.W.Frag) (tl : TE) : TI := fun σ H R => tl σ H fun x H1 => ∃ a, x = .ref a /\ (∃ xs, SqT K H1 a xs) /\ R (Itt K a) H1
theorem e3k {l : Expr} {tl : TE} (hl : PE X l tl) : PI X tg l (e5n X.K tl) := by
 intro pins s σ H R I h
 refine thn (hl pins s σ H _ I h) fun v s1 ⟨x, H1, I1, r1, q1⟩ => ?_
 obtain ⟨a, e, ⟨xs, hq⟩, q⟩ := q1
 subst e
 cases r1
 obtain ⟨its, rv, p, hz⟩ := I1.list hq
 refine wpAny_pyIter_list p.isList ?_
 refine ⟨s1.heap.objs.size, [s1.heap.objs.size], _, _, H1, rfl, I1.kept (t' := s1.toks) fun b o e => Heap.get?_push_of_some _ e, d6v a _, ⟨_, Heap.get?_push_size _ rfl, rfl, rfl⟩, fun b hb => ?_, q⟩
 have e : b = s1.heap.objs.size := by simpa using hb
 subst e
 exact I1.fpOk (Nat.le_refl _) (I1.hok.fresh (Nat.le_refl _))
theorem e6h {l : Expr} {tl : TE} (hl : PE X l tl) : PI X tg l (g0e X.K tl) := by
 intro pins s σ H R I h
 refine thn (hl pins s σ H _ I h) fun v s1 ⟨x, H1, I1, r1, q1⟩ => ?_
 obtain ⟨a, e, ⟨xs, hq⟩, q⟩ := q1
 subst e
 cases r1
 obtain ⟨its, rv, p, hz⟩ := I1.tuple hq
 refine wpAny_pyIter_tuple (show s1.heap.IsTuple a its.toArray from p) ?_
 refine ⟨s1.heap.objs.size, [s1.heap.objs.size], _, _, H1, rfl, I1.kept (t' := s1.toks) fun b o e => Heap.get?_push_of_some _ e, d4h a _, ⟨_, Heap.get?_push_size _ rfl, rfl, rfl⟩, fun b hb => ?_, q⟩
 have e : b = s1.heap.objs.size := by simpa using hb
 subst e
 exact I1.fpOk (Nat.le_refl _) (I1.hok.fresh (Nat.le_refl _))
theorem e0c {pins : List (Addr × Obj)} {σ : St} {H : Hp} {s : Shared} {R : It -> Hp -> Prop} {E : Value -> Shared -> Prop} {lo hi : Int} {t u v : Tok} {tk : Nat} (I : Inv X pins σ H s) (h1 : -(2 ^ 62) <= lo) (h2 : lo < 2 ^ 62) (h3 : -(2 ^ 62) <= hi) (h4 : hi < 2 ^ 62)
  (q : R (Itr lo (hi - lo).toNat) H) : wpAny (model X.prog X.w) X.A (pyIter (.ref s.heap.objs.size)) (PIE X pins σ tg R) E { s with heap := s.heap.push { cls := .type "range", data := .fields #[.int lo t, .int hi u, .int 1 v] }, toks := tk } := by
 refine wpAny_pyIter_range (IsRange.new ..) (small_one h1 h2 h3 h4) ?_
 have I1 : Inv X pins σ H { s with heap := s.heap.push { cls := .type "range", data := .fields #[.int lo t, .int hi u, .int 1 v] }, toks := tk } := I.kept fun b o e => Heap.get?_push_of_some _ e
 refine ⟨(s.heap.push { cls := .type "range", data := .fields #[.int lo t, .int hi u, .int 1 v] }).objs.size, [(s.heap.push { cls := .type "range", data := .fields #[.int lo t, .int hi u, .int 1 v] }).objs.size], _, _, H, rfl,
  I1.kept (t' := tk) fun b o e => Heap.get?_push_of_some _ e, d4k _ lo (hi - lo).toNat, ?_, fun b hb => ?_, q⟩
 · have e1 : lo + ((0 : Nat) : Int) * 1 = lo := by simp
   have e2 : (((hi - lo).toNat : Nat) : Int) - ((0 : Nat) : Int) = Builtin.Range.rangeSize lo hi 1 := by rw [rangeSize_one]; split <;> omega
   show IsRangeIter _ _ (lo + ((0 : Nat) : Int) * 1) ((((hi - lo).toNat : Nat) : Int) - ((0 : Nat) : Int)) 1
   rw [e1, e2]
   exact Heap.get?_push_size _ rfl
 · have e : b = (s.heap.push { cls := .type "range", data := .fields #[.int lo t, .int hi u, .int 1 v] }).objs.size := by simpa using hb
   subst e
   exact I1.fpOk (Nat.le_refl _) (I1.hok.fresh (Nat.le_refl _))
def e8y (ta : TA) : TI := fun σ H R => ta σ H fun vs H1 => ∃ j : Int, vs = [.int j] /\ -(2 ^ 62) <= j /\ j < 2 ^ 62 /\ R (Itr 0 j.toNat) H1
theorem a3t {a : Expr} {ta : TA} {p pos : Pos} (hg : Gl X "range") (hm : X.mg "range" = none) (ha : PA X [a] ta) (hs : starEach [a] X.env = [(false, eval a X.env)] := by rfl) : PI X tg (.Call (.Name "range" p) [a] [] pos) (e8y ta) := by
 intro pins s σ H R I h
 refine Call_ (b5e I hg hm boot_range (PyProof.Rows.callWith_type1 (thn (ha pos pins s σ H _ I h) fun us s1 ⟨vs, H1, I1, r1, q1⟩ => ?_) hs rfl))
 obtain ⟨j, e, q1, q2, q⟩ := q1
 subst e
 cases r1 with
 | cons r rr =>
  cases rr
  obtain ⟨t, rfl⟩ := r
  exact call_range_1 (e0c I1 (by omega) (by omega) q1 q2 (by simpa using q))
def g0j (wi : TI) (g : TG) (tb : TS) : TS := fun D σ H => wi σ H fun J H1 => ∃ W : Nat -> Nat -> St -> Hp -> Prop, (∃ m, W 0 m σ H1) /\ ∀ i m σ H, W i m σ H ->
 (J.stop i H /\ D.nx σ H) \/ (J.go i H /\ ∃ N : St -> Hp -> Prop, (∀ σ' H', N σ' H' -> ∃ m', m' < m /\ W (i + 1) m' σ' H') /\ ∀ x H', J.yld i H x H' -> g x σ H' fun σ2 H2 => tb { D with nx := N, ct := N, bk := D.nx } σ2 H2)
def b7g (fp : List Addr) (h : Heap) : List (Addr × Obj) := fp.filterMap fun b => (h.get? b).map fun o => (b, o)
theorem a3x {fp : List Addr} {h : Heap} {b : Addr} {o : Obj} (hb : b ∈ fp) (e : h.get? b = some o) : (b, o) ∈ b7g fp h := List.mem_filterMap.mpr ⟨b, hb, by rw [e]; rfl⟩
theorem d7z {fp : List Addr} {h : Heap} {p : Addr × Obj} (hp : p ∈ b7g fp h) : p.1 ∈ fp /\ h.get? p.1 = some p.2 := by
 obtain ⟨b, hb, e⟩ := List.mem_filterMap.mp hp
 cases q : h.get? b with
 | none => rw [q] at e; cases e
 | some o =>
  rw [q] at e
  have e' : (b, o) = p := Option.some.inj e
  subst e'
  exact ⟨hb, q⟩
theorem Inv.pinned {pins : List (Addr × Obj)} {σ : St} {H : Hp} {s : Shared} {fp : List Addr} (I : Inv X pins σ H s) (hf : ∀ b ∈ fp, b1g X pins H b) (ho : ∀ b ∈ fp, ∃ o, s.heap.get? b = some o /\ ∀ v, o.data ≠ .cell v) : Inv X (pins ++ b7g fp s.heap) σ H s :=
 I.pins_of fun p hp => (List.mem_append.mp hp).elim (fun z => I.pin p (List.mem_append_right _ z)) fun z => by
  obtain ⟨hb, e⟩ := d7z z
  obtain ⟨f0, f1, f2, _⟩ := hf p.1 hb
  obtain ⟨o, e', d⟩ := ho p.1 hb
  rw [e] at e'; cases e'
  exact ⟨e, f0, f1, f2, d⟩
theorem Inv.unpinned {pins pl : List (Addr × Obj)} {σ : St} {H : Hp} {s : Shared} (I : Inv X (pins ++ pl) σ H s) : Inv X pins σ H s := I.pins_of fun p hp => I.pin p (List.mem_append_right _ (List.mem_append_left _ hp))
theorem a5n {iter : Expr} {body : List Stmt} {wi : TI} {g : TG} {tb : TS} {pos : Pos} (hp : PassesOwn (model X.prog X.w) X.A X.env X.xe) (hc : X.calm = true) (hi : PI X tg iter wi) (hg : PG X tg g) (hb : PSs X body tb)
  (hs : ∀ x, foldedSetIterable iter X.env x = pure x := by intro _; rfl) : PS X (.For tg iter body [] pos) (g0j wi g tb) := by
 intro pins s σ H D I h
 refine wpAny_For (thn (hi pins s σ H _ I h) fun v s1 h1 => thn h1 fun itv s2 h2 => ?_) hs
 obtain ⟨it, fp, tn, J, H2, e, I2, T, st2, f2, W, ⟨m0, w0⟩, turn⟩ := h2
 subst e
 -- what stays true of the iterator's objects through the loop
 have stat : ∀ {H' : Hp}, (∀ b ∈ fp, H' b = none) -> ∀ b ∈ fp, b1g X pins H' b := fun hn b hb => ⟨hn b hb, (f2 b hb).2⟩
 refine codeAny_forLoop_any (fun n s' => ∃ i σ' H', Inv X pins σ' H' s' /\ tn i s'.heap /\ (∀ b ∈ fp, H' b = none) /\ W i n σ' H') ?_ m0 ⟨0, σ, H2, I2, st2, fun b hb => (f2 b hb).1, w0⟩
 rintro n s3 ⟨i, σ3, H3, I3, st3, fr3, w3⟩
 rcases turn i n σ3 H3 w3 with ⟨stop, qn⟩ | ⟨go, N, hN, step⟩
 · refine wpAny_passesOwn hp (thn (T.done X rfl rfl rfl hc i pins s3 σ3 H3 X.xe I3 (stat fr3) st3 stop) fun r s4 ⟨hr, I4⟩ => ?_)
   subst hr
   exact wpAny_execs_nil ⟨σ3, H3, I4, qn⟩
 · refine wpAny_passesOwn hp (thn (T.item X rfl rfl rfl hc i pins s3 σ3 H3 X.xe I3 (stat fr3) st3 go) fun r s4 ⟨u, hr, h4⟩ => ?_)
   subst hr
   refine wpAny_passesOwn hp (thn h4 fun _ s5 ⟨x, H5, I5, r5, y5, st5, fr5⟩ => ?_)
   have I5' := I5.pinned (stat fr5) (T.obj _ _ st5)
   refine wpAny_passesOwn hp (thn (hg _ s5 σ3 H5 x u _ I5' r5 (step x H5 y5)) fun _ s6 ⟨σ6, H6, I6, q6⟩ => ?_)
   refine wpAny_passesOwn hp (thn (hb _ s6 σ6 H6 _ I6 q6) fun f s7 q7 => ?_)
   have a2j : ∀ {σ7 : St} {H7 : Hp}, Inv X (pins ++ b7g fp s5.heap) σ7 H7 s7 -> N σ7 H7 -> ∃ m, m < n /\ ∃ i σ' H', Inv X pins σ' H' s7 /\ tn i s7.heap /\ (∀ b ∈ fp, H' b = none) /\ W i m σ' H' := fun {σ7 H7} I7 n7 => by
    obtain ⟨m', hm, w7⟩ := hN σ7 H7 n7
    refine ⟨m', hm, i + 1, σ7, H7, I7.unpinned, T.keep _ _ _ st5 fun b hb o e => (I7.pin (b, o) (List.mem_append_right _ (List.mem_append_right _ (a3x hb e)))).1, fun b hb => ?_, w7⟩
    obtain ⟨o, e, d⟩ := T.obj _ _ st5 b hb
    exact (I7.pin (b, o) (List.mem_append_right _ (List.mem_append_right _ (a3x hb e)))).2.1
   cases f with
   | next => obtain ⟨σ7, H7, I7, n7⟩ := q7; exact a2j I7 n7
   | cont => obtain ⟨σ7, H7, I7, n7⟩ := q7; exact a2j I7 n7
   | brk => obtain ⟨σ7, H7, I7, q7⟩ := q7; exact ⟨σ7, H7, I7.unpinned, q7⟩
   | ret v => obtain ⟨x7, σ7, H7, I7, r7, q7⟩ := q7; exact ⟨x7, σ7, H7, I7.unpinned, r7, q7⟩
end
theorem a7i {K : PySem.W.Frag} {a : Addr} {xs : List V} {g : TG} {tb : TS} {D : d8c} {σ : St} {H : Hp} (Pv : Nat -> St -> Hp -> Prop) (h0 : Pv 0 σ H) (hl : ∀ i σ H, i <= xs.length -> Pv i σ H -> SqL K H a xs)
  (hs : ∀ i x σ H, xs[i]? = some x -> Pv i σ H -> g x σ H fun σ2 H2 => tb { D with nx := Pv (i + 1), ct := Pv (i + 1), bk := D.nx } σ2 H2) (hd : ∀ σ H, Pv xs.length σ H -> D.nx σ H) :
  ∃ W : Nat -> Nat -> St -> Hp -> Prop, (∃ m, W 0 m σ H) /\ ∀ i m σ H, W i m σ H ->
   ((Itl K a).stop i H /\ D.nx σ H) \/ ((Itl K a).go i H /\ ∃ N : St -> Hp -> Prop, (∀ σ' H', N σ' H' -> ∃ m', m' < m /\ W (i + 1) m' σ' H') /\ ∀ x H', (Itl K a).yld i H x H' -> g x σ H' fun σ2 H2 => tb { D with nx := N, ct := N, bk := D.nx } σ2 H2) := by
 refine ⟨fun i m σ H => m = xs.length - i /\ i <= xs.length /\ Pv i σ H, ⟨xs.length, by simp, Nat.zero_le _, h0⟩, ?_⟩
 rintro i m σ H ⟨rfl, hi, p⟩
 have q := hl i σ H hi p
 by_cases hlt : i < xs.length
 · refine .inr ⟨⟨xs, xs[i], q, by simp [hlt]⟩, Pv (i + 1), fun σ' H' p' => ⟨xs.length - (i + 1), by omega, rfl, hlt, p'⟩, fun x H' y => ?_⟩
   obtain ⟨e, y⟩ := y
   subst e
   exact hs i x σ _ (y xs q) p
 · have e : i = xs.length := by omega
   subst e
   exact .inl ⟨⟨xs, q, Nat.le_refl _⟩, hd σ H p⟩
theorem e4u {K : PySem.W.Frag} {a : Addr} {xs : List V} {g : TG} {tb : TS} {D : d8c} {σ : St} {H : Hp} (Pv : Nat -> St -> Hp -> Prop) (h0 : Pv 0 σ H) (hl : ∀ i σ H, i <= xs.length -> Pv i σ H -> SqT K H a xs)
  (hs : ∀ i x σ H, xs[i]? = some x -> Pv i σ H -> g x σ H fun σ2 H2 => tb { D with nx := Pv (i + 1), ct := Pv (i + 1), bk := D.nx } σ2 H2) (hd : ∀ σ H, Pv xs.length σ H -> D.nx σ H) :
  ∃ W : Nat -> Nat -> St -> Hp -> Prop, (∃ m, W 0 m σ H) /\ ∀ i m σ H, W i m σ H ->
   ((Itt K a).stop i H /\ D.nx σ H) \/ ((Itt K a).go i H /\ ∃ N : St -> Hp -> Prop, (∀ σ' H', N σ' H' -> ∃ m', m' < m /\ W (i + 1) m' σ' H') /\ ∀ x H', (Itt K a).yld i H x H' -> g x σ H' fun σ2 H2 => tb { D with nx := N, ct := N, bk := D.nx } σ2 H2) := by
 refine ⟨fun i m σ H => m = xs.length - i /\ i <= xs.length /\ Pv i σ H, ⟨xs.length, by simp, Nat.zero_le _, h0⟩, ?_⟩
 rintro i m σ H ⟨rfl, hi, p⟩
 have q := hl i σ H hi p
 by_cases hlt : i < xs.length
 · refine .inr ⟨⟨xs, xs[i], q, by simp [hlt]⟩, Pv (i + 1), fun σ' H' p' => ⟨xs.length - (i + 1), by omega, rfl, hlt, p'⟩, fun x H' y => ?_⟩
   obtain ⟨e, y⟩ := y
   subst e
   exact hs i x σ _ (y xs q) p
 · have e : i = xs.length := by omega
   subst e
   exact .inl ⟨⟨xs, q, Nat.le_refl _⟩, hd σ H p⟩
theorem b1u {lo : Int} {n : Nat} {g : TG} {tb : TS} {D : d8c} {σ : St} {H : Hp} (Pv : Nat -> St -> Hp -> Prop) (h0 : Pv 0 σ H)
  (hs : ∀ i σ H, i < n -> Pv i σ H -> g (.int (lo + i)) σ H fun σ2 H2 => tb { D with nx := Pv (i + 1), ct := Pv (i + 1), bk := D.nx } σ2 H2) (hd : ∀ σ H, Pv n σ H -> D.nx σ H) :
  ∃ W : Nat -> Nat -> St -> Hp -> Prop, (∃ m, W 0 m σ H) /\ ∀ i m σ H, W i m σ H ->
   ((Itr lo n).stop i H /\ D.nx σ H) \/ ((Itr lo n).go i H /\ ∃ N : St -> Hp -> Prop, (∀ σ' H', N σ' H' -> ∃ m', m' < m /\ W (i + 1) m' σ' H') /\ ∀ x H', (Itr lo n).yld i H x H' -> g x σ H' fun σ2 H2 => tb { D with nx := N, ct := N, bk := D.nx } σ2 H2) := by
 refine ⟨fun i m σ H => m = n - i /\ i <= n /\ Pv i σ H, ⟨n, by simp, Nat.zero_le _, h0⟩, ?_⟩
 rintro i m σ H ⟨rfl, hi, p⟩
 by_cases hlt : i < n
 · refine .inr ⟨hlt, Pv (i + 1), fun σ' H' p' => ⟨n - (i + 1), by omega, rfl, hlt, p'⟩, fun x H' y => ?_⟩
   obtain ⟨e, y⟩ := y
   subst e y
   exact hs i σ _ hlt p
 · have e : i = n := by omega
   subst e
   exact .inl ⟨Nat.le_refl _, hd σ H p⟩
end L2
namespace L2
open PySem PySem.Spec PyProof.Rows
abbrev R2 := V -> V -> Hp -> VK -> Prop
def OpR (X : Cx) (f : Value -> Value -> Sem Value) (r : R2) : Prop :=
 ∀ (pins : List (Addr × Obj)) (s : Shared) (σ : St) (H : Hp) (x y : V) (v u : Value) (Q : VK), Inv X pins σ H s -> a6m x v -> a6m y u -> r x y H Q ->
  wpAny (model X.prog X.w) X.A (f v u) (EP X pins σ Q) X.xe s
def UnR (X : Cx) (f : Value -> Sem Value) (r : V -> Hp -> VK -> Prop) : Prop :=
 ∀ (pins : List (Addr × Obj)) (s : Shared) (σ : St) (H : Hp) (x : V) (v : Value) (Q : VK), Inv X pins σ H s -> a6m x v -> r x H Q ->
  wpAny (model X.prog X.w) X.A (f v) (EP X pins σ Q) X.xe s
def b8o (X : Cx) (f : Value) (r : List V -> Hp -> VK -> Prop) : Prop :=
 ∀ (pins : List (Addr × Obj)) (s : Shared) (σ : St) (H : Hp) (xs : List V) (us : List Value) (Q : VK), Inv X pins σ H s -> a4b xs us -> r xs H Q ->
  wpAny (model X.prog X.w) X.A (call f us) (EP X pins σ Q) X.xe s
def tOp (r : R2) (ta tb : TE) : TE := fun σ H Q => ta σ H fun x H1 => tb σ H1 fun y H2 => r x y H2 Q
def tUn (r : V -> Hp -> VK -> Prop) (ta : TE) : TE := fun σ H Q => ta σ H fun x H1 => r x H1 Q
def rI (C : Int -> Int -> Prop) (g : Int -> Int -> V) : R2 := fun x y H Q => ∃ i j, x = .int i /\ y = .int j /\ C i j /\ Q (g i j) H
def rI0 (g : Int -> Int -> V) : R2 := fun x y H Q => ∃ i j, x = .int i /\ y = .int j /\ Q (g i j) H
def rU (g : Int -> V) : V -> Hp -> VK -> Prop := fun x H Q => ∃ i, x = .int i /\ Q (g i) H
section
variable {X : Cx} {a b c : Expr} {ta tb tc : TE} {pos : Pos}
theorem e8d (ha : PE X a ta) (hb : PE X b tb) {pins : List (Addr × Obj)} {s : Shared} {σ : St} {H : Hp} {R : V -> V -> Hp -> Prop} (I : Inv X pins σ H s)
  (h : ta σ H fun x H1 => tb σ H1 fun y H2 => R x y H2) {Q : Value -> Shared -> Prop} {f : Value -> Value -> Sem Value}
  (hf : ∀ v u s2 x y H2, Inv X pins σ H2 s2 -> a6m x v -> a6m y u -> R x y H2 -> wpAny (model X.prog X.w) X.A (f v u) Q X.xe s2) :
  wpAny (model X.prog X.w) X.A (eval a X.env) (fun v s₁ => wpAny (model X.prog X.w) X.A (eval b X.env) (fun u s₂ => wpAny (model X.prog X.w) X.A (f v u) Q X.xe s₂) X.xe s₁) X.xe s := by
 refine thn (ha pins s σ H _ I h) fun v s1 ⟨x, H1, I1, r1, q1⟩ => ?_
 refine thn (hb pins s1 σ H1 _ I1 q1) fun u s2 ⟨y, H2, I2, r2, q2⟩ => ?_
 exact hf v u s2 x y H2 I2 r1 r2 q2
theorem a0p {op : Operator} {r : R2} (ho : OpR X (binaryOp op) r) (ha : PE X a ta) (hb : PE X b tb) : PE X (.BinOp a op b pos) (tOp r ta tb) := by
 intro pins s σ H Q I h
 exact wpAny_BinOp (e8d ha hb I h fun v u s2 x y H2 I2 rx ry q => ho pins s2 σ H2 x y v u Q I2 rx ry q)
theorem c2y {op : UnaryOp} {r : V -> Hp -> VK -> Prop} (ho : UnR X (unaryOp op) r) (ha : PE X a ta) : PE X (.UnaryOp op a pos) (tUn r ta) := by
 intro pins s σ H Q I h
 exact UnaryOp_ (thn (ha pins s σ H _ I h) fun v s1 ⟨x, H1, I1, r1, q1⟩ => ho pins s1 σ H1 x v Q I1 r1 q1)
theorem opI {f : Value -> Value -> Sem Value} {C : Int -> Int -> Prop} {g : Int -> Int -> Int}
  (rule : ∀ (i j : Int) (t u : Tok) (s : Shared) (Q : Value -> Shared -> Prop) (E : Value -> Shared -> Prop), C i j -> Q (.int (g i j) s.toks) { s with toks := s.toks + 1 } -> wpAny (model X.prog X.w) X.A (f (.int i t) (.int j u)) Q E s) :
  OpR X f (rI C fun i j => .int (g i j)) := by
 intro pins s σ H x y v u Q I rx ry h
 obtain ⟨i, j, rfl, rfl, hc, q⟩ := h
 obtain ⟨t, rfl⟩ := rx
 obtain ⟨t', rfl⟩ := ry
 exact rule i j t t' s _ _ hc ⟨.int (g i j), H, I.tok _, ⟨_, rfl⟩, q⟩
theorem e9x {f : Value -> Value -> Sem Value} {g : Int -> Int -> Int}
  (rule : ∀ (i j : Int) (t u : Tok) (s : Shared) (Q : Value -> Shared -> Prop) (E : Value -> Shared -> Prop), Q (.int (g i j) s.toks) { s with toks := s.toks + 1 } -> wpAny (model X.prog X.w) X.A (f (.int i t) (.int j u)) Q E s) :
  OpR X f (rI0 fun i j => .int (g i j)) := by
 intro pins s σ H x y v u Q I rx ry h
 obtain ⟨i, j, rfl, rfl, q⟩ := h
 obtain ⟨t, rfl⟩ := rx
 obtain ⟨t', rfl⟩ := ry
 exact rule i j t t' s _ _ ⟨.int (g i j), H, I.tok _, ⟨_, rfl⟩, q⟩
theorem e7y {f : Value -> Value -> Sem Value} {g : Int -> Int -> Bool}
  (rule : ∀ (i j : Int) (t u : Tok) (s : Shared) (Q : Value -> Shared -> Prop) (E : Value -> Shared -> Prop), Q (.bool (g i j)) s -> wpAny (model X.prog X.w) X.A (f (.int i t) (.int j u)) Q E s) :
  OpR X f (rI0 fun i j => .bl (g i j)) := by
 intro pins s σ H x y v u Q I rx ry h
 obtain ⟨i, j, rfl, rfl, q⟩ := h
 obtain ⟨t, rfl⟩ := rx
 obtain ⟨t', rfl⟩ := ry
 exact rule i j t t' s _ _ ⟨.bl (g i j), H, I, rfl, q⟩
def e8b (i j : Int) : Prop := 0 < j /\ j < 1073741824
def e8l (i j : Int) : Prop := 0 <= j /\ j <= 1000000 /\ i.natAbs < 2 ^ 64
def e7z (i j : Int) : Prop := (-(2 ^ 64) < i /\ i < 2 ^ 64) \/ (-(2 ^ 64) < j /\ j < 2 ^ 64)
theorem e7z.ok {i j : Int} (h : e7z i j) : IntMulOk i j := by
 rcases h with ⟨h1, h2⟩ | ⟨h1, h2⟩
 · exact .of_left (intBits_le_64 h1 h2)
 · exact .of_right (intBits_le_64 h1 h2)
theorem a2d : OpR X (binaryOp .Add) (rI0 fun i j => .int (i + j)) := e9x fun _ _ _ _ _ _ _ q => add_int q
theorem b1b : OpR X (binaryOp .Sub) (rI0 fun i j => .int (i - j)) := e9x fun _ _ _ _ _ _ _ q => sub_int q
theorem a1w : OpR X (binaryOp .Mult) (rI e7z fun i j => .int (i * j)) := opI fun _ _ _ _ _ _ _ hc q => mul_int q hc.ok
theorem a1t : OpR X (binaryOp .FloorDiv) (rI e8b fun i j => .int (i / j)) := opI fun i j _ _ _ _ _ hc q => by
 have h1 : (0 : Int) < j := hc.1
 have h2 : j < 1073741824 := hc.2
 exact floordiv_int (by omega) (by rw [Int.fdiv_eq_ediv_of_nonneg i (by omega)]; exact q) (.inl (PyProof.noPylong_small (by omega)))
theorem a1y : OpR X (binaryOp .Mod) (rI (fun _ j => 0 < j) fun i j => .int (i % j)) := opI fun i j _ _ _ _ _ hc q => by
 have h1 : (0 : Int) < j := hc
 exact mod_int' (by omega) (by rw [Int.fmod_eq_emod_of_nonneg i (by omega)]; exact q)
theorem b7f : OpR X (binaryOp .Pow) (rI e8l fun i j => .int (i ^ j.toNat)) := opI fun _ _ _ _ _ _ _ hc q => pow_int_small hc.1 hc.2.1 hc.2.2 q
theorem unI {f : Value -> Sem Value} {g : Int -> Int}
  (rule : ∀ (i : Int) (t : Tok) (s : Shared) (Q : Value -> Shared -> Prop) (E : Value -> Shared -> Prop), Q (.int (g i) s.toks) { s with toks := s.toks + 1 } -> wpAny (model X.prog X.w) X.A (f (.int i t)) Q E s) :
  UnR X f (rU fun i => .int (g i)) := by
 intro pins s σ H x v Q I rx h
 obtain ⟨i, rfl, q⟩ := h
 obtain ⟨t, rfl⟩ := rx
 exact rule i t s _ _ ⟨.int (g i), H, I.tok _, ⟨_, rfl⟩, q⟩
theorem b5t : UnR X (unaryOp .USub) (rU fun i => .int (-i)) := unI fun _ _ _ _ _ q => neg_int q
end
def e7t : V -> V -> Bool
 | .non, .non => true | .non, .int _ => true | .int _, .non => true | .non, .bl _ => true | .bl _, .non => true | .non, .str _ => true | .str _, .non => true
 | .int _, .int _ => true | .bl _, .bl _ => true | .str _, .str _ => true | .byt _, .byt _ => true
 | .int _, .str _ => true | .str _, .int _ => true | .bl _, .str _ => true | .str _, .bl _ => true
 | _, _ => false
def rEq : R2 := fun x y H Q => e7t x y = true /\ Q (.bl (decide (x = y))) H
def rNe : R2 := fun x y H Q => e7t x y = true /\ Q (.bl (!decide (x = y))) H
theorem d7b {i j : Int} : decide (V.int i = V.int j) = (i == j) := by
 rw [Bool.eq_iff_iff]
 simp
theorem e1n {i j : Bool} : decide (V.bl i = V.bl j) = (i == j) := by
 rw [Bool.eq_iff_iff]
 simp
theorem d7i {i j : Str} : decide (V.str i = V.str j) = (i == j) := by
 rw [Bool.eq_iff_iff]
 simp
theorem d5v {i j : Array UInt8} : decide (V.byt i = V.byt j) = (i.toList == j.toList) := by
 rw [Bool.eq_iff_iff]
 cases i
 cases j
 simp
section
variable {X : Cx} {a b c : Expr} {ta tb tc : TE} {pos : Pos}
theorem a2m {pins : List (Addr × Obj)} {σ : St} {H : Hp} {s : Shared} {Q : VK} {k k' : Bool} (I : Inv X pins σ H s) (q : Q (.bl k) H) (e : k = k') : EP X pins σ Q (.bool k') s := by
 subst e
 exact ⟨.bl k, H, I, rfl, q⟩
theorem a3n : OpR X (compareOp .Eq) rEq := by
 intro pins s σ H x y v u Q I rx ry h
 obtain ⟨hs, q⟩ := h
 cases x with
 | non =>
  cases rx
  cases y with
  | non => cases ry; exact PySem.EqNone.eq_none_none (a2m I q (by simp))
  | bl j => cases ry; exact PySem.EqNone.eq_none_bool (a2m I q (by simp))
  | int j => obtain ⟨t', rfl⟩ := ry; exact PySem.EqNone.eq_none_int (a2m I q (by simp))
  | str j => obtain ⟨t', rfl⟩ := ry; exact PySem.EqNone.eq_none_str (a2m I q (by simp))
  | _ => exact absurd (show false = true from hs) Bool.false_ne_true
 | bl i =>
  cases rx
  cases y with
  | non => cases ry; exact PySem.EqNone.eq_bool_none (a2m I q (by simp))
  | bl j => cases ry; exact eq_bool (a2m I q e1n)
  | str j => obtain ⟨t', rfl⟩ := ry; exact PySem.EqMixed.eq_bool_str (a2m I q (by simp))
  | _ => exact absurd (show false = true from hs) Bool.false_ne_true
 | int i =>
  obtain ⟨t, rfl⟩ := rx
  cases y with
  | non => cases ry; exact PySem.EqNone.eq_int_none (a2m I q (by simp))
  | int j => obtain ⟨t', rfl⟩ := ry; exact eq_int (a2m I q d7b)
  | str j => obtain ⟨t', rfl⟩ := ry; exact PySem.EqMixed.eq_int_str (a2m I q (by simp))
  | _ => exact absurd (show false = true from hs) Bool.false_ne_true
 | str i =>
  obtain ⟨t, rfl⟩ := rx
  cases y with
  | non => cases ry; exact PySem.EqNone.eq_str_none (a2m I q (by simp))
  | bl j => cases ry; exact PySem.EqMixed.eq_str_bool (a2m I q (by simp))
  | int j => obtain ⟨t', rfl⟩ := ry; exact PySem.EqMixed.eq_str_int (a2m I q (by simp))
  | str j => obtain ⟨t', rfl⟩ := ry; exact eq_str (a2m I q d7i)
  | _ => exact absurd (show false = true from hs) Bool.false_ne_true
 | byt i =>
  obtain ⟨t, rfl⟩ := rx
  cases y with
  | byt j => obtain ⟨t', rfl⟩ := ry; exact PySem.W.eq_bytes (a2m I q d5v)
  | _ => exact absurd (show false = true from hs) Bool.false_ne_true
 | _ => cases y <;> exact absurd (show false = true from hs) Bool.false_ne_true
theorem d1a : OpR X (compareOp .NotEq) rNe := by
 intro pins s σ H x y v u Q I rx ry h
 obtain ⟨hs, q⟩ := h
 cases x with
 | non =>
  cases rx
  cases y with
  | non => cases ry; exact PySem.EqNone.ne_none_none (a2m I q (by simp))
  | bl j => cases ry; exact PySem.EqNone.ne_none_bool (a2m I q (by simp))
  | int j => obtain ⟨t', rfl⟩ := ry; exact PySem.EqNone.ne_none_int (a2m I q (by simp))
  | str j => obtain ⟨t', rfl⟩ := ry; exact PySem.EqNone.ne_none_str (a2m I q (by simp))
  | _ => exact absurd (show false = true from hs) Bool.false_ne_true
 | bl i =>
  cases rx
  cases y with
  | non => cases ry; exact PySem.EqNone.ne_bool_none (a2m I q (by simp))
  | bl j => cases ry; exact ne_bool (a2m I q (congrArg not e1n))
  | str j => obtain ⟨t', rfl⟩ := ry; exact PySem.EqMixed.ne_bool_str (a2m I q (by simp))
  | _ => exact absurd (show false = true from hs) Bool.false_ne_true
 | int i =>
  obtain ⟨t, rfl⟩ := rx
  cases y with
  | non => cases ry; exact PySem.EqNone.ne_int_none (a2m I q (by simp))
  | int j => obtain ⟨t', rfl⟩ := ry; exact ne_int (a2m I q (congrArg not d7b))
  | str j => obtain ⟨t', rfl⟩ := ry; exact PySem.EqMixed.ne_int_str (a2m I q (by simp))
  | _ => exact absurd (show false = true from hs) Bool.false_ne_true
 | str i =>
  obtain ⟨t, rfl⟩ := rx
  cases y with
  | non => cases ry; exact PySem.EqNone.ne_str_none (a2m I q (by simp))
  | bl j => cases ry; exact PySem.EqMixed.ne_str_bool (a2m I q (by simp))
  | int j => obtain ⟨t', rfl⟩ := ry; exact PySem.EqMixed.ne_str_int (a2m I q (by simp))
  | str j => obtain ⟨t', rfl⟩ := ry; exact ne_str (a2m I q (congrArg not d7i))
  | _ => exact absurd (show false = true from hs) Bool.false_ne_true
 | byt i =>
  obtain ⟨t, rfl⟩ := rx
  cases y with
  | byt j => obtain ⟨t', rfl⟩ := ry; exact PySem.W.ne_bytes (a2m I q (congrArg not d5v))
  | _ => exact absurd (show false = true from hs) Bool.false_ne_true
 | _ => cases y <;> exact absurd (show false = true from hs) Bool.false_ne_true
theorem c4n : OpR X (compareOp .Lt) (rI0 fun i j => .bl (decide (i < j))) := e7y fun _ _ _ _ _ _ _ q => lt_int q
theorem e3g : OpR X (compareOp .LtE) (rI0 fun i j => .bl (decide (i <= j))) := e7y fun _ _ _ _ _ _ _ q => le_int q
theorem e0l : OpR X (compareOp .Gt) (rI0 fun i j => .bl (decide (j < i))) := e7y fun _ _ _ _ _ _ _ q => gt_int q
theorem e8z : OpR X (compareOp .GtE) (rI0 fun i j => .bl (decide (j <= i))) := e7y fun _ _ _ _ _ _ _ q => ge_int q
theorem a3c : OpR X (compareOp .Is) (fun x y H Q => y = .non /\ Q (.bl (decide (x = .non))) H) := by
 intro pins s σ H x y v u Q I rx ry h
 obtain ⟨rfl, q⟩ := h
 cases ry
 refine is_none_gen (a2m I q ?_)
 cases x <;> first
  | (cases rx; rfl)
  | (obtain ⟨t, rfl⟩ := rx; rfl)
theorem a3l : OpR X (compareOp .IsNot) (fun x y H Q => y = .non /\ Q (.bl (!decide (x = .non))) H) := by
 intro pins s σ H x y v u Q I rx ry h
 obtain ⟨rfl, q⟩ := h
 cases ry
 refine isnot_none_gen (a2m I q ?_)
 cases x <;> first
  | (cases rx; rfl)
  | (obtain ⟨t, rfl⟩ := rx; rfl)
theorem OpR.or {f : Value -> Value -> Sem Value} {r r' : R2} (h : OpR X f r) (h' : OpR X f r') : OpR X f (fun x y H Q => r x y H Q \/ r' x y H Q) := by
 intro pins s σ H x y v u Q I rx ry q
 rcases q with q | q
 · exact h pins s σ H x y v u Q I rx ry q
 · exact h' pins s σ H x y v u Q I rx ry q
theorem a0s (b : Expr) {op : CmpOp} (h : op ≠ .In := by decide) (h2 : op ≠ .NotIn := by decide) : behindInMarks op b = false := by
 have e1 : (op == CmpOp.In) = false := by cases op <;> first | rfl | exact absurd rfl h
 have e2 : (op == CmpOp.NotIn) = false := by cases op <;> first | rfl | exact absurd rfl h2
 cases b <;> simp [behindInMarks, e1, e2]
theorem a7w {op : CmpOp} {r : R2} (ho : OpR X (compareOp op) r) (ha : PE X a ta) (hb : PE X b tb) (hm : behindInMarks op b = false) : PE X (.Compare a [op] [b] pos) (tOp r ta tb) := by
 intro pins s σ H Q I h
 exact wpAny_Compare1 (e8d ha hb I h fun v u s2 x y H2 I2 rx ry q => ho pins s2 σ H2 x y v u Q I2 rx ry q) hm
def e3e (t : TE) : TT := fun σ H Q => t σ H fun x H' => ∃ k, x = .bl k /\ Q k H'
theorem a0m {op : CmpOp} {r : R2} (ho : OpR X (compareOp op) r) (ha : PE X a ta) (hb : PE X b tb) (hm : behindInMarks op b = false) : PT X (.Compare a [op] [b] pos) (e3e (tOp r ta tb)) := by
 intro pins s σ H Q I h
 refine wpAny_isTrue_Compare1 (thn (ha pins s σ H _ I h) fun v s1 ⟨x, H1, I1, r1, q1⟩ => thn (hb pins s1 σ H1 _ I1 q1) fun u s2 ⟨y, H2, I2, r2, q2⟩ =>
  thn (ho pins s2 σ H2 x y v u _ I2 r1 r2 q2) fun c s3 ⟨z, H3, I3, r3, k, e, q3⟩ => ?_) hm
 subst e
 cases r3
 exact wpAny_truthy_bool ⟨H3, I3, q3⟩
theorem d2a : (sizeLine : Nat) < 2 ^ 63 := by rw [sizeLine_eq]; decide
theorem e3t {x : V} {us : List Value} (r : a4b [x] us) : ∃ u, us = [u] /\ a6m x u := by
 cases r with
 | cons r1 r2 => cases r2; exact ⟨_, rfl, r1⟩
theorem e9f {x y : V} {us : List Value} (r : a4b [x, y] us) : ∃ u w', us = [u, w'] /\ a6m x u /\ a6m y w' := by
 cases r with
 | cons r1 r2 =>
  cases r2 with
  | cons r3 r4 => cases r4; exact ⟨_, _, rfl, r1, r3⟩
theorem d5u (hc : X.calm = true) : b8o X (.builtin "max") (fun xs H Q => ∃ i j, xs = [.int i, .int j] /\ Q (.int (if j > i then j else i)) H) := by
 intro pins s σ H xs us Q I r h
 obtain ⟨i, j, rfl, q⟩ := h
 obtain ⟨u, w', rfl, ⟨t, rfl⟩, ⟨t', rfl⟩⟩ := e9f r
 refine max_two_ints (I.ok.hd hc) fun h' tk k => ⟨_, H, I.kept k, ?_, q⟩
 by_cases hj : j > i
 · rw [if_pos hj, if_pos hj]; exact ⟨_, rfl⟩
 · rw [if_neg hj, if_neg hj]; exact ⟨_, rfl⟩
end
end L2
namespace L2
open PySem PySem.Spec PyProof.Rows
structure e2t (h : Heap) (x dx C : Addr) (mA : Str -> Option Value) : Prop where
 obj : h.get? x = some (PySem.W.instObj C dx)
 ns : h.Ns1 dx mA
 ne : dx ≠ x
theorem d6y {h : Heap} {dx : Addr} {mA : Str -> Option Value} (n : h.Ns1 dx mA) : ∃ od, h.get? dx = some od /\ ∀ name, PySem.W.lookIn name od = some (mA name) := by
 obtain ⟨o, es, ep, ho, hd, hk, _, hm⟩ := n
 refine ⟨o, ho, fun name => ?_⟩
 have e := hm name
 unfold nsFind findBy at e
 rw [← Array.find?_toList] at e
 unfold PySem.W.lookIn
 rw [hd]
 dsimp only
 split
 · rename_i y q
   rw [q] at e
   exact congrArg some e
 · rename_i q
   rw [q] at e
   have a : es.toList.any (·.refKey) = false := by
    rw [List.any_eq_false]
    intro y hy
    obtain ⟨z, t, hkey⟩ := hk y (Array.mem_toList_iff.mp hy)
    simp [DictEntry.refKey, hkey]
   have a' : ¬ es.toList.any (·.refKey) = true := by rw [a]; exact Bool.false_ne_true
   rw [if_neg a']
   exact congrArg some e
theorem e2t.look {h : Heap} {x dx C : Addr} {mA : Str -> Option Value} (I : e2t h x dx C mA) : ∃ od, PySem.W.InstAt h x (PySem.W.instObj C dx) C (some od) /\ ∀ name, PySem.W.lookIn name od = some (mA name) :=
 let ⟨od, ho, hl⟩ := d6y I.ns
 ⟨od, ⟨I.obj, rfl, rfl, ho⟩, hl⟩
section
variable {prog : Program} {w : World} {A : Around} {E : Value -> Shared -> Prop} {s : Shared} {K : PySem.W.Frag} {x dx C f : Addr} {mA : Str -> Option Value} {name : Str} {v : Value}
theorem e3m {expr : Bool} {Q : Value -> Shared -> Prop} (X : K.In s.heap) (I : e2t s.heap x dx C mA) (hg : PySem.W.plainGet K C name = true) (hh : PySem.W.hasDictIn K C = true)
  (ha : PySem.W.findIn K (.ref C) name = some none) (hv : mA name = some v) (hv' : PySem.W.handedIn v = true) (h : Q v { s with toks := s.toks + 1 }) :
  wpAny (model prog w) A (getAttr (.ref x) name expr) Q E s := by
 obtain ⟨od, J, hl⟩ := I.look
 exact PySem.W.get_value X J (PySem.W.plainGet_of hg).1 (PySem.W.findObj_own hh ha rfl (by rw [hl, hv])) hv' h
theorem e0s {pl : Sem Bool} {Q : Value × List Value -> Shared -> Prop} (X : K.In s.heap) (I : e2t s.heap x dx C mA) (hg : PySem.W.plainGet K C name = true)
  (hf : PySem.W.findIn K (.ref C) name = some (some (.ref f))) (ht : PySem.W.isFn K (.ref f) = true) (hv : mA name = none) (h : Q (.ref f, [.ref x]) s) :
  wpAny (model prog w) A (getMethod (.ref x) name pl) Q E s := by
 obtain ⟨od, J, hl⟩ := I.look
 exact PySem.W.method_fn X J (PySem.W.plainGet_of hg).1 (PySem.W.plainGet_of hg).2 hf (beq_iff_eq.mp ht) (by show (PySem.W.lookIn name od).map (·.isSome) = some false; rw [hl, hv]; rfl) h
theorem e4d {ns : List Str} {Q : Unit -> Shared -> Prop} (X : K.In s.heap) (I : e2t s.heap x dx C mA)
  (hs : PySem.W.findIn K (.ref C) "__setattr__" = some (some (.builtin "object.__setattr__"))) (hp : PySem.W.plainOver K C = true) (ht : PySem.W.takerIn K C name = some none) (hh : PySem.W.hasDictIn K C = true)
  (hw : PySem.Within mA ns) (hsz : ns.length <= sizeLine)
  (h : ∀ h', e2t h' x dx C (fun y => if y = name then some v else mA y) -> Heap.SameBut dx s.heap h' -> Q () { s with heap := h', toks := s.toks + 2 }) :
  wpAny (model prog w) A (setAttr (.ref x) name v) Q E s := by
 obtain ⟨od, J, hl⟩ := I.look
 refine PySem.W.set_plain X J hs (PySem.W.osa_open (s := { s with toks := s.toks + 1 }) (r := none) X J hp ht fun b => ?_)
 obtain ⟨cd, hc, hd'⟩ := PySem.W.any_some hh
 have hx : s.heap.get? x = some ⟨.ref C, some dx, .plain, #[]⟩ := I.obj
 refine wpAny_bind (wpAny_pure (wpAny_bind (wpAny_bind (wpAny_loadPart hx (wpAny_bind (PySem.W.Looks.here (s := { s with toks := s.toks + 1 }) (PySem.W.looks_clsIn X hc) ?_))))))
 rw [hd']
 refine wpAny_pure (a := some dx) (wpAny_bind (wpAny_pure (wpAny_bind ?_)))
 refine wpAny_nsSet1 (s := { s with toks := s.toks + 1 }) I.ns fun h' hn2 hs2 => ?_
 obtain ⟨oD, esD, epD, hoD, hdD, hcD⟩ := hn2.count (PySem.Within.cons name v hw)
 refine wpAny_bind (wpAny_lookBehind hoD (by rw [hdD]; exact pastItsLine_dict (Nat.le_trans hcD (by rw [List.length_cons]; omega))) ?_)
 exact wpAny_pure (h _ ⟨(hs2.2 _ (Ne.symm I.ne)).trans I.obj, hn2, I.ne⟩ hs2)
theorem e0d {R : Result -> Shared -> Prop} {vs : List Value} {kw : List (Str × Value)} (X : K.In s.heap) (hm : PySem.W.makesIn K C = true)
  (hi : PySem.W.findIn K (.ref C) "__init__" = some (some (.ref f))) (hf : PySem.W.typeIn K (.ref f) = some (.type "function"))
  (h : codeAny (model prog w) (A.under (.builtin "type.__call__" ⟨.ref C :: vs, kw⟩)) (.call (.ref f) ⟨.ref (s.heap.objs.size + 1) :: vs, kw⟩) (PySem.W.InitBack (s.heap.objs.size + 1) R)
   { s with heap := (s.heap.push PySem.W.emptyDict).push (PySem.W.instObj C s.heap.objs.size) }) :
  codeAny (model prog w) A (.call (.ref C) ⟨vs, kw⟩) R s := by
 obtain ⟨hh, g, d, t, os⟩ := s
 exact PySem.W.make_core (PySem.W.makes_of X hm) (PySem.W.looks_findIn X hi) (fun self => PySem.W.bind_fn X self hf) (.inl rfl) h
theorem d6m {R : Result -> Shared -> Prop} (X : K.In s.heap) (hm : PySem.W.makesIn K C = true)
  (hi : PySem.W.findIn K (.ref C) "__init__" = some (some (.builtin "object.__init__")))
  (hb : ∀ self, PySem.W.Looks (model prog w) s.heap (bindSpecial (.builtin "object.__init__") self) (.builtin "object.__init__", [self]))
  (h : codeAny (model prog w) (A.under (.builtin "type.__call__" ⟨[.ref C], []⟩)) (.call (.builtin "object.__init__") ⟨[.ref (s.heap.objs.size + 1)], []⟩) (PySem.W.InitBack (s.heap.objs.size + 1) R)
   { s with heap := (s.heap.push PySem.W.emptyDict).push (PySem.W.instObj C s.heap.objs.size) }) :
  codeAny (model prog w) A (.call (.ref C) ⟨[], []⟩) R s := by
 obtain ⟨hh, g, d, t, os⟩ := s
 exact PySem.W.make_core (PySem.W.makes_of X hm) (PySem.W.looks_findIn X hi) hb (.inr ⟨rfl, rfl⟩) h
end
def b3i (f : Str) (v : V) : List (Str × V) -> List (Str × V)
 | [] => [(f, v)]
 | (g, x) :: r => if g = f then (g, v) :: r else (g, x) :: b3i f v r
theorem a1l (f g : Str) (v : V) : ∀ fs : List (Str × V), (b3i f v fs).lookup g = if g = f then some v else fs.lookup g
 | [] => by
  show List.lookup g [(f, v)] = _
  by_cases h : g = f
  · have hb : (g == f) = true := beq_iff_eq.mpr h
    simp only [List.lookup, hb, if_pos h]
  · have hb : (g == f) = false := beq_eq_false_iff_ne.mpr h
    simp only [List.lookup, hb, if_neg h]
 | (k, x) :: r => by
  have ih := a1l f g v r
  rw [show b3i f v ((k, x) :: r) = (if k = f then (k, v) :: r else (k, x) :: b3i f v r) from rfl]
  by_cases hk : k = f
  · rw [if_pos hk]
    by_cases h : g = k
    · have hb : (g == k) = true := beq_iff_eq.mpr h
      simp only [List.lookup, hb, if_pos (h.trans hk)]
    · have hb : (g == k) = false := beq_eq_false_iff_ne.mpr h
      simp only [List.lookup, hb, if_neg (fun e : g = f => h (e.trans hk.symm))]
  · rw [if_neg hk]
    by_cases h : g = k
    · have hb : (g == k) = true := beq_iff_eq.mpr h
      simp only [List.lookup, hb, if_neg (fun e : g = f => hk (h.symm.trans e))]
    · have hb : (g == k) = false := beq_eq_false_iff_ne.mpr h
      simp only [List.lookup, hb]
      exact ih
theorem c0o (f : Str) (v : V) : ∀ fs : List (Str × V), f ∈ (b3i f v fs).map (·.1) /\ ∀ g, g ∈ fs.map (·.1) -> g ∈ (b3i f v fs).map (·.1)
 | [] => ⟨by simp [b3i], fun g h => by simp at h⟩
 | (k, x) :: r => by
  obtain ⟨i1, i2⟩ := c0o f v r
  rw [show b3i f v ((k, x) :: r) = (if k = f then (k, v) :: r else (k, x) :: b3i f v r) from rfl]
  by_cases hk : k = f
  · rw [if_pos hk]
    subst hk
    exact ⟨by simp, fun g h => by simpa using h⟩
  · rw [if_neg hk]
    refine ⟨?_, fun g h => ?_⟩
    · rw [List.map_cons]
      exact List.mem_cons_of_mem _ i1
    · rw [List.map_cons] at h ⊢
      rcases List.mem_cons.mp h with e | e
      · exact List.mem_cons.mpr (.inl e)
      · exact List.mem_cons_of_mem _ (i2 g e)
theorem b9y (f : Str) (v : V) : ∀ fs : List (Str × V), (b3i f v fs).length <= fs.length + 1
 | [] => by simp [b3i]
 | (k, x) :: r => by
  have ih := b9y f v r
  rw [show b3i f v ((k, x) :: r) = (if k = f then (k, v) :: r else (k, x) :: b3i f v r) from rfl]
  by_cases hk : k = f
  · rw [if_pos hk, List.length_cons, List.length_cons]; omega
  · rw [if_neg hk, List.length_cons, List.length_cons]; omega
theorem d8z.some_of {v : V} {o : Option Value} (r : d8z (some v) o) : ∃ u, o = some u /\ a6m v u := by
 cases o with
 | none => exact (show False from r).elim
 | some u => exact ⟨u, rfl, r⟩
theorem d8z.none_of {o : Option Value} (r : d8z none o) : o = none := by
 cases o with
 | none => rfl
 | some u => exact (show False from r).elim
theorem d8g {v : V} {u : Value} (r : a6m v u) : PySem.W.handedIn u = true := by
 cases v with
 | non => cases (show u = Value.none from r); rfl
 | bl b => cases (show u = Value.bool b from r); rfl
 | int i => obtain ⟨t, e⟩ := (show ∃ t, u = Value.int i t from r); cases e; rfl
 | str x => obtain ⟨t, e⟩ := (show ∃ t, u = Value.str x t from r); cases e; rfl
 | byt b => obtain ⟨t, e⟩ := (show ∃ t, u = Value.bytes b t from r); cases e; rfl
 | flt b => obtain ⟨t, e⟩ := (show ∃ t, u = Value.float b t from r); cases e; rfl
 | ref a => cases (show u = Value.ref a from r); rfl
 | ty n => cases (show u = Value.type n from r); rfl
section
variable {P : Program} {w : World} {H H' : Hp} {h h' : Heap} {a C dx : Addr} {fs fs' : List (Str × V)}
theorem c3p (hok : HOk P w H h) (e : H a = some (.ins C dx fs)) : ∃ mA, e2t h a dx C mA /\ (∀ f, d8z (fs.lookup f) (mA f)) /\ PySem.Within mA (fs.map (·.1)) /\ fs.length <= 1000 /\ H dx = some (.own a) := by
 obtain ⟨d, z, ne, ob, mA, n, r, q⟩ := (show a9p P w H h a (.ins C dx fs) from hok a _ e)
 exact ⟨mA, ⟨ob, n, ne⟩, r, q, z, d⟩
end
structure Cls (K : PySem.W.Frag) (C : Addr) : Prop where
 pg : PySem.W.plainGet K C Str.empty = true
 hd : PySem.W.hasDictIn K C = true
 po : PySem.W.plainOver K C = true
 sa : PySem.W.findIn K (.ref C) "__setattr__" = some (some (.builtin "object.__setattr__"))
theorem Cls.get {K : PySem.W.Frag} {C : Addr} (c : Cls K C) (f : Str) : PySem.W.plainGet K C f = true := c.pg
def b1a (K : PySem.W.Frag) (C : Addr) (f : Str) : Prop := PySem.W.findIn K (.ref C) f = some none
theorem b1a.taker {K : PySem.W.Frag} {C : Addr} {f : Str} (n : b1a K C f) : PySem.W.takerIn K C f = some none := by
 unfold PySem.W.takerIn
 rw [show PySem.W.findIn K (.ref C) f = some none from n]
 rfl
structure d7y (K : PySem.W.Frag) (C : Addr) (m : Str) (f : Addr) : Prop where
 at_ : PySem.W.findIn K (.ref C) m = some (some (.ref f))
 fn : PySem.W.isFn K (.ref f) = true
 kp : PySem.W.keepIn K (.ref f) = true
section
variable {X : Cx} {pins : List (Addr × Obj)} {σ : St} {H : Hp} {s : Shared} {a C dx : Addr} {fs : List (Str × V)} {f : Str} {v : V} {A : Around} {E : Value -> Shared -> Prop}
theorem d4i {b : Bool} {Q : Value -> Shared -> Prop} (I : Inv X pins σ H s) (e : H a = some (.ins C dx fs)) (c : Cls X.K C) (n : b1a X.K C f) (l : fs.lookup f = some v)
  (h : ∀ u s', Inv X pins σ H s' -> a6m v u -> Q u s') : wpAny (model X.prog X.w) A (getAttr (.ref a) f b) Q E s := by
 obtain ⟨mA, O, r, _, _, _⟩ := c3p I.hok e
 obtain ⟨u, hu, ru⟩ := d8z.some_of (v := v) (o := mA f) (by rw [← l]; exact r f)
 exact e3m I.kIn O (c.get f) c.hd n hu (d8g ru) (h u _ (I.tok _) ru)
theorem d4a {m : Str} {g : Addr} {pl : Sem Bool} {Q : Value × List Value -> Shared -> Prop} (I : Inv X pins σ H s) (e : H a = some (.ins C dx fs)) (c : Cls X.K C) (k : d7y X.K C m g) (l : fs.lookup m = none)
  (h : Q (.ref g, [.ref a]) s) : wpAny (model X.prog X.w) A (getMethod (.ref a) m pl) Q E s := by
 obtain ⟨mA, O, r, _, _, _⟩ := c3p I.hok e
 have hn : mA m = none := d8z.none_of (by rw [← l]; exact r m)
 exact e0s I.kIn O (c.get m) k.at_ k.fn hn h
theorem d4d {y : V} {u : Value} {Q : Unit -> Shared -> Prop} (I : Inv X pins σ H s) (e : H a = some (.ins C dx fs)) (c : Cls X.K C) (n : b1a X.K C f) (hl : fs.length < 1000) (ry : a6m y u)
  (h : ∀ s', Inv X pins σ (upd H a (.ins C dx (b3i f y fs))) s' -> Q () s') : wpAny (model X.prog X.w) A (setAttr (.ref a) f u) Q E s := by
 obtain ⟨mA, O, r, wi, _, ho⟩ := c3p I.hok e
 have hz : (fs.map (·.1)).length <= sizeLine := by rw [List.length_map, sizeLine_eq]; omega
 refine e4d I.kIn O c.sa c.po n.taker c.hd wi hz fun h' O' sb => h _ ?_
 have hd : ∃ o, h'.get? dx = some o := let ⟨o, _, _, e', _⟩ := O'.ns; ⟨o, e'⟩
 refine I.write (x := a) (e := dx) (by rw [e]; exact True.intro) (.inr ho) (fun b q hb z => (sb.2 b hb).trans z) hd ?_
 refine ⟨by rw [a1z O.ne]; exact ho, ?_, O.ne, O'.obj, _, O'.ns, fun g => ?_, fun g hg => ?_⟩
 · have := b9y f y fs; omega
 · show d8z ((b3i f y fs).lookup g) (if g = f then some u else mA g)
   rw [a1l]
   by_cases q : g = f
   · rw [if_pos q, if_pos q]; exact ry
   · rw [if_neg q, if_neg q]; exact r g
 · by_cases q : g = f
   · rw [q]; exact (c0o f y fs).1
   · refine (c0o f y fs).2 g (wi g fun z => hg ?_)
     show (if g = f then some u else mA g) = none
     rw [if_neg q]; exact z
theorem Inv.made (I : Inv X pins σ H s) : Inv X pins σ (upd (upd H s.heap.objs.size (.own (s.heap.objs.size + 1))) (s.heap.objs.size + 1) (.ins C s.heap.objs.size []))
  { s with heap := (s.heap.push PySem.W.emptyDict).push (PySem.W.instObj C s.heap.objs.size) } := by
 have e1 : (s.heap.push PySem.W.emptyDict).get? s.heap.objs.size = some PySem.W.emptyDict := Heap.get?_push_size s.heap rfl
 have e2 : ((s.heap.push PySem.W.emptyDict).push (PySem.W.instObj C s.heap.objs.size)).get? (s.heap.objs.size + 1) = some (PySem.W.instObj C s.heap.objs.size) := by
  have := Heap.get?_push_size (s.heap.push PySem.W.emptyDict) (o := PySem.W.instObj C s.heap.objs.size) rfl
  rwa [Heap.size_push] at this
 have e3 : (s.heap.push PySem.W.emptyDict).Ns s.heap.objs.size (fun _ => none) := ⟨PySem.W.emptyDict, #[], _, e1, rfl, (fun e he => absurd he (by simp)), fun _ => rfl⟩
 have I1 := I.laid (a := s.heap.objs.size) (o := .own (s.heap.objs.size + 1)) (h' := s.heap.push PySem.W.emptyDict) (t' := s.toks) (fun b u q => Heap.get?_push_of_some _ q) (Nat.le_refl _) ⟨_, e1⟩
 refine I1.laid (a := s.heap.objs.size + 1) (o := .ins C s.heap.objs.size []) (t' := s.toks) (fun b u q => Heap.get?_push_of_some _ q) (Nat.le_of_eq (Heap.size_push _ _)) ?_
 have ne : s.heap.objs.size ≠ s.heap.objs.size + 1 := Nat.ne_of_lt (Nat.lt_succ_self _)
 refine ⟨by rw [a1z ne, a0g], Nat.zero_le _, ne, e2, fun _ => none, (Heap.Ns1.of_empty e3).at fun o q => Heap.get?_push_of_some _ q, fun _ => True.intro, fun y hy => absurd rfl hy⟩
theorem e3i {prog : Program} {w : World} {env : Env} {e : Expr} {f : Str} {pos : Pos} {s : Shared} {Q : Value -> Shared -> Prop} (hb : attributeBase e f env (eval e env) = eval e env)
  (h : wpAny (model prog w) A (eval e env) (fun o s₁ => wpAny (model prog w) A (getAttr o f true) Q E s₁) E s) : wpAny (model prog w) A (eval (.Attribute e f pos) env) Q E s :=
 Attribute_any_ h (by rw [arm_eval_Attribute, hb])
end
def e9z (K : PySem.W.Frag) (ta : TE) (f : Str) : TE := fun σ H Q => ta σ H fun x H1 => ∃ a C dx fs v, x = .ref a /\ H1 a = some (.ins C dx fs) /\ Cls K C /\ b1a K C f /\ fs.lookup f = some v /\ Q v H1
def e9p (K : PySem.W.Frag) (ta tv : TE) (f : Str) : TS := fun D σ H => tv σ H fun y H1 => ta σ H1 fun x H2 => ∃ a C dx fs, x = .ref a /\ H2 a = some (.ins C dx fs) /\ Cls K C /\ b1a K C f /\ fs.length < 1000 /\
 D.nx σ (upd H2 a (.ins C dx (b3i f y fs)))
section
variable {X : Cx} {o e value : Expr} {f : Str} {pos pos' tpos : Pos} {ta tv : TE}
theorem e5w (he : PE X e ta) (hb : attributeBase e f X.env (eval e X.env) = eval e X.env) : PE X (.Attribute e f pos) (e9z X.K ta f) := by
 intro pins s σ H Q I h
 refine e3i hb (thn (he pins s σ H _ I h) fun u s1 ⟨x, H1, I1, rx, a, C, dx, fs, v, ex, ea, c, n, l, q⟩ => ?_)
 subst ex
 obtain rfl : u = Value.ref a := rx
 exact d4i I1 ea c n l fun u' s2 I2 ru => ⟨v, H1, I2, ru, q⟩
theorem e5l (ha : PE X o ta) (hv : PE X value tv) (hs : swapsWith value (some (.Attribute o f pos')) pos.line X.env = pure false) : PS X (.Assign [.Attribute o f pos'] value pos) (e9p X.K ta tv f) := by
 intro pins s σ H D I h
 refine plainObj_wpAny_Assign_Attribute (thn (hv pins s σ H _ I h) fun u s1 ⟨y, H1, I1, ry, q⟩ => thn (ha pins s1 σ H1 _ I1 q) fun ov s2 ⟨x, H2, I2, rx, a, C, dx, fs, ex, ea, c, n, l, q2⟩ => ?_) hs
 subst ex
 obtain rfl : ov = Value.ref a := rx
 exact d4d I2 ea c n l ry fun s3 I3 => ⟨σ, _, I3, q2⟩
end
section
variable {X : Cx} {pins : List (Addr × Obj)} {σ : St} {H : Hp} {s : Shared} {A : Around} {E : Value -> Shared -> Prop} {Q : Value -> Shared -> Prop} {c : Value} {b : Bool}
inductive d2x (K : PySem.W.Frag) (H : Hp) : V -> Value -> Prop where
 | non : d2x K H .non (.type "NoneType")
 | bl (x : Bool) : d2x K H (.bl x) (.type "bool")
 | int (i : Int) : d2x K H (.int i) (.type "int")
 | str (x : Str) : d2x K H (.str x) (.type "str")
 | flt (x : UInt64) : d2x K H (.flt x) (.type "float")
 | lst {a : Addr} {xs : List V} (e : H a = some (.lst xs)) : d2x K H (.ref a) (.type "list")
 | frz {a : Addr} {o : Obj} {xs : List V} (e : H a = some (.frz o (.lst xs))) : d2x K H (.ref a) (.type "list")
 | tup {a : Addr} {xs : List V} (e : H a = some (.tup xs)) : d2x K H (.ref a) (.type "tuple")
 | dK {a : Addr} {kvs : List (Key × V)} (e : H a = some (.dK kvs)) : d2x K H (.ref a) (.type "dict")
 | dT {a : Addr} {kvs : List (List Key × V)} (e : H a = some (.dT kvs)) : d2x K H (.ref a) (.type "dict")
 | ins {a C dx : Addr} {fs : List (Str × V)} (e : H a = some (.ins C dx fs)) (cl : Cls K C) (ha : PySem.W.findIn K (.ref C) "__class__" = some (some (.builtin "object.__class__")))
   (hn : PySem.W.specialIn K (.builtin "object.__class__") "__get__" = some (some (.builtin "getset_descriptor.__get__"))) (htk : PySem.W.takesIn K (.builtin "object.__class__") = some true)
   (hm : PySem.W.mroIn K C (.type "object") = some true) : d2x K H (.ref a) (.ref C)
theorem d5l {x : V} {u t : Value} (I : Inv X pins σ H s) (rx : a6m x u) (ty : d2x X.K H x t) (e : PySem.W.kitOne X.K t c = some b) (h : ∀ tk, Q (.bool b) { s with toks := tk }) :
  wpAny (model X.prog X.w) A (call (.builtin "isinstance") [u, c]) Q E s := by
 cases ty with
 | non => cases (show u = Value.none from rx); exact PySem.W.kia_one PySem.W.kitx_none I.kIn True.intro e (fun z => nomatch z) h
 | bl y => cases (show u = Value.bool y from rx); exact PySem.W.kia_one PySem.W.kitx_bool I.kIn True.intro e (fun z => nomatch z) h
 | int i => obtain ⟨t, q⟩ := (show ∃ t, u = Value.int i t from rx); cases q; exact PySem.W.kia_one PySem.W.kitx_int I.kIn True.intro e (fun z => nomatch z) h
 | str y => obtain ⟨t, q⟩ := (show ∃ t, u = Value.str y t from rx); cases q; exact PySem.W.kia_one PySem.W.kitx_str I.kIn True.intro e (fun z => nomatch z) h
 | flt y => obtain ⟨t, q⟩ := (show ∃ t, u = Value.float y t from rx); cases q; exact PySem.W.kia_one PySem.W.kitx_float I.kIn True.intro e (fun z => nomatch z) h
 | @lst a xs ea =>
  cases (show u = Value.ref a from rx)
  obtain ⟨_, _, n, _, h1⟩ := (show a9p X.prog X.w H s.heap a (.lst xs) from I.hok a _ ea)
  exact PySem.W.kia_one PySem.W.kitx_list I.kIn ⟨_, h1, rfl⟩ e (fun z => nomatch z) h
 | @frz a ob xs ea =>
  cases (show u = Value.ref a from rx)
  obtain ⟨_, _, _, n, _, h1⟩ := (show a9p X.prog X.w H s.heap a (.frz ob (.lst xs)) from I.hok a _ ea)
  exact PySem.W.kia_one PySem.W.kitx_list I.kIn ⟨_, h1, rfl⟩ e (fun z => nomatch z) h
 | @tup a xs ea =>
  cases (show u = Value.ref a from rx)
  obtain ⟨_, _, _, p⟩ := (show a9p X.prog X.w H s.heap a (.tup xs) from I.hok a _ ea)
  obtain ⟨o, h1, h2, _⟩ := p
  exact PySem.W.kia_one PySem.W.kitx_tuple I.kIn ⟨o, h1, h2⟩ e (fun z => nomatch z) h
 | @dK a kvs ea =>
  cases (show u = Value.ref a from rx)
  obtain ⟨_, _, vs, _, p⟩ := (show a9p X.prog X.w H s.heap a (.dK kvs) from I.hok a _ ea)
  obtain ⟨o, es, ep, h1, h2, _⟩ := p
  exact PySem.W.kia_one PySem.W.kitx_dict I.kIn ⟨o, h1, h2.1⟩ e (fun z => nomatch z) h
 | @dT a kvs ea =>
  cases (show u = Value.ref a from rx)
  obtain ⟨_, _, xs, _, o, es, ep, h1, h2, _⟩ := (show a9p X.prog X.w H s.heap a (.dT kvs) from I.hok a _ ea)
  exact PySem.W.kia_one PySem.W.kitx_dict I.kIn ⟨o, h1, h2.1⟩ e (fun z => nomatch z) h
 | @ins a C dx fs ea cl ha hn htk hm =>
  cases (show u = Value.ref a from rx)
  obtain ⟨mA, O, _⟩ := c3p I.hok ea
  obtain ⟨od, J, _⟩ := O.look
  exact PySem.W.kia_one (PySem.W.kitx_own (cl.get _) cl.hd ha hn htk hm) I.kIn J e (fun z => nomatch z) h
end
end L2
namespace L2
open PySem PySem.Spec PyProof.Rows
structure b5x (k : Nat) (A : Around) : Prop where
 hd : A.handled = none
 dp : A.depth + 3 * k + 5 < recursionLimit
 un : A.units + 16 * k + 200 < cLine
theorem b5x.mono {j k : Nat} {A : Around} (r : b5x k A) (h : j <= k) : b5x j A := ⟨r.hd, by have := r.dp; omega, by have := r.un; omega⟩
theorem b5x.deeper {k : Nat} {A : Around} (r : b5x (k + 1) A) (env : Env) : b5x k (A.deeper env) :=
 ⟨r.hd, by have := r.dp; show A.depth + 1 + 3 * k + 5 < _; omega, by have := r.un; show A.units + 3 + 16 * k + 200 < _; omega⟩
theorem d4b {A : Around} {C : Addr} {us : List Value} {kw : List (Str × Value)} : (A.under (.builtin "type.__call__" ⟨.ref C :: us, kw⟩)).depth = A.depth + 1 := by
 first | rfl | simp [Around.under, Code.weight, Code.isCreation, Code.isGuard, Code.isCaller, Code.frames, Code.isFrame, guardIds]
theorem d3m {A : Around} {C : Addr} {us : List Value} {kw : List (Str × Value)} : (A.under (.builtin "type.__call__" ⟨.ref C :: us, kw⟩)).units = A.units + 1 := by
 first | rfl | simp [Around.under, Code.cUnits, Code.frames, Code.isFrame]
theorem b5x.make {k : Nat} {A : Around} (r : b5x (k + 1) A) (C : Addr) (us : List Value) (kw : List (Str × Value)) : b5x k (A.under (.builtin "type.__call__" ⟨.ref C :: us, kw⟩)) :=
 ⟨r.hd, by have := r.dp; rw [d4b]; omega, by have := r.un; rw [d3m]; omega⟩
theorem b5x.depth {k : Nat} {A : Around} (r : b5x k A) : A.depth < recursionLimit := by have := r.dp; omega
theorem b5x.units {k : Nat} {A : Around} (r : b5x k A) : A.units + 64 < cLine := by have := r.un; omega
def e7s : TA := fun _ H Q => Q [] H
def b8n (ta : TE) (tr : TA) : TA := fun σ H Q => ta σ H fun x H1 => tr σ H1 fun xs H2 => Q (x :: xs) H2
section
variable {X : Cx} {e : Expr} {es : List Expr} {te : TE} {t : TA} {pos : Pos}
theorem a0b : PA X [] e7s := fun _ _ _ _ H Q I h => Calls.spliced_nil ⟨[], H, I, .nil, h⟩
theorem a2i (ha : PE X e te) (hr : PA X es t) (hs : starEach (e :: es) X.env = (false, eval e X.env) :: starEach es X.env := by rfl) : PA X (e :: es) (b8n te t) := by
 intro pos pins s σ H Q I h
 rw [hs]
 show wpAny _ _ (spliced ((false, eval e X.env) :: backTo pos (starEach es X.env))) _ _ s
 refine Calls.spliced_cons (thn (ha pins s σ H _ I h) fun u s1 ⟨x, H1, I1, r1, q1⟩ => ?_)
 exact thn (hr pos pins s1 σ H1 _ I1 q1) fun us s2 ⟨xs, H2, I2, r2, q2⟩ => ⟨x :: xs, H2, I2, .cons r1 r2, q2⟩
def e9l (t : TA) : TE := fun σ H Q => t σ H fun xs H1 => xs.length <= sizeLine /\ ∀ p, H1 p = none -> Q (.ref p) (upd H1 p (.tup xs))
def e7r (t : TA) : TE := fun σ H Q => t σ H fun xs H1 => xs.length <= sizeLine /\ ∀ p, H1 p = none -> Q (.ref p) (upd H1 p (.lst xs))
theorem a2x {x1} (h : PA X es t) : PE X (.Tuple es x1 pos) (e9l t) := by
 intro pins s σ H Q I hq
 refine wpAny_Tuple_spliced (thn (h pos pins s σ H _ I hq) fun us s1 ⟨xs, H1, I1, r, z, q⟩ => ⟨by rw [← r.length]; exact z, ?_⟩)
 have hf : H1 s1.heap.objs.size = none := I1.hok.fresh (Nat.le_refl _)
 refine ⟨.ref s1.heap.objs.size, upd H1 s1.heap.objs.size (.tup xs), I1.laid (t' := s1.toks) (fun b u e => Heap.get?_push_of_some _ e) (Nat.le_refl _) ?_, rfl, q _ hf⟩
 exact ⟨z, us, r, ⟨_, Heap.get?_push_size _ rfl, rfl, _, rfl⟩⟩
theorem a2n (h : PA X es t) : PE X (.List es pos) (e7r t) := by
 intro pins s σ H Q I hq
 refine wpAny_List_spliced (thn (h pos pins s σ H _ I hq) fun us s1 ⟨xs, H1, I1, r, z, q⟩ => ⟨by rw [← r.length]; exact z, ?_⟩)
 have hf : H1 s1.heap.objs.size = none := I1.hok.fresh (Nat.le_refl _)
 refine ⟨.ref s1.heap.objs.size, upd H1 s1.heap.objs.size (.lst xs), I1.laid (t' := s1.toks) (fun b u e => Heap.get?_push_of_some _ e) (Nat.le_refl _) ?_, rfl, q _ hf⟩
 exact ⟨z, us, 0, r, Heap.get?_push_size _ rfl⟩
end
abbrev Sp := List V -> Hp -> VK -> XK -> Prop
abbrev CXT := List Env -> Hp -> Shared -> XK -> Value -> Shared -> Prop
structure e4j (P : Program) (w : World) (K : PySem.W.Frag) (mg : Str -> Option Value) (base : Heap) (A : Around) (outer : List Env) (s : Shared) (H : Hp) : Prop where
 frames : A.frames = some outer
 mod : Mod K mg base
 bs : ∀ b o, base.get? b = some o -> s.heap.get? b = some o /\ H b = none
 bsz : base.objs.size <= s.heap.objs.size
 funs : s.heap.FunFrames base outer
 frf : ∀ b ∈ frs outer, H b = none
 hok : HOk P w H s.heap
 bare : AllBare s.gens
def CE (outer : List Env) (P : Program) (w : World) (H : Hp) (s : Shared) (Q : VK) (u : Value) (s' : Shared) : Prop :=
 ∃ v H', s'.os = s.os /\ AllBare s'.gens /\ Un (frs outer) [] H H' s.heap s'.heap /\ HOk P w H' s'.heap /\ a6m v u /\ Q v H'
def CR (CX : CXT) (outer : List Env) (P : Program) (w : World) (H : Hp) (s : Shared) (Q : VK) (E : XK) (r : Result) (s' : Shared) : Prop :=
 match r with
 | .ok (.ret u) => CE outer P w H s Q u s'
 | .ok _ => False
 | .error e => CX outer H s E e s'
structure c6n (P : Program) (w : World) (K : PySem.W.Frag) (mg : Str -> Option Value) (base : Heap) (CX : CXT) (k : Nat) (f : Addr) (fd : FuncData) (ps : List Str) (sp : Sp) : Prop where
 len : ∀ vs H Q E, sp vs H Q E -> vs.length = ps.length
 run : ∀ (A : Around) (outer : List Env) (s : Shared) (H : Hp) (args : Args) (us : List Value) (vs : List V) (Q : VK) (E : XK), b5x k A -> e4j P w K mg base A outer s H -> BindsTo s fd args (ps.zip us) -> a4b vs us -> sp vs H Q E ->
  codeAny (model P w) A (.call (.ref f) args) (CR CX outer P w H s Q E) s
theorem c6n.imp {P : Program} {w : World} {K : PySem.W.Frag} {mg : Str -> Option Value} {base : Heap} {CX : CXT} {k : Nat} {f : Addr} {fd : FuncData} {ps : List Str} {sp sp' : Sp} (F : c6n P w K mg base CX k f fd ps sp)
  (h : ∀ vs H Q E, sp' vs H Q E -> sp vs H Q E) : c6n P w K mg base CX k f fd ps sp' :=
 ⟨fun vs H Q E q => F.len vs H Q E (h _ _ _ _ q), fun A outer s H args us vs Q E hr he hb hv hs => F.run A outer s H args us vs Q E hr he hb hv (h _ _ _ _ hs)⟩
theorem e4j.make {P : Program} {w : World} {K : PySem.W.Frag} {mg : Str -> Option Value} {base : Heap} {A : Around} {outer : List Env} {s : Shared} {H : Hp} (e : e4j P w K mg base A outer s H) (C : Addr) (us : List Value) (kw : List (Str × Value)) :
  e4j P w K mg base (A.under (.builtin "type.__call__" ⟨.ref C :: us, kw⟩)) outer s H := ⟨by first | exact e.frames | (simpa [Around.under, Code.envs, Code.isFrame, pushEnvs] using e.frames), e.mod, e.bs, e.bsz, e.funs, e.frf, e.hok, e.bare⟩
section
variable {X : Cx} {pins : List (Addr × Obj)} {σ : St} {H : Hp} {s s' : Shared}
theorem Inv.env0 (I : Inv X pins σ H s) : e4j X.prog X.w X.K X.mg X.base X.A X.stack s H :=
 ⟨I.ok.frames, I.ok.mod, I.bs, Nat.le_trans I.ok.bsz I.sz, I.stack, I.stkFree, I.hok, I.bare⟩
theorem Inv.after {Q : VK} {u : Value} (I : Inv X pins σ H s) (h : CE X.stack X.prog X.w H s Q u s') : EP X pins σ Q u s' := by
 obtain ⟨v, H', os, bare, un, hok, r, q⟩ := h
 obtain ⟨hh, g, d, t, os'⟩ := s'
 obtain rfl : os' = s.os := os
 exact ⟨v, H', I.call (h' := hh) (g' := g) (d' := d) (t' := t) (ch := []) un hok bare (fun b z => absurd z (by simp)), r, q⟩
end
def d6z (sp : Sp) (dvs : List V) (E : XK) (t : TA) : TE := fun σ H Q => t σ H fun vs H1 => sp (vs ++ dvs) H1 Q E
def c1s (C : Addr) (m : Str) (sp : Sp) (dvs : List V) (E : XK) (ta : TE) (t : TA) : TE := fun σ H Q => ta σ H fun x H1 => ∃ a dx fs, x = .ref a /\ H1 a = some (.ins C dx fs) /\ fs.lookup m = none /\
 t σ H1 fun vs H2 => sp (x :: (vs ++ dvs)) H2 Q E
def e6n (C : Addr) (sp : Sp) (dvs : List V) (E : XK) (t : TA) : TE := fun σ H Q => t σ H fun vs H1 => ∀ x dx, H1 x = none -> H1 dx = none -> dx ≠ x ->
 sp (.ref x :: (vs ++ dvs)) (upd (upd H1 dx (.own x)) x (.ins C dx [])) (fun v H2 => v = .non /\ Q (.ref x) H2) E
def c1l (K : PySem.W.Frag) (fd : FuncData) (ps : List Str) (ds : List Value) : Prop :=
 ∀ (s : Shared) (us : List Value), K.In s.heap -> (us ++ ds).length = ps.length -> BindsTo s fd ⟨us, []⟩ (ps.zip (us ++ ds))
theorem c1l.all {K : PySem.W.Frag} {fd : FuncData} {ps : List Str} (h : ∀ us : List Value, us.length = ps.length -> bindArgs fd ⟨us, []⟩ = pure (ps.zip us)) : c1l K fd ps [] := fun s us _ hl => by
 rw [List.append_nil] at hl ⊢
 exact .of_eq (h us hl)
def b5i (CX : CXT) (X : Cx) (E : XK) : Prop := ∀ (pins : List (Addr × Obj)) (σ : St) (H : Hp) (s : Shared) (e : Value) (s' : Shared), Inv X pins σ H s -> CX X.stack H s E e s' -> X.xe e s'
section
variable {X : Cx} {CX : CXT} {k : Nat} {f C : Addr} {fd : FuncData} {ps : List Str} {sp : Sp} {dvs : List V} {ds : List Value} {E : XK} {x m : Str} {p pos apos : Pos} {e o : Expr} {es : List Expr} {ta : TE} {t : TA}
theorem e1x {pins : List (Addr × Obj)} {σ : St} {H : Hp} {s : Shared} {Q : VK} {us : List Value} {vs : List V} (F : c6n X.prog X.w X.K X.mg X.base CX k f fd ps sp) (hr : b5x k X.A) (hb : c1l X.K fd ps ds) (hd : a4b dvs ds) (hx : b5i CX X E)
  (I : Inv X pins σ H s) (r : a4b vs us) (h : sp (vs ++ dvs) H Q E) : wpAny (model X.prog X.w) X.A (call (.ref f) us) (EP X pins σ Q) X.xe s := by
 have r2 : a4b (vs ++ dvs) (us ++ ds) := r.append hd
 have hl : (us ++ ds).length = ps.length := by rw [← r2.length]; exact F.len _ _ _ _ h
 refine wpAny_call (codeAny_mono (F.run X.A X.stack s H ⟨us, []⟩ (us ++ ds) (vs ++ dvs) Q E hr I.env0 (hb s us I.kIn hl) r2 h) fun r s' hq => ?_)
 cases r with
 | error e => exact hx pins σ H s e s' I hq
 | ok fl =>
  cases fl with
  | ret u => exact I.after hq
  | next => exact False.elim hq
  | brk => exact False.elim hq
  | cont => exact False.elim hq
theorem e3f (F : c6n X.prog X.w X.K X.mg X.base CX k f fd ps sp) (hr : b5x k X.A) (hg : Gl X x) (hm : X.mg x = some (.ref f)) (hk : PySem.W.keepIn X.K (.ref f) = true) (hb : c1l X.K fd ps ds) (hd : a4b dvs ds) (hx : b5i CX X E)
  (ha : PA X (e :: es) t) (hdb : (x == ("__debug__" : Str)) = false := by decide) (he : starEach (e :: es) X.env = (false, eval e X.env) :: starEach es X.env := by rfl) (hpl : (backTo pos (starEach es X.env)).any (·.1) = false := by rfl) :
  PE X (.Call (.Name x p) (e :: es) [] pos) (d6z sp dvs E t) := by
 intro pins s σ H Q I h
 refine wpAny_Call_Name_kw (c9z I hg hm ?_ hdb)
 refine PySem.W.callWith_K (h₀ := X.base) I.ok.mod.kin hk (thn (ha pos pins s σ H _ I h) fun us s1 ⟨vs, H1, I1, r, q⟩ => ⟨I1.kIn, ?_⟩) he hpl
 exact e1x F hr hb hd hx I1 r q
theorem e4v {pl : Sem Bool} (he : PE X o ta) (c : Cls X.K C) (hm : d7y X.K C m f) (F : c6n X.prog X.w X.K X.mg X.base CX k f fd ps sp) (hr : b5x k X.A) (hb : c1l X.K fd ps ds) (hd : a4b dvs ds) (hx : b5i CX X E) (ha : PA X (e :: es) t)
  (hst : starEach (e :: es) X.env = (false, eval e X.env) :: starEach es X.env := by rfl) (hpl : (backTo pos (starEach es X.env)).any (·.1) = false := by rfl)
  (ht : eval (.Call (.Attribute o m apos) (e :: es) [] pos) X.env = (do
   let ov ← eval o X.env
   standAt apos.atName
   let (f, first) ← holding [ov] (getMethod ov m pl)
   callWith pos f first (backTo pos (starEach (e :: es) X.env)) (backToKw pos (keywordEach [] X.env))) := by rfl) :
  PE X (.Call (.Attribute o m apos) (e :: es) [] pos) (c1s C m sp dvs E ta t) := by
 intro pins s σ H Q I h
 refine PySem.W.methodCall_KW (pl := pl) (thn (he pins s σ H _ I h) fun u s1 ⟨x, H1, I1, rx, a, dx, fs, ex, ea, l, q⟩ => ?_) ht
 subst ex
 obtain rfl : u = Value.ref a := rx
 refine d4a I1 ea c hm l ?_
 refine PySem.W.callWith_K (first := [.ref a]) (h₀ := X.base) I.ok.mod.kin hm.kp (thn (ha pos pins s1 σ H1 _ I1 q) fun us s2 ⟨vs, H2, I2, r, q2⟩ => ⟨I2.kIn, ?_⟩) hst hpl
 exact e1x (us := .ref a :: us) (vs := .ref a :: vs) F hr hb hd hx I2 (.cons rfl r) q2
structure Mk (K : PySem.W.Frag) (C f : Addr) : Prop where
 makes : PySem.W.makesIn K C = true
 init : PySem.W.findIn K (.ref C) "__init__" = some (some (.ref f))
 fn : PySem.W.isFn K (.ref f) = true
 kp : PySem.W.keepIn K (.ref C) = true
theorem d9h {pins : List (Addr × Obj)} {σ : St} {H : Hp} {s : Shared} {Q : VK} {us : List Value} {vs : List V} (M : Mk X.K C f) (F : c6n X.prog X.w X.K X.mg X.base CX k f fd ps sp) (hr : b5x (k + 1) X.A) (hb : c1l X.K fd ps ds) (hd : a4b dvs ds)
  (hx : b5i CX X E) (I : Inv X pins σ H s) (r : a4b vs us)
  (h : ∀ x dx, H x = none -> H dx = none -> dx ≠ x -> sp (.ref x :: (vs ++ dvs)) (upd (upd H dx (.own x)) x (.ins C dx [])) (fun v H2 => v = .non /\ Q (.ref x) H2) E) :
  wpAny (model X.prog X.w) X.A (call (.ref C) us) (EP X pins σ Q) X.xe s := by
 have hq := h (s.heap.objs.size + 1) s.heap.objs.size (I.hok.fresh (Nat.le_succ _)) (I.hok.fresh (Nat.le_refl _)) (Nat.ne_of_lt (Nat.lt_succ_self _))
 have I2 := Inv.made (C := C) I
 have r2 : a4b (V.ref (s.heap.objs.size + 1) :: (vs ++ dvs)) (Value.ref (s.heap.objs.size + 1) :: (us ++ ds)) := .cons rfl (r.append hd)
 have hl : (Value.ref (s.heap.objs.size + 1) :: us ++ ds).length = ps.length := by
  have e := r2.length
  rw [F.len _ _ _ _ hq] at e
  exact e.symm
 refine wpAny_call (e0d (f := f) I.kIn M.makes M.init (beq_iff_eq.mp M.fn) (codeAny_mono (F.run _ X.stack _ _ ⟨Value.ref (s.heap.objs.size + 1) :: us, []⟩ (Value.ref (s.heap.objs.size + 1) :: (us ++ ds)) _ _ E (hr.make C us [])
  (I2.env0.make C us []) (hb _ (Value.ref (s.heap.objs.size + 1) :: us) I2.kIn hl) r2 hq) fun r s' hq' => ?_))
 cases r with
 | error e => exact hx pins σ _ _ e s' I2 hq'
 | ok fl =>
  cases fl with
  | ret u =>
   obtain ⟨v, H', I3, rv, ev, q3⟩ := I2.after hq'
   subst ev
   exact ⟨rv, ⟨V.ref (s.heap.objs.size + 1), H', I3, rfl, q3⟩⟩
  | next => exact False.elim hq'
  | brk => exact False.elim hq'
  | cont => exact False.elim hq'
theorem e3y (M : Mk X.K C f) (F : c6n X.prog X.w X.K X.mg X.base CX k f fd ps sp) (hr : b5x (k + 1) X.A) (hg : Gl X x) (hm : X.mg x = some (.ref C)) (hb : c1l X.K fd ps ds) (hd : a4b dvs ds) (hx : b5i CX X E)
  (ha : PA X (e :: es) t) (hdb : (x == ("__debug__" : Str)) = false := by decide) (he : starEach (e :: es) X.env = (false, eval e X.env) :: starEach es X.env := by rfl) (hpl : (backTo pos (starEach es X.env)).any (·.1) = false := by rfl) :
  PE X (.Call (.Name x p) (e :: es) [] pos) (e6n C sp dvs E t) := by
 intro pins s σ H Q I h
 refine wpAny_Call_Name_kw (c9z I hg hm ?_ hdb)
 refine PySem.W.callWith_K (h₀ := X.base) I.ok.mod.kin M.kp (thn (ha pos pins s σ H _ I h) fun us s1 ⟨vs, H1, I1, r, q⟩ => ⟨I1.kIn, ?_⟩) he hpl
 exact d9h M F hr hb hd hx I1 r q
end
def PK (X : Cx) (kws : List Keyword) (t : TA) : Prop :=
 ∀ (pos : Pos) (pins : List (Addr × Obj)) (s : Shared) (σ : St) (H : Hp) (Q : List V -> Hp -> Prop), Inv X pins σ H s -> t σ H Q -> wpAny (model X.prog X.w) X.A (evalAll ((backToKw pos (keywordEach kws X.env)).map (·.2))) (AP X pins σ Q) X.xe s
section
variable {X : Cx} {CX : CXT} {k : Nat} {f C : Addr} {fd : FuncData} {ps ks : List Str} {sp : Sp} {E : XK} {x m : Str} {p pos apos kpos : Pos} {e o : Expr} {es : List Expr} {kws : List Keyword} {te ta : TE} {t tk : TA} {nm : Option Str}
theorem e2e : PK X [] e7s := fun _ _ _ _ H Q I h => wpAny_evalAll_nil ⟨[], H, I, .nil, h⟩
theorem d5g (ha : PE X e te) (hr : PK X kws t) : PK X (⟨nm, e, kpos⟩ :: kws) (b8n te t) := by
 intro pos pins s σ H Q I h
 show wpAny _ _ (evalAll ((do let v ← eval e X.env; standAt pos; pure v) :: (backToKw pos (keywordEach kws X.env)).map (·.2))) _ _ s
 refine wpAny_evalAll_cons (wpAny_bind (thn (ha pins s σ H _ I h) fun u s1 ⟨x, H1, I1, r1, q1⟩ => wpAny_bind (wpAny_standAt (wpAny_pure ?_))))
 exact thn (hr pos pins s1 σ H1 _ I1 q1) fun us s2 ⟨xs, H2, I2, r2, q2⟩ => ⟨x :: xs, H2, I2, .cons r1 r2, q2⟩
variable {g : List Value -> List Value -> List Value} {gV : List V -> List V -> List V}
end
structure a0r (N P : List Str) (sc : Scope) : Prop where
 kind : sc.kind = .function
 co : sc.isCoroutine = false
 gen : sc.isGenerator = false
 nd : N.Nodup
 pre : N.take P.length = P
 par : ∀ x ∈ P, sc.names.lookup x = some .local \/ sc.names.lookup x = some .cell
 nofree : ∀ y ∈ sc.names, y.2 ≠ .free
theorem c6o {kindOf : Str -> Option NameKind} {x : Str} : ∀ {binds : List (Str × Value)} {m : Str -> Option Value}, (∀ v, (x, v) ∉ binds) -> bindL kindOf binds m x = m x
 | [], _, _ => rfl
 | (n, v) :: r, m, h => by
  unfold bindL
  rw [c6o fun w hw => h w (List.mem_cons_of_mem _ hw)]
  split
  · have : x ≠ n := by rintro rfl; exact h v List.mem_cons_self
    simp [this]
  · rfl
theorem c6k {kindOf : Str -> Option NameKind} {x : Str} : ∀ {binds : List (Str × Value)} {m : Str -> Option Value}, (∀ v, (x, v) ∉ binds) -> bindC kindOf binds m x = m x
 | [], _, _ => rfl
 | (n, v) :: r, m, h => by
  unfold bindC
  rw [c6k fun w hw => h w (List.mem_cons_of_mem _ hw)]
  split
  · rfl
  · have : x ≠ n := by rintro rfl; exact h v List.mem_cons_self
    simp [this]
theorem c5x {kindOf : Str -> Option NameKind} {x : Str} {v : Value} : ∀ {P : List Str} {vs : List Value} {i : Nat} {m : Str -> Option Value}, P.Nodup -> P[i]? = some x -> vs[i]? = some v -> kindOf x = some .local ->
  bindL kindOf (P.zip vs) m x = some v
 | [], _, _, _, _, h, _, _ => by simp at h
 | _ :: _, [], _, _, _, _, h, _ => by simp at h
 | p :: P, w :: vs, 0, m, nd, h1, h2, hk => by
  simp at h1 h2; subst h1; subst h2
  show bindL kindOf ((p, w) :: P.zip vs) m p = _
  unfold bindL
  rw [c6o fun v hv => (List.nodup_cons.mp nd).1 (List.of_mem_zip hv).1, if_pos hk]
  simp
 | p :: P, w :: vs, i + 1, m, nd, h1, h2, hk => by
  show bindL kindOf ((p, w) :: P.zip vs) m x = _
  unfold bindL
  exact c5x (i := i) (List.nodup_cons.mp nd).2 (by simpa using h1) (by simpa using h2) hk
theorem c5q {kindOf : Str -> Option NameKind} {x : Str} {v : Value} : ∀ {P : List Str} {vs : List Value} {i : Nat} {m : Str -> Option Value}, P.Nodup -> P[i]? = some x -> vs[i]? = some v -> kindOf x ≠ some .local ->
  bindC kindOf (P.zip vs) m x = some v
 | [], _, _, _, _, h, _, _ => by simp at h
 | _ :: _, [], _, _, _, _, h, _ => by simp at h
 | p :: P, w :: vs, 0, m, nd, h1, h2, hk => by
  simp at h1 h2; subst h1; subst h2
  show bindC kindOf ((p, w) :: P.zip vs) m p = _
  unfold bindC
  rw [c6k fun v hv => (List.nodup_cons.mp nd).1 (List.of_mem_zip hv).1, if_neg hk]
  simp
 | p :: P, w :: vs, i + 1, m, nd, h1, h2, hk => by
  show bindC kindOf ((p, w) :: P.zip vs) m x = _
  unfold bindC
  exact c5q (i := i) (List.nodup_cons.mp nd).2 (by simpa using h1) (by simpa using h2) hk
def start (N : List Str) (vs : List V) : St := vs.map some ++ List.replicate (N.length - vs.length) none
def e5e (CX : CXT) (P : Program) (w : World) (K : PySem.W.Frag) (mg : Str -> Option Value) (base : Heap) (N : List Str) (qual : Str) (scope : Scope) (f : Addr) (cd : Value) (A : Around) (outer : List Env) (s : Shared) (H : Hp) (E : XK) : Cx where
 prog := P
 w := w
 K := K
 mg := mg
 base := base
 A := A.deeper (envOfC qual scope s.heap.objs.size f cd)
 N := N
 s₀ := s
 H₀ := H
 env := envOfC qual scope s.heap.objs.size f cd
 outer := outer
 stack := envOfC qual scope s.heap.objs.size f cd :: outer
 ex := []
 calm := true
 fn := fun _ => true
 pn := []
 xe := fun e s' => wpAny (model P w) (A.deeper (envOfC qual scope s.heap.objs.size f cd)) (leaving (envOfC qual scope s.heap.objs.size f cd) e) (fun _ s'' => CX outer H s E e s'') (fun e' s'' => CX outer H s E e' s'') s'
theorem d1n {sc : Scope} {n : Nat} {x : Str} (h : sc.names.lookup x = some .cell) : ∃ c, (cellsFrom n sc.names []).lookup x = some c := by
 have q := PySem.W.cellsFrom_some sc.names n [] (.inl h)
 exact Option.isSome_iff_exists.mp q
theorem d8y {CX : CXT} {P : Program} {w : World} {K : PySem.W.Frag} {mg : Str -> Option Value} {base : Heap} {N ps : List Str} {qual : Str} {scope : Scope} {f : Addr} {cd : Value} {A : Around} {outer : List Env} {s s1 : Shared} {H : Hp} {E : XK} {us : List Value} {vs : List V}
  (S : a0r N ps scope) (hd : A.handled = none) (e0 : e4j P w K mg base A outer s H) (hl : vs.length = ps.length) (r : a4b vs us)
  (x : InCallC s s.heap.objs.size (bindL (envOfC qual scope s.heap.objs.size f cd).kindOf (ps.zip us) fun _ => none) (cellsFrom (s.heap.objs.size + 1) scope.names []) (bindC (envOfC qual scope s.heap.objs.size f cd).kindOf (ps.zip us) fun _ => none) s1) :
  Inv (e5e CX P w K mg base N qual scope f cd A outer s H E) [] (start N vs) H s1 := by
 have hpl : ps.length <= N.length := by have := congrArg List.length S.pre; rw [List.length_take] at this; omega
 obtain ⟨h1, tk, rfl, hk⟩ := x.done
 have noA : ∀ b : Addr, b ∉ (e5e CX P w K mg base N qual scope f cd A outer s H E).ex := fun b z => absurd (show b ∈ ([] : List Addr) from z) (by simp)
 refine ⟨⟨e0.mod, S.kind, rfl, rfl, Nat.le_refl _, fun y z c h1 h2 => ?_, fun y hy => ?_, fun y c _ h => ?_, fun _ => hd, Around.frames_deeper e0.frames, .inr ⟨rfl, rfl⟩, fun b z => absurd z (noA b), e0.bs, e0.bsz, fun b _ _ => noA b, fun b z => absurd z (noA b), e0.funs, e0.frf⟩,
  rfl, e0.bare, Un.kept hk, ⟨_, x.toInCall.ns, fun i y v h1 h2 h3 => ?_⟩, fun y c h => ⟨_, x.cell y c h⟩, e0.hok.fresh (Nat.le_refl _), fun y c h => ?_, fun p hp => absurd (show p ∈ ([] : List (Addr × Obj)) from hp) (by simp), e0.hok.kept hk, ?_⟩
 · exact name_of_addr x.apart (PySem.mem_of_lookup h1) (PySem.mem_of_lookup h2)
 · have hy : scope.names.lookup y = some .cell \/ scope.names.lookup y = some .free := hy
   rcases hy with hy | hy
   · exact d1n hy
   · exact absurd rfl (S.nofree _ (PySem.mem_of_lookup hy))
 · exact Nat.le_of_lt (x.above y c (PySem.mem_of_lookup h))
 · have hi : i < vs.length := by
    unfold start at h2
    by_cases hi : i < vs.length
    · exact hi
    · rw [List.getElem?_append_right (by simpa using hi)] at h2
      rw [List.getElem?_replicate] at h2
      split at h2 <;> cases h2
   have ha : vs[i]? = some v := by
    unfold start at h2
    rw [List.getElem?_append_left (by simpa using hi), List.getElem?_map] at h2
    cases e : vs[i]? with
    | none => rw [e] at h2; cases h2
    | some a => rw [e] at h2; cases h2; rfl
   obtain ⟨u, hu, rv⟩ := r.get ha
   have hp : ps[i]? = some y := by
    rw [← S.pre, List.getElem?_take_of_lt (by omega)]; exact h1
   have ndP : ps.Nodup := by rw [← S.pre]; exact S.nd.sublist (List.take_sublist _ _)
   refine ⟨u, rv, ?_⟩
   rcases S.par y (List.mem_of_getElem? hp) with k | k
   · exact .inl ⟨k, c5x ndP hp hu k⟩
   · obtain ⟨c, e⟩ := d1n (n := s.heap.objs.size + 1) k
     refine .inr ⟨.inl k, c, e, ?_⟩
     have q := x.cell y c e
     rw [c5q ndP hp hu (by show scope.names.lookup y ≠ _; rw [k]; decide)] at q
     exact q
 · exact e0.hok.fresh (Nat.le_of_lt (x.above y c (PySem.mem_of_lookup h)))
 · unfold start
   show _ = N.length
   rw [List.length_append, List.length_map, List.length_replicate]
   omega
theorem e9e {CX : CXT} {P : Program} {w : World} {K : PySem.W.Frag} {mg : Str -> Option Value} {base : Heap} {k : Nat} {f : Addr} {name qual : Str} {params : Arguments} {body : List Stmt} {scope : Scope} {dV kV doc pm cdv ct oc : Value} {an od : Option Addr}
  {osl : Array (Option Value)} {N ps : List Str} {sp : Sp} (lk : K.lookup f = some ⟨oc, od, .func (PySem.W.fnOf name qual params body scope dV kV doc pm an cdv ct), osl⟩) (hcd : PySem.W.codeIn K cdv qual = true) (S : a0r N ps scope)
  (len : ∀ vs H Q E, sp vs H Q E -> vs.length = ps.length)
  (hbody : ∀ (A : Around) (outer : List Env) (s : Shared) (H : Hp) (vs : List V) (Q : VK) (E : XK), b5x k (A.deeper (envOfC qual scope s.heap.objs.size f cdv)) -> sp vs H Q E ->
   ∃ t, PSs (e5e CX P w K mg base N qual scope f cdv A outer s H E) body t /\ t { nx := fun _ H' => Q .non H', rt := Q } (start N vs) H) :
  c6n P w K mg base CX (k + 1) f (PySem.W.fnOf name qual params body scope dV kV doc pm an cdv ct) ps sp := by
 refine ⟨len, fun A outer s H args us vs Q E hr e0 hb r hsp => ?_⟩
 have hl := len _ _ _ _ hsp
 have KX : K.In s.heap := e0.mod.kin.keeps fun b o e => (e0.bs b o e).1
 have lim : s.heap.NoLimit := e0.mod.nolimit.keeps fun b o e => (e0.bs b o e).1
 have hkind : ∀ y ∈ ps.zip us, scope.names.lookup y.1 = some .local \/ (scope.names.lookup y.1 = some .cell /\ ((cellsFrom (s.heap.objs.size + 1) scope.names []).lookup y.1).isSome = true) := fun ⟨n, v⟩ hy => by
  rcases S.par n (List.of_mem_zip hy).1 with q | q
  · exact .inl q
  · exact .inr ⟨q, PySem.W.cellsFrom_some _ _ _ (.inl q)⟩
 refine codeAny_call_function hr.depth (KX _ _ lk) rfl S.co S.gen rfl (PySem.W.codeRec_of KX hcd) (hb _ _ _ _ ?_)
 refine wpAny_newFunctionEnv_cells S.kind hkind fun env he s1 x => ?_
 subst he
 refine ⟨lim.keeps x.toInCall.keep, codeAny_func ?_⟩
 obtain ⟨t, ht, hq⟩ := hbody A outer s H vs Q E (hr.deeper _) hsp
 have I : Inv (e5e CX P w K mg base N qual scope f cdv A outer s H E) [] (start N vs) H s1 := d8y S hr.hd e0 hl r x
 refine wpAny_mono (ht [] s1 (start N vs) H _ I hq) (fun fl s' hs => ?_) fun e s' hs => hs
 have fin : ∀ {σ' : St} {H' : Hp} {v : V} {u : Value}, Inv (e5e CX P w K mg base N qual scope f cdv A outer s H E) [] σ' H' s' -> a6m v u -> Q v H' -> CE outer P w H s Q u s' :=
  fun {σ' H' v u} J rv q => ⟨v, H', J.os, J.bare, J.base, J.hok, rv, q⟩
 cases fl with
 | ret u =>
  obtain ⟨v, σ', H', J, rv, q⟩ := hs
  exact fin J rv q
 | next =>
  obtain ⟨σ', H', J, q⟩ := hs
  exact fin (v := V.non) (u := Value.none) J rfl q
 | brk =>
  obtain ⟨_, _, _, q⟩ := hs
  exact False.elim q
 | cont =>
  obtain ⟨_, _, _, q⟩ := hs
  exact False.elim q
end L2
namespace L2
open PySem PySem.Spec PyProof.Rows
section
variable {X : Cx} {x : Str} {p pos : Pos} {e : Expr} {es : List Expr} {t : TA} {id T : String} {r : List V -> Hp -> VK -> Prop}
def tCB (r : List V -> Hp -> VK -> Prop) (t : TA) : TE := fun σ H Q => t σ H fun vs H1 => r vs H1 Q
theorem a1f (hc : b8o X (.builtin id) r) (hg : Gl X x) (hm : X.mg x = none) (hv : bootBuiltins x = some (.builtin id)) (ha : PA X (e :: es) t) (hn : x ≠ "__name__" := by decide) (hdb : (x == ("__debug__" : Str)) = false := by decide)
  (he : starEach (e :: es) X.env = (false, eval e X.env) :: starEach es X.env := by rfl) (hpl : (backTo pos (starEach es X.env)).any (·.1) = false := by rfl) : PE X (.Call (.Name x p) (e :: es) [] pos) (tCB r t) := by
 intro pins s σ H Q I h
 refine wpAny_Call_Name_kw (b5e I hg hm hv ?_ hn hdb)
 exact PyProof.Rows.callWith_builtin1 (thn (ha pos pins s σ H _ I h) fun us s1 ⟨vs, H1, I1, r1, q1⟩ => hc pins s1 σ H1 vs us Q I1 r1 q1) he hpl
theorem a9v (hc : b8o X (.type T) r) (hg : Gl X x) (hm : X.mg x = none) (hv : bootBuiltins x = some (.type T)) (ha : PA X (e :: es) t) (hn : x ≠ "__name__" := by decide) (hdb : (x == ("__debug__" : Str)) = false := by decide)
  (he : starEach (e :: es) X.env = (false, eval e X.env) :: starEach es X.env := by rfl) (hpl : (backTo pos (starEach es X.env)).any (·.1) = false := by rfl) : PE X (.Call (.Name x p) (e :: es) [] pos) (tCB r t) := by
 intro pins s σ H Q I h
 refine wpAny_Call_Name_kw (b5e I hg hm hv ?_ hn hdb)
 exact PyProof.Rows.callWith_type1 (thn (ha pos pins s σ H _ I h) fun us s1 ⟨vs, H1, I1, r1, q1⟩ => hc pins s1 σ H1 vs us Q I1 r1 q1) he hpl
end
end L2
namespace HT
open PySem PyProof.Rows
section
open PySem.SeqAt
open PySem.AutoSeq1 (wpAny_loadPart')
open PySem.MeetsSeq PySem.MeetsSeq2 PySem.MeetsSeq3
end
section
variable {prog : Program} {w : World} {A : Around} {E : Value -> Shared -> Prop} {s : Shared}
theorem cat_tup {t b : Addr} {vs ws : List Value} {Q : Value -> Shared -> Prop} (ht : IsTup s.heap t vs.toArray) (hb : IsTup s.heap b ws.toArray) (hv : vs ≠ [])
  (h1 : ws = [] -> Q (.ref t) s) (h2 : ws ≠ [] -> Q (.ref s.heap.objs.size) { s with heap := s.heap.push { cls := .type "tuple", data := .seq (vs ++ ws).toArray } })
  (hsz : vs.length + ws.length <= sizeLine) : wpAny (model prog w) A (binaryOp .Add (.ref t) (.ref b)) Q E s := by
 obtain ⟨⟨cls, dd, data, sl⟩, ho, hc, n, hd⟩ := id ht
 obtain ⟨⟨cls2, dd2, data2, sl2⟩, ho2, hc2, n2, hd2⟩ := id hb
 simp only at hc hd hc2 hd2
 subst hc hd hc2 hd2
 have e : vs.toArray ++ ws.toArray = (vs ++ ws).toArray := by simp
 by_cases hw : ws = []
 · exact concat_meets ⟨_, ho, rfl⟩ ⟨_, ho2, rfl⟩ noFill_tuple_add seq_tuple_add PySem.F.slot_tuple_add PySem.F.entry_tuple_add (PySem.F.args_tuple_add_2 _ _)
    (tuple_addW1 t b vs.toArray ws.toArray n n2 dd dd2 sl sl2 (by simpa using hv) (by simp [hw])) ⟨ho, ho2, h1 hw⟩
 · refine concat_meets ⟨_, ho, rfl⟩ ⟨_, ho2, rfl⟩ noFill_tuple_add seq_tuple_add PySem.F.slot_tuple_add PySem.F.entry_tuple_add (PySem.F.args_tuple_add_2 _ _)
    (tuple_addW2 t b vs.toArray ws.toArray n n2 dd dd2 sl sl2 (by simpa using hv) (by simpa using hw) (by rw [List.size_toArray, List.size_toArray]; exact hsz)) ⟨ho, ho2, ?_⟩
   rw [e]
   exact h2 hw
def sIx (n d : Nat) : Option Int -> Nat
 | none => d
 | some v => if v < 0 then (v + (n : Int)).toNat else min v.toNat n
theorem e6m (n d : Nat) (hd : d <= n) (o : Option Int) : sIx n d o <= n := by
 cases o with
 | none => exact hd
 | some v =>
  show (if v < 0 then (v + (n : Int)).toNat else min v.toNat n) <= n
  by_cases hv : v < 0
  · rw [if_pos hv]; omega
  · rw [if_neg hv]; exact Nat.min_le_right _ _
theorem d7f (v : Int) (n d : Nat) : (if v < 0 then max (v + (n : Int)) 0 else min v (n : Int)) = ((sIx n d (some v) : Nat) : Int) := by
 show (if v < 0 then max (v + (n : Int)) 0 else min v (n : Int)) = (((if v < 0 then (v + (n : Int)).toNat else min v.toNat n) : Nat) : Int)
 by_cases hv : v < 0
 · simp only [if_pos hv]; omega
 · simp only [if_neg hv]; omega
theorem d3w (lo hi : Option Int) (n : Nat) : Builtin.Slice.sliceAdjust lo hi 1 (n : Int) = (((sIx n 0 lo : Nat) : Int), ((sIx n n hi : Nat) : Int)) := by
 have h1 : ¬ ((1 : Int) < 0) := by omega
 unfold Builtin.Slice.sliceAdjust
 simp only [h1, if_false]
 refine Prod.ext ?_ ?_
 · cases lo with
   | none => rfl
   | some v => exact d7f v n 0
 · cases hi with
   | none => rfl
   | some v => exact d7f v n n
theorem d4q (i j : Nat) : Builtin.Slice.slicePlaces (i : Int) (j : Int) 1 = j - i := by
 unfold Builtin.Slice.slicePlaces
 have h1 : (1 : Int) > 0 := by omega
 simp only [h1, if_true, Int.ediv_one]
 split <;> omega
theorem c2c {v : Value} {o : Option Int} {Q : Option Int -> Shared -> Prop} (p : IsPart v o) (h : Q o s) : wpAny (model prog w) A (Builtin.Slice.slicePartIndex v) Q E s := by
 cases p with
 | none => exact slicePart_none h
 | int i t => exact slicePart_int h
theorem b8p {sl : Addr} {vl vu : Value} {lo hi : Option Int} {n : Nat} {Q : Int × Int × Nat -> Shared -> Prop} (hs : s.heap.IsSliceOf sl vl vu .none) (pl : IsPart vl lo) (pu : IsPart vu hi)
  (h : Q (((sIx n 0 lo : Nat) : Int), 1, sIx n n hi - sIx n 0 lo) s) : wpAny (model prog w) A (Builtin.Slice.sliceApplied (.ref sl) (pure (n : Int))) Q E s := by
 obtain ⟨os, hos, hcs, hds⟩ := id hs
 unfold Builtin.Slice.sliceApplied Builtin.Slice.sliceFields
 refine wpAny_bind (wpAny_bind (wpAny_field hos hds (x := vl) rfl (wpAny_bind (wpAny_field hos hds (x := vu) rfl (wpAny_bind (wpAny_field hos hds (x := .none) rfl (wpAny_pure ?_)))))))
 refine wpAny_bind (slicePart_none ?_)
 show wpAny _ _ (if ((1 : Int) == 0) = true then _ else _) _ _ s
 rw [if_neg (by decide)]
 refine wpAny_bind (c2c pl (wpAny_bind (c2c pu (wpAny_bind (wpAny_pure ?_)))))
 show wpAny _ _ (match Builtin.Slice.sliceAdjust lo hi 1 (n : Int) with | (lo, hi) => pure (lo, (1 : Int), Builtin.Slice.slicePlaces lo hi 1)) _ _ s
 rw [d3w lo hi n]
 show wpAny _ _ (pure (((sIx n 0 lo : Nat) : Int), (1 : Int), Builtin.Slice.slicePlaces ((sIx n 0 lo : Nat) : Int) ((sIx n n hi : Nat) : Int) 1)) _ _ s
 rw [d4q]
 exact wpAny_pure h
theorem e1g (xs : Array Value) (i k : Nat) : ((List.range k).filterMap fun (m : Nat) => xs[((i : Int) + (m : Int) * 1).toNat]?).toArray = ((xs.toList.drop i).take k).toArray := by
 have e : (fun (m : Nat) => xs[((i : Int) + (m : Int) * 1).toNat]?) = fun m => xs[i + m]? := by
  funext m
  have : ((i : Int) + (m : Int) * 1).toNat = i + m := by omega
  rw [this]
 rw [e]
 have := pick_run xs i k
 rw [List.filterMap_map] at this
 have e2 : ((fun x => xs[x]?) ∘ fun x => i + x) = fun m => xs[i + m]? := rfl
 rw [e2] at this
 rw [this]
theorem getItem_tuple_cut {t sl : Addr} {items : Array Value} {vl vu : Value} {lo hi : Option Int} {Q : Value -> Shared -> Prop} (ht : IsTup s.heap t items) (hs : s.heap.IsSliceOf sl vl vu .none) (pl : IsPart vl lo) (pu : IsPart vu hi)
  (hw : ¬ (sIx items.size 0 lo = 0 /\ sIx items.size items.size hi = items.size))
  (h : Q (.ref s.heap.objs.size) { s with heap := s.heap.push { cls := .type "tuple", data := .seq ((items.toList.drop (sIx items.size 0 lo)).take (sIx items.size items.size hi - sIx items.size 0 lo)).toArray } })
  (hsz : items.size <= sizeLine) : wpAny (model prog w) A (getItem (.ref t) (.ref sl)) Q E s := by
 have htake : sizeOk (.seq ((items.toList.drop (sIx items.size 0 lo)).take (sIx items.size items.size hi - sIx items.size 0 lo)).toArray) := by
  show ((items.toList.drop (sIx items.size 0 lo)).take (sIx items.size items.size hi - sIx items.size 0 lo)).toArray.size <= sizeLine
  rw [List.size_toArray, List.length_take, List.length_drop, Array.length_toList]
  omega
 have hj : sIx items.size items.size hi <= items.size := e6m _ _ (Nat.le_refl _) hi
 obtain ⟨os, hos, hcs, hds⟩ := id hs
 have hTs : s.TypeIs (.ref sl) "slice" := ⟨os, hos, hcs⟩
 unfold getItem
 try with_reducible refine wpAny_holding ?_
 first | refine wpAny_bind (wpAny_pure ?_) | skip
 refine wpAny_bind (wpAny_sequenceKey ht.typeIs (by decide) ?_)
 refine wpAny_bind (wpAny_callSpecial?_slot (name := Str.ofString "__getitem__") ht.typeIs PyProof.Rows.slot_tuple_getitem
  (wpAny_call_entry PyProof.Rows.slot_tuple_getitem ht.typeIs entry_tuple_getitem ?_ (args_tuple_getitem _ _)))
 show wpAny _ _ (Builtin.Tuple.tupleItemsOf (.ref t) >>= _) _ _ s
 refine wpAny_bind (tupleItemsOf_ ht ?_)
 refine wpAny_bind (wpAny_typeOf hTs ?_)
 rw [if_pos (by decide)]
 refine wpAny_bind (b8p hs pl pu ?_)
 have hno : ¬ ((((sIx items.size 0 lo : Nat) : Int) == 0 && (1 : Int) == 1 && (sIx items.size items.size hi - sIx items.size 0 lo) == items.size) = true) := by
  intro q
  rw [Bool.and_eq_true, Bool.and_eq_true] at q
  have q1 : ((sIx items.size 0 lo : Nat) : Int) = 0 := eq_of_beq q.1.1
  have q2 : sIx items.size items.size hi - sIx items.size 0 lo = items.size := eq_of_beq q.2
  exact hw ⟨by omega, by omega⟩
 show wpAny _ _ (if (((sIx items.size 0 lo : Nat) : Int) == 0 && (1 : Int) == 1 && (sIx items.size items.size hi - sIx items.size 0 lo) == items.size) = true then _ else _) _ _ s
 rw [if_neg hno, e1g]
 first
  | exact wpAny_bind (m := Builtin.Tuple.tupleExact _) (wpAny_newObj_type (wpAny_pure ⟨_, rfl, wpAny_pure h⟩) htake)
  | exact wpAny_bind (m := Builtin.Tuple.tupleExact _) (wpAny_newObj_type (wpAny_bind (wpAny_pure (wpAny_pure ⟨_, rfl, wpAny_pure h⟩))) htake)
  | exact wpAny_bind (wpAny_bind (m := Builtin.Tuple.tupleExact _) (wpAny_newObj_type (wpAny_pure (wpAny_pure ⟨_, rfl, wpAny_pure h⟩)) htake))
  | exact wpAny_bind (wpAny_bind (m := Builtin.Tuple.tupleExact _) (wpAny_newObj_type (wpAny_pure ⟨_, rfl, wpAny_pure h⟩) htake))
end
end HT
namespace L2
open PySem PySem.Spec PyProof.Rows
abbrev TO := St -> Hp -> (Option Int -> Hp -> Prop) -> Prop
def PO (X : Cx) (e : Option Expr) (t : TO) : Prop :=
 ∀ (pins : List (Addr × Obj)) (s : Shared) (σ : St) (H : Hp) (Q : Option Int -> Hp -> Prop), Inv X pins σ H s -> t σ H Q ->
  wpAny (model X.prog X.w) X.A (evalPart e X.env) (fun u s' => ∃ o H', Inv X pins σ H' s' /\ IsPart u o /\ Q o H') X.xe s
def d0n : TO := fun _ H Q => Q none H
def e3r (t : TE) : TO := fun σ H Q => t σ H fun x H1 => ∃ i, x = .int i /\ Q (some i) H1
theorem a9n {ns : List Int} : ∀ {us : List Value}, a4b (ns.map V.int) us -> IntsAre us ns := by
 induction ns with
 | nil => intro us r; rw [List.map_nil] at r; cases r; exact .nil
 | cons n ns ih =>
  intro us r
  rw [List.map_cons] at r
  cases r with
  | cons r1 r2 =>
   obtain ⟨t, e⟩ := r1
   subst e
   exact .cons n t (ih r2)
section
variable {X : Cx} {e : Expr} {te : TE} {lo hi : Option Expr} {tl th : TO} {pos p2 : Pos}
theorem b4c : PO X none d0n := by
 intro pins s σ H Q I h
 rw [evalPart_none]
 exact wpAny_pure ⟨none, H, I, .none, h⟩
theorem b0f (h : PE X e te) : PO X (some e) (e3r te) := by
 intro pins s σ H Q I hw
 rw [evalPart_some]
 refine thn (h pins s σ H _ I hw) fun u s1 ⟨x, H1, I1, r1, q1⟩ => ?_
 obtain ⟨i, rfl, q⟩ := q1
 obtain ⟨t, rfl⟩ := r1
 exact ⟨some i, H1, I1, .int i t, q⟩
def SlR (X : Cx) (r : V -> Option Int -> Option Int -> Hp -> VK -> Prop) : Prop :=
 ∀ (pins : List (Addr × Obj)) (s : Shared) (σ : St) (H : Hp) (x : V) (v vl vu : Value) (lo hi : Option Int) (sl : Addr) (Q : VK), Inv X pins σ H s -> a6m x v -> s.heap.IsSliceOf sl vl vu .none -> IsPart vl lo -> IsPart vu hi -> r x lo hi H Q ->
  ∃ T id, typeLookup (.type T) "__getitem__" = pure (some (.builtin id)) /\ s.TypeIs v T /\ wpAny (model X.prog X.w) X.A (getItem v (.ref sl)) (EP X pins σ Q) X.xe s
def tSl (r : V -> Option Int -> Option Int -> Hp -> VK -> Prop) (te : TE) (tl th : TO) : TE := fun σ H Q => te σ H fun x H1 => tl σ H1 fun l H2 => th σ H2 fun u H3 => r x l u H3 Q
theorem a9a {r : V -> Option Int -> Option Int -> Hp -> VK -> Prop} (hr : SlR X r) (he : PE X e te) (hl : PO X lo tl) (hu : PO X hi th) : PE X (.Subscript e (.Slice lo hi none p2) pos) (tSl r te tl th) := by
 intro pins s σ H Q I h
 refine Subscript_ (thn (he pins s σ H _ I h) fun v s1 ⟨x, H1, I1, r1, q1⟩ => ?_)
 refine wpAny_Slice (thn (hl pins s1 σ H1 _ I1 q1) fun vl s2 ⟨l, H2, I2, pl, q2⟩ => thn (hu pins s2 σ H2 _ I2 q2) fun vu s3 ⟨u, H3, I3, pu, q3⟩ => ?_)
 rw [evalPart_none]
 refine wpAny_pure ?_
 have I4 : Inv X pins σ H3 { s3 with heap := s3.heap.push { cls := .type "slice", data := .fields #[vl, vu, .none] } } := I3.kept (t' := s3.toks) fun b ob q => Heap.get?_push_of_some _ q
 obtain ⟨T, id, hT, ht, hg⟩ := hr pins { s3 with heap := s3.heap.push { cls := .type "slice", data := .fields #[vl, vu, .none] } } σ H3 x v vl vu l u s3.heap.objs.size Q I4 r1 (Heap.IsSliceOf.new ..) pl pu q3
 show wpAny (model X.prog X.w) X.A (subscriptTail e (.Slice lo hi none p2) v (.ref s3.heap.objs.size)) (EP X pins σ Q) X.xe { s3 with heap := s3.heap.push { cls := .type "slice", data := .fields #[vl, vu, .none] } }
 exact tail_any (ops := [.ref s3.heap.objs.size, v]) ht hT hg (by with_unfolding_all rfl)
def b3k (xs : List V) (lo hi : Option Int) : List V := (xs.drop (HT.sIx xs.length 0 lo)).take (HT.sIx xs.length xs.length hi - HT.sIx xs.length 0 lo)
theorem c0y (xs : List V) (lo hi : Option Int) : (b3k xs lo hi).length <= xs.length := by
 unfold b3k
 rw [List.length_take, List.length_drop]
 omega
def e9u (K : PySem.W.Frag) : V -> Option Int -> Option Int -> Hp -> VK -> Prop := fun x lo hi H Q => ∃ a xs, x = .ref a /\ SqT K H a xs /\
 ¬ (HT.sIx xs.length 0 lo = 0 /\ HT.sIx xs.length xs.length hi = xs.length) /\ ∀ p, H p = none -> Q (.ref p) (upd H p (.tup (b3k xs lo hi)))
theorem e7d : SlR X (e9u X.K) := by
 intro pins s σ H x v vl vu lo hi sl Q I rx hs pl pu h
 obtain ⟨a, xs, rfl, hx, hw, q⟩ := h
 cases rx
 obtain ⟨its, r, ht, hz⟩ := I.tuple hx
 have hlen : its.toArray.size = xs.length := by rw [List.size_toArray]; exact r.length.symm
 refine ⟨"tuple", _, PyProof.Rows.slot_tuple_getitem.lookup, ht.typeIs, ?_⟩
 refine HT.getItem_tuple_cut ht hs pl pu (by rw [hlen]; exact hw) ?_ (by rw [hlen]; exact hz)
 rw [hlen]
 refine ⟨.ref s.heap.objs.size, _, I.laid (t' := s.toks) (o := .tup (b3k xs lo hi)) (fun b ob q => Heap.get?_push_of_some _ q) (Nat.le_refl _) ?_, rfl, q _ (I.hok.fresh (Nat.le_refl _))⟩
 exact ⟨Nat.le_trans (c0y xs lo hi) hz, _, (r.drop (HT.sIx xs.length 0 lo)).take (HT.sIx xs.length xs.length hi - HT.sIx xs.length 0 lo), IsTup.new _ _⟩
def e7o (K : PySem.W.Frag) : R2 := fun x y H Q => ∃ a b xs ys, x = .ref a /\ y = .ref b /\ SqT K H a xs /\ SqT K H b ys /\ xs ≠ [] /\ xs.length + ys.length <= sizeLine /\
 (ys = [] -> Q (.ref a) H) /\ (ys ≠ [] -> ∀ p, H p = none -> Q (.ref p) (upd H p (.tup (xs ++ ys))))
theorem a4b.nil_iff {xs : List V} {us : List Value} (r : a4b xs us) : us = [] ↔ xs = [] := by
 cases r with
 | nil => simp
 | cons _ _ => simp
theorem e4g : OpR X (binaryOp .Add) (e7o X.K) := by
 intro pins s σ H x y v u Q I rx ry h
 obtain ⟨a, b, xs, ys, rfl, rfl, ha, hb, hx, hz, q1, q2⟩ := h
 cases rx
 cases ry
 obtain ⟨its, r1, p1, _⟩ := I.tuple ha
 obtain ⟨its2, r2, p2, _⟩ := I.tuple hb
 refine HT.cat_tup p1 p2 (fun z => hx (r1.nil_iff.mp z)) (fun z => ⟨.ref a, H, I, rfl, q1 (r2.nil_iff.mp z)⟩) (fun z => ?_) (by rw [← r1.length, ← r2.length]; exact hz)
 refine ⟨.ref s.heap.objs.size, _, I.laid (t' := s.toks) (o := .tup (xs ++ ys)) (fun b ob q => Heap.get?_push_of_some _ q) (Nat.le_refl _) ?_, rfl, q2 (fun w => z (r2.nil_iff.mpr w)) _ (I.hok.fresh (Nat.le_refl _))⟩
 exact ⟨by rw [List.length_append]; exact hz, _, r1.append r2, IsTup.new _ _⟩
end
end L2
namespace L2
open PySem PySem.Spec PyProof.Rows
def ixN (n : Nat) (i : Int) : Option Nat := if 0 <= i then (if i < n then some i.toNat else none) else if -(n : Int) <= i then some (i + n).toNat else none
def atI {α : Type} (xs : List α) (i : Int) : Option α := (ixN xs.length i).bind fun j => xs[j]?
theorem d4y {n : Nat} {i : Int} {j : Nat} (h : ixN n i = some j) : seqIndex? i n = some j /\ j < n /\ -(n : Int) <= i /\ i < n := by
 unfold ixN at h
 by_cases h0 : 0 <= i
 · rw [if_pos h0] at h
   by_cases h1 : i < n
   · rw [if_pos h1] at h
     have e : i.toNat = j := Option.some.inj h
     exact ⟨by rw [seqIndex_of h0 h1, e], by omega, by omega, h1⟩
   · rw [if_neg h1] at h; cases h
 · rw [if_neg h0] at h
   by_cases h1 : -(n : Int) <= i
   · rw [if_pos h1] at h
     have e : (i + n).toNat = j := Option.some.inj h
     exact ⟨by rw [seqIndex_neg (by omega) h1, e], by omega, h1, by omega⟩
   · rw [if_neg h1] at h; cases h
theorem d8u {α : Type} {xs : List α} {i : Int} {v : α} (h : atI xs i = some v) : ∃ j, seqIndex? i xs.length = some j /\ xs[j]? = some v /\ j < xs.length /\ -(xs.length : Int) <= i /\ i < xs.length := by
 unfold atI at h
 cases e : ixN xs.length i with
 | none => rw [e] at h; cases h
 | some j =>
  rw [e] at h
  obtain ⟨h1, h2, h3, h4⟩ := d4y e
  exact ⟨j, h1, h, h2, h3, h4⟩
theorem c0d {α : Type} {xs : List α} {j : Nat} {v : α} (h : xs[j]? = some v) : atI xs (j : Int) = some v := by
 have hj : j < xs.length := (List.getElem?_eq_some_iff.mp h).1
 have e : ixN xs.length (j : Int) = some j := by
  unfold ixN
  rw [if_pos (by omega), if_pos (by omega)]; simp
 unfold atI; rw [e]; exact h
def c5a (b : Expr) : Prop := ∀ o i, subscripted b false o i = operate [o, i] (getItem o i)
def IxR (X : Cx) (r : R2) : Prop :=
 ∀ (value slice : Expr) (pins : List (Addr × Obj)) (s : Shared) (σ : St) (H : Hp) (x y : V) (v u : Value) (Q : VK), Inv X pins σ H s -> a6m x v -> a6m y u -> r x y H Q ->
  subscripted slice false v u = operate [v, u] (getItem v u) -> wpAny (model X.prog X.w) X.A (subscriptTail value slice v u) (EP X pins σ Q) X.xe s
def MtR (X : Cx) (id : String) (r : V -> List V -> Hp -> VK -> Prop) : Prop :=
 ∀ (pins : List (Addr × Obj)) (s : Shared) (σ : St) (H : Hp) (x : V) (xs : List V) (v : Value) (us : List Value) (Q : VK), Inv X pins σ H s -> a6m x v -> a4b xs us -> r x xs H Q ->
  wpAny (model X.prog X.w) X.A (call (.builtin id) (v :: us)) (EP X pins σ Q) X.xe s
section
variable {X : Cx} {a b : Expr} {ta tb : TE} {pos : Pos}
theorem e4q {r : R2} (hr : IxR X r) (ha : PE X a ta) (hb : PE X b tb) (hs : c5a b) : PE X (.Subscript a b pos) (tOp r ta tb) := by
 intro pins s σ H Q I h
 exact Subscript_ (e8d ha hb I h fun v u s2 x y H2 I2 rx ry q => hr a b pins s2 σ H2 x y v u Q I2 rx ry q (hs _ _))
def e4y (K : PySem.W.Frag) : R2 := fun x y H Q => ∃ p xs i v, x = .ref p /\ y = .int i /\ SqL K H p xs /\ atI xs i = some v /\ Q v H
def e6f (K : PySem.W.Frag) : R2 := fun x y H Q => ∃ p xs i v, x = .ref p /\ y = .int i /\ SqT K H p xs /\ atI xs i = some v /\ Q v H
theorem e2u : IxR X (e4y X.K) := by
 intro value slice pins s σ H x y v u Q I rx ry h hs
 obtain ⟨p, xs, i, z, rfl, rfl, hq, he, q⟩ := h
 cases rx
 obtain ⟨t, rfl⟩ := ry
 obtain ⟨its, r, pl, hz⟩ := I.list hq
 obtain ⟨j, h1, h2, h3, h4, h5⟩ := d8u he
 obtain ⟨w, ew, rw'⟩ := r.get h2
 have hl := r.length
 have hn := d2a
 have fin : EP X pins σ Q w s := ⟨z, H, I, rw', q⟩
 by_cases h0 : 0 <= i
 · have hj : i.toNat = j := by
    rw [seqIndex_of h0 h5] at h1
    exact Option.some.inj h1
   exact item_listR pl.isList h0 (by omega) (by rw [hj]; simpa using ew) fin hs
 · have hj : (i + (its.toArray.size : Int)).toNat = j := by
    rw [seqIndex_neg (by omega) h4] at h1
    rw [List.size_toArray, ← hl]
    exact Option.some.inj h1
   exact subscriptTail_builtinR (x := w) pl.isList.typeIs slot_list_getitem.lookup
    (wpAny_getItem_list_neg (Q := fun r s' => r = w /\ EP X pins σ Q r s') pl.isList (by omega) (by rw [List.size_toArray] <;> omega) (by omega) (by rw [hj]; simpa using ew) ⟨rfl, fin⟩) hs
theorem e6t : IxR X (e6f X.K) := by
 intro value slice pins s σ H x y v u Q I rx ry h hs
 obtain ⟨p, xs, i, z, rfl, rfl, hq, he, q⟩ := h
 cases rx
 obtain ⟨t, rfl⟩ := ry
 obtain ⟨its, r, pl, hz⟩ := I.tuple hq
 obtain ⟨j, h1, h2, h3, h4, h5⟩ := d8u he
 obtain ⟨w, ew, rw'⟩ := r.get h2
 have hl := r.length
 have hn := d2a
 have fin : EP X pins σ Q w s := ⟨z, H, I, rw', q⟩
 exact subscriptTail_builtinR (x := w) pl.typeIs slot_tuple_getitem.lookup
  (getItem_tuple (j := j) (Q := fun r s' => r = w /\ EP X pins σ Q r s') pl (by omega) (by omega) (by rw [List.size_toArray, ← hl]; exact h1) (by simpa using ew) ⟨rfl, fin⟩) hs
theorem d4c (its : List Value) (n j : Nat) (u : Value) : Obj.mapSeq (·.setIfInBounds j u) { cls := .type "list", data := .seq its.toArray n } = { cls := .type "list", data := .seq (its.set j u).toArray n } := by
 simp [Obj.mapSeq]
theorem Inv.lst {pins : List (Addr × Obj)} {σ : St} {H : Hp} {s : Shared} {p : Addr} {xs : List V} (I : Inv X pins σ H s) (h : H p = some (.lst xs)) :
  ∃ (its : List Value) (n : Nat), a4b xs its /\ s.heap.get? p = some { cls := .type "list", data := .seq its.toArray n } /\ xs.length <= sizeLine := by
 obtain ⟨z, its, n, r, e⟩ := I.hok p _ h
 exact ⟨its, n, r, e, z⟩
theorem Inv.lstUpd {pins : List (Addr × Obj)} {σ : St} {H : Hp} {s : Shared} {p : Addr} {xs ys : List V} {its its' : List Value} {n n' : Nat} {f : Obj -> Obj} (I : Inv X pins σ H s) (h : H p = some (.lst xs))
  (ho : s.heap.get? p = some { cls := .type "list", data := .seq its.toArray n }) (hf : f { cls := .type "list", data := .seq its.toArray n } = { cls := .type "list", data := .seq its'.toArray n' }) (r : a4b ys its') (hz : ys.length <= sizeLine) (t : Nat) :
  Inv X pins σ (upd H p (.lst ys)) { s with heap := s.heap.update p f, toks := t } := by
 have e : (s.heap.update p f).get? p = some { cls := .type "list", data := .seq its'.toArray n' } := by
  rw [Heap.get?_update_self f ho (by rw [hf] <;> rfl), hf]
 refine I.write (x := p) (e := p) (by rw [h]; trivial) (.inl rfl) (fun b u hb q => (Heap.get?_update_other _ _ (Ne.symm hb)).trans q) ⟨_, e⟩ ?_
 exact ⟨hz, its', n', r, e⟩
def e9j : V -> V -> V -> Hp -> (Hp -> Prop) -> Prop := fun o i v H Q => ∃ p xs k j, o = .ref p /\ i = .int k /\ H p = some (.lst xs) /\ ixN xs.length k = some j /\ Q (upd H p (.lst (xs.set j v)))
theorem d2u : e9r X e9j := by
 intro pins s σ H o i v ov iv u Q I ro ri rv h
 obtain ⟨p, xs, k, j, rfl, rfl, hp, hj, q⟩ := h
 cases ro
 obtain ⟨t, rfl⟩ := ri
 obtain ⟨its, n, r, ho, hz⟩ := I.lst hp
 obtain ⟨h1, h2, h3, h4⟩ := d4y hj
 have hl := r.length
 have hn := d2a
 have I' : Inv X pins σ (upd H p (.lst (xs.set j v))) { s with heap := s.heap.update p (Obj.mapSeq (·.setIfInBounds j u)) } :=
  I.lstUpd hp ho (d4c its n j u) (r.set rv j) (by rw [List.length_set]; exact hz) s.toks
 by_cases h0 : 0 <= k
 · have hk : k.toNat = j := by
    rw [seqIndex_of h0 h4] at h1
    exact Option.some.inj h1
   exact PySem.W.ki_setAt ho h0 (by omega) (by rw [List.size_toArray, ← hl]; exact h4) (by rw [hk]; exact ⟨_, I', q⟩)
 · have hk : (k + (its.toArray.size : Int)).toNat = j := by
    rw [seqIndex_neg (by omega) h3] at h1
    rw [List.size_toArray, ← hl]
    exact Option.some.inj h1
   exact PySem.W.ki_setBack ho (by omega) (by rw [List.size_toArray, ← hl]; exact h3) (by omega) (by rw [hk]; exact ⟨_, I', q⟩)
theorem c7q (lo hi : Option Int) (n : Nat) : (sliceBounds lo hi none n).1 = ((HT.sIx n 0 lo : Nat) : Int) /\ (sliceBounds lo hi none n).2.1 = ((HT.sIx n n hi : Nat) : Int) /\ (sliceBounds lo hi none n).2.2 = 1 := by
 refine ⟨?_, ?_, rfl⟩
 · cases lo with
   | none => simp [sliceBounds, HT.sIx]
   | some i =>
    simp only [sliceBounds, HT.sIx, Option.getD_none, show (1 : Int) > 0 by decide, if_true]
    by_cases h : i < 0
    · simp only [h, if_true] <;> omega
    · simp only [h, if_false] <;> omega
 · cases hi with
   | none => simp [sliceBounds, HT.sIx]
   | some i =>
    simp only [sliceBounds, HT.sIx, Option.getD_none, show (1 : Int) > 0 by decide, if_true]
    by_cases h : i < 0
    · simp only [h, if_true] <;> omega
    · simp only [h, if_false] <;> omega
theorem c3f (its : List Value) (lo hi : Option Int) : slicePick its.toArray lo hi none = ((its.drop (HT.sIx its.length 0 lo)).take (HT.sIx its.length its.length hi - HT.sIx its.length 0 lo)).toArray := by
 obtain ⟨h1, h2, h3⟩ := c7q lo hi its.toArray.size
 unfold slicePick
 rw [h1, h2, h3]
 simp only [sliceRange_one, pick_run, List.size_toArray] <;> rfl
def e9v (K : PySem.W.Frag) : V -> Option Int -> Option Int -> Hp -> VK -> Prop := fun x lo hi H Q => ∃ a xs, x = .ref a /\ SqL K H a xs /\ ∀ p, H p = none -> Q (.ref p) (upd H p (.lst (b3k xs lo hi)))
theorem e2x : SlR X (e9v X.K) := by
 intro pins s σ H x v vl vu lo hi sl Q I rx hs pl pu h
 obtain ⟨a, xs, rfl, hx, q⟩ := h
 cases rx
 obtain ⟨its, r, ht, hz⟩ := I.list hx
 have hlen := r.length
 refine ⟨"list", _, slot_list_getitem.lookup, ht.isList.typeIs, ?_⟩
 refine wpAny_getItem_list_slice ht.isList hs pl pu .none (by simp) ?_ (by rw [List.size_toArray] <;> omega)
 rw [c3f, ← hlen]
 refine ⟨.ref s.heap.objs.size, _, I.laid (t' := s.toks) (o := .lst (b3k xs lo hi)) (fun b ob q => Heap.get?_push_of_some _ q) (Nat.le_refl _) ?_, rfl, q _ (I.hok.fresh (Nat.le_refl _))⟩
 exact ⟨Nat.le_trans (c0y xs lo hi) hz, _, 0, (r.drop (HT.sIx xs.length 0 lo)).take (HT.sIx xs.length xs.length hi - HT.sIx xs.length 0 lo), Heap.get?_push_size _ rfl⟩
def c8x : V -> Bool
 | .non => true
 | .bl _ => true
 | .int _ => true
 | .str _ => true
 | _ => false
def eqV : V -> V -> Bool
 | .non, .non => true
 | .bl a, .bl b => a == b
 | .bl a, .int b => (if a then 1 else 0) == b
 | .int a, .bl b => a == (if b then 1 else 0)
 | .int a, .int b => a == b
 | .str a, .str b => a == b
 | _, _ => false
theorem e7j {A : Around} {s : Shared} {y x : V} {u v : Value} (ry : a6m y u) (rx : a6m x v) (fy : c8x y = true) (fx : c8x x = true) : SeqAt.EqAt A s u v (eqV y x) := by
 cases y with
 | non =>
  cases ry
  cases x with
  | non => cases rx; exact SeqAt.EqAt.same _
  | bl b => cases rx; exact SeqAt.EqAt.none_bool b
  | int b => obtain ⟨t, rfl⟩ := rx; exact SeqAt.EqAt.none_int b t
  | str b => obtain ⟨t, rfl⟩ := rx; exact SeqAt.EqAt.none_str b t
  | _ => exact absurd (show false = true from fx) Bool.false_ne_true
 | bl a =>
  cases ry
  cases x with
  | non => cases rx; exact SeqAt.EqAt.bool_none a
  | bl b => cases rx; exact SeqAt.EqAt.bool_bool a b
  | int b => obtain ⟨t, rfl⟩ := rx; exact SeqAt.EqAt.bool_int a b t
  | str b => obtain ⟨t, rfl⟩ := rx; exact SeqAt.EqAt.bool_str a b t
  | _ => exact absurd (show false = true from fx) Bool.false_ne_true
 | int a =>
  obtain ⟨t', rfl⟩ := ry
  cases x with
  | non => cases rx; exact SeqAt.EqAt.int_none a t'
  | bl b => cases rx; exact SeqAt.EqAt.int_bool a t' b
  | int b => obtain ⟨t, rfl⟩ := rx; exact SeqAt.EqAt.int_int a t' b t
  | str b => obtain ⟨t, rfl⟩ := rx; exact SeqAt.EqAt.int_str a t' b t
  | _ => exact absurd (show false = true from fx) Bool.false_ne_true
 | str a =>
  obtain ⟨t', rfl⟩ := ry
  cases x with
  | non => cases rx; exact SeqAt.EqAt.str_none a t'
  | bl b => cases rx; exact SeqAt.EqAt.str_bool a t' b
  | int b => obtain ⟨t, rfl⟩ := rx; exact SeqAt.EqAt.str_int a t' b t
  | str b => obtain ⟨t, rfl⟩ := rx; exact SeqAt.EqAt.str_str a t' b t
  | _ => exact absurd (show false = true from fx) Bool.false_ne_true
 | _ => exact absurd (show false = true from fy) Bool.false_ne_true
def eqU (x : V) (u : Value) : Bool := match u with
 | .none => eqV .non x
 | .bool b => eqV (.bl b) x
 | .int i _ => eqV (.int i) x
 | .str z _ => eqV (.str z) x
 | _ => false
theorem e1u {x y : V} {u : Value} (r : a6m y u) (f : c8x y = true) : eqU x u = eqV y x := by
 cases y with
 | non => cases r; rfl
 | bl b => cases r; rfl
 | int i => obtain ⟨t, rfl⟩ := r; rfl
 | str z => obtain ⟨t, rfl⟩ := r; rfl
 | _ => exact absurd (show false = true from f) Bool.false_ne_true
theorem c9y {x : V} : ∀ {xs : List V} {us : List Value}, a4b xs us -> xs.all c8x = true -> us.any (eqU x) = xs.any fun y => eqV y x
 | _, _, .nil, _ => rfl
 | y :: xs, u :: us, .cons r t, f => by
  rw [List.all_cons, Bool.and_eq_true] at f
  rw [List.any_cons, List.any_cons, e1u r f.1, c9y t f.2]
theorem c3m {A : Around} {s : Shared} {x : V} {v : Value} (rx : a6m x v) (fx : c8x x = true) : ∀ {xs : List V} {us : List Value}, a4b xs us -> xs.all c8x = true -> ∀ u ∈ us, SeqAt.EqAt A s u v (eqU x u)
 | _, _, .nil, _ => fun u hu => by cases hu
 | y :: xs, u :: us, .cons r t, f => fun u' hu => by
  rw [List.all_cons, Bool.and_eq_true] at f
  rcases List.mem_cons.mp hu with rfl | hu
  · rw [e1u r f.1]; exact e7j r rx f.1 fx
  · exact c3m rx fx t f.2 u' hu
def inV (x : V) (xs : List V) : Bool := xs.any fun y => eqV y x
def rIn (K : PySem.W.Frag) (neg : Bool) : R2 := fun x y H Q => ∃ p xs, y = .ref p /\ (SqL K H p xs \/ SqT K H p xs) /\ c8x x = true /\ xs.all c8x = true /\ Q (.bl (if neg then !inV x xs else inV x xs)) H
theorem c5p : OpR X (compareOp .NotIn) (rIn X.K true) := by
 intro pins s σ H x y v u Q I rx ry h
 obtain ⟨p, xs, rfl, hq, fx, fs, q⟩ := h
 cases ry
 rcases hq with hq | hq
 · obtain ⟨its, r, pl, hz⟩ := I.list hq
   refine SeqAt.notIn_listAt (eqU x) pl.isList (fun w hw => c3m rx fx r fs w (by simpa using hw)) ⟨.bl _, H, I, rfl, ?_⟩
   rw [show its.toArray.any (eqU x) = its.any (eqU x) by simp, c9y r fs]
   exact q
 · obtain ⟨its, r, pl, hz⟩ := I.tuple hq
   refine SeqAt.notIn_tupleAt (eqU x) pl (fun w hw => c3m rx fx r fs w (by simpa using hw)) ⟨.bl _, H, I, rfl, ?_⟩
   rw [show its.toArray.any (eqU x) = its.any (eqU x) by simp, c9y r fs]
   exact q
theorem c8n : b8o X (.builtin "len") (fun xs H Q => ∃ p ys, xs = [.ref p] /\ (SqL X.K H p ys \/ SqT X.K H p ys) /\ Q (.int ys.length) H) := by
 intro pins s σ H xs us Q I r h
 obtain ⟨p, ys, rfl, hq, q⟩ := h
 obtain ⟨u, rfl, rx⟩ := e3t r
 cases rx
 have hn := d2a
 rcases hq with hq | hq
 · obtain ⟨its, r', pl, hz⟩ := I.list hq
   have hlen := r'.length
   exact Calls.call_len_list pl.isList (by simp only [List.size_toArray] <;> omega) ⟨.int ys.length, H, I.tok _, ⟨s.toks + 1, by rw [List.size_toArray, hlen]⟩, q⟩
 · obtain ⟨its, r', pl, hz⟩ := I.tuple hq
   have hlen := r'.length
   exact len_tuple pl (by simp only [List.size_toArray] <;> omega) ⟨.int ys.length, H, I.tok _, ⟨s.toks + 1, by rw [List.size_toArray, hlen]⟩, q⟩
theorem c6t : b8o X (.type "list") (fun xs H Q => ∃ p ys, xs = [.ref p] /\ (SqL X.K H p ys \/ SqT X.K H p ys) /\ ∀ l, H l = none -> Q (.ref l) (upd H l (.lst ys))) := by
 intro pins s σ H xs us Q I r h
 obtain ⟨p, ys, rfl, hq, q⟩ := h
 obtain ⟨u, rfl, rx⟩ := e3t r
 cases rx
 have fin : ∀ (its : List Value), a4b ys its -> ys.length <= sizeLine -> ∀ (h' : Heap) (c' : Nat), (∀ b o', s.heap.get? b = some o' -> h'.get? b = some o') ->
   h'.get? s.heap.objs.size = some { cls := .type "list", dict := none, data := .seq its.toArray c', slots := #[] } -> EP X pins σ Q (.ref s.heap.objs.size) { s with heap := h' } := fun its r' hz h' c' kp e =>
  ⟨.ref s.heap.objs.size, _, I.laid (t' := s.toks) kp (Nat.le_refl _) (show a9p X.prog X.w _ h' _ (.lst ys) from ⟨hz, its, c', r', e⟩), rfl, q _ (I.hok.fresh (Nat.le_refl _))⟩
 rcases hq with hq | hq
 · obtain ⟨its, r', pl, hz⟩ := I.list hq
   have hlen := r'.length
   obtain ⟨o, ho, hc, n, hd⟩ := pl.isList
   exact call_list_seq p (.inl rfl) ho hc hd (fun h' c' kp e => fin its r' hz h' c' kp e) (by simp only [List.size_toArray] <;> omega)
 · obtain ⟨its, r', pl, hz⟩ := I.tuple hq
   have hlen := r'.length
   obtain ⟨o, ho, hc, n, hd⟩ := pl
   exact call_list_seq p (.inr rfl) ho hc hd (fun h' c' kp e => fin its r' hz h' c' kp e) (by simp only [List.size_toArray] <;> omega)
theorem c4j : b8o X (.type "tuple") (fun xs H Q => ∃ p ys, xs = [.ref p] /\ ((SqL X.K H p ys /\ ∀ l, H l = none -> Q (.ref l) (upd H l (.tup ys))) \/ (SqT X.K H p ys /\ Q (.ref p) H))) := by
 intro pins s σ H xs us Q I r h
 obtain ⟨p, ys, rfl, h⟩ := h
 obtain ⟨u, rfl, rx⟩ := e3t r
 cases rx
 rcases h with ⟨hq, q⟩ | ⟨hq, q⟩
 · obtain ⟨its, r', pl, hz⟩ := I.list hq
   have hlen := r'.length
   refine call_tuple_list pl.isList (fun h' kp => ?_) (by simp only [List.size_toArray] <;> omega)
   have I1 : Inv X pins σ H { s with heap := h' } := I.kept (t' := s.toks) kp
   have I2 : Inv X pins σ (upd H h'.objs.size (.tup ys)) { s with heap := h'.push { cls := .type "tuple", data := .seq its.toArray } } :=
    I1.laid (t' := s.toks) (fun b o e => Heap.get?_push_of_some _ e) (Nat.le_refl _) (show a9p X.prog X.w _ _ _ (.tup ys) from ⟨hz, its, r', IsTup.new _ _⟩)
   exact ⟨.ref h'.objs.size, _, I2, rfl, q _ (I1.hok.fresh (Nat.le_refl _))⟩
 · obtain ⟨its, r', pl, hz⟩ := I.tuple hq
   exact call_tuple_same pl ⟨.ref p, H, I, rfl, q⟩
def tyV (K : PySem.W.Frag) (T : String) (x : V) (H : Hp) : Prop := match x with
 | .str _ => T = "str"
 | .int _ => T = "int"
 | .ref p => (T = "list" /\ ∃ xs, SqL K H p xs) \/ (T = "tuple" /\ ∃ o, K.lookup p = some o /\ o.cls = .type "tuple" /\ o.dict = none) \/
   (T = "dict" /\ ((∃ kvs, H p = some (.dK kvs)) \/ ∃ kvs, H p = some (.dT kvs))) \/ (T = "set" /\ ∃ S n, H p = some (.set S n))
 | _ => False
theorem e5h {pins : List (Addr × Obj)} {σ : St} {H : Hp} {s : Shared} {T : String} {x : V} {v : Value} (I : Inv X pins σ H s) (r : a6m x v) (ty : tyV X.K T x H) :
  s.TypeIs v T /\ ∀ a, v = .ref a -> ∃ ob, s.heap.get? a = some ob /\ ob.dict = none := by
 cases x with
 | str z =>
  obtain ⟨t, rfl⟩ := r
  cases (show T = "str" from ty)
  exact ⟨typeIs_str s z t, fun _ e => nomatch e⟩
 | int i =>
  obtain ⟨t, rfl⟩ := r
  cases (show T = "int" from ty)
  exact ⟨typeIs_int s i t, fun _ e => nomatch e⟩
 | ref p =>
  cases r
  rcases ty with ⟨rfl, xs, hq⟩ | ⟨rfl, o, hk, hc, hd⟩ | ⟨rfl, hk⟩ | ⟨rfl, S, n, hk⟩
  · obtain ⟨its, _, pl, _⟩ := I.list hq
    refine ⟨pl.isList.typeIs, fun a e => ?_⟩
    cases e
    obtain ⟨o, n, e, c, hd, _⟩ := pl
    exact ⟨o, e, hd⟩
  · refine ⟨⟨o, I.kIn p o hk, hc⟩, fun a e => ?_⟩
    cases e
    exact ⟨o, I.kIn _ o hk, hd⟩
  · have z : ∃ o, s.heap.get? p = some o /\ o.ExactDict := by
     rcases hk with ⟨kvs, hk⟩ | ⟨kvs, hk⟩
     · obtain ⟨_, _, _, _, o, _, _, e, ex, _⟩ := I.hok p _ hk
       exact ⟨o, e, ex⟩
     · obtain ⟨_, _, _, _, o, _, _, e, ex, _⟩ := I.hok p _ hk
       exact ⟨o, e, ex⟩
    obtain ⟨o, e, ex⟩ := z
    refine ⟨⟨o, e, ex.1⟩, fun a e2 => ?_⟩
    cases e2
    exact ⟨o, e, ex.2.1⟩
  · obtain ⟨o, _, _, _, e, ex, _⟩ := I.hok p _ hk
    refine ⟨⟨o, e, ex.1⟩, fun a e2 => ?_⟩
    cases e2
    exact ⟨o, e, ex.2.1⟩
 | _ => exact False.elim ty
def tBM (K : PySem.W.Frag) (T : String) (r : V -> List V -> Hp -> VK -> Prop) (to : TE) (t : TA) : TE := fun σ H Q => to σ H fun x H1 => tyV K T x H1 /\ t σ H1 fun xs H2 => r x xs H2 Q
variable {o e : Expr} {es : List Expr} {to : TE} {t : TA} {name : Str} {apos cpos : Pos} {T id : String} {r : V -> List V -> Hp -> VK -> Prop}
theorem c7u (pa : PlainAttrs T) (slot : Slot T name id) (hty : typeOf (.builtin id) = pure (.type "method_descriptor")) (hm : MtR X id r) (ho : PE X o to) (ha : PA X (e :: es) t)
  (hbase : attributeBase o name X.env (eval o X.env) = eval o X.env := by rfl)
  (hfew : ((backTo cpos (starEach (e :: es) X.env)).all (fun x => !x.1) && (backToKw cpos (keywordEach [] X.env)).all (fun x => x.1.isSome)
   && decide ((e :: es).length + ([] : List Keyword).length + (if ([] : List Keyword).isEmpty then 0 else 1) < 30)) = true := by rfl)
  (hline : (apos.endLine == cpos.line) = true := by rfl) (hs : starEach (e :: es) X.env = (false, eval e X.env) :: starEach es X.env := by rfl) (hplain : (backTo cpos (starEach es X.env)).any (·.1) = false := by rfl) :
  PE X (.Call (.Attribute o name apos) (e :: es) [] cpos) (tBM X.K T r to t) := by
 intro pins s σ H Q I h
 refine wpAny_Call_method_late hbase hfew hline rfl (thn (ho pins s σ H _ I h) fun v s1 ⟨x, H1, I1, r1, ty, q1⟩ => ?_)
 obtain ⟨h1, h2⟩ := e5h I1 r1 ty
 refine ⟨T, id, pa, slot, hty, h1, h2, ?_⟩
 have hA := ha cpos pins s1 σ H1 _ I1 q1
 rw [hs] at hA ⊢
 refine Calls.callWith_builtin (by show (false || (backTo cpos (starEach es X.env)).any (·.1)) = false; rw [hplain] <;> rfl) (Calls.evalArgs_plain ?_)
 exact thn hA fun us s2 ⟨vs, H2, I2, r2, q2⟩ => hm pins s2 σ H2 x vs v us Q I2 r1 r2 q2
end
end L2
namespace L2
open PySem PySem.Spec PyProof.Rows
def MtM (X : Cx) (id : String) (r : V -> List V -> Hp -> VK -> Prop) : Prop :=
 ∀ (pins : List (Addr × Obj)) (s : Shared) (σ : St) (H : Hp) (x : V) (xs : List V) (v : Value) (us : List Value) (Q : VK), Inv X pins σ H s -> a6m x v -> a4b xs us -> r x xs H Q ->
  wpAny (model X.prog X.w) X.A (call (.builtin id) (v :: us)) (EP X pins σ Q) X.xe s
theorem a4b.one : ∀ {x : V} {us : List Value}, a4b [x] us -> ∃ u, us = [u] /\ a6m x u
 | _, _, .cons r .nil => ⟨_, rfl, r⟩
theorem a4b.two : ∀ {x y : V} {us : List Value}, a4b [x, y] us -> ∃ u v, us = [u, v] /\ a6m x u /\ a6m y v
 | _, _, _, .cons r (.cons q .nil) => ⟨_, _, rfl, r, q⟩
theorem a4b.eraseIdx : ∀ {xs : List V} {us : List Value} (i : Nat), a4b xs us -> a4b (xs.eraseIdx i) (us.eraseIdx i)
 | _, _, _, .nil => .nil
 | _, _, 0, .cons _ t => t
 | _, _, i + 1, .cons r t => .cons r (a4b.eraseIdx i t)
section
variable {X : Cx} {pins : List (Addr × Obj)} {σ : St} {H : Hp} {s : Shared} {l b : Addr} {xs ys zs : List V}
theorem Inv.lset {its its' : List Value} {n : Nat} {f : Array Value -> Array Value} {t' : Nat} (I : Inv X pins σ H s) (hH : H l = some (.lst xs))
  (e : s.heap.get? l = some { cls := .type "list", data := .seq its.toArray n }) (hf : f its.toArray = its'.toArray) (hv : a4b ys its') (hz : ys.length <= sizeLine) :
  Inv X pins σ (upd H l (.lst ys)) { s with heap := s.heap.update l (Obj.mapSeq f), toks := t' } := by
 have q := PySem.IsL.update e f
 rw [hf] at q
 refine I.write (x := l) (e := l) (by rw [hH]; exact trivial) (.inl rfl) (fun b' u hb hu => (Heap.get?_update_other s.heap (Obj.mapSeq f) (Ne.symm hb)).trans hu) ⟨_, q⟩ ?_
 exact ⟨hz, its', _, hv, q⟩
theorem Inv.lnew {its : List Value} {t' : Nat} (I : Inv X pins σ H s) (hv : a4b ys its) (hz : ys.length <= sizeLine) :
  Inv X pins σ (upd H s.heap.objs.size (.lst ys)) { s with heap := s.heap.push { cls := .type "list", data := .seq its.toArray }, toks := t' } :=
 I.laid (fun _ _ q => Heap.get?_push_of_some _ q) (Nat.le_refl _) ⟨hz, its, 0, hv, Heap.get?_push_size _ rfl⟩
theorem Inv.fresh (I : Inv X pins σ H s) : H s.heap.objs.size = none := I.hok.fresh (Nat.le_refl _)
theorem Inv.lstM (I : Inv X pins σ H s) (hH : H l = some (.lst xs)) : xs.length <= sizeLine /\ ∃ (its : List Value) (n : Nat), a4b xs its /\ xs.length = its.length /\ s.heap.get? l = some { cls := .type "list", data := .seq its.toArray n } := by
 obtain ⟨z, its, n, r, e⟩ := I.hok l _ hH
 exact ⟨z, its, n, r, r.length, e⟩
end
section
variable {X : Cx}
def e2v : V -> List V -> Hp -> VK -> Prop := fun x vs H Q => ∃ l xs y, x = .ref l /\ vs = [y] /\ H l = some (.lst xs) /\ xs.length < sizeLine /\ Q .non (upd H l (.lst (xs ++ [y])))
theorem a4t : MtM X "list.append" e2v := by
 intro pins s σ H x vs v us Q I rx rv h
 obtain ⟨l, xs, y, rfl, rfl, hH, hz, q⟩ := h
 cases rx
 obtain ⟨u, rfl, ru⟩ := rv.one
 obtain ⟨z, its, n, r, hl, e⟩ := I.lstM hH
 refine call_meets F.slot_list_append ⟨_, e, rfl⟩ F.entry_list_append (F.args_list_append_2 _ _) (PySem.list_append l its.toArray n u (by rw [List.size_toArray]; omega)) ⟨e, ?_⟩
 refine ⟨.non, _, I.lset (its' := its ++ [u]) hH e (by simp) (r.append (.cons ru .nil)) ?_, rfl, q⟩
 rw [List.length_append, List.length_singleton]
 omega
def g0g : R2 := fun x y H Q => ∃ l b xs zs, x = .ref l /\ y = .ref b /\ H l = some (.lst xs) /\ H b = some (.lst zs) /\ xs.length + zs.length <= sizeLine /\ ∀ p, H p = none -> Q (.ref p) (upd H p (.lst (xs ++ zs)))
theorem e1r : OpR X (binaryOp .Add) g0g := by
 intro pins s σ H x y v u Q I rx ry h
 obtain ⟨l, b, xs, zs, rfl, rfl, hH, hB, hz, q⟩ := h
 cases rx
 cases ry
 obtain ⟨z, its, n, r, hl, e⟩ := I.lstM hH
 obtain ⟨z2, its2, n2, r2, hl2, e2⟩ := I.lstM hB
 refine PySem.P.add_list e e2 ?_ (by rw [List.size_toArray, List.size_toArray]; omega)
 have ea : its.toArray ++ its2.toArray = (its ++ its2).toArray := by simp
 rw [ea]
 exact ⟨.ref _, _, I.lnew (t' := s.toks) (r.append r2) (by rw [List.length_append]; omega), rfl, q _ I.fresh⟩
end
section
variable {prog : Program} {w : World} {A : Around} {E : Value -> Shared -> Prop} {s : Shared}
end
section
variable {X : Cx}
end
end L2
namespace Att
open PySem PySem.W PySem.Calls PyProof.Rows
theorem c0i {P : Params} {h : Heap} : ∀ (ns : List Int) (vs : List Value), WellAll P h vs (ns.map WData.int) -> IntsAre vs ns := by
 intro ns
 induction ns with
 | nil =>
  intro vs w
  rw [List.map_nil] at w
  cases w
  exact .nil
 | cons n ns ih =>
  intro vs w
  rw [List.map_cons] at w
  cases w with
  | cons a b =>
   cases a
   exact .cons _ _ (ih _ b)
theorem d5o {l : OpenLaw} {n : Nat} (hn : l.most = some n) {P : Params} {h : Heap} {args : List WData} {vals : List Value}
  (hpre : l.row.toRowW.claim.pre args = true) (hwl : WellAll P h vals args) :
  ∃ a vs ns, vals = [Value.ref a] /\ args = [WData.list (ns.map WData.int)] /\ h.get? a = some { cls := .type "list", data := .seq vs.toArray } /\ IntsAre vs ns /\ ns.length <= n := by
 have hsh : WShape.hasAll [] args [.list .int] = true := (pre_splitW hpre).1
 have hc : l.pre.holds [] { args := args } = true := (pre_splitW hpre).2
 obtain ⟨d, r, rfl, h1, h2⟩ := hasAllW_cons hsh
 obtain rfl := hasAllW_nil h2
 obtain ⟨xs, rfl, h3⟩ := hasW_list h1
 obtain ⟨ns, rfl⟩ := items_int h3
 have hlen : ns.length <= n := by
  unfold OpenLaw.pre at hc
  have h4 : (WTm.not (.lt (.lit (.int (n : Int))) (.len (.arg 0)))).holds [] { args := [.list (ns.map .int)] } = true := by
   have h4 := (holds_andW hc).1
   rw [hn] at h4
   exact h4
  have h5 := condW_of h4 (w_not (w_lt w_lit (w_len_list (w_arg rfl))))
  rw [List.length_map] at h5
  refine Nat.le_of_not_lt fun q => ?_
  have q' : (n : Int) < ((ns.length : Nat) : Int) := by omega
  first
   | (rw [decide_eq_true q'] at h5; exact absurd h5 (by decide))
   | (simp at h5; omega)
 cases hwl with
 | cons w1 w2 =>
  cases w2
  cases w1 with
  | list ho hall => exact ⟨_, _, ns, rfl, rfl, ho, c0i ns _ hall, hlen⟩
theorem d8p (l : OpenLaw) (args : List WData) : l.row.toRowW.claim.post args (.bool true) args = true :=
 postW_of (r := l.row.toRowW) (X := (true == true))
  (show WShape.has [] (.bool true) .bool = true by first | rfl | decide | simp [WShape.has, WShape.arms, WShape.armsAll])
  (show (WTm.eq .res (.lit (.bool true))).value [] { args := args, res := some (.bool true), after := args } = some (.bool (true == true)) from w_eq_bool (w_res rfl) w_lit) rfl
theorem attach_call {l : OpenLaw} {n : Nat} {q : Program} {loose : List Str} {XP : (Str -> Option Value) -> Heap -> Prop} {YP : World -> Heap -> Prop} {d : DefRec}
  (hn : l.most = some n) (hdf : d.params.defaults = [])
  (call : ∀ (w : World) (s₀ s₁ : Shared) (mg mb : Str -> Option Value) (fa : Addr) (o : Obj) (pm cd doc : Value) (a : Addr) (vs : List Value) (ns : List Int),
   Ground q loose [] XP w s₀ mg mb s₁.heap -> YP w s₁.heap ->
   s₁.heap.get? fa = some o -> o.data = .func (docDef d.name d.params d.body d.scope pm cd doc) -> s₁.heap.CodeRec cd d.name -> mg d.name = some (.ref fa) ->
   s₁.heap.get? a = some { cls := .type "list", data := .seq vs.toArray } -> IntsAre vs ns -> ns.length <= n -> s₁.gens = #[] ->
   codeAny (model l.prog w) callerA (.call (.ref fa) ⟨[.ref a], []⟩) (fun r s' => r = .ok (.ret (.bool true)) /\ OldK s₁.heap s'.heap /\ s'.os = s₁.os /\ AllBare s'.gens) s₁) :
  WalkO q loose XP YP l.row.toRowW d [] (fun f vs => PySem.call f vs) := by
 intro w s₀ s₁ mg mb G Y fa o pm cd doc dV kV ho hd hcd hD hmg hg args vals as hpre hlay hrd hwl hlo
 obtain rfl : dV = .none := Dflts.none hD hdf
 obtain rfl : kV = .none := Dflts.noKw hD
 obtain ⟨a, vs, ns, rfl, rfl, hobj, hints, hlen⟩ := d5o hn hpre hwl
 refine enter_call (codeAny_mono (call w s₀ s₁ mg mb fa o pm cd doc a vs ns G Y ho (fd_plain hd) hcd hmg hobj hints hlen hg) fun r s' hq => ?_)
 obtain ⟨rfl, h2, h3, h4⟩ := hq
 exact ⟨.inl ⟨.bool true, .bool true, [], rfl, fun _ => rfl, .bool true, d8p l _, fun _ => ⟨List.Pairwise.nil, fun _ hm => (nomatch hm)⟩⟩, h2, h3, h4⟩
section
variable {prog : Program} {w : World} {A : Around} {E : Value -> Shared -> Prop} {s : Shared} {K : Frag}
end
end Att
namespace L2
open PySem PySem.Spec PyProof.Rows
theorem c6d : ∀ {vs : List Value} {ns : List Int}, IntsAre vs ns -> a4b (ns.map V.int) vs
 | _, _, .nil => .nil
 | _, _, .cons n t h => .cons ⟨t, rfl⟩ (c6d h)
def e8n (H : Hp) : Prop := ∀ b, H b = none \/ ∃ o xs, H b = some (.frz o (.lst xs))
theorem d9z {P : Program} {w : World} {K : PySem.W.Frag} {mg mb : Str -> Option Value} {CX : CXT} {k : Nat} {fa a : Addr} {fd : FuncData} {x : Str} {sp : Sp} {s₁ : Shared} {vs : List Value} {ns : List Int}
  (KX : K.In s₁.heap) (hns : s₁.heap.Ns mainGlobals mg) (hb : s₁.heap.Ns builtinsNs mb) (hbb : ∀ x : Str, x ≠ "__name__" -> mb x = bootBuiltins x) (hlim : s₁.heap.NoLimit) (hg : s₁.gens = #[])
  (ha : s₁.heap.get? a = some { cls := .type "list", data := .seq vs.toArray }) (hi : IntsAre vs ns) (hl : ns.length <= sizeLine) (hr : b5x k callerA)
  (F : ∀ base : Heap, K.In base -> base.Ns mainGlobals mg -> c6n P w K mg base CX k fa fd [x] sp) (hbind : ∀ (s : Shared) (u : Value), BindsTo s fd ⟨[u], []⟩ [(x, u)])
  (hsp : ∀ H : Hp, e8n H -> SqL K H a (ns.map V.int) -> sp [.ref a] H (fun v _ => v = .bl true) fun _ _ _ => False)
  (hCX : ∀ H e s', CX [] H s₁ (fun _ _ _ => False) e s' -> False) :
  codeAny (model P w) callerA (.call (.ref fa) ⟨[.ref a], []⟩) (fun r s' => r = .ok (.ret (.bool true)) /\ OldK s₁.heap s'.heap /\ s'.os = s₁.os /\ AllBare s'.gens) s₁ := by
 have rv := c6d hi
 have lenV := hi.length
 -- from an abstract heap in which nothing but the script may be tracked
 have core : ∀ H : Hp, e8n H -> SqL K H a (ns.map V.int) -> HOk P w H s₁.heap -> (∀ b, H b ≠ none -> b = a) -> (H a ≠ none -> K.lookup a = none) ->
   codeAny (model P w) callerA (.call (.ref fa) ⟨[.ref a], []⟩) (fun r s' => r = .ok (.ret (.bool true)) /\ OldK s₁.heap s'.heap /\ s'.os = s₁.os /\ AllBare s'.gens) s₁ := by
  intro H hO hS hok hA hK
  have base_of : ∀ {b : Addr} {o : Obj}, s₁.heap.get? b = some o -> H b = none -> (e0r s₁.heap H).get? b = some o := fun e n => e0v e n
  have noA : ∀ {b : Addr} {o : Obj} {es : Array DictEntry} {ep : Nat}, s₁.heap.get? b = some o -> o.data = .dict es ep -> H b = none := fun {b o es ep} e d => by
   cases q : H b with
   | none => rfl
   | some u =>
    have e' : b = a := hA b (by rw [q]; simp)
    subst e'
    rw [ha] at e; cases e
    have d' : Data.seq vs.toArray _ = Data.dict es ep := d
    cases d'
  have nsK : ∀ {b : Addr} {m : Str -> Option Value}, s₁.heap.Ns b m -> (e0r s₁.heap H).Ns b m := fun {b m} ⟨o, es, ep, e, d, r⟩ => ⟨o, es, ep, base_of e (noA e d), d, r⟩
  have hKb : K.In (e0r s₁.heap H) := fun b o e => base_of (KX b o e) (by
   cases q : H b with
   | none => rfl
   | some u =>
    have e' : b = a := hA b (by rw [q]; simp)
    subst e'
    rw [hK (by rw [q]; simp)] at e; cases e)
  have hM : Mod K mg (e0r s₁.heap H) := ⟨hKb, nsK hns, ⟨mb, nsK hb, hbb⟩, let ⟨mc, h1, h2⟩ := hlim; ⟨mc, nsK h1, h2⟩⟩
  have e0 : e4j P w K mg (e0r s₁.heap H) callerA [] s₁ H := ⟨rfl, hM, fun b o e => e4m e, Nat.le_of_eq (d7j _ _), trivial, fun b hb => absurd (show b ∈ ([] : List Addr) from hb) (by simp), hok, .of_eq hg⟩
  refine codeAny_mono ((F _ hKb (nsK hns)).run callerA [] s₁ H ⟨[.ref a], []⟩ [.ref a] [.ref a] _ _ hr e0 (hbind s₁ (.ref a)) (.cons rfl .nil) (hsp H hO hS)) fun r s' h => ?_
  cases r with
  | error e => exact (hCX H e s' h).elim
  | ok fl =>
   cases fl with
   | next => exact False.elim h
   | brk => exact False.elim h
   | cont => exact False.elim h
   | ret u =>
    obtain ⟨v, H', os, bare, un, hok', r', q⟩ := h
    have q' : v = .bl true := q
    subst q'
    obtain rfl : u = Value.bool true := r'
    refine ⟨rfl, OldK.of_keep fun b o e => ?_, os, bare⟩
    cases q : H b with
    | none => exact un.keep b o e q (by intro z; exact absurd (show b ∈ ([] : List Addr) from z) (by simp)) (by simp)
    | some u =>
     rcases hO b with z | ⟨ob, xs, z⟩
     · rw [q] at z; cases z
     · have z2 := un.frzs b ob _ z
       obtain ⟨e1, _⟩ := hok b _ z
       obtain ⟨e2, _⟩ := hok' b _ z2
       rw [e] at e1; cases e1
       exact e2
 cases hk : K.lookup a with
 | some o =>
  -- the script is one of the module's own objects
  have e := KX a o hk
  rw [ha] at e
  cases e
  refine core (fun _ => none) (fun _ => .inl rfl) (.inr ⟨_, vs.toArray, _, hk, rfl, rfl, rfl, by rw [List.size_toArray, lenV]; exact hl, by simpa using rv⟩) (fun b u z => by have z' : (none : Option HO) = some u := z; cases z') (fun b z => absurd rfl z) fun z => absurd rfl z
 | none =>
  refine core (fun b => if b = a then some (.frz { cls := .type "list", data := .seq vs.toArray } (.lst (ns.map V.int))) else none) (fun b => ?_) (.inl (.inr ⟨{ cls := .type "list", data := .seq vs.toArray }, if_pos rfl⟩)) (fun b u z => ?_) (fun b z => ?_) fun _ => hk
  · by_cases hb : b = a
    · exact .inr ⟨_, _, if_pos hb⟩
    · exact .inl (if_neg hb)
  · by_cases hb : b = a
    · have z' := (if_pos hb).symm.trans z
      cases z'
      subst hb
      exact ⟨ha, by rw [List.length_map]; exact hl, vs, _, rv, ha⟩
    · have z' := (if_neg hb).symm.trans z
      cases z'
  · by_cases hb : b = a
    · exact hb
    · exact absurd (if_neg hb) z
end L2
namespace L2
open PySem PySem.Spec PyProof.Rows
abbrev KOf {K : PySem.W.Frag} {h : Heap} (_ : K.In h) : PySem.W.Frag := K
theorem e4i {l : PySem.W.OpenLaw} {n k : Nat} {q : Program} {loose : List Str} {XP : (Str -> Option Value) -> Heap -> Prop} {YP : World -> Heap -> Prop} {d : DefRec} {K : Params -> PySem.W.Frag} {CX : World -> CXT} {sp : World -> Sp} {x : Str}
  (hn : l.most = some n) (hn2 : n <= sizeLine) (hdf : d.params.defaults = []) (hr : b5x k callerA)
  (hY : ∀ (w : World) (h : Heap), YP w h -> (K w.params).In h)
  (F : ∀ (w : World) (mg : Str -> Option Value) (fa : Addr) (h : Heap), (K w.params).In h -> h.Ns mainGlobals mg -> mg d.name = some (.ref fa) ->
   ∃ fd : FuncData, (∀ (s : Shared) (u : Value), BindsTo s fd ⟨[u], []⟩ [(x, u)]) /\
    ∀ base : Heap, (K w.params).In base -> base.Ns mainGlobals mg -> c6n l.prog w (K w.params) mg base (CX w) k fa fd [x] (sp w))
  (hsp : ∀ (w : World) (H : Hp) (a : Addr) (ns : List Int), ns.length <= n -> e8n H -> SqL (K w.params) H a (ns.map V.int) -> sp w [.ref a] H (fun v _ => v = .bl true) fun _ _ _ => False)
  (hCX : ∀ (w : World) (H : Hp) (s : Shared) (e : Value) (s' : Shared), CX w [] H s (fun _ _ _ => False) e s' -> False) :
  PySem.W.WalkO q loose XP YP l.row.toRowW d [] (fun f vs => PySem.call f vs) := by
 refine Att.attach_call hn hdf fun w s₀ s₁ mg mb fa o pm cd doc a vs ns G Y ho hd hcd hmg hobj hints hlen hg => ?_
 have KX := hY w _ Y
 obtain ⟨fd, hb, hF⟩ := F w mg fa _ KX G.T.g hmg
 exact d9z KX G.T.g G.T.b G.T.builtins G.T.nolimit hg hobj hints (Nat.le_trans hlen hn2) hr hF hb (fun H hO hS => hsp w H a ns hlen hO hS) fun H e s' => hCX w H s₁ e s'
end L2
namespace L2
open PySem PySem.Spec PyProof.Rows
def b6p (s : Stmt) : Arguments := match s with
 | .FunctionDef _ a _ _ _ _ _ _ _ _ => a
 | _ => { posonlyargs := [], args := [], vararg := none, kwonlyargs := [], kw_defaults := [], kwarg := none, defaults := [] }
def b4k (s : Stmt) : List Stmt := match s with
 | .FunctionDef _ _ b _ _ _ _ _ _ _ => b
 | _ => []
def a0k (s : Stmt) : Scope := match s with
 | .FunctionDef _ _ _ _ _ _ sc _ _ _ => sc
 | _ => { kind := .function, names := [], isGenerator := false, isCoroutine := false }
abbrev CX0 : CXT := fun _ _ _ _ _ _ => False
abbrev E0 : XK := fun _ _ _ => False
theorem a6p {X : Cx} : b5i CX0 X E0 := fun _ _ _ _ _ _ _ h => h.elim
structure Fun (K : PySem.W.Frag) (x qual : Str) (st : Stmt) (f : Addr) (fd : FuncData) : Prop where
 ex : ∃ (oc : Value) (od : Option Addr) (kV doc pm : Value) (an : Option Addr) (cdv ct : Value) (osl : Array (Option Value)),
  fd = PySem.W.fnOf x qual (b6p st) (b4k st) (a0k st) .none kV doc pm an cdv ct /\ K.lookup f = some ⟨oc, od, .func fd, osl⟩ /\ PySem.W.codeIn K cdv qual = true
 kp : PySem.W.keepIn K (.ref f) = true
section
variable {P : Program} {w : World} {K : PySem.W.Frag} {mg : Str -> Option Value} {base : Heap}
theorem Fun.ok {x qual : Str} {st : Stmt} {f : Addr} {fd : FuncData} {N ps : List Str} {k : Nat} {sp : Sp} (F : Fun K x qual st f fd) (S : a0r N ps (a0k st)) (len : ∀ vs H Q E, sp vs H Q E -> vs.length = ps.length)
  (hbody : ∀ (cdv : Value) (A : Around) (outer : List Env) (s : Shared) (H : Hp) (vs : List V) (Q : VK) (E : XK), b5x k (A.deeper (envOfC qual (a0k st) s.heap.objs.size f cdv)) -> sp vs H Q E ->
   ∃ t, PSs (e5e CX0 P w K mg base N qual (a0k st) f cdv A outer s H E).nox (b4k st) t /\ t { nx := fun _ H' => Q .non H', rt := Q } (start N vs) H) : c6n P w K mg base CX0 (k + 1) f fd ps sp := by
 obtain ⟨oc, od, kV, doc, pm, an, cdv, ct, osl, rfl, lk, hcd⟩ := F.ex
 refine e9e lk hcd S len fun A outer s H vs Q E hr hsp => ?_
 obtain ⟨t, h, q⟩ := hbody cdv A outer s H vs Q E hr hsp
 exact ⟨t, h.nox, q⟩
theorem Fun.binds {x qual : Str} {st : Stmt} {f : Addr} {fd : FuncData} {ps : List Str} (F : Fun K x qual st f fd)
  (h : ∀ (kV doc pm : Value) (an : Option Addr) (cdv ct : Value) (us : List Value), us.length = ps.length -> bindArgs (PySem.W.fnOf x qual (b6p st) (b4k st) (a0k st) .none kV doc pm an cdv ct) ⟨us, []⟩ = pure (ps.zip us)) : c1l K fd ps [] := by
 obtain ⟨oc, od, kV, doc, pm, an, cdv, ct, osl, rfl, lk, hcd⟩ := F.ex
 exact .all (h kV doc pm an cdv ct)
theorem a0v {x qual : Str} {st : Stmt} {f : Addr} {oc : Value} {od an : Option Addr} {osl : Array (Option Value)} {kV doc pm cdv ct : Value} (l : K.lookup f = some ⟨oc, od, .func (PySem.W.fnOf x qual (b6p st) (b4k st) (a0k st) .none kV doc pm an cdv ct), osl⟩)
  (c : PySem.W.codeIn K cdv qual = true) (k : PySem.W.keepIn K (.ref f) = true) : Fun K x qual st f (PySem.W.fnOf x qual (b6p st) (b4k st) (a0k st) .none kV doc pm an cdv ct) := ⟨⟨oc, od, kV, doc, pm, an, cdv, ct, osl, rfl, l, c⟩, k⟩
end
theorem a0y {n : Nat} (h : n <= 1000) : n < sizeLine := Nat.lt_of_le_of_lt h (by decide)
section
variable {X : Cx}
theorem pv (i : Nat) {x : Str} {pos : Pos} (hN : X.N[i]? = some x := by rfl) (hv : Vis X.env.scope x := by first | exact Or.inl rfl | exact Or.inr (Or.inl rfl) | exact Or.inr (Or.inr rfl)) (hd : (x == ("__debug__" : Str)) = false := by decide)
  (hcd : (x == ("__classdict__" : Str)) = false := by decide) : PE X (.Name x pos) (d4t i) := e5z hN hv hd hcd
end
theorem a2c {A B : Prop} (h : B) : if false = true then A else B := by
 rw [if_neg Bool.false_ne_true]
 exact h
theorem a3h {A B : Prop} (h : A) : if true = true then A else B := by
 rw [if_pos rfl]
 exact h
theorem b2x {c A B : Prop} [Decidable c] (h1 : c -> A) (h2 : ¬ c -> B) : if c then A else B := by
 by_cases h : c
 · rw [if_pos h]
   exact h1 h
 · rw [if_neg h]
   exact h2 h
theorem e0z {c A B : Prop} [Decidable c] (hc : c) (h : B) : if (!decide c) = true then A else B := by
 rw [decide_eq_true hc]
 exact a2c h
def a1i (H H' : Hp) : Prop := ∀ b o, H b = some o -> H' b = some o
theorem a1i.refl (H : Hp) : a1i H H := fun _ _ h => h
theorem a1i.trans {H H1 H2 : Hp} (a : a1i H H1) (b : a1i H1 H2) : a1i H H2 := fun c o h => b c o (a c o h)
theorem a1i.free {H H' : Hp} (e : a1i H H') {l : Addr} (h : H' l = Option.none) : H l = Option.none := by
 cases q : H l with
 | none => rfl
 | some o =>
  rw [e l o q] at h
  cases h
theorem a1i.seq {K : PySem.W.Frag} {H H' : Hp} {a : Addr} {xs : List V} (e : a1i H H') (h : SqL K H a xs) : SqL K H' a xs := by
 rcases h with (h | ⟨o, h⟩) | h
 · exact .inl (.inl (e _ _ h))
 · exact .inl (.inr ⟨o, e _ _ h⟩)
 · exact .inr h
end L2
set_option Elab.async false
set_option linter.all false
set_option maxRecDepth 100000
set_option maxHeartbeats 4000000
namespace L2
open PySem PySem.Spec PyProof.Rows
theorem of_pure {α β : Type} {M : Model} {A : Around} {a : α} {t : Sem β} {Q : α -> Shared -> Prop} {E : Value -> Shared -> Prop} {Q' : β -> Shared -> Prop} {E' : Value -> Shared -> Prop} {s : Shared}
  (h : wpAny M A (pure a) Q E s) (k : Q a s -> wpAny M A t Q' E' s) : wpAny M A t Q' E' s := fun Γ p hΓ => k (h Γ p hΓ) Γ p hΓ
def e2b (env : Env) : List (Str × NameKind) -> List (Str × Addr) -> List (Str × Addr)
 | [], cs => cs
 | (n, k) :: r, cs => e2b env r (if k == .free then (n, (env.cells.lookup n).getD 0) :: cs else cs)
def c4u (scope : Scope) (env : Env) : List (Str × Addr) := e2b env scope.names []
theorem c2l (env : Env) : ∀ (names : List (Str × NameKind)) (cs : List (Str × Addr)), (∀ y ∈ names, y.2 = .free -> ∃ c, env.cells.lookup y.1 = some c) ->
  (forIn names cs (fun (y : Str × NameKind) (r : List (Str × Addr)) => (if (y.2 == NameKind.free) = true then (do let a ← cellOf env y.1; pure (ForInStep.yield ((y.1, a) :: r))) else pure (ForInStep.yield r) : Sem (ForInStep (List (Str × Addr)))))) = (pure (e2b env names cs) : Sem (List (Str × Addr)))
 | [], cs, _ => rfl
 | (n, k) :: r, cs, h => by
  have ih := fun cs' => c2l env r cs' fun y hy => h y (List.mem_cons_of_mem _ hy)
  rw [List.forIn_cons]
  by_cases hk : (k == NameKind.free) = true
  · obtain ⟨c, hc⟩ := h (n, k) List.mem_cons_self (by simpa using hk)
    have hc' : env.cells.lookup n = some c := hc
    have e : cellOf env n = pure c := by unfold cellOf; rw [hc']
    show ((if (k == NameKind.free) = true then (do let a ← cellOf env n; pure (ForInStep.yield ((n, a) :: cs))) else pure (ForInStep.yield cs) : Sem (ForInStep (List (Str × Addr)))) >>= _) = _
    rw [if_pos hk, e]
    show (forIn r ((n, c) :: cs) _ : Sem (List (Str × Addr))) = pure (e2b env r (if (k == NameKind.free) = true then (n, (env.cells.lookup n).getD 0) :: cs else cs))
    rw [if_pos hk, hc']
    exact ih _
  · show ((if (k == NameKind.free) = true then (do let a ← cellOf env n; pure (ForInStep.yield ((n, a) :: cs))) else pure (ForInStep.yield cs) : Sem (ForInStep (List (Str × Addr)))) >>= _) = _
    rw [if_neg hk]
    show (forIn r cs _ : Sem (List (Str × Addr))) = pure (e2b env r (if (k == NameKind.free) = true then (n, (env.cells.lookup n).getD 0) :: cs else cs))
    rw [if_neg hk]
    exact ih _
theorem a9o {scope : Scope} {env : Env} (h : ∀ y ∈ scope.names, y.2 = .free -> ∃ c, env.cells.lookup y.1 = some c) : closureFor scope env = pure (c4u scope env) := by
 have q := c2l env scope.names [] h
 unfold closureFor
 show ((forIn scope.names ([] : List (Str × Addr)) _ : Sem (List (Str × Addr))) >>= fun r => pure r) = _
 have e : ∀ (m : Sem (List (Str × Addr))) , m = pure (c4u scope env) -> (m >>= fun r => pure r) = pure (c4u scope env) := fun m hm => by rw [hm]; rfl
 apply e
 rw [← show (pure (e2b env scope.names []) : Sem (List (Str × Addr))) = pure (c4u scope env) from rfl, ← q]
theorem b8y {env : Env} {y : Str} {c : Addr} : ∀ (names : List (Str × NameKind)) (cs : List (Str × Addr)), (∀ z ∈ names, z.2 = .free -> ∃ c, env.cells.lookup z.1 = some c) -> (∀ c, cs.lookup y = some c -> env.cells.lookup y = some c) ->
  (e2b env names cs).lookup y = some c -> env.cells.lookup y = some c
 | [], cs, _, hc, e => hc c e
 | (n, k) :: r, cs, h, hc, e => by
  refine b8y r _ (fun z hz => h z (List.mem_cons_of_mem _ hz)) ?_ e
  intro c' e'
  by_cases hk : (k == NameKind.free) = true
  · rw [if_pos hk] at e'
    obtain ⟨d, hd⟩ := h (n, k) List.mem_cons_self (by simpa using hk)
    have hd' : env.cells.lookup n = some d := hd
    rw [List.lookup_cons] at e'
    by_cases hy : (y == n) = true
    · rw [hy] at e'
      have : y = n := by simpa using hy
      subst this
      rw [hd'] at e' ⊢
      exact e'
    · have hy' : (y == n) = false := by simpa using hy
      rw [hy'] at e'
      exact hc c' e'
  · rw [if_neg hk] at e'
    exact hc c' e'
theorem b0x {env : Env} {y : Str} : ∀ (names : List (Str × NameKind)) (cs : List (Str × Addr)), ((∃ c, cs.lookup y = some c) \/ (y, NameKind.free) ∈ names) -> ∃ c, (e2b env names cs).lookup y = some c
 | [], cs, h => by
  rcases h with h | h
  · exact h
  · exact absurd h (by simp)
 | (n, k) :: r, cs, h => by
  refine b0x r _ ?_
  rcases h with ⟨c, h⟩ | h
  · refine .inl ?_
    by_cases hk : (k == NameKind.free) = true
    · rw [if_pos hk, List.lookup_cons]
      by_cases hy : (y == n) = true
      · rw [hy]; exact ⟨_, rfl⟩
      · have hy' : (y == n) = false := by simpa using hy
        rw [hy']; exact ⟨c, h⟩
    · rw [if_neg hk]; exact ⟨c, h⟩
  · rcases List.mem_cons.mp h with h | h
    · refine .inl ?_
      cases h
      rw [if_pos (by rfl), List.lookup_cons]
      rw [show (y == y) = true by simp]
      exact ⟨_, rfl⟩
    · exact .inr h
theorem a3f {scope : Scope} {env : Env} {y : Str} : (relabel scope env).names.lookup y = (scope.names.lookup y).map fun k => if (k == NameKind.free && env.scope.kind == .function && env.kindOf y == some .cell) then NameKind.cell else k := by
 show List.lookup y (scope.names.map _) = _
 induction scope.names with
 | nil => rfl
 | cons a r ih =>
  obtain ⟨n, k⟩ := a
  rw [List.map_cons]
  by_cases hy : (y == n) = true
  · have : y = n := by simpa using hy
    subst this
    by_cases hc : (k == NameKind.free && env.scope.kind == .function && env.kindOf y == some .cell) = true
    · dsimp only
      rw [if_pos hc, List.lookup_cons, List.lookup_cons, hy]
      dsimp only [Option.map]
      rw [if_pos hc]
    · dsimp only
      rw [if_neg hc, List.lookup_cons, List.lookup_cons, hy]
      dsimp only [Option.map]
      rw [if_neg hc]
  · have hy' : (y == n) = false := by simpa using hy
    by_cases hc : (k == NameKind.free && env.scope.kind == .function && env.kindOf n == some .cell) = true
    · dsimp only
      rw [if_pos hc, List.lookup_cons, List.lookup_cons, hy']
      exact ih
    · dsimp only
      rw [if_neg hc, List.lookup_cons, List.lookup_cons, hy']
      exact ih
structure a1c (N : List Str) (osc : Scope) (x : Str) (sc : Scope) : Prop where
 kind : sc.kind = .function
 nocell : ∀ y ∈ sc.names, y.2 ≠ .cell
 names : ∀ y ∈ sc.names, y.2 = .local -> sc.names.lookup y.1 = some .local
 here : sc.names.lookup x = some .local
 nd : (x :: N).Nodup
 free : ∀ y ∈ sc.names, y.2 = .free -> osc.names.lookup y.1 = some .cell \/ osc.names.lookup y.1 = some .free
 own : ∀ y ∈ sc.names, y.2 = .local -> y.1 = x \/ y.1 ∉ N
def a4n (X : Cx) (x : Str) (sc : Scope) (fp : List Addr) (s3 : Shared) (H3 : Hp) : Cx where
 prog := X.prog
 w := X.w
 K := X.K
 mg := X.mg
 base := X.base
 A := X.A
 N := x :: X.N
 s₀ := s3
 H₀ := H3
 env := compEnvC sc (c4u sc X.env) s3.heap.objs.size X.env
 outer := X.stack
 stack := X.stack
 ex := fp
 calm := X.calm
 fn := fun _ => false
 pn := []
 xe := fun _ _ => False
section
variable {X : Cx} {x : Str} {sc : Scope} {fp : List Addr} {s3 : Shared} {H3 : Hp} {pins : List (Addr × Obj)} {σ : St}
theorem a1c.cells (S : a1c X.N X.env.scope x sc) (ok : X.Ok) : ∀ y ∈ sc.names, y.2 = .free -> ∃ c, X.env.cells.lookup y.1 = some c := fun y hy hk => ok.has y.1 (S.free y hy hk)
theorem a1c.sub (S : a1c X.N X.env.scope x sc) (ok : X.Ok) {y : Str} {c : Addr} (e : (c4u sc X.env).lookup y = some c) : X.env.cells.lookup y = some c :=
 b8y sc.names [] (S.cells ok) (fun c h => by cases h) e
theorem a1c.isFree (S : a1c X.N X.env.scope x sc) {y : Str} (h : (relabel sc X.env).names.lookup y = some .cell \/ (relabel sc X.env).names.lookup y = some .free) : (y, NameKind.free) ∈ sc.names := by
 rw [a3f] at h
 cases e : sc.names.lookup y with
 | none => rw [e] at h; rcases h with h | h <;> cases h
 | some k =>
  rw [e] at h
  have hm := PySem.mem_of_lookup e
  cases k with
  | free => exact hm
  | cell => exact absurd rfl (S.nocell _ hm)
  | _ =>
   exfalso
   rcases h with h | h
   all_goals (simp at h)
theorem b1g.nobase (ok : X.Ok) {b : Addr} {H : Hp} (f : b1g X pins H b) {o : Obj} : X.base.get? b = some o -> False := fun e => by
 rcases f.2.2.2.1 with z | z
 · exact ok.noex b o e z
 · exact absurd (Nat.lt_of_lt_of_le (Heap.lt_size e) (Nat.le_trans ok.bsz z)) (Nat.lt_irrefl _)
theorem e4t (S : a1c X.N X.env.scope x sc) (I : Inv X pins σ H3 s3) (hf : ∀ b ∈ fp, b1g X pins H3 b) (hl : ∀ b ∈ fp, b < s3.heap.objs.size) : (a4n X x sc fp s3 H3).Ok where
 mod := I.ok.mod
 kind := S.kind
 glob := I.ok.glob
 blt := I.ok.blt
 above := Nat.le_refl _
 inj := fun y z c h1 h2 => I.ok.inj y z c (S.sub I.ok h1) (S.sub I.ok h2)
 has := fun y h => b0x sc.names [] (.inr (S.isFree h))
 cab := fun y c h => by cases h
 hd := I.ok.hd
 frames := I.ok.frames
 stk := .inl rfl
 exf := fun b hb => ⟨Nat.ne_of_lt (hl b hb), fun y c e => (hf b hb).2.2.2.2.1 y c (S.sub I.ok e)⟩
 bs := I.bs
 bsz := Nat.le_trans I.ok.bsz I.sz
 noex := fun b o e hb => b1g.nobase I.ok (hf b hb) e
 exfs := fun b hb hs => by
  rcases List.mem_cons.mp (I.stkSub b hs) with z | z
  · exact (hf b hb).2.1 z
  · exact (hf b hb).2.2.1 z
 funs := I.stack
 frf := I.stkFree
theorem e0w {h4 : Heap} {tk : Nat} (S : a1c X.N X.env.scope x sc) (I : Inv X pins σ H3 s3) (hf : ∀ b ∈ fp, b1g X pins H3 b) (hl : ∀ b ∈ fp, b < s3.heap.objs.size)
  (hk : ∀ b o, s3.heap.get? b = some o -> h4.get? b = some o) {m : Str -> Option Value} (hn : h4.Ns s3.heap.objs.size m) :
  Inv (a4n X x sc fp s3 H3) [] (none :: σ) H3 { s3 with heap := h4, toks := tk } := by
 refine ⟨e4t S I hf hl, rfl, I.bare, Un.kept hk, ⟨m, hn, fun i y v h1 h2 h3 => ?_⟩, fun y c e => ?_, I.fresh, fun y c e => I.freeC y c (S.sub I.ok e), fun p hp => absurd (show p ∈ ([] : List (Addr × Obj)) from hp) (by simp), I.hok.kept hk, by show σ.length + 1 = X.N.length + 1; rw [I.len]⟩
 · cases i with
   | zero => exact absurd (Option.some.inj h2) (by simp)
   | succ i =>
    have h1' : X.N[i]? = some y := h1
    have h2' : σ[i]? = some (some v) := h2
    have hyN : y ∈ X.N := List.mem_of_getElem? h1'
    have hfree : (y, NameKind.free) ∈ sc.names := by
     rcases h3 with h3 | h3 | h3
     · exfalso
       have h3' : (relabel sc X.env).names.lookup y = some .local := h3
       rw [a3f] at h3'
       cases e : sc.names.lookup y with
       | none => rw [e] at h3'; cases h3'
       | some k =>
        rw [e] at h3'
        have hm := PySem.mem_of_lookup e
        cases k with
        | «local» =>
         rcases S.own _ hm rfl with z | z
         · have z' : y = x := z
           exact (List.nodup_cons.mp S.nd).1 (z' ▸ hyN)
         · exact z hyN
        | _ =>
         revert h3'
         simp
         try (split <;> simp)
     · exact S.isFree (.inl h3)
     · exact S.isFree (.inr h3)
    have hk0 := S.free _ hfree rfl
    obtain ⟨m0, hn0, hl0⟩ := I.loc
    obtain ⟨u, r, l⟩ := hl0 i y v h1' h2' (hk0.elim (fun z => .inr (.inl z)) (fun z => .inr (.inr z)))
    refine ⟨u, r, .inr ?_⟩
    have hv : (a4n X x sc fp s3 H3).env.kindOf y = some .cell \/ (a4n X x sc fp s3 H3).env.kindOf y = some .free := by
     rcases h3 with h3 | h3 | h3
     · exfalso
       have h3' : (relabel sc X.env).names.lookup y = some .local := h3
       rw [a3f] at h3'
       cases e : sc.names.lookup y with
       | none => rw [e] at h3'; cases h3'
       | some k =>
        rw [e] at h3'
        have hm := PySem.mem_of_lookup e
        cases k with
        | «local» =>
         rcases S.own _ hm rfl with z | z
         · have z' : y = x := z
           exact (List.nodup_cons.mp S.nd).1 (z' ▸ hyN)
         · exact z hyN
        | _ =>
         revert h3'
         simp
         try (split <;> simp)
     · exact .inl h3
     · exact .inr h3
    refine ⟨hv, ?_⟩
    obtain ⟨c, hc⟩ := b0x (env := X.env) (y := y) sc.names [] (.inr hfree)
    refine ⟨c, hc, ?_⟩
    have hc' := S.sub I.ok hc
    rcases l with ⟨hk1, _⟩ | ⟨_, c2, e2, z2⟩
    · exfalso
      have hk1' : X.env.scope.names.lookup y = some .local := hk1
      have hk0' : X.env.scope.names.lookup y = some .cell \/ X.env.scope.names.lookup y = some .free := hk0
      rw [hk1'] at hk0'
      rcases hk0' with z | z <;> cases z
    · rw [hc'] at e2; cases e2
      exact z2.keeps hk
 · obtain ⟨v, z⟩ := I.cell y c (S.sub I.ok e)
   exact ⟨v, z.keeps hk⟩
end
end L2
set_option Elab.async false
set_option linter.all false
set_option maxRecDepth 100000
set_option maxHeartbeats 4000000
namespace L2
open PySem PySem.Spec PyProof.Rows
def PIf (X : Cx) (ifs : List Expr) (t : TT) : Prop :=
 ∀ (pins : List (Addr × Obj)) (s : Shared) (σ : St) (H : Hp) (Q : Bool -> Hp -> Prop), Inv X pins σ H s -> t σ H Q ->
  wpAny (model X.prog X.w) X.A (forIn ifs true fun d b => if b = true then do let z ← isTrue d X.env (eval d X.env); pure (ForInStep.yield z) else pure (ForInStep.yield b)) (TP X pins σ Q) X.xe s
def d4s : TT := fun _ H Q => Q true H
theorem a7x {X : Cx} : PIf X [] d4s := fun pins s σ H Q I h => wpAny_tests_nil ⟨H, I, h⟩
theorem b2a {X : Cx} {c : Expr} {t : TT} (h : PT X c t) : PIf X [c] t := fun pins s σ H Q I q => wpAny_tests_one (h pins s σ H Q I q)
def e4s (wi : TI) (tc : TT) (te : TE) : TE := fun σ H Q => wi σ H fun J H1 => ∀ p, H1 p = none ->
 ∃ W : Nat -> Nat -> List V -> Hp -> Prop, (∃ m, W 0 m [] (upd H1 p (.lst []))) /\ ∀ i m ys H, W i m ys H ->
  (J.stop i H /\ Q (.ref p) H) \/ (J.go i H /\ ∀ x H', J.yld i H x H' -> tc (some x :: σ) H' fun b H2 =>
   if b = true then te (some x :: σ) H2 fun v H3 => H3 p = some (.lst ys) /\ ys.length < sizeLine /\ ∃ m', m' < m /\ W (i + 1) m' (ys ++ [v]) (upd H3 p (.lst (ys ++ [v])))
   else ∃ m', m' < m /\ W (i + 1) m' ys H2)
section
variable {X : Cx} {x : Str} {sc : Scope} {px pos : Pos} {elt iter : Expr} {ifs : List Expr} {wi : TI} {tc : TT} {te : TE}
theorem Inv.back {fp : List Addr} {s3 s' : Shared} {H3 H' : Hp} {pins : List (Addr × Obj)} {σ σ' : St} {pl : List (Addr × Obj)} {h' : Heap} (I : Inv X pins σ H3 s3) (hf : ∀ b ∈ fp, b1g X pins H3 b)
  (J : Inv (a4n X x sc fp s3 H3) pl σ' H' s') (hs : Heap.SameBut s3.heap.objs.size s'.heap h') : Inv X pins σ H' { s' with heap := h' } := by
 have I1 : Inv X pins σ H' s' := I.call' (ch := fp) J.os J.base J.hok J.bare fun b hb => ⟨(hf b hb).2.2.2.1, (hf b hb).2.1, (hf b hb).2.2.2.2.1, (hf b hb).2.2.2.2.2⟩
 refine I1.turned (t' := s'.toks) (it := s3.heap.objs.size) (fun b o hb e => (hs.2 b hb).trans e) J.free ?_ (.inr I.sz) ?_ ?_
 · exact Nat.ne_of_gt I.lt
 · intro y c e z
   obtain ⟨v, q⟩ := I.cell y c e
   exact absurd q.lt (by rw [z]; exact Nat.lt_irrefl _)
 · intro p hp z
   exact absurd (Heap.lt_size (I.pin p hp).1) (by rw [z]; exact Nat.lt_irrefl _)
theorem c8p {pins : List (Addr × Obj)} {σ : St} {s2 : Shared} {H2 : Hp} {it : Addr} {fp : List Addr} {tn : Nat -> Heap -> Prop} {J : It} {Q : VK} {E : Value -> Shared -> Prop} {RR : Value -> Addr -> Result -> Shared -> Prop}
  (S : a1c X.N X.env.scope x sc) (hc : X.calm = true) (hif : ∀ fp s3 H3, PIf (a4n X x sc fp s3 H3) ifs tc) (he : ∀ fp s3 H3, PE (a4n X x sc fp s3 H3) elt te)
  (I2 : Inv X pins σ H2 s2) (T : d8i X.prog X.w X.K (.Name x px) J fp it tn) (st2 : tn 0 s2.heap) (f2 : ∀ b ∈ fp, b1g X pins H2 b)
  (h : ∀ p, H2 p = none -> ∃ W : Nat -> Nat -> List V -> Hp -> Prop, (∃ m, W 0 m [] (upd H2 p (.lst []))) /\ ∀ i m ys H, W i m ys H ->
   (J.stop i H /\ Q (.ref p) H) \/ (J.go i H /\ ∀ x H', J.yld i H x H' -> tc (some x :: σ) H' fun b H2 =>
    if b = true then te (some x :: σ) H2 fun v H3 => H3 p = some (.lst ys) /\ ys.length < sizeLine /\ ∃ m', m' < m /\ W (i + 1) m' (ys ++ [v]) (upd H3 p (.lst (ys ++ [v])))
    else ∃ m', m' < m /\ W (i + 1) m' ys H2))
  (hRR : ∀ (s3 : Shared) (H3 : Hp) (s' : Shared) (σ' : St) (H' : Hp), Inv X pins σ H3 s3 -> (∀ b ∈ fp, b1g X pins H3 b) -> Inv (a4n X x sc fp s3 H3) [] σ' H' s' -> Q (.ref s2.heap.objs.size) H' -> RR (.ref s2.heap.objs.size) s3.heap.objs.size (.ok .next) s') :
  wpAny (model X.prog X.w) X.A (newList []) (fun acc s₃ => wpAny (model X.prog X.w) X.A (newFunctionEnv sc X.env.globals (c4u sc X.env) [] X.env.qual none .none (some X.env)) (fun cenv s₄ =>
   codeAny (model X.prog X.w) X.A (.compStart (.ListComp elt [⟨.Name x px, iter, ifs, 0⟩] sc pos) 0 (.ref it) acc { cenv with scope := relabel sc X.env }) (RR acc cenv.locals) s₄) E s₃) E s2 := by
 obtain ⟨W, ⟨m0, w0⟩, turn⟩ := h s2.heap.objs.size I2.fresh
 refine wpAny_newList ?_
 have I3 : Inv X pins σ (upd H2 s2.heap.objs.size (.lst [])) { s2 with heap := s2.heap.push { cls := .type "list", data := .seq ([] : List Value).toArray } } := I2.lnew (ys := []) (t' := s2.toks) .nil (Nat.zero_le _)
 have fpl : ∀ b ∈ fp, b < s2.heap.objs.size := fun b hb => by
  obtain ⟨o, e, _⟩ := T.obj _ _ st2 b hb
  exact Heap.lt_size e
 have f3 : ∀ b ∈ fp, b1g X pins (upd H2 s2.heap.objs.size (.lst [])) b := fun b hb => ⟨by rw [a1z (Nat.ne_of_lt (fpl b hb))]; exact (f2 b hb).1, (f2 b hb).2⟩
 have st3 : tn 0 (s2.heap.push { cls := .type "list", data := .seq ([] : List Value).toArray }) := T.keep _ _ _ st2 fun b _ o e => Heap.get?_push_of_some _ e
 generalize hs3 : ({ s2 with heap := s2.heap.push { cls := .type "list", data := .seq ([] : List Value).toArray } } : Shared) = s3 at *
 have st3' : tn 0 s3.heap := by rw [← hs3]; exact st3
 have fpl3 : ∀ b ∈ fp, b < s3.heap.objs.size := fun b hb => by
  obtain ⟨o, e, _⟩ := T.obj _ _ st3' b hb
  exact Heap.lt_size e
 refine wpAny_newFunctionEnv S.nocell (by intro y hy; simp at hy) (fun h₁ hns₁ hsb₁ => ?_) S.kind
 have keep4 : ∀ b o, s3.heap.get? b = some o -> h₁.get? b = some o := fun b o e => (hsb₁.2 b (Nat.ne_of_lt (Heap.lt_size e))).trans (Heap.get?_push_of_some _ e)
 have I4 := e0w (fp := fp) (tk := s3.toks + ([] : List (Str × Value)).length) S I3 f3 fpl3 keep4 hns₁
 have st4 : tn 0 h₁ := T.keep _ _ _ st3' fun b _ o e => keep4 b o e
 generalize hs4 : ({ s3 with heap := h₁, toks := s3.toks + ([] : List (Str × Value)).length } : Shared) = s4 at *
 have st4' : tn 0 s4.heap := by rw [← hs4]; exact st4
 generalize hH3 : upd H2 s2.heap.objs.size (.lst []) = H3 at *
 have stat : ∀ {H' : Hp}, (∀ b ∈ fp, H' b = none) -> ∀ b ∈ fp, b1g (a4n X x sc fp s3 H3) [] H' b := fun hn b hb =>
  ⟨hn b hb, Nat.ne_of_lt (fpl3 b hb), I4.ok.exfs b hb, .inl hb, fun y c e => (f3 b hb).2.2.2.2.1 y c (S.sub I3.ok e), fun p hp => absurd (show p ∈ ([] : List (Addr × Obj)) from hp) (by simp)⟩
 have loop : codeAny (model X.prog X.w) X.A (.compLoop (.ListComp elt [⟨.Name x px, iter, ifs, 0⟩] sc pos) 0 (.ref it) (.ref s2.heap.objs.size) (a4n X x sc fp s3 H3).env) (RR (.ref s2.heap.objs.size) s3.heap.objs.size) s4 := by
  refine codeAny_compLoop_tests (fun n s' => ∃ i o ys H', Inv (a4n X x sc fp s3 H3) [] (o :: σ) H' s' /\ tn i s'.heap /\ (∀ b ∈ fp, H' b = none) /\ W i n ys H') ?_ m0 ⟨0, none, [], H3, I4, st4', fun b hb => (f3 b hb).1, w0⟩
  rintro n s5 ⟨i, o, ys, H5, I5, st5, fr5, w5⟩
  rcases turn i n ys H5 w5 with ⟨stop, q⟩ | ⟨go, step⟩
  · refine wpAny_mono (T.done (a4n X x sc fp s3 H3) rfl rfl rfl hc i [] s5 (o :: σ) H5 (fun _ _ => False) I5 (stat fr5) st5 stop) (fun r s6 ⟨hr, I6⟩ => ?_) fun _ _ z => z.elim
    subst hr
    exact hRR s3 H3 s6 _ H5 I3 f3 I6 q
  · refine wpAny_mono (T.item (a4n X x sc fp s3 H3) rfl rfl rfl hc i [] s5 (o :: σ) H5 (fun _ _ => False) I5 (stat fr5) st5 go) (fun r s6 ⟨u, hr, h6⟩ => ?_) fun _ _ z => z.elim
    subst hr
    refine of_pure (a := ()) h6 fun ⟨xv, H6, I6, r6, y6, st6, fr6⟩ => ?_
    have I6' := I6.pinned (stat fr6) (T.obj _ _ st6)
    have hx : (relabel sc X.env).names.lookup x = some .local := lookup_relabel_local S.here
    refine wpAny_mono (b6r (X := a4n X x sc fp s3 H3) (i := 0) (pos := px) S.nd rfl (.inl hx) (.inr hx) _ s6 (o :: σ) H6 xv u (fun σ' H' => σ' = some xv :: σ /\ H' = H6) I6' r6 ⟨rfl, rfl⟩) (fun _ s7 ⟨σ7, H7, I7, e7, e7'⟩ => ?_) fun _ _ z => z.elim
    subst e7 e7'
    have a2j : ∀ {H' : Hp} {s' : Shared} {ys' : List V}, Inv (a4n X x sc fp s3 H3) ([] ++ b7g fp s6.heap) (some xv :: σ) H' s' -> (∃ m', m' < n /\ W (i + 1) m' ys' H') ->
      ∃ m, m < n /\ ∃ i o ys H', Inv (a4n X x sc fp s3 H3) [] (o :: σ) H' s' /\ tn i s'.heap /\ (∀ b ∈ fp, H' b = none) /\ W i m ys H' := fun {H' s' ys'} I' ⟨m', hm, w'⟩ => by
     refine ⟨m', hm, i + 1, some xv, ys', H', I'.unpinned, T.keep _ _ _ st6 fun b hb ob e => (I'.pin (b, ob) (List.mem_append_right _ (List.mem_append_right _ (a3x hb e)))).1, fun b hb => ?_, w'⟩
     obtain ⟨ob, e, d⟩ := T.obj _ _ st6 b hb
     exact (I'.pin (b, ob) (List.mem_append_right _ (List.mem_append_right _ (a3x hb e)))).2.1
    refine wpAny_mono (hif fp s3 H3 _ s7 _ H7 _ I7 (step xv H7 y6)) (fun ok s8 ⟨H8, I8, q8⟩ => ?_) fun _ _ z => z.elim
    cases ok with
    | false =>
     rw [if_neg Bool.false_ne_true] at q8 ⊢
     exact a2j I8 q8
    | true =>
     rw [if_pos rfl] at q8 ⊢
     refine wpAny_mono (he fp s3 H3 _ s8 _ H8 _ I8 q8) (fun v s9 ⟨y, H9, I9, r9, hp, hz, q9⟩ => ?_) fun _ _ z => z.elim
     refine wpAny_mono (a4t (X := a4n X x sc fp s3 H3) _ s9 _ H9 (.ref s2.heap.objs.size) [y] (.ref s2.heap.objs.size) [v] (fun _ H' => H' = upd H9 s2.heap.objs.size (.lst (ys ++ [y]))) I9 rfl (.cons r9 .nil) ⟨_, ys, y, rfl, rfl, hp, hz, rfl⟩) (fun _ s10 ⟨_, H10, I10, _, e10⟩ => ?_) fun _ _ z => z.elim
     subst e10
     exact a2j I10 q9
 exact codeAny_compStart_list loop (T.self _ 0 _ _ _ st4' loop)
theorem a5w (S : a1c X.N X.env.scope x sc) (hc : X.calm = true) (hi : PI X (.Name x px) iter wi) (hif : ∀ fp s3 H3, PIf (a4n X x sc fp s3 H3) ifs tc) (he : ∀ fp s3 H3, PE (a4n X x sc fp s3 H3) elt te)
  (hs : ∀ x, foldedSetIterable iter X.env x = pure x := by intro _; rfl) : PE X (.ListComp elt [⟨.Name x px, iter, ifs, 0⟩] sc pos) (e4s wi tc te) := by
 intro pins s σ H Q I h
 rw [eval_ListComp]
 refine wpAny_comprehension_free (use := none) (cl := c4u sc X.env) rfl hs (a9o (S.cells I.ok)) S.kind S.names (thn (hi pins s σ H _ I h) fun v s1 h1 => thn h1 fun itv s2 h2 => ?_)
 obtain ⟨it, fp, tn, J, H2, e, I2, T, st2, f2, q2⟩ := h2
 subst e
 refine c8p (RR := fun acc C => compPost (model X.prog X.w) X.A X.xe none (EP X pins σ Q) acc C) (Q := Q) S hc hif he I2 T st2 f2 q2 ?_
 intro s3 H3 s' σ' H' I3 f3 J' q'
 obtain ⟨m, hn, _⟩ := J'.loc
 exact ⟨m, hn, fun h' hs' => ⟨.ref s2.heap.objs.size, H', I3.back f3 J' hs', rfl, q'⟩⟩
theorem b9l {i : Nat} {y : Str} {py spos : Pos} (S : a1c X.N X.env.scope x sc) (hc : X.calm = true) (hi : PI X (.Name x px) iter wi) (hif : ∀ fp s3 H3, PIf (a4n X x sc fp s3 H3) ifs tc) (he : ∀ fp s3 H3, PE (a4n X x sc fp s3 H3) elt te)
  (hN : X.N.Nodup) (hy : X.N[i]? = some y) (hl : Loc X.env.scope y) (hsw : swapsWith (.ListComp elt [⟨.Name x px, iter, ifs, 0⟩] sc pos) (some (.Name y py)) spos.line X.env = pure true)
  (hs : ∀ x, foldedSetIterable iter X.env x = pure x := by intro _; rfl) (hf : X.fn y = true \/ X.env.scope.names.lookup y = some .local := by first | exact .inl rfl | exact .inr rfl | assumption) :
  PS X (.Assign [.Name y py] (.ListComp elt [⟨.Name x px, iter, ifs, 0⟩] sc pos) spos) (e2n (e4s wi tc te) (b5r i)) := by
 intro pins s σ H D I h
 rw [exec_Assign_Name_used _ _ _ _ hsw]
 refine wpAny_bind (wpAny_standAt (wpAny_bind ?_))
 show wpAny _ X.A (do let _ ← comprehension (.ListComp elt [⟨.Name x px, iter, ifs, 0⟩] sc pos) sc X.env _ (newList []) false (eval iter X.env) (some (assign (.Name y py) X.env))) _ _ s
 refine wpAny_bind (wpAny_mono (wpAny_comprehension_free (use := some (assign (.Name y py) X.env)) (cl := c4u sc X.env) (Q := fun _ s' => SP X pins D .next s') rfl hs (a9o (S.cells I.ok)) S.kind S.names
  (thn (hi pins s σ H _ I h) fun v s1 h1 => thn h1 fun itv s2 h2 => ?_)) (fun _ s' hq => wpAny_pure (wpAny_pure hq)) fun _ _ e => e)
 obtain ⟨it, fp, tn, J, H2, e, I2, T, st2, f2, q2⟩ := h2
 subst e
 refine c8p (RR := fun acc C => compPost (model X.prog X.w) X.A X.xe (some (assign (.Name y py) X.env)) (fun _ s' => SP X pins D .next s') acc C) (Q := fun v H' => D.nx (σ.set i (some v)) H') S hc hif he I2 T st2 f2 q2 ?_
 intro s3 H3 s' σ' H' I3 f3 J' q'
 obtain ⟨m, hn, _⟩ := J'.loc
 have I1 : Inv X pins σ H' s' := I3.call' (ch := fp) J'.os J'.base J'.hok J'.bare fun b hb => ⟨(f3 b hb).2.2.2.1, (f3 b hb).2.1, (f3 b hb).2.2.2.2.1, (f3 b hb).2.2.2.2.2⟩
 have cL : s3.heap.objs.size ≠ X.env.locals := Nat.ne_of_gt I3.lt
 have cC : ∀ z c, X.env.cells.lookup z = some c -> c ≠ s3.heap.objs.size := fun z c e q => by
  obtain ⟨v, w⟩ := I3.cell z c e
  exact absurd w.lt (by rw [q]; exact Nat.lt_irrefl _)
 have cP : ∀ p ∈ X.pn ++ pins, p.1 ≠ s3.heap.objs.size := fun p hp z => absurd (Heap.lt_size (I3.pin p hp).1) (by rw [z]; exact Nat.lt_irrefl _)
 show wpAny _ X.A (assign (.Name y py) X.env (.ref s2.heap.objs.size)) _ _ s'
 refine wpAny_assign_Name (c0x (v := .ref s2.heap.objs.size) I1 hN hy hl rfl (fun s4 I4 ⟨a, sb, ha⟩ => ?_) hf)
 have ne : s3.heap.objs.size ≠ a := by
  rcases ha with z | z
  · rw [z]; exact cL
  · exact (cC _ _ z).symm
 refine ⟨m, hn.sameBut sb ne, fun h' hs' => ⟨_, H', ?_, q'⟩⟩
 exact I4.turned (t' := s4.toks) (it := s3.heap.objs.size) (fun b o hb e => (hs'.2 b hb).trans e) J'.free cL (.inr I3.sz) cC cP
end
end L2
set_option Elab.async false
set_option linter.all false
set_option maxRecDepth 100000
set_option maxHeartbeats 4000000
namespace L2
open PySem PySem.Spec PyProof.Rows
mutual
def Dt (K : PySem.W.Frag) (H : Hp) : PyData -> V -> Prop
 | .none, v => v = .non
 | .bool b, v => v = .bl b
 | .int i, v => v = .int i
 | .str x, v => v = .str x /\ PyData.strOk x = true
 | .list ds, v => ∃ a xs, v = .ref a /\ SqL K H a xs /\ a3b K H ds xs
 | .tuple ds, v => ∃ a xs, v = .ref a /\ SqT K H a xs /\ a3b K H ds xs
 | .dict _, _ => False
def a3b (K : PySem.W.Frag) (H : Hp) : List PyData -> List V -> Prop
 | [], xs => xs = []
 | d :: ds, xs => ∃ v r, xs = v :: r /\ Dt K H d v /\ a3b K H ds r
end
section
variable {K : PySem.W.Frag} {H H' : Hp}
mutual
theorem Dt.lay : ∀ {d : PyData} {v : V}, Dt K H d v -> d.canLay0 = true
 | .none, _, _ => rfl
 | .bool _, _, _ => rfl
 | .int _, _, _ => rfl
 | .str x, _, h => by
  rw [Dt] at h
  exact h.2
 | .list ds, _, h => by
  rw [Dt] at h
  obtain ⟨a, xs, _, _, h⟩ := h
  rw [PyData.canLay0]
  exact a3b.lay h
 | .tuple ds, _, h => by
  rw [Dt] at h
  obtain ⟨a, xs, _, _, h⟩ := h
  rw [PyData.canLay0]
  exact a3b.lay h
 | .dict _, _, h => by
  rw [Dt] at h
  exact h.elim
theorem a3b.lay : ∀ {ds : List PyData} {xs : List V}, a3b K H ds xs -> PyData.canLayAll0 ds = true
 | [], _, _ => by rw [PyData.canLayAll0]
 | d :: ds, _, h => by
  rw [a3b] at h
  obtain ⟨v, r, _, h1, h2⟩ := h
  rw [PyData.canLayAll0, Dt.lay h1, a3b.lay h2]
  rfl
end
theorem a1i.sqL {a : Addr} {xs : List V} (e : a1i H H') (h : SqL K H a xs) : SqL K H' a xs := e.seq h
theorem a1i.sqT {a : Addr} {xs : List V} (e : a1i H H') (h : SqT K H a xs) : SqT K H' a xs := by
 rcases h with (h | ⟨o, h⟩) | h
 · exact .inl (.inl (e _ _ h))
 · exact .inl (.inr ⟨o, e _ _ h⟩)
 · exact .inr h
mutual
theorem Dt.same (e : a1i H H') : ∀ {d : PyData} {v : V}, Dt K H d v -> Dt K H' d v
 | .none, _, h => by rw [Dt] at h ⊢; exact h
 | .bool _, _, h => by rw [Dt] at h ⊢; exact h
 | .int _, _, h => by rw [Dt] at h ⊢; exact h
 | .str x, _, h => by rw [Dt] at h ⊢; exact h
 | .list ds, _, h => by
  rw [Dt] at h ⊢
  obtain ⟨a, xs, h1, h2, h⟩ := h
  exact ⟨a, xs, h1, e.sqL h2, a3b.same e h⟩
 | .tuple ds, _, h => by
  rw [Dt] at h ⊢
  obtain ⟨a, xs, h1, h2, h⟩ := h
  exact ⟨a, xs, h1, e.sqT h2, a3b.same e h⟩
 | .dict _, _, h => by
  rw [Dt] at h
  exact h.elim
theorem a3b.same (e : a1i H H') : ∀ {ds : List PyData} {xs : List V}, a3b K H ds xs -> a3b K H' ds xs
 | [], _, h => by rw [a3b] at h ⊢; exact h
 | d :: ds, _, h => by
  rw [a3b] at h ⊢
  obtain ⟨v, r, h0, h1, h2⟩ := h
  exact ⟨v, r, h0, Dt.same e h1, a3b.same e h2⟩
end
theorem a3b.nil : a3b K H [] [] := by rw [a3b]
theorem a3b.cons {d : PyData} {ds : List PyData} {v : V} {r : List V} (h1 : Dt K H d v) (h2 : a3b K H ds r) : a3b K H (d :: ds) (v :: r) := by rw [a3b]; exact ⟨v, r, rfl, h1, h2⟩
theorem Dt.int {i : Int} : Dt K H (.int i) (.int i) := by rw [Dt]
theorem Dt.non : Dt K H .none .non := by rw [Dt]
theorem Dt.str {x : Str} (h : PyData.strOk x = true) : Dt K H (.str x) (.str x) := by rw [Dt]; exact ⟨rfl, h⟩
theorem Dt.lst {a : Addr} {xs : List V} {ds : List PyData} (h : SqL K H a xs) (q : a3b K H ds xs) : Dt K H (.list ds) (.ref a) := by rw [Dt]; exact ⟨a, xs, rfl, h, q⟩
theorem a3b.length : ∀ {ds : List PyData} {xs : List V}, a3b K H ds xs -> xs.length = ds.length
 | [], xs, h => by rw [a3b] at h; subst h; rfl
 | d :: ds, xs, h => by
  rw [a3b] at h
  obtain ⟨v, r, rfl, h1, h2⟩ := h
  rw [List.length_cons, List.length_cons, a3b.length h2]
end
section
variable {X : Cx} {pins : List (Addr × Obj)} {σ : St} {H : Hp} {s : Shared}
mutual
theorem Dt.reads (I : Inv X pins σ H s) : ∀ {d : PyData} {v : V} {u : Value}, Dt X.K H d v -> a6m v u -> ∃ as, Reads s.heap u d as
 | .none, _, _, h, r => by rw [Dt] at h; subst h; cases r; exact ⟨[], .none⟩
 | .bool b, _, _, h, r => by rw [Dt] at h; subst h; cases r; exact ⟨[], .bool b⟩
 | .int i, _, _, h, r => by rw [Dt] at h; subst h; obtain ⟨t, rfl⟩ := r; exact ⟨[], .int i t⟩
 | .str x, _, _, h, r => by
  rw [Dt] at h
  obtain ⟨h, _⟩ := h
  subst h
  obtain ⟨t, rfl⟩ := r
  exact ⟨[], .str x t⟩
 | .list ds, _, _, h, r => by
  rw [Dt] at h
  obtain ⟨a, xs, h1, h2, h⟩ := h
  subst h1
  cases r
  obtain ⟨its, rv, ⟨o, n, e, hc, _, hd⟩, _⟩ := I.list h2
  obtain ⟨as, q⟩ := a3b.reads I h rv
  exact ⟨_, .list e hc hd (by simpa using q)⟩
 | .tuple ds, _, _, h, r => by
  rw [Dt] at h
  obtain ⟨a, xs, h1, h2, h⟩ := h
  subst h1
  cases r
  obtain ⟨its, rv, ⟨o, e, hc, n, hd⟩, _⟩ := I.tuple h2
  obtain ⟨as, q⟩ := a3b.reads I h rv
  exact ⟨_, .tuple e hc hd (by simpa using q)⟩
 | .dict _, _, _, h, _ => by
  rw [Dt] at h
  exact h.elim
theorem a3b.reads (I : Inv X pins σ H s) : ∀ {ds : List PyData} {xs : List V} {us : List Value}, a3b X.K H ds xs -> a4b xs us -> ∃ as, ReadsAll s.heap us ds as
 | [], _, _, h, r => by rw [a3b] at h; subst h; cases r; exact ⟨[], .nil⟩
 | d :: ds, _, _, h, r => by
  rw [a3b] at h
  obtain ⟨v, r', h0, h1, h2⟩ := h
  subst h0
  cases r with
  | cons ra rb =>
   obtain ⟨as, q1⟩ := Dt.reads I h1 ra
   obtain ⟨bs, q2⟩ := a3b.reads I h2 rb
   exact ⟨_, .cons q1 q2⟩
end
end
section
variable {X : Cx}
def g0b (K : PySem.W.Frag) : R2 := fun x y H Q => ∃ d e, Dt K H d x /\ Dt K H e y /\ d.depth <= 60 /\ Q (.bl (PyData.eqv d e)) H
theorem e7h {k : Nat} (hr : b5x k X.A) : OpR X (compareOp .Eq) (g0b X.K) := by
 intro pins s σ H x y v u Q I rx ry h
 obtain ⟨d, e, h1, h2, hd, q⟩ := h
 obtain ⟨as, r1⟩ := Dt.reads I h1 rx
 obtain ⟨bs, r2⟩ := Dt.reads I h2 ry
 have hu := hr.units
 exact SeqAt.compareEq_reads r1 r2 h1.lay h2.lay (by have : min d.depth e.depth <= d.depth := Nat.min_le_left _ _; omega) ⟨.bl _, H, I, rfl, q⟩
theorem d9k : b8o X (.builtin "isinstance") (fun xs H Q => ∃ x n t b, xs = [x, .ty n] /\ d2x X.K H x t /\ PySem.W.kitOne X.K t (.type n) = some b /\ Q (.bl b) H) := by
 intro pins s σ H xs us Q I rv h
 obtain ⟨x, n, t, b, rfl, ht, hk, q⟩ := h
 obtain ⟨u, v, rfl, ru, rv'⟩ := rv.two
 cases rv'
 exact d5l I ru ht hk fun tk => ⟨.bl b, H, I.tok tk, rfl, q⟩
end
end L2
set_option Elab.async false
set_option linter.all false
set_option maxRecDepth 100000
set_option maxHeartbeats 4000000
namespace L2
open PySem PySem.Spec PyProof.Rows
def c6z (N : List Str) (osc : Scope) (x : Str) (sc : Scope) : Bool :=
 (match sc.kind with | .function => true | _ => false) && sc.names.all (fun y => match y.2 with | .cell => false | _ => true)
 && sc.names.all (fun y => match y.2 with | .local => (match sc.names.lookup y.1 with | some .local => true | _ => false) | _ => true)
 && (match sc.names.lookup x with | some .local => true | _ => false) && N.all (fun y => !(y == x))
 && sc.names.all (fun y => match y.2 with | .free => (match osc.names.lookup y.1 with | some .cell => true | some .free => true | _ => false) | _ => true)
 && sc.names.all (fun y => match y.2 with | .local => (y.1 == x || N.all (fun z => !(z == y.1))) | _ => true)
theorem a1c.of {N : List Str} {osc : Scope} {x : Str} {sc : Scope} (hN : N.Nodup) (h : c6z N osc x sc = true) : a1c N osc x sc := by
 unfold c6z at h
 simp only [Bool.and_eq_true, List.all_eq_true] at h
 obtain ⟨⟨⟨⟨⟨⟨h1, h2⟩, h3⟩, h4⟩, h5⟩, h6⟩, h7⟩ := h
 refine ⟨?_, fun y hy e => ?_, fun y hy e => ?_, ?_, List.nodup_cons.mpr ⟨fun hx => ?_, hN⟩, fun y hy e => ?_, fun y hy e => ?_⟩
 · revert h1; cases sc.kind <;> simp
 · have := h2 y hy; rw [e] at this; exact absurd this (by simp)
 · have := h3 y hy; rw [e] at this
   revert this
   cases sc.names.lookup y.1 with
   | none => simp
   | some k => cases k <;> simp
 · revert h4
   cases sc.names.lookup x with
   | none => simp
   | some k => cases k <;> simp
 · have := h5 x hx; simp at this
 · have := h6 y hy; rw [e] at this
   revert this
   cases osc.names.lookup y.1 with
   | none => simp
   | some k => cases k <;> simp
 · have := h7 y hy; rw [e] at this
   simp only [Bool.or_eq_true, List.all_eq_true] at this
   rcases this with z | z
   · exact .inl (by simpa using z)
   · refine .inr fun q => ?_
     have := z _ q
     simp at this
structure Def (P : Program) (w : World) (K : PySem.W.Frag) (mg : Str -> Option Value) (base : Heap) (CX : CXT) (x : Str) (k : Nat) (ps : List Str) (sp : Sp) : Prop where
 ex : ∃ f fd, c6n P w K mg base CX k f fd ps sp /\ c1l K fd ps [] /\ PySem.W.keepIn K (.ref f) = true /\ mg x = some (.ref f)
theorem Def.imp {P : Program} {w : World} {K : PySem.W.Frag} {mg : Str -> Option Value} {base : Heap} {CX : CXT} {x : Str} {k : Nat} {ps : List Str} {sp sp' : Sp} (F : Def P w K mg base CX x k ps sp) (h : ∀ vs H Q E, sp' vs H Q E -> sp vs H Q E) : Def P w K mg base CX x k ps sp' := by
 obtain ⟨f, fd, G, r⟩ := F.ex
 exact ⟨f, fd, G.imp h, r⟩
theorem e7c {X : Cx} {CX : CXT} {k : Nat} {x : Str} {ps : List Str} {sp : Sp} {E : XK} {e : Expr} {es : List Expr} {t : TA} {p pos : Pos} (F : Def X.prog X.w X.K X.mg X.base CX x k ps sp) (hr : b5x k X.A) (hg : Gl X x) (hx : b5i CX X E)
  (ha : PA X (e :: es) t) (hdb : (x == ("__debug__" : Str)) = false := by decide) (he : starEach (e :: es) X.env = (false, eval e X.env) :: starEach es X.env := by rfl) (hpl : (backTo pos (starEach es X.env)).any (·.1) = false := by rfl) :
  PE X (.Call (.Name x p) (e :: es) [] pos) (d6z sp [] E t) := by
 obtain ⟨f, fd, G, b, kp, m⟩ := F.ex
 exact e3f G hr hg m kp b .nil hx ha hdb he hpl
def IsT (K : PySem.W.Frag) (H : Hp) (xs : List V) (b : Bool) : Prop := ∃ x n t, xs = [x, .ty n] /\ d2x K H x t /\ PySem.W.kitOne K t (.type n) = some b
theorem d6j {X : Cx} : b8o X (.builtin "isinstance") (fun xs H Q => ∃ b, IsT X.K H xs b /\ Q (.bl b) H) := by
 intro pins s σ H xs us Q I rv h
 obtain ⟨b, ⟨x, n, t, e, ht, hk⟩, q⟩ := h
 exact d9k pins s σ H xs us Q I rv ⟨x, n, t, b, e, ht, hk, q⟩
section
variable {K : PySem.W.Frag} {H : Hp}
theorem c9c {i : Int} : IsT K H [.int i, .ty "int"] true := ⟨_, _, _, rfl, .int i, rfl⟩
theorem c5s {i : Int} : IsT K H [.int i, .ty "bool"] false := ⟨_, _, _, rfl, .int i, rfl⟩
theorem d5q {a : Addr} {xs : List V} (h : H a = some (.tup xs)) : IsT K H [.ref a, .ty "tuple"] true := ⟨_, _, _, rfl, .tup h, rfl⟩
theorem d5z {a : Addr} {xs : List V} (h : H a = some (.lst xs)) : IsT K H [.ref a, .ty "list"] true := ⟨_, _, _, rfl, .lst h, rfl⟩
end
theorem a0c {t u : TS} {D : d8c} {σ : St} {H : Hp} (h : ∀ U, U = u D -> t { D with nx := U } σ H) : e7x t u D σ H := h _ rfl
@[simp] theorem e8a {X : Cx} {x : Str} {sc : Scope} {fp : List Addr} {s3 : Shared} {H3 : Hp} : (a4n X x sc fp s3 H3).K = X.K := rfl
theorem sz (n : Nat) (h : n <= 1000 := by omega) : n <= sizeLine := Nat.le_of_lt (a0y h)
theorem a2j {n i : Nat} {P : Prop} (h : i < n) (p : P) : ∃ m', m' < n - i /\ m' = n - (i + 1) /\ i + 1 <= n /\ P := ⟨_, by omega, rfl, h, p⟩
theorem a0i {H : Hp} {p : Addr} (h : H p = none) (o : HO) : a1i H (upd H p o) := fun b u q => by rw [a1z (a2p q h)]; exact q
theorem c3x {ns : List Int} {k : Int} (h0 : 0 <= k) (h1 : k < ns.length) : atI (ns.map V.int) k = some (.int (ns.getD k.toNat 0)) := by
 have hk : k.toNat < ns.length := by omega
 have e : k = ((k.toNat : Nat) : Int) := by omega
 have q : atI (ns.map V.int) ((k.toNat : Nat) : Int) = some (.int (ns.getD k.toNat 0)) := c0d (by rw [List.getElem?_map, List.getElem?_eq_getElem hk, List.getD_eq_getElem?_getD, List.getElem?_eq_getElem hk]; rfl)
 rw [← e] at q
 exact q
theorem a3v {K : PySem.W.Frag} {a p : Addr} {xs : List V} {tc : TT} {te : TE} {σ : St} {H : Hp} {Z : Hp -> Prop} (Pv : Nat -> List V -> Hp -> Prop) (h0 : Pv 0 [] (upd H p (.lst []))) (hl : ∀ i ys H, i <= xs.length -> Pv i ys H -> SqL K H a xs)
  (hs : ∀ i x ys H, xs[i]? = some x -> Pv i ys H -> tc (some x :: σ) H fun b H2 =>
   if b = true then te (some x :: σ) H2 fun v H3 => H3 p = some (.lst ys) /\ ys.length < sizeLine /\ ∃ m', m' < xs.length - i /\ m' = xs.length - (i + 1) /\ i + 1 <= xs.length /\ Pv (i + 1) (ys ++ [v]) (upd H3 p (.lst (ys ++ [v]))) else ∃ m', m' < xs.length - i /\ m' = xs.length - (i + 1) /\ i + 1 <= xs.length /\ Pv (i + 1) ys H2)
  (hd : ∀ ys H, Pv xs.length ys H -> Z H) :
  ∃ W : Nat -> Nat -> List V -> Hp -> Prop, (∃ m, W 0 m [] (upd H p (.lst []))) /\ ∀ i m ys H, W i m ys H ->
   ((Itl K a).stop i H /\ Z H) \/ ((Itl K a).go i H /\ ∀ x H', (Itl K a).yld i H x H' -> tc (some x :: σ) H' fun b H2 =>
     if b = true then te (some x :: σ) H2 fun v H3 => H3 p = some (.lst ys) /\ ys.length < sizeLine /\ ∃ m', m' < m /\ W (i + 1) m' (ys ++ [v]) (upd H3 p (.lst (ys ++ [v])))
     else ∃ m', m' < m /\ W (i + 1) m' ys H2) := by
 refine ⟨fun i m ys H => m = xs.length - i /\ i <= xs.length /\ Pv i ys H, ⟨xs.length, by simp, Nat.zero_le _, h0⟩, ?_⟩
 rintro i m ys H ⟨rfl, hi, pv⟩
 have q := hl i ys H hi pv
 by_cases hlt : i < xs.length
 · refine .inr ⟨⟨xs, xs[i], q, by simp [hlt]⟩, fun x H' y => ?_⟩
   obtain ⟨e, y⟩ := y
   subst e
   exact hs i x ys _ (y xs q) pv
 · have e : i = xs.length := by omega
   subst e
   exact .inl ⟨⟨xs, q, Nat.le_refl _⟩, hd ys H pv⟩
theorem a5t {lo : Int} {n : Nat} {p : Addr} {tc : TT} {te : TE} {σ : St} {H : Hp} {Z : Hp -> Prop} (Pv : Nat -> List V -> Hp -> Prop) (h0 : Pv 0 [] (upd H p (.lst [])))
  (hs : ∀ i ys H, i < n -> Pv i ys H -> tc (some (.int (lo + i)) :: σ) H fun b H2 =>
   if b = true then te (some (.int (lo + i)) :: σ) H2 fun v H3 => H3 p = some (.lst ys) /\ ys.length < sizeLine /\ ∃ m', m' < n - i /\ m' = n - (i + 1) /\ i + 1 <= n /\ Pv (i + 1) (ys ++ [v]) (upd H3 p (.lst (ys ++ [v]))) else ∃ m', m' < n - i /\ m' = n - (i + 1) /\ i + 1 <= n /\ Pv (i + 1) ys H2)
  (hd : ∀ ys H, Pv n ys H -> Z H) :
  ∃ W : Nat -> Nat -> List V -> Hp -> Prop, (∃ m, W 0 m [] (upd H p (.lst []))) /\ ∀ i m ys H, W i m ys H ->
   ((Itr lo n).stop i H /\ Z H) \/ ((Itr lo n).go i H /\ ∀ x H', (Itr lo n).yld i H x H' -> tc (some x :: σ) H' fun b H2 =>
     if b = true then te (some x :: σ) H2 fun v H3 => H3 p = some (.lst ys) /\ ys.length < sizeLine /\ ∃ m', m' < m /\ W (i + 1) m' (ys ++ [v]) (upd H3 p (.lst (ys ++ [v])))
     else ∃ m', m' < m /\ W (i + 1) m' ys H2) := by
 refine ⟨fun i m ys H => m = n - i /\ i <= n /\ Pv i ys H, ⟨n, by simp, Nat.zero_le _, h0⟩, ?_⟩
 rintro i m ys H ⟨rfl, hi, pv⟩
 by_cases hlt : i < n
 · refine .inr ⟨hlt, fun x H' y => ?_⟩
   obtain ⟨e, y⟩ := y
   subst e y
   exact hs i ys _ hlt pv
 · have e : i = n := by omega
   subst e
   exact .inl ⟨Nat.le_refl _, hd ys H pv⟩
end L2
set_option Elab.async false
set_option linter.all false
set_option maxRecDepth 100000
set_option maxHeartbeats 4000000
namespace L2
open PySem PySem.Spec PyProof.Rows
section
variable {X : Cx}
end
section
variable {X : Cx} {K : PySem.W.Frag} {tg : Expr}
theorem d3a (h : X.K = K) : IxR X (e4y K) := by subst h; exact e2u
theorem e2z (h : X.K = K) : IxR X (e6f K) := by subst h; exact e6t
theorem d9p (h : X.K = K) : SlR X (e9v K) := by subst h; exact e2x
theorem b3v (h : X.K = K) : SlR X (e9u K) := by subst h; exact e7d
theorem d7m {k : Nat} (hr : b5x k X.A) (h : X.K = K) : OpR X (compareOp .Eq) (g0b K) := by subst h; exact e7h hr
theorem a1g (h : X.K = K) : b8o X (.builtin "len") (fun xs H Q => ∃ p ys, xs = [.ref p] /\ (SqL K H p ys \/ SqT K H p ys) /\ Q (.int ys.length) H) := by subst h; exact c8n
theorem a7n (h : X.K = K) : b8o X (.builtin "isinstance") (fun xs H Q => ∃ b, IsT K H xs b /\ Q (.bl b) H) := by subst h; exact d6j
theorem a7j (h : X.K = K) : b8o X (.type "list") (fun xs H Q => ∃ p ys, xs = [.ref p] /\ (SqL K H p ys \/ SqT K H p ys) /\ ∀ l, H l = none -> Q (.ref l) (upd H l (.lst ys))) := by subst h; exact c6t
theorem b3p (h : X.K = K) : b8o X (.type "tuple") (fun xs H Q => ∃ p ys, xs = [.ref p] /\ ((SqL K H p ys /\ ∀ l, H l = none -> Q (.ref l) (upd H l (.tup ys))) \/ (SqT K H p ys /\ Q (.ref p) H))) := by subst h; exact c4j
theorem a2k {l : Expr} {tl : TE} (h : X.K = K) (hl : PE X l tl) : PI X tg l (e5n K tl) := by subst h; exact e3k hl
theorem c3q {l : Expr} {tl : TE} (h : X.K = K) (hl : PE X l tl) : PI X tg l (g0e K tl) := by subst h; exact e6h hl
end
end L2
set_option Elab.async false
set_option linter.all false
set_option maxRecDepth 100000
set_option maxHeartbeats 4000000
namespace L2
open PySem PySem.Spec PyProof.Rows
structure Fly (P : Program) (w : World) (outer : List Env) (H : Hp) (s : Shared) (x C t : Addr) (B : Heap) (H' : Hp) (h : Heap) : Prop where
 un : Un (frs outer) [] H H' s.heap h
 hok : HOk P w H' h
 fl : Heap.FlyingW B outer x (.ref C) (.ref t) h
 new : s.heap.get? x = none
 xfree : H' x = none
 trB : ∀ a o, H' a = some o -> ∃ ob, B.get? a = some ob
 keepB : ∀ b o, s.heap.get? b = some o -> H b = none -> b ∉ frs outer -> B.get? b = some o
 thereB : ∀ b o, s.heap.get? b = some o -> b ∉ frs outer -> ∃ ob, B.get? b = some ob
section
variable {P : Program} {w : World} {outer : List Env} {H H' : Hp} {s : Shared} {x C t : Addr} {B h h' : Heap}
end
section
variable {CX : CXT} {P : Program} {w : World} {K : PySem.W.Frag} {mg : Str -> Option Value} {base : Heap} {N : List Str} {qual : Str} {scope : Scope} {f : Addr} {cd : Value} {A : Around} {outer : List Env} {s₀ : Shared} {H₀ : Hp} {E : XK}
end
end L2
set_option Elab.async false
set_option linter.all false
set_option maxRecDepth 100000
set_option maxHeartbeats 4000000
namespace L2
open PySem PySem.Spec PyProof.Rows
section
variable {X : Cx} {x : Str} {np cpos pos : Pos} {e : Expr} {te : TE} {C : Addr} {E : XK}
end
section
variable {P : Program} {w : World} {K : PySem.W.Frag} {mg : Str -> Option Value} {base : Heap}
end
section
variable {X : Cx}
end
end L2
set_option Elab.async false
set_option linter.all false
set_option maxRecDepth 100000
set_option maxHeartbeats 4000000
namespace L2
open PySem PySem.Spec PyProof.Rows
structure g0r (K : PySem.W.Frag) (C : Addr) : Prop where
 ga : PySem.W.findIn K (.ref C) "__getattribute__" = some (some (.builtin "BaseException.__getattribute__"))
 hk : PySem.W.findIn K (.ref C) "__getattr__" = some none
 ca : PySem.W.findIn K (.ref C) "__class__" = some (some (.builtin "object.__class__"))
 gt : PySem.W.specialIn K (.builtin "object.__class__") "__get__" = some (some (.builtin "getset_descriptor.__get__"))
 tk : PySem.W.takesIn K (.builtin "object.__class__") = some true
 ob : PySem.W.mroIn K C (.type "object") = some true
 be : PySem.W.mroIn K C (.type "BaseException") = some true
section
variable {prog : Program} {w : World} {A : Around} {E : Value -> Shared -> Prop} {K : PySem.W.Frag} {x C : Addr}
end
section
variable {X : Cx} {pins : List (Addr × Obj)} {σ : St} {H : Hp} {s : Shared}
end
end L2
set_option Elab.async false
set_option linter.all false
set_option maxRecDepth 100000
set_option maxHeartbeats 4000000
namespace L2
open PySem PySem.Spec PyProof.Rows
abbrev Ent := Option Int
def eV : Ent -> V
 | none => .non
 | some i => .int i
def eD : Ent -> PyData
 | none => .none
 | some i => .int i
abbrev Tbl := List (List Ent)
def b9k (H : Hp) (b : Addr) (r : List Ent) : Prop := H b = some (.lst (r.map eV))
structure a2e (H : Hp) (a : Addr) (bs : List Addr) (t : Tbl) : Prop where
 at_ : H a = some (.lst (bs.map V.ref))
 nd : bs.Nodup
 ne : a ∉ bs
 lines : Paired (b9k H) bs t
theorem a2q {α β : Type} {R : α -> β -> Prop} : ∀ {xs : List α} {ys : List β}, Paired R xs ys -> xs.length = ys.length
 | _, _, .nil => rfl
 | _, _, .cons _ t => by simp [a2q t]
theorem c2d {α β : Type} {R : α -> β -> Prop} : ∀ {xs : List α} {ys : List β} {i : Nat} {y : β}, Paired R xs ys -> ys[i]? = some y -> ∃ x, xs[i]? = some x /\ R x y
 | _, _, _, _, .nil, e => by simp at e
 | _, _, 0, _, .cons r _, e => by cases e; exact ⟨_, rfl, r⟩
 | _, _, i + 1, _, .cons _ t, e => by
  obtain ⟨x, e1, r⟩ := c2d t (by simpa using e)
  exact ⟨x, by simpa using e1, r⟩
theorem a2s {α β : Type} {R : α -> β -> Prop} : ∀ {xs : List α} {ys : List β} {i : Nat} {x : α}, Paired R xs ys -> xs[i]? = some x -> ∃ y, ys[i]? = some y /\ R x y
 | _, _, _, _, .nil, e => by simp at e
 | _, _, 0, _, .cons r _, e => by cases e; exact ⟨_, rfl, r⟩
 | _, _, i + 1, _, .cons _ t, e => by
  obtain ⟨x, e1, r⟩ := a2s t (by simpa using e)
  exact ⟨x, by simpa using e1, r⟩
theorem b6e {α β : Type} {R : α -> β -> Prop} : ∀ {xs : List α} {ys : List β}, xs.length = ys.length -> (∀ (i : Nat) x y, xs[i]? = some x -> ys[i]? = some y -> R x y) -> Paired R xs ys
 | [], [], _, _ => .nil
 | [], _ :: _, e, _ => by simp at e
 | _ :: _, [], e, _ => by simp at e
 | x :: xs, y :: ys, e, h => .cons (h 0 x y rfl rfl) (b6e (by simpa using e) fun i a b e1 e2 => h (i + 1) a b (by simpa using e1) (by simpa using e2))
section
variable {H H' : Hp} {a b : Addr} {bs : List Addr} {t : Tbl} {r : List Ent} {f g : Nat} {e : Ent}
theorem a2e.len (T : a2e H a bs t) : bs.length = t.length := a2q T.lines
theorem a2e.same (s : a1i H H') (T : a2e H a bs t) : a2e H' a bs t := ⟨s _ _ T.at_, T.nd, T.ne, Paired.mapP T.lines fun _ _ z => s _ _ z⟩
theorem a2e.line (T : a2e H a bs t) (hr : t[f]? = some r) : ∃ b, bs[f]? = some b /\ H b = some (.lst (r.map eV)) /\ atI (bs.map V.ref) (f : Int) = some (.ref b) := by
 obtain ⟨b, eb, hb⟩ := c2d T.lines hr
 exact ⟨b, eb, hb, c0d (by rw [List.getElem?_map, eb]; rfl)⟩
theorem e3b (he : r[g]? = some e) : atI (r.map eV) (g : Int) = some (eV e) := c0d (by rw [List.getElem?_map, he]; rfl)
theorem d6w {n j : Nat} (h : j < n) : ixN n (j : Int) = some j := by
 unfold ixN
 rw [if_pos (by omega), if_pos (by omega)]
 simp
theorem c2g (r : List Ent) (g : Nat) (e : Ent) : (r.map eV).set g (eV e) = (r.set g e).map eV := by
 induction r generalizing g with
 | nil => rfl
 | cons x r ih => cases g with
  | zero => rfl
  | succ g => rw [List.map_cons, List.set_cons_succ, ih g, List.set_cons_succ, List.map_cons]
theorem a2e.put {r' : List Ent} (T : a2e H a bs t) (eb : bs[f]? = some b) : a2e (upd H b (.lst (r'.map eV))) a bs (t.set f r') := by
 have hb : b ∈ bs := List.mem_of_getElem? eb
 have nab : a ≠ b := fun z => T.ne (z ▸ hb)
 refine ⟨by rw [a1z nab]; exact T.at_, T.nd, T.ne, b6e (by rw [List.length_set]; exact T.len) fun i x y ex ey => ?_⟩
 unfold b9k
 by_cases hi : i = f
 · subst hi
   rw [eb] at ex; cases ex
   have hl : i < t.length := by rw [← T.len]; exact (List.getElem?_eq_some_iff.mp eb).1
   rw [List.getElem?_set_self hl] at ey
   cases ey
   exact a0g
 · rw [List.getElem?_set_ne (Ne.symm hi)] at ey
   obtain ⟨y', ey', hy⟩ := a2s T.lines ex
   rw [ey] at ey'; cases ey'
   have nxb : x ≠ b := fun z => hi (by
    subst z
    obtain ⟨h1, q1⟩ := List.getElem?_eq_some_iff.mp ex
    obtain ⟨h2, q2⟩ := List.getElem?_eq_some_iff.mp eb
    exact (List.getElem_inj T.nd).mp (q1.trans q2.symm))
   rw [a1z nxb]
   exact hy
theorem a2e.other {c : Addr} {o : HO} (T : a2e H a bs t) (h1 : c ≠ a) (h2 : c ∉ bs) : a2e (upd H c o) a bs t :=
 ⟨by rw [a1z (Ne.symm h1)]; exact T.at_, T.nd, T.ne, b6e T.len fun i x y ex ey => by
  obtain ⟨y', ey', hy⟩ := a2s T.lines ex
  rw [ey] at ey'; cases ey'
  unfold b9k
  have nx : x ≠ c := fun z => h2 (by rw [← z]; exact List.mem_of_getElem? ex)
  rw [a1z nx]
  exact hy⟩
theorem a2e.grow {H2 : Hp} (T : a2e H a bs t) (hb : H b = none) (s : ∀ c o, c ≠ a -> H c = some o -> H2 c = some o) (hl : H2 b = some (.lst (r.map eV))) (ha : H2 a = some (.lst (bs.map V.ref ++ [.ref b]))) : a2e H2 a (bs ++ [b]) (t ++ [r]) := by
 have nin : b ∉ bs := fun z => by
  obtain ⟨i, hi, q⟩ := List.getElem_of_mem z
  obtain ⟨y, _, hy⟩ := a2s T.lines (i := i) (x := b) (by rw [List.getElem?_eq_getElem hi, q])
  unfold b9k at hy
  rw [hb] at hy; cases hy
 have nab : a ≠ b := fun z => by have := T.at_; rw [z, hb] at this; cases this
 refine ⟨by rw [ha]; simp, ?_, ?_, ?_⟩
 · rw [List.nodup_append]
   refine ⟨T.nd, by simp, fun x hx y hy => ?_⟩
   rw [List.mem_singleton.mp hy]
   exact fun z => nin (z ▸ hx)
 · intro z
   rcases List.mem_append.mp z with z | z
   · exact T.ne z
   · exact nab (List.mem_singleton.mp z)
 · have app : ∀ {xs : List Addr} {ys : Tbl}, Paired (b9k H2) xs ys -> Paired (b9k H2) (xs ++ [b]) (ys ++ [r]) := by
    intro xs ys p
    induction p with
    | nil => exact .cons hl .nil
    | cons q _ ih => exact .cons q ih
   refine app (b6e T.len fun i x y ex ey => ?_)
   obtain ⟨y', ey', hy⟩ := a2s T.lines ex
   rw [ey] at ey'; cases ey'
   exact s _ _ (fun z => T.ne (z ▸ List.mem_of_getElem? ex)) hy
end
def c6y (r : List Ent) : PyData := .list (r.map eD)
def e1l (t : Tbl) : PyData := .list (t.map c6y)
section
variable {K : PySem.W.Frag} {H : Hp}
theorem d0s : ∀ (r : List Ent), a3b K H (r.map eD) (r.map eV)
 | [] => a3b.nil
 | none :: r => a3b.cons (by show Dt K H .none .non; rw [Dt]) (d0s r)
 | some i :: r => a3b.cons (show Dt K H (.int i) (.int i) from .int) (d0s r)
theorem d2k : ∀ {bs : List Addr} {t : Tbl}, Paired (b9k H) bs t -> a3b K H (t.map c6y) (bs.map V.ref)
 | _, _, .nil => a3b.nil
 | _, _, .cons h t => a3b.cons (Dt.lst (SqL.of h) (d0s _)) (d2k t)
theorem a2e.dt {a : Addr} {bs : List Addr} {t : Tbl} (T : a2e H a bs t) : Dt K H (e1l t) (.ref a) := Dt.lst (SqL.of T.at_) (d2k T.lines)
theorem d2c : ∀ (r s : List Ent), PyData.eqvAll (r.map eD) (s.map eD) = decide (r = s)
 | [], [] => by simp [PyData.eqvAll]
 | [], _ :: _ => by simp [PyData.eqvAll]
 | _ :: _, [] => by simp [PyData.eqvAll]
 | x :: r, y :: s => by
  rw [List.map_cons, List.map_cons, PyData.eqvAll, d2c r s, Bool.eq_iff_iff]
  cases x <;> cases y <;> simp [eD, PyData.eqv]
theorem c7k : ∀ (t u : Tbl), PyData.eqvAll (t.map c6y) (u.map c6y) = decide (t = u)
 | [], [] => by simp [PyData.eqvAll]
 | [], _ :: _ => by simp [PyData.eqvAll]
 | _ :: _, [] => by simp [PyData.eqvAll]
 | x :: r, y :: s => by
  rw [List.map_cons, List.map_cons, PyData.eqvAll, c7k r s, Bool.eq_iff_iff, c6y, c6y, PyData.eqv, d2c]
  simp
theorem d9e (t u : Tbl) : PyData.eqv (e1l t) (e1l u) = decide (t = u) := by rw [e1l, e1l, PyData.eqv, c7k]
theorem c1z : ∀ (r : List Ent), PyData.depthAll (r.map eD) <= 5
 | [] => by simp [PyData.depthAll]
 | x :: r => by
  have := c1z r
  cases x <;> simp [PyData.depthAll, PyData.depth, eD] <;> omega
theorem b9o : ∀ (t : Tbl), PyData.depthAll (t.map c6y) <= 20
 | [] => by simp [PyData.depthAll]
 | x :: r => by
  have := b9o r
  have := c1z x
  simp [PyData.depthAll, PyData.depth, c6y]
  omega
theorem d8m (t : Tbl) : (e1l t).depth <= 60 := by
 have := b9o t
 simp [e1l, PyData.depth]
 omega
end
end L2
set_option linter.all false
namespace Oct
abbrev E := Option Int
def leE : E -> E -> Prop
 | _, none => True
 | none, some _ => False
 | some a, some b => a <= b
def a0t : E -> E -> E
 | some a, some b => some (a + b)
 | _, _ => none
def a3z : E -> E -> E
 | none, b => b
 | some a, none => some a
 | some a, some b => some (min a b)
def hlf : E -> E
 | none => none
 | some a => some (a / 2)
def dbl : E -> E
 | none => none
 | some a => some (2 * a)
abbrev Tb := Nat -> Nat -> E
def fl (f : Nat) : Nat := if f % 2 = 0 then f + 1 else f - 1
theorem a5b (f : Nat) : fl (fl f) = f := by unfold fl; split <;> split <;> omega
theorem d7n (f : Nat) : fl f ≠ f := by unfold fl; split <;> omega
theorem a3k {f n : Nat} (h : f < 2 * n) : fl f < 2 * n := by unfold fl; split <;> omega
@[simp] theorem a1r (a : E) : leE a a := by cases a <;> simp [leE]
theorem a0j {a b c : E} (h : leE a b) (k : leE b c) : leE a c := by cases a <;> cases b <;> cases c <;> simp_all [leE] <;> omega
theorem a5a (a b : E) : leE (a3z a b) a := by cases a <;> cases b <;> simp [leE, a3z] <;> omega
theorem a2t (a b : E) : leE (a3z a b) b := by cases a <;> cases b <;> simp [leE, a3z] <;> omega
theorem a3y {a b c : E} (h : leE c a) (k : leE c b) : leE c (a3z a b) := by cases a <;> cases b <;> cases c <;> simp_all [leE, a3z] <;> omega
theorem a1s (a b : E) : a3z a b = a \/ a3z a b = b := by cases a <;> cases b <;> simp [a3z] <;> omega
theorem a5j {a b c d : E} (h : leE a b) (k : leE c d) : leE (a0t a c) (a0t b d) := by cases a <;> cases b <;> cases c <;> cases d <;> simp_all [leE, a0t] <;> omega
theorem a9q (a b : E) : a0t a b = a0t b a := by cases a <;> cases b <;> simp [a0t] <;> omega
theorem a7m (a b c : E) : a0t (a0t a b) c = a0t a (a0t b c) := by cases a <;> cases b <;> cases c <;> simp [a0t] <;> omega
def Sym (t : Tb) (N : Nat) : Prop := ∀ f g, f < N -> g < N -> t f g = t g f
def e5c (t : Tb) (N h : Nat) : Prop := ∀ f g, f < N -> g < N -> leE (t f g) (a0t (t f h) (t (fl h) g))
def b1d (t : Tb) (N : Nat) : Prop := ∀ h, h < N -> e5c t N h
def lnk (t : Tb) (h : Nat) : Tb := fun f g => a3z (t f g) (a0t (t f h) (t (fl h) g))
theorem c3l {a b c d : E} (h : leE (some 0) (a0t b c)) : leE (a0t a d) (a0t (a0t a b) (a0t c d)) := by
 cases a <;> cases b <;> cases c <;> cases d <;> simp_all [leE, a0t] <;> omega
theorem e5k (t : Tb) (h f g : Nat) : leE (lnk t h f g) (t f g) := a5a _ _
theorem d9w {t : Tb} {N h : Nat} (d : leE (some 0) (t (fl h) h)) : e5c (lnk t h) N h := by
 intro f g _ _
 have e1 : leE (t f h) (lnk t h f h) := a3y (a1r _) (by
  revert d; generalize t f h = a; generalize t (fl h) h = b; cases a <;> cases b <;> simp [leE, a0t] <;> omega)
 have e2 : leE (t (fl h) g) (lnk t h (fl h) g) := a3y (a1r _) (by
  revert d; generalize t (fl h) g = a; generalize t (fl h) h = b; cases a <;> cases b <;> simp [leE, a0t] <;> omega)
 exact a0j (a2t _ _) (a5j e1 e2)
theorem d9t {t : Tb} {N h i : Nat} (hh : h < N) (fh : fl h < N) (hi : i < N) (fi : fl i < N) (d : leE (some 0) (t (fl h) h)) (ti : e5c t N i) : e5c (lnk t h) N i := by
 intro f g hf hg
 have a1 := ti f g hf hg
 have a2 := ti f h hf hh
 have a3 := ti (fl h) g fh hg
 have a4 := ti (fl h) h fh hh
 unfold lnk
 rcases a1s (t f i) (a0t (t f h) (t (fl h) i)) with e1 | e1 <;> rcases a1s (t (fl i) g) (a0t (t (fl i) h) (t (fl h) g)) with e2 | e2 <;> rw [e1, e2]
 · exact a0j (a5a _ _) a1
 · refine a0j (a2t _ _) ?_
   rw [← a7m]
   exact a5j a2 (a1r _)
 · refine a0j (a2t _ _) ?_
   rw [a7m]
   exact a5j (a1r _) a3
 · exact a0j (a2t _ _) (c3l (a0j d a4))
def hv (t : Tb) (f : Nat) : E := hlf (t f f)
def a9m (t : Tb) : Tb := fun f g => if f = g then dbl (hv t f) else t f g
def a4s (t : Tb) : Tb := fun f g => a3z (a9m t f g) (a0t (hv t f) (hv t g))
theorem d2h (t : Tb) (f g : Nat) : leE (a9m t f g) (t f g) := by
 unfold a9m hv
 split
 · subst f; generalize t g g = a; cases a <;> simp [leE, hlf, dbl] <;> omega
 · exact a1r _
theorem a4q {t : Tb} {N f g : Nat} (c : b1d t N) (s : Sym t N) (hf : f < N) (ff : fl f < N) (hg : g < N) : leE (hv t g) (a0t (t (fl f) g) (hv t f)) := by
 have a1 := c (fl f) ff g g hg hg
 have a2 := c f hf f g hf hg
 rw [a5b, s g (fl f) hg ff] at a1
 unfold hv
 revert a1 a2
 generalize t g g = a; generalize t (fl f) g = b; generalize t f g = d; generalize t f f = e
 cases a <;> cases b <;> cases d <;> cases e <;> simp [leE, a0t, hlf] <;> omega
theorem c5b {t : Tb} {N : Nat} (even : ∀ f, f < N -> fl f < N) (c : b1d t N) (s : Sym t N) (d : ∀ f, f < N -> leE (some 0) (a0t (hv t f) (hv t (fl f)))) : b1d (a4s t) N := by
 intro x hx f g hf hg
 have fx := even x hx
 have k1 := a4q c s hx fx hg
 have k2 := a4q (f := fl x) (g := f) c s fx (by rw [a5b]; exact hx) hf
 rw [a5b, s x f hx hf] at k2
 have dx := d x hx
 have b1 : leE (a0t (hv t f) (hv t g)) (a0t (a0t (hv t f) (hv t x)) (a9m t (fl x) g)) := by
  unfold a9m
  split
  · rename_i e
    subst e
    revert dx
    generalize hv t f = a; generalize hv t x = b; generalize hv t (fl x) = b'
    cases a <;> cases b <;> cases b' <;> simp [leE, a0t, dbl] <;> omega
  · revert k1
    generalize hv t f = a; generalize hv t x = b; generalize hv t g = e; generalize t (fl x) g = i
    cases a <;> cases b <;> cases e <;> cases i <;> simp [leE, a0t] <;> omega
 have b2 : leE (a0t (hv t f) (hv t g)) (a0t (a9m t f x) (a0t (hv t (fl x)) (hv t g))) := by
  unfold a9m
  split
  · rename_i e
    subst e
    revert dx
    generalize hv t f = a; generalize hv t g = b; generalize hv t (fl f) = b'
    cases a <;> cases b <;> cases b' <;> simp [leE, a0t, dbl] <;> omega
  · revert k2
    generalize hv t f = a; generalize hv t (fl x) = b; generalize hv t g = e; generalize t f x = i
    cases a <;> cases b <;> cases e <;> cases i <;> simp [leE, a0t] <;> omega
 unfold a4s
 rcases a1s (a9m t f x) (a0t (hv t f) (hv t x)) with e1 | e1 <;> rcases a1s (a9m t (fl x) g) (a0t (hv t (fl x)) (hv t g)) with e2 | e2 <;> rw [e1, e2]
 · by_cases h1 : f = x
   · refine a0j (a2t _ _) (a0j b1 (a5j ?_ (a1r _)))
     subst h1
     unfold a9m
     rw [if_pos rfl]
     generalize hv t f = a
     cases a <;> simp [leE, a0t, dbl] <;> omega
   · by_cases h2 : fl x = g
     · refine a0j (a2t _ _) (a0j b2 (a5j (a1r _) ?_))
       subst h2
       unfold a9m
       rw [if_pos rfl]
       generalize hv t (fl x) = a
       cases a <;> simp [leE, a0t, dbl] <;> omega
     · have : leE (t f g) (a0t (a9m t f x) (a9m t (fl x) g)) := by
        have z := c x hx f g hf hg
        unfold a9m
        rw [if_neg h1, if_neg h2]
        exact z
       exact a0j (a5a _ _) (a0j (d2h t f g) this)
 · exact a0j (a2t _ _) b2
 · exact a0j (a2t _ _) b1
 · exact a0j (a2t _ _) (c3l dx)
theorem d5a {t : Tb} {N : Nat} (s : Sym t N) : Sym (a9m t) N := by
 intro f g hf hg
 unfold a9m
 by_cases e : f = g
 · subst e; rfl
 · rw [if_neg e, if_neg (Ne.symm e)]; exact s f g hf hg
theorem d4j {t : Tb} {N : Nat} (s : Sym t N) : Sym (a4s t) N := by
 intro f g hf hg
 unfold a4s
 rw [d5a s f g hf hg, a9q]
theorem a9c {a b : E} (h : leE a b) (k : leE b a) : a = b := by cases a <;> cases b <;> simp_all [leE] <;> omega
def Le (c t : Tb) (N : Nat) : Prop := ∀ f g, f < N -> g < N -> leE (c f g) (t f g)
theorem Le.refl (t : Tb) (N : Nat) : Le t t N := fun _ _ _ _ => a1r _
theorem Le.trans {a b c : Tb} {N : Nat} (h : Le a b N) (k : Le b c N) : Le a c N := fun f g hf hg => a0j (h f g hf hg) (k f g hf hg)
theorem e6u {c t : Tb} {N h : Nat} (cc : b1d c N) (l : Le c t N) (hh : h < N) (fh : fl h < N) : Le c (lnk t h) N := fun f g hf hg =>
 a3y (l f g hf hg) (a0j (cc h hh f g hf hg) (a5j (l f h hf hh) (l (fl h) g fh hg)))
def a4v (t : Tb) : List Nat -> Tb
 | [] => t
 | h :: r => a4v (lnk t h) r
theorem b5v : ∀ (hs : List Nat) (t : Tb) (f g : Nat), leE (a4v t hs f g) (t f g)
 | [], t, f, g => a1r _
 | h :: r, t, f, g => a0j (b5v r (lnk t h) f g) (e5k t h f g)
theorem b8x {c : Tb} {N : Nat} (cc : b1d c N) (even : ∀ f, f < N -> fl f < N) : ∀ (hs : List Nat) (t : Tb), (∀ h ∈ hs, h < N) -> Le c t N -> Le c (a4v t hs) N
 | [], t, _, l => l
 | h :: r, t, b, l => b8x cc even r (lnk t h) (fun i hi => b i (List.mem_cons_of_mem _ hi)) (e6u cc l (b h List.mem_cons_self) (even h (b h List.mem_cons_self)))
theorem c2s {N : Nat} (even : ∀ f, f < N -> fl f < N) : ∀ (hs : List Nat) (t : Tb) (S : List Nat), (∀ h ∈ S, h < N) -> (∀ h ∈ hs, h < N) -> (∀ h ∈ hs, leE (some 0) (a4v t hs (fl h) h)) -> (∀ i ∈ S, e5c t N i) -> ∀ i, i ∈ S \/ i ∈ hs -> e5c (a4v t hs) N i
 | [], t, S, _, _, _, k, i, hi => by
  rcases hi with hi | hi
  · exact k i hi
  · cases hi
 | h :: r, t, S, bS, b, d, k, i, hi => by
  have hh := b h List.mem_cons_self
  have d0 : leE (some 0) (t (fl h) h) := a0j (d h List.mem_cons_self) (b5v (h :: r) t (fl h) h)
  refine c2s even r (lnk t h) (h :: S) (fun j hj => ?_) (fun j hj => b j (List.mem_cons_of_mem _ hj)) (fun j hj => d j (List.mem_cons_of_mem _ hj)) (fun j hj => ?_) i ?_
  · rcases List.mem_cons.mp hj with rfl | hj
    · exact hh
    · exact bS j hj
  · rcases List.mem_cons.mp hj with rfl | hj
    · exact d9w d0
    · exact d9t hh (even h hh) (bS j hj) (even j (bS j hj)) d0 (k j hj)
  · rcases hi with hi | hi
    · exact .inl (List.mem_cons_of_mem _ hi)
    · rcases List.mem_cons.mp hi with rfl | hi
      · exact .inl List.mem_cons_self
      · exact .inr hi
theorem b7w {N : Nat} {hs : List Nat} {t : Tb} (even : ∀ f, f < N -> fl f < N) (b : ∀ h ∈ hs, h < N) (all : ∀ h, h < N -> h ∈ hs) (d : ∀ h, h < N -> leE (some 0) (a4v t hs (fl h) h)) : b1d (a4v t hs) N :=
 fun h hh => c2s even hs t [] (fun _ z => by cases z) b (fun i hi => d i (b i hi)) (fun _ z => by cases z) h (.inr (all h hh))
theorem c9i {t : Tb} {N : Nat} (even : ∀ f, f < N -> fl f < N) (c : b1d t N) : b1d (fun f g => t g f) N := fun h hh f g hf hg => by
 have z := c (fl h) (even h hh) g f hg hf
 rw [a5b, a9q] at z
 exact z
theorem d5n {N : Nat} {hs : List Nat} {t : Tb} (even : ∀ f, f < N -> fl f < N) (b : ∀ h ∈ hs, h < N) (all : ∀ h, h < N -> h ∈ hs) (d : ∀ h, h < N -> leE (some 0) (a4v t hs (fl h) h)) (s : Sym t N) : Sym (a4v t hs) N := by
 have c := b7w even b all d
 have c' := c9i even c
 have l : Le (fun f g => a4v t hs g f) t N := fun f g hf hg => by
  have z := b5v hs t g f
  rw [s g f hg hf] at z
  exact z
 have k := b8x c' even hs t b l
 exact fun f g hf hg => a9c (k g f hg hf) (k f g hf hg)
structure a6e (c : Tb) (N : Nat) : Prop where
 sym : Sym c N
 closed : b1d c N
 even : ∀ f, f < N -> ∀ a, c f f = some a -> a % 2 = 0
 halves : ∀ f g, f < N -> g < N -> leE (dbl (c f g)) (a0t (c f f) (c g g))
theorem b4a (t : Tb) (f : Nat) : a4s t f f = dbl (hv t f) := by
 unfold a4s a9m
 rw [if_pos rfl]
 generalize hv t f = a
 cases a <;> simp [a3z, a0t, dbl] <;> omega
theorem c6h {t : Tb} {N : Nat} (even : ∀ f, f < N -> fl f < N) (c : b1d t N) (s : Sym t N) (d : ∀ f, f < N -> leE (some 0) (a0t (hv t f) (hv t (fl f)))) : a6e (a4s t) N where
 sym := d4j s
 closed := c5b even c s d
 even := fun f _ a e => by
  rw [b4a] at e
  revert e
  generalize hv t f = b
  cases b <;> simp [dbl] <;> omega
 halves := fun f g _ _ => by
  rw [b4a, b4a]
  unfold a4s
  generalize hv t f = a; generalize hv t g = b; generalize a9m t f g = e
  cases a <;> cases b <;> cases e <;> simp [leE, a0t, dbl, a3z] <;> omega
theorem d7l (t : Tb) (f g : Nat) : leE (a4s t f g) (t f g) := a0j (a5a _ _) (d2h t f g)
theorem d5y {c t : Tb} {N : Nat} (k : a6e c N) (l : Le c t N) : Le c (a4s t) N := fun f g hf hg => by
 have hd : ∀ x, x < N -> leE (c x x) (dbl (hv t x)) := fun x hx => by
  have z := l x x hx hx
  have ev := k.even x hx
  unfold hv
  revert z ev
  generalize c x x = a; generalize t x x = b
  cases a <;> cases b <;> simp [leE, dbl, hlf] <;> omega
 refine a3y ?_ ?_
 · unfold a9m
   split
   · rename_i e; subst e; exact hd f hf
   · exact l f g hf hg
 · have z := k.halves f g hf hg
   have a := hd f hf
   have b := hd g hg
   revert z a b
   generalize c f g = x; generalize c f f = y; generalize c g g = y'; generalize hv t f = u; generalize hv t g = v
   cases x <;> cases y <;> cases y' <;> cases u <;> cases v <;> simp [leE, dbl, a0t] <;> omega
def Pt (w : Nat -> Int) (N : Nat) : Prop := ∀ f, f < N -> w (fl f) = -w f
def tab (w : Nat -> Int) : Tb := fun f g => some (w f + w g)
theorem b8z {w : Nat -> Int} {N : Nat} (p : Pt w N) : a6e (tab w) N where
 sym := fun f g _ _ => by simp [tab]; omega
 closed := fun h hh f g _ _ => by have := p h hh; simp [tab, leE, a0t]; omega
 even := fun f _ a e => by simp [tab] at e; omega
 halves := fun f g _ _ => by simp [tab, leE, a0t, dbl]; omega
def a6u (w : Nat -> Int) (t : Tb) (N : Nat) : Prop := Le (tab w) t N
theorem e0m {c : Tb} {N f g g' : Nat} {a b : Int} (T : a6e c N) (hf : f < N) (ff : fl f < N) (hg : g < N) (hg' : g' < N) (l : leE (some (a + b)) (c g g')) : leE (some (a + b)) (a0t (c f g) (c (fl f) g')) := by
 have z := T.closed f hf g g' hg hg'
 rw [T.sym g f hg hf] at z
 exact a0j l z
theorem c6c {c : Tb} {N f g : Nat} {a : Int} (T : a6e c N) (hf : f < N) (ff : fl f < N) (hg : g < N) (l : leE (some (a + a)) (c g g)) : leE (some a) (a0t (hv c f) (c (fl f) g)) := by
 have z := a4q T.closed T.sym hf ff hg
 rw [a9q] at z
 refine a0j ?_ z
 unfold hv
 revert l
 generalize c g g = b
 cases b <;> simp [leE, hlf] <;> omega
theorem a4w {c : Tb} {N f : Nat} (T : a6e c N) (hf : f < N) (ff : fl f < N) (d : leE (some 0) (c f (fl f))) : leE (some 0) (a0t (hv c f) (hv c (fl f))) := by
 have z := T.halves f (fl f) hf ff
 have e1 := T.even f hf
 have e2 := T.even (fl f) ff
 unfold hv
 revert z d e1 e2
 generalize c f (fl f) = x; generalize c f f = a; generalize c (fl f) (fl f) = b
 cases x <;> cases a <;> cases b <;> simp [leE, a0t, hlf, dbl] <;> omega
theorem d0b : ∀ (L U : List Int), (∀ l ∈ L, ∀ u ∈ U, l <= u) -> ∃ z : Int, (∀ l ∈ L, l <= z) /\ ∀ u ∈ U, z <= u := by
 have top : ∀ (U : List Int), ∃ z : Int, ∀ u ∈ U, z <= u := by
  intro U
  induction U with
  | nil => exact ⟨0, fun _ z => by cases z⟩
  | cons u r ih =>
   obtain ⟨z, hz⟩ := ih
   refine ⟨min z u, fun v hv => ?_⟩
   rcases List.mem_cons.mp hv with rfl | hv
   · omega
   · have := hz v hv; omega
 intro L
 induction L with
 | nil =>
  intro U _
  obtain ⟨z, hz⟩ := top U
  exact ⟨z, fun _ q => (by cases q), hz⟩
 | cons l r ih =>
  intro U h
  obtain ⟨z, h1, h2⟩ := ih U fun a ha u hu => h a (List.mem_cons_of_mem _ ha) u hu
  refine ⟨max z l, fun a ha => ?_, fun u hu => ?_⟩
  · rcases List.mem_cons.mp ha with rfl | ha
    · omega
    · have := h1 a ha; omega
  · have := h2 u hu
    have := h l List.mem_cons_self u hu
    omega
def d7w (S : Nat -> Bool) (w : Nat -> Int) (c : Tb) (N : Nat) : Prop := ∀ f g, f < N -> g < N -> S (f / 2) = true -> S (g / 2) = true -> leE (tab w f g) (c f g)
def b4p (w : Nat -> Int) (k : Nat) (z : Int) : Nat -> Int := fun f => if f = 2 * k then z else if f = 2 * k + 1 then -z else w f
theorem d8f {c : Tb} {n k : Nat} {S : Nat -> Bool} {w : Nat -> Int} (T : a6e c (2 * n)) (d : ∀ f, f < 2 * n -> leE (some 0) (c f (fl f))) (hk : k < n) (nk : S k = false) (l : d7w S w c (2 * n)) :
  ∃ z : Int, d7w (fun j => S j || j == k) (b4p w k z) c (2 * n) := by
 have f0 : 2 * k < 2 * n := by omega
 have f1 : 2 * k + 1 < 2 * n := by omega
 have e0 : fl (2 * k) = 2 * k + 1 := by unfold fl; rw [if_pos (by omega)]
 have e1 : fl (2 * k + 1) = 2 * k := by unfold fl; rw [if_neg (by omega)]; omega
 let ends (f : Nat) : List Int := (hv c f).toList ++ (List.range (2 * n)).filterMap fun g => if S (g / 2) = true then (c f g).map fun x => x - w g else none
 have mem : ∀ f a, a ∈ ends f -> hv c f = some a \/ ∃ g, g < 2 * n /\ S (g / 2) = true /\ ∃ x, c f g = some x /\ a = x - w g := by
  intro f a ha
  rcases List.mem_append.mp ha with ha | ha
  · exact .inl (by simpa using ha)
  · obtain ⟨g, hg, e⟩ := List.mem_filterMap.mp ha
    split at e
    · rename_i hs
      obtain ⟨x, ex, rfl⟩ := Option.map_eq_some_iff.mp e
      exact .inr ⟨g, List.mem_range.mp hg, hs, x, ex, rfl⟩
    · cases e
 obtain ⟨z, h1, h2⟩ := d0b ((ends (2 * k + 1)).map fun a => -a) (ends (2 * k)) (by
  intro b hb u hu
  obtain ⟨a, ha, rfl⟩ := List.mem_map.mp hb
  rcases mem _ _ ha with ha | ⟨g, hg, sg, x, ex, rfl⟩ <;> rcases mem _ _ hu with hu | ⟨g', hg', sg', y, ey, rfl⟩
  · have q := a4w T f0 (by rw [e0]; exact f1) (d _ f0)
    rw [e0, ha, hu] at q
    simp [leE, a0t] at q
    omega
  · have q := c6c (a := w g') T f1 (by rw [e1]; exact f0) hg' (l g' g' hg' hg' sg' sg')
    rw [e1, ha, ey] at q
    simp [leE, a0t] at q
    omega
  · have q := c6c (a := w g) T f0 (by rw [e0]; exact f1) hg (l g g hg hg sg sg)
    rw [e0, hu, ex] at q
    simp [leE, a0t] at q
    omega
  · have q := e0m (a := w g') (b := w g) T f0 (by rw [e0]; exact f1) hg' hg (l g' g hg' hg sg' sg)
    rw [e0, ey, ex] at q
    simp [leE, a0t] at q
    omega)
 have up : ∀ a, a ∈ ends (2 * k) -> z <= a := h2
 have lo : ∀ a, a ∈ ends (2 * k + 1) -> -a <= z := fun a ha => h1 _ (List.mem_map.mpr ⟨a, ha, rfl⟩)
 have up1 : ∀ g, g < 2 * n -> S (g / 2) = true -> ∀ x, c (2 * k) g = some x -> z + w g <= x := fun g hg sg x ex => by
  have := up (x - w g) (List.mem_append_right _ (List.mem_filterMap.mpr ⟨g, List.mem_range.mpr hg, by rw [if_pos sg, ex]; rfl⟩))
  omega
 have lo1 : ∀ g, g < 2 * n -> S (g / 2) = true -> ∀ x, c (2 * k + 1) g = some x -> -z + w g <= x := fun g hg sg x ex => by
  have := lo (x - w g) (List.mem_append_right _ (List.mem_filterMap.mpr ⟨g, List.mem_range.mpr hg, by rw [if_pos sg, ex]; rfl⟩))
  omega
 have up2 : ∀ x, c (2 * k) (2 * k) = some x -> z + z <= x := fun x ex => by
  have := up (x / 2) (List.mem_append_left _ (by unfold hv; rw [ex]; simp [hlf]))
  omega
 have lo2 : ∀ x, c (2 * k + 1) (2 * k + 1) = some x -> -z + -z <= x := fun x ex => by
  have := lo (x / 2) (List.mem_append_left _ (by unfold hv; rw [ex]; simp [hlf]))
  omega
 have d0 := d _ f0
 rw [e0] at d0
 have pk0 : b4p w k z (2 * k) = z := by unfold b4p; rw [if_pos rfl]
 have pk1 : b4p w k z (2 * k + 1) = -z := by unfold b4p; rw [if_neg (by omega), if_pos rfl]
 have po : ∀ g, S (g / 2) = true -> b4p w k z g = w g := fun g sg => by
  have : g / 2 ≠ k := fun e => by rw [e, nk] at sg; cases sg
  unfold b4p
  rw [if_neg (by omega), if_neg (by omega)]
 have of : ∀ f, (S (f / 2) || f / 2 == k) = true -> S (f / 2) = true \/ f = 2 * k \/ f = 2 * k + 1 := fun f h => by
  rcases Bool.or_eq_true_iff.mp h with h | h
  · exact .inl h
  · have := beq_iff_eq.mp h; omega
 refine ⟨z, fun f g hf hg sf sg => ?_⟩
 unfold tab
 cases e : c f g with
 | none => simp [leE]
 | some x =>
  simp only [leE]
  rcases of f sf with sf | rfl | rfl <;> rcases of g sg with sg | rfl | rfl
  · rw [po f sf, po g sg]
    have q := l f g hf hg sf sg
    unfold tab at q
    rw [e] at q
    exact q
  · rw [po f sf, pk0, Int.add_comm]
    exact up1 f hf sf x (by rw [T.sym _ _ f0 hf]; exact e)
  · rw [po f sf, pk1, Int.add_comm]
    exact lo1 f hf sf x (by rw [T.sym _ _ f1 hf]; exact e)
  · rw [po g sg, pk0]; exact up1 g hg sg x e
  · rw [pk0]; exact up2 x e
  · rw [pk0, pk1]
    rw [e] at d0
    simp [leE] at d0
    omega
  · rw [po g sg, pk1]; exact lo1 g hg sg x e
  · rw [pk0, pk1]
    rw [T.sym _ _ f1 f0] at e
    rw [e] at d0
    simp [leE] at d0
    omega
  · rw [pk1]; exact lo2 x e
theorem d0g {w : Nat -> Int} {k N : Nat} {z : Int} (p : Pt w N) : Pt (b4p w k z) N := fun f hf => by
 have := p f hf
 unfold b4p
 by_cases h0 : f = 2 * k
 · subst h0
   have : fl (2 * k) = 2 * k + 1 := by unfold fl; rw [if_pos (by omega)]
   rw [this, if_neg (by omega), if_pos rfl, if_pos rfl]
 · by_cases h1 : f = 2 * k + 1
   · subst h1
     have : fl (2 * k + 1) = 2 * k := by unfold fl; rw [if_neg (by omega)]; omega
     rw [this, if_pos rfl, if_neg (by omega), if_pos rfl]; omega
   · have a : fl f ≠ 2 * k := fun e => h1 (by have := a5b f; rw [e] at this; rw [← this]; unfold fl; rw [if_pos (by omega)])
     have b : fl f ≠ 2 * k + 1 := fun e => h0 (by have := a5b f; rw [e] at this; rw [← this]; unfold fl; rw [if_neg (by omega)]; omega)
     rw [if_neg a, if_neg b, if_neg h0, if_neg h1]
     exact this
theorem b3w {c : Tb} {n : Nat} (T : a6e c (2 * n)) (d : ∀ f, f < 2 * n -> leE (some 0) (c f (fl f))) {S : Nat -> Bool} {w : Nat -> Int} (p : Pt w (2 * n)) (l : d7w S w c (2 * n)) :
  ∃ w', Pt w' (2 * n) /\ a6u w' c (2 * n) /\ ∀ f, S (f / 2) = true -> w' f = w f := by
 have gen : ∀ k, k <= n -> ∃ (S' : Nat -> Bool) (w' : Nat -> Int), Pt w' (2 * n) /\ d7w S' w' c (2 * n) /\ (∀ f, S (f / 2) = true -> w' f = w f) /\ (∀ j, S j = true -> S' j = true) /\ ∀ j, j < k -> S' j = true := by
  intro k
  induction k with
  | zero => exact fun _ => ⟨S, w, p, l, fun _ _ => rfl, fun _ h => h, fun j h => by omega⟩
  | succ k ih =>
   intro hk
   obtain ⟨S', w', p', l', a, b, e⟩ := ih (by omega)
   cases hs : S' k with
   | true => exact ⟨S', w', p', l', a, b, fun j hj => by
     by_cases z : j = k
     · rw [z]; exact hs
     · exact e j (by omega)⟩
   | false =>
    obtain ⟨z, lz⟩ := d8f T d (by omega) hs l'
    refine ⟨_, _, d0g p', lz, fun f hf => ?_, fun j hj => by simp [b j hj], fun j hj => ?_⟩
    · have : f / 2 ≠ k := fun q => by have := b _ hf; rw [q, hs] at this; cases this
      rw [← a f hf]
      unfold b4p
      rw [if_neg (by omega), if_neg (by omega)]
    · by_cases q : j = k
      · simp [q]
      · simp [e j (by omega)]
 obtain ⟨S', w', p', l', a, b, e⟩ := gen n (Nat.le_refl _)
 exact ⟨w', p', fun f g hf hg => l' f g hf hg (e _ (by omega)) (e _ (by omega)), a⟩
theorem b1j {c : Tb} {n : Nat} (T : a6e c (2 * n)) (d : ∀ f, f < 2 * n -> leE (some 0) (c f (fl f))) : ∃ w, Pt w (2 * n) /\ a6u w c (2 * n) := by
 obtain ⟨w, p, l, _⟩ := b3w (S := fun _ => false) (w := fun _ => 0) T d (fun _ _ => by simp) (fun f g _ _ h => by cases h)
 exact ⟨w, p, l⟩
theorem d7t {hf hf' hg hg' A B C D : E} {m : Int} (F1 : leE C (a0t hf hg)) (F2 : leE D (a0t hf' hg')) (F5 : leE C (a0t (dbl hf) A)) (F6 : leE C (a0t B (dbl hg))) (F7 : leE D (a0t (dbl hf') B)) (F8 : leE D (a0t A (dbl hg')))
  (F9 : leE (dbl hf) (a0t C B)) (F10 : leE (dbl hg) (a0t C A)) (F11 : leE (some 0) (a0t hf hf')) (F11' : leE (some 0) (a0t hg hg')) (F12 : leE (some 0) (a0t A B)) (F13 : leE (some 0) (a0t C D)) (hm : leE (some m) C) :
  ∃ x y : Int, m <= x + y /\ leE (some x) hf /\ leE (some (-x)) hf' /\ leE (some y) hg /\ leE (some (-y)) hg' /\ leE (some (x + y)) C /\ leE (some (x - y)) B /\ leE (some (-x + y)) A /\ leE (some (-x - y)) D := by
 obtain ⟨M0, m0, c0, d0⟩ : ∃ M, m <= M /\ leE (some M) C /\ leE (some (-M)) D := by
  cases D with
  | none => exact ⟨m, Int.le_refl _, hm, by simp [leE]⟩
  | some e =>
   by_cases h : m < -e
   · refine ⟨-e, by omega, ?_, by simp [leE]⟩
     cases C <;> simp_all [leE, a0t] <;> omega
   · exact ⟨m, Int.le_refl _, hm, by simp [leE]; omega⟩
 obtain ⟨M, m1, c1, d1, par⟩ : ∃ M, m <= M /\ leE (some M) C /\ leE (some (-M)) D /\ ∀ a b, A = some a -> B = some b -> a + b = 0 -> (M + b) % 2 = 0 := by
  by_cases h : ∀ a b, A = some a -> B = some b -> a + b = 0 -> (M0 + b) % 2 = 0
  · exact ⟨M0, m0, c0, d0, h⟩
  · have ⟨a, b, ea, eb, ab, od⟩ : ∃ a b, A = some a /\ B = some b /\ a + b = 0 /\ ¬ (M0 + b) % 2 = 0 := by
     refine Classical.byContradiction fun k => h fun a b ea eb ab => Classical.byContradiction fun q => k ⟨a, b, ea, eb, ab, q⟩
    subst ea eb
    refine ⟨M0 + 1, by omega, ?_, ?_, fun a' b' e1 e2 _ => ?_⟩
    · revert F1 F9 F10 c0
      cases C <;> cases hf <;> cases hg <;> simp [leE, a0t, dbl] <;> omega
    · revert d0
      cases D <;> simp [leE] <;> omega
    · cases e2; omega
 obtain ⟨x, lo, up⟩ := d0b (hf'.toList.map (fun a => -a) ++ hg.toList.map (fun a => M - a) ++ A.toList.map (fun a => (M - a + 1) / 2)) (hf.toList ++ hg'.toList.map (fun a => M + a) ++ B.toList.map (fun b => (M + b) / 2)) (by
  intro l hl u hu
  simp only [List.mem_append, List.mem_map, Option.mem_toList, Option.mem_def] at hl hu
  rcases hl with (⟨a, rfl, rfl⟩ | ⟨a, rfl, rfl⟩) | ⟨a, rfl, rfl⟩ <;> rcases hu with (rfl | ⟨b, rfl, rfl⟩) | ⟨b, rfl, rfl⟩
  · revert F11; simp [leE, a0t]; omega
  · revert F2 d1; cases D <;> simp [leE, a0t]; omega
  · revert F7 d1; cases D <;> simp [leE, a0t, dbl]; omega
  · revert F1 c1; cases C <;> simp [leE, a0t]; omega
  · revert F11'; simp [leE, a0t]; omega
  · revert F6 c1; cases C <;> simp [leE, a0t, dbl]; omega
  · revert F5 c1; cases C <;> simp [leE, a0t, dbl]; omega
  · revert F8 d1; cases D <;> simp [leE, a0t, dbl]; omega
  · have p := par a b rfl rfl
    revert F12; simp [leE, a0t]; omega)
 simp only [List.mem_append, List.mem_map, Option.mem_toList, Option.mem_def] at lo up
 refine ⟨x, M - x, by omega, ?_, ?_, ?_, ?_, ?_, ?_, ?_, ?_⟩
 · cases hf with
   | none => simp [leE]
   | some a => have := up a (.inl (.inl rfl)); simp [leE]; omega
 · cases hf' with
   | none => simp [leE]
   | some a => have := lo (-a) (.inl (.inl ⟨a, rfl, rfl⟩)); simp [leE]; omega
 · cases hg with
   | none => simp [leE]
   | some a => have := lo (M - a) (.inl (.inr ⟨a, rfl, rfl⟩)); simp [leE]; omega
 · cases hg' with
   | none => simp [leE]
   | some a => have := up (M + a) (.inl (.inr ⟨a, rfl, rfl⟩)); simp [leE]; omega
 · rw [show x + (M - x) = M by omega]; exact c1
 · cases B with
   | none => simp [leE]
   | some a => have := up ((M + a) / 2) (.inr ⟨a, rfl, rfl⟩); simp [leE]; omega
 · cases A with
   | none => simp [leE]
   | some a => have := lo ((M - a + 1) / 2) (.inr ⟨a, rfl, rfl⟩); simp [leE]; omega
 · rw [show -x - (M - x) = -M by omega]; exact d1
theorem a6x {c : Tb} {N f : Nat} (T : a6e c N) (hf : f < N) : dbl (hv c f) = c f f := by
 have e := T.even f hf
 unfold hv
 revert e
 generalize c f f = a
 cases a <;> simp [dbl, hlf]; omega
theorem b6a {c : Tb} {N f g : Nat} (T : a6e c N) (hf : f < N) (hg : g < N) : leE (c f g) (a0t (hv c f) (hv c g)) := by
 have z := T.halves f g hf hg
 rw [← a6x T hf, ← a6x T hg] at z
 revert z
 generalize c f g = a; generalize hv c f = b; generalize hv c g = e
 cases a <;> cases b <;> cases e <;> simp [leE, a0t, dbl]; omega
def c5o (w : Nat -> Int) (f : Nat) (x : Int) : Nat -> Int := fun h => if h = f then x else if h = fl f then -x else w h
theorem d0d {w : Nat -> Int} {f N : Nat} {x : Int} (p : Pt w N) : Pt (c5o w f x) N := fun h hh => by
 have := p h hh
 unfold c5o
 by_cases h0 : h = f
 · subst h0; rw [if_neg (d7n h), if_pos rfl, if_pos rfl]
 · by_cases h1 : h = fl f
   · subst h1; rw [a5b, if_pos rfl, if_neg (d7n f), if_pos rfl]; omega
   · rw [if_neg (fun e => h1 (by rw [← e, a5b])), if_neg (fun e => h0 (by rw [← a5b h, e, a5b])), if_neg h0, if_neg h1]
     exact this
theorem c4d (f : Nat) : fl f / 2 = f / 2 := by unfold fl; split <;> omega
theorem b4i {f g : Nat} (h : g / 2 = f / 2) : g = f \/ g = fl f := by unfold fl; split <;> omega
theorem b1t {c : Tb} {N f : Nat} {x : Int} (T : a6e c N) (hf : f < N) (h : leE (some x) (hv c f)) : leE (some (x + x)) (c f f) := by
 rw [← a6x T hf]
 revert h
 generalize hv c f = a
 cases a <;> simp [leE, dbl]; omega
theorem c4c {c : Tb} {n f g : Nat} {m : Int} (T : a6e c (2 * n)) (d : ∀ f, f < 2 * n -> leE (some 0) (c f (fl f))) (hf : f < 2 * n) (hg : g < 2 * n) (ne : f / 2 ≠ g / 2) (hm : leE (some m) (c f g)) :
  ∃ w, Pt w (2 * n) /\ a6u w c (2 * n) /\ m <= w f + w g := by
 have ff := a3k hf
 have fg := a3k hg
 have t1 := T.closed f hf f g hf hg
 have t2 := T.closed (fl g) fg f g hf hg
 have t3 := T.closed (fl f) ff (fl f) (fl g) ff fg
 have t4 := T.closed g hg (fl f) (fl g) ff fg
 have t5 := T.closed g hg f f hf hf
 have t6 := T.closed f hf g g hg hg
 have t7 := a0j (d f hf) (T.closed (fl g) fg f (fl f) hf ff)
 have t8 := a0j (d f hf) (T.closed g hg f (fl f) hf ff)
 rw [a5b] at t2 t3 t7
 rw [T.sym (fl g) f fg hf] at t5
 rw [T.sym g f hg hf] at t6
 rw [T.sym g (fl f) hg ff, a9q] at t7
 rw [T.sym (fl g) (fl f) fg ff] at t8
 obtain ⟨x, y, h0, x1, x2, y1, y2, a1, a2, a3, a4⟩ := d7t (hf := hv c f) (hf' := hv c (fl f)) (hg := hv c g) (hg' := hv c (fl g)) (A := c (fl f) g) (B := c f (fl g)) (C := c f g) (D := c (fl f) (fl g)) (m := m)
  (b6a T hf hg) (b6a T ff fg) (by rw [a6x T hf]; exact t1) (by rw [a6x T hg]; exact t2) (by rw [a6x T ff]; exact t3) (by rw [a6x T fg]; exact t4) (by rw [a6x T hf]; exact t5) (by rw [a6x T hg]; exact t6)
  (a4w T hf ff (d f hf)) (a4w T hg fg (d g hg)) t7 t8 hm
 have p0 : Pt (c5o (c5o (fun _ => 0) f x) g y) (2 * n) := d0d (d0d fun _ _ => by simp)
 have ng : f ≠ g := fun e => ne (by rw [e])
 have ng2 : f ≠ fl g := fun e => ne (by rw [e, c4d])
 have ng3 : fl f ≠ g := fun e => ne (by rw [← e, c4d])
 have ng4 : fl f ≠ fl g := fun e => ne (by rw [← c4d f, e, c4d])
 have w1 : c5o (c5o (fun _ => 0) f x) g y f = x := by unfold c5o; rw [if_neg ng, if_neg ng2, if_pos rfl]
 have w2 : c5o (c5o (fun _ => 0) f x) g y (fl f) = -x := by rw [p0 f hf, w1]
 have w3 : c5o (c5o (fun _ => 0) f x) g y g = y := by unfold c5o; rw [if_pos rfl]
 have w4 : c5o (c5o (fun _ => 0) f x) g y (fl g) = -y := by rw [p0 g hg, w3]
 obtain ⟨w', p', l', ag⟩ := b3w (S := fun j => j == f / 2 || j == g / 2) T d p0 (by
  intro u v hu hv su sv
  have cu : u = f \/ u = fl f \/ u = g \/ u = fl g := by
   rcases Bool.or_eq_true_iff.mp su with z | z
   · rcases b4i (beq_iff_eq.mp z) with q | q <;> simp [q]
   · rcases b4i (beq_iff_eq.mp z) with q | q <;> simp [q]
  have cv : v = f \/ v = fl f \/ v = g \/ v = fl g := by
   rcases Bool.or_eq_true_iff.mp sv with z | z
   · rcases b4i (beq_iff_eq.mp z) with q | q <;> simp [q]
   · rcases b4i (beq_iff_eq.mp z) with q | q <;> simp [q]
  have df := d f hf
  have dg := d g hg
  have sw : ∀ {a b : Int} {i j : Nat}, i < 2 * n -> j < 2 * n -> leE (some (a + b)) (c i j) -> leE (some (b + a)) (c j i) := fun hi hj q => by rw [Int.add_comm, T.sym _ _ hj hi]; exact q
  have z1 := b1t T hf x1
  have z2 := b1t T ff x2
  have z3 := b1t T hg y1
  have z4 := b1t T fg y2
  have b1 : leE (some (x + -x)) (c f (fl f)) := by rw [show x + -x = 0 by omega]; exact df
  have b2 : leE (some (y + -y)) (c g (fl g)) := by rw [show y + -y = 0 by omega]; exact dg
  have b3 : leE (some (x + -y)) (c f (fl g)) := a2
  have b4 : leE (some (-x + -y)) (c (fl f) (fl g)) := a4
  unfold tab
  rcases cu with rfl | rfl | rfl | rfl <;> rcases cv with rfl | rfl | rfl | rfl <;> simp only [w1, w2, w3, w4] <;> first | assumption | (exact sw hf ff b1) | (exact sw hg fg b2) | (exact sw hf fg b3) | (exact sw ff fg b4) | (exact sw hf hg a1) | (exact sw ff hg a3))
 refine ⟨w', p', l', ?_⟩
 rw [ag f (by simp), ag g (by simp), w1, w3]
 exact h0
theorem d2j {c : Tb} {n f : Nat} {m : Int} (T : a6e c (2 * n)) (d : ∀ f, f < 2 * n -> leE (some 0) (c f (fl f))) (hf : f < 2 * n) (hm : leE (some m) (hv c f)) : ∃ w, Pt w (2 * n) /\ a6u w c (2 * n) /\ m <= w f := by
 have ff := a3k hf
 have e := a4w T hf ff (d f hf)
 obtain ⟨x, h0, x1, x2⟩ : ∃ x : Int, m <= x /\ leE (some x) (hv c f) /\ leE (some (-x)) (hv c (fl f)) := by
  revert e hm
  generalize hv c f = a; generalize hv c (fl f) = b
  cases b with
  | none => exact fun hm _ => ⟨m, Int.le_refl _, hm, by simp [leE]⟩
  | some b =>
   intro hm e
   refine ⟨max m (-b), by omega, ?_, by simp [leE]; omega⟩
   cases a <;> simp_all [leE, a0t] <;> omega
 have p0 : Pt (c5o (fun _ => 0) f x) (2 * n) := d0d fun _ _ => by simp
 have w1 : c5o (fun _ => 0) f x f = x := by unfold c5o; rw [if_pos rfl]
 have w2 : c5o (fun _ => 0) f x (fl f) = -x := by rw [p0 f hf, w1]
 obtain ⟨w', p', l', ag⟩ := b3w (S := fun j => j == f / 2) T d p0 (by
  intro u v hu hv su sv
  have df := d f hf
  have z1 := b1t T hf x1
  have z2 := b1t T ff x2
  have b1 : leE (some (x + -x)) (c f (fl f)) := by rw [show x + -x = 0 by omega]; exact df
  have b2 : leE (some (-x + x)) (c (fl f) f) := by rw [Int.add_comm, T.sym _ _ ff hf]; exact b1
  unfold tab
  rcases b4i (beq_iff_eq.mp su) with rfl | rfl <;> rcases b4i (beq_iff_eq.mp sv) with rfl | rfl <;> simp only [w1, w2] <;> assumption)
 exact ⟨w', p', l', by rw [ag f (by simp), w1]; exact h0⟩
theorem e7n {t : Tb} {P : Nat -> E} {N : Nat} (even : ∀ f, f < N -> fl f < N) (c : b1d t N) (s : Sym t N) (K : ∀ f g, f < N -> g < N -> leE (P g) (a0t (t (fl f) g) (P f))) (d : ∀ f, f < N -> leE (some 0) (a0t (P f) (P (fl f)))) : b1d (fun f g => a3z (t f g) (a0t (P f) (P g))) N := by
 intro x hx f g hf hg
 have fx := even x hx
 have k1 := K x g hx hg
 have k2 := K (fl x) f fx hf
 rw [a5b, s x f hx hf] at k2
 show leE (a3z _ _) (a0t (a3z (t f x) (a0t (P f) (P x))) (a3z (t (fl x) g) (a0t (P (fl x)) (P g))))
 rcases a1s (t f x) (a0t (P f) (P x)) with e1 | e1 <;> rcases a1s (t (fl x) g) (a0t (P (fl x)) (P g)) with e2 | e2 <;> rw [e1, e2]
 · exact a0j (a5a _ _) (c x hx f g hf hg)
 · refine a0j (a2t _ _) ?_
   rw [← a7m]
   exact a5j k2 (a1r _)
 · refine a0j (a2t _ _) ?_
   rw [a7m, a9q (P x)]
   exact a5j (a1r _) k1
 · exact a0j (a2t _ _) (c3l (d x hx))
def b8l (c : Tb) (h : Nat) (z : Int) (a : Nat) : E := a3z (hv c a) (a3z (a0t (c a h) (some (-z))) (a0t (c a (fl h)) (some z)))
def b1s (c : Tb) (h : Nat) (z : Int) : Tb := fun f g => a3z (c f g) (a0t (b8l c h z f) (b8l c h z g))
theorem c0w {a b x y : E} (k : leE a (a0t x b)) (l : leE a (a0t x y)) : leE a (a0t x (a3z b y)) := by
 rcases a1s b y with e | e <;> rw [e] <;> assumption
theorem d8q {c : Tb} {N h f g : Nat} {z : Int} (even : ∀ f, f < N -> fl f < N) (T : a6e c N) (hh : h < N) (hf : f < N) (hg : g < N) : leE (b8l c h z g) (a0t (c (fl f) g) (b8l c h z f)) := by
 have ff := even f hf
 have fh := even h hh
 have k := a4q T.closed T.sym hf ff hg
 have a1 := T.closed (fl f) ff g h hg hh
 have a2 := T.closed (fl f) ff g (fl h) hg fh
 rw [a5b, T.sym g (fl f) hg ff] at a1 a2
 refine c0w (a0j (a5a _ _) k) (c0w (a0j (a0j (a2t _ _) (a5a _ _)) ?_) (a0j (a0j (a2t _ _) (a2t _ _)) ?_))
 · rw [← a7m]; exact a5j a1 (a1r _)
 · rw [← a7m]; exact a5j a2 (a1r _)
theorem c6b {c : Tb} {N h f : Nat} {z : Int} (even : ∀ f, f < N -> fl f < N) (T : a6e c N) (d : ∀ f, f < N -> leE (some 0) (c f (fl f))) (hh : h < N) (hf : f < N) (z1 : leE (some z) (hv c h)) (z2 : leE (some (-z)) (hv c (fl h))) : leE (some 0) (a0t (b8l c h z f) (b8l c h z (fl f))) := by
 have ff := even f hf
 have fh := even h hh
 have b1 := a4w T hf ff (d f hf)
 have b2 := a0j z1 (a4q T.closed T.sym hf ff hh)
 have b3 := a0j z2 (a4q T.closed T.sym hf ff fh)
 have b4 := a0j z1 (a4q T.closed T.sym ff (by rw [a5b]; exact hf) hh)
 have b5 := a0j z2 (a4q T.closed T.sym ff (by rw [a5b]; exact hf) fh)
 rw [a5b] at b4 b5
 have b6 := a0j (b1t T hh z1) (T.closed f hf h h hh hh)
 have b7 := a0j (b1t T fh z2) (T.closed f hf (fl h) (fl h) fh fh)
 have b8 := a0j (d h hh) (T.closed f hf h (fl h) hh fh)
 have b9 := a0j (d h hh) (T.closed (fl f) ff h (fl h) hh fh)
 rw [a5b] at b9
 rw [T.sym h f hh hf] at b6 b8
 rw [T.sym (fl h) f fh hf] at b7
 rw [T.sym h (fl f) hh ff] at b9
 unfold b8l
 revert b1 b2 b3 b4 b5 b6 b7 b8 b9
 generalize hv c f = p; generalize hv c (fl f) = p'; generalize c f h = q; generalize c (fl f) h = q'; generalize c f (fl h) = r; generalize c (fl f) (fl h) = r'
 intro b1 b2 b3 b4 b5 b6 b7 b8 b9
 rcases a1s p (a3z (a0t q (some (-z))) (a0t r (some z))) with e | e <;> rw [e]
 · rcases a1s p' (a3z (a0t q' (some (-z))) (a0t r' (some z))) with e | e <;> rw [e]
   · exact b1
   · rcases a1s (a0t q' (some (-z))) (a0t r' (some z)) with e | e <;> rw [e]
     · clear b1 b3 b4 b5 b6 b7 b8 b9; cases p <;> cases q' <;> simp_all [leE, a0t] <;> omega
     · clear b1 b2 b4 b5 b6 b7 b8 b9; cases p <;> cases r' <;> simp_all [leE, a0t] <;> omega
 · rcases a1s (a0t q (some (-z))) (a0t r (some z)) with e | e <;> rw [e]
   · rcases a1s p' (a3z (a0t q' (some (-z))) (a0t r' (some z))) with e | e <;> rw [e]
     · clear b1 b2 b3 b5 b6 b7 b8 b9; cases p' <;> cases q <;> simp_all [leE, a0t] <;> omega
     · rcases a1s (a0t q' (some (-z))) (a0t r' (some z)) with e | e <;> rw [e]
       · clear b1 b2 b3 b4 b5 b7 b8 b9; cases q <;> cases q' <;> simp_all [leE, a0t] <;> omega
       · clear b1 b2 b3 b4 b5 b6 b7 b9; cases q <;> cases r' <;> simp_all [leE, a0t] <;> omega
   · rcases a1s p' (a3z (a0t q' (some (-z))) (a0t r' (some z))) with e | e <;> rw [e]
     · clear b1 b2 b3 b4 b6 b7 b8 b9; cases p' <;> cases r <;> simp_all [leE, a0t] <;> omega
     · rcases a1s (a0t q' (some (-z))) (a0t r' (some z)) with e | e <;> rw [e]
       · clear b1 b2 b3 b4 b5 b6 b7 b8; cases r <;> cases q' <;> simp_all [leE, a0t] <;> omega
       · clear b1 b2 b3 b4 b5 b6 b8 b9; cases r <;> cases r' <;> simp_all [leE, a0t] <;> omega
theorem d5x (c : Tb) (h : Nat) (z : Int) (a : Nat) : leE (b8l c h z a) (hv c a) := a5a _ _
theorem a4c {c : Tb} {N h a : Nat} {z : Int} (T : a6e c N) (ha : a < N) : b1s c h z a a = dbl (b8l c h z a) := by
 have z1 := d5x c h z a
 have e := a6x T ha
 unfold b1s
 rw [← e]
 revert z1
 generalize b8l c h z a = p; generalize hv c a = q
 cases p <;> cases q <;> simp [leE, a3z, a0t, dbl] <;> omega
theorem b1o {c : Tb} {N h : Nat} {z : Int} (even : ∀ f, f < N -> fl f < N) (T : a6e c N) (d : ∀ f, f < N -> leE (some 0) (c f (fl f))) (hh : h < N) (z1 : leE (some z) (hv c h)) (z2 : leE (some (-z)) (hv c (fl h))) : a6e (b1s c h z) N where
 sym := fun f g hf hg => by unfold b1s; rw [T.sym f g hf hg, a9q]
 closed := e7n even T.closed T.sym (fun f g hf hg => d8q even T hh hf hg) fun f hf => c6b even T d hh hf z1 z2
 even := fun f hf a e => by
  rw [a4c T hf] at e
  revert e
  generalize b8l c h z f = b
  cases b <;> simp [dbl] <;> omega
 halves := fun f g hf hg => by
  rw [a4c T hf, a4c T hg]
  unfold b1s
  generalize b8l c h z f = a; generalize b8l c h z g = b; generalize c f g = e
  cases a <;> cases b <;> cases e <;> simp [leE, a0t, dbl, a3z] <;> omega
theorem b9x {c : Tb} {N h : Nat} {z : Int} (even : ∀ f, f < N -> fl f < N) (T : a6e c N) (d : ∀ f, f < N -> leE (some 0) (c f (fl f))) (hh : h < N) (z1 : leE (some z) (hv c h)) (z2 : leE (some (-z)) (hv c (fl h))) : ∀ f, f < N -> leE (some 0) (b1s c h z f (fl f)) := fun f hf =>
 a3y (d f hf) (c6b even T d hh hf z1 z2)
theorem c8v {hf hg hh hh' C X1 X2 Y1 Y2 : E} {m : Int} (n1 : leE (some m) (a0t C hh)) (n2 : leE (some m) (a0t X1 hg)) (n3 : leE (some m) (a0t Y1 hf)) (n4 : leE (some (m + m)) (a0t C (a0t X1 Y1)))
  (c1 : leE C (a0t X1 Y2)) (c2 : leE C (a0t X2 Y1)) (c3 : leE Y1 (a0t Y2 (dbl hh))) (c4 : leE X1 (a0t X2 (dbl hh))) (c5 : leE hf (a0t X1 hh')) (c6 : leE (some 0) (a0t hh hh')) :
  ∃ z : Int, leE (some z) hh /\ leE (some (-z)) hh' /\ leE (some (m - z)) C /\ leE (some (m - z)) (a0t (a0t X1 (some (-z))) (a0t Y1 (some (-z)))) /\ leE (some (m - z)) (a0t hf (a0t Y2 (some z))) /\ leE (some (m - z)) (a0t (a0t X2 (some z)) hg) /\ leE (some (m - z)) (a0t (a0t X2 (some z)) (a0t Y2 (some z))) := by
 obtain ⟨z, lo, up⟩ := d0b (hh'.toList.map (fun a => -a) ++ C.toList.map (fun a => m - a) ++ (a0t hf Y2).toList.map (fun a => (m - a + 1) / 2) ++ (a0t X2 hg).toList.map (fun a => (m - a + 1) / 2) ++ (a0t X2 Y2).toList.map (fun a => (m - a + 2) / 3)) (hh.toList ++ (a0t X1 Y1).toList.map (fun a => a - m)) (by
  intro l hl u hu
  simp only [List.mem_append, List.mem_map, Option.mem_toList, Option.mem_def] at hl hu
  rcases hl with (((⟨a, ea, rfl⟩ | ⟨a, ea, rfl⟩) | ⟨a, ea, rfl⟩) | ⟨a, ea, rfl⟩) | ⟨a, ea, rfl⟩ <;> rcases hu with eb | ⟨b, eb, rfl⟩
  · subst ea eb; revert c6; simp [leE, a0t]; omega
  · subst ea; revert n3 c5 eb; cases X1 <;> cases Y1 <;> cases hf <;> simp [leE, a0t]; omega
  · subst ea eb; revert n1; simp [leE, a0t]; omega
  · subst ea; revert n4 eb; cases X1 <;> cases Y1 <;> simp [leE, a0t]; omega
  · subst eb; revert n3 c3 ea; cases hf <;> cases Y2 <;> cases Y1 <;> simp [leE, a0t, dbl]; omega
  · revert n3 n4 c1 ea eb; cases hf <;> cases Y2 <;> cases Y1 <;> cases X1 <;> cases C <;> simp [leE, a0t]; omega
  · subst eb; revert n2 c4 ea; cases hg <;> cases X2 <;> cases X1 <;> simp [leE, a0t, dbl]; omega
  · revert n2 n4 c2 ea eb; cases hg <;> cases X2 <;> cases Y1 <;> cases X1 <;> cases C <;> simp [leE, a0t]; omega
  · subst eb; revert n1 c2 c3 ea; cases X2 <;> cases Y2 <;> cases Y1 <;> cases C <;> simp [leE, a0t, dbl]; omega
  · revert n4 c1 c2 ea eb; cases X2 <;> cases Y2 <;> cases Y1 <;> cases X1 <;> cases C <;> simp [leE, a0t]; omega)
 simp only [List.mem_append, List.mem_map, Option.mem_toList, Option.mem_def] at lo up
 have u2 : ∀ a, a0t X1 Y1 = some a -> z <= a - m := fun a e => up _ (.inr ⟨a, e, rfl⟩)
 have l3 : ∀ a, a0t hf Y2 = some a -> (m - a + 1) / 2 <= z := fun a e => lo _ (.inl (.inl (.inr ⟨a, e, rfl⟩)))
 have l4 : ∀ a, a0t X2 hg = some a -> (m - a + 1) / 2 <= z := fun a e => lo _ (.inl (.inr ⟨a, e, rfl⟩))
 have l5 : ∀ a, a0t X2 Y2 = some a -> (m - a + 2) / 3 <= z := fun a e => lo _ (.inr ⟨a, e, rfl⟩)
 refine ⟨z, ?_, ?_, ?_, ?_, ?_, ?_, ?_⟩
 · cases hh with
   | none => simp [leE]
   | some a => have := up a (.inl rfl); simp [leE]; omega
 · cases hh' with
   | none => simp [leE]
   | some a => have := lo (-a) (.inl (.inl (.inl (.inl ⟨a, rfl, rfl⟩)))); simp [leE]; omega
 · cases C with
   | none => simp [leE]
   | some a => have := lo (m - a) (.inl (.inl (.inl (.inr ⟨a, rfl, rfl⟩)))); simp [leE]; omega
 · cases X1 with
   | none => simp [leE, a0t]
   | some a => cases Y1 with
    | none => simp [leE, a0t]
    | some b => have := u2 (a + b) rfl; simp [leE, a0t]; omega
 · cases hf with
   | none => simp [leE, a0t]
   | some a => cases Y2 with
    | none => simp [leE, a0t]
    | some b => have := l3 (a + b) rfl; simp [leE, a0t]; omega
 · cases X2 with
   | none => simp [leE, a0t]
   | some a => cases hg with
    | none => simp [leE, a0t]
    | some b => have := l4 (a + b) rfl; simp [leE, a0t]; omega
 · cases X2 with
   | none => simp [leE, a0t]
   | some a => cases Y2 with
    | none => simp [leE, a0t]
    | some b => have := l5 (a + b) rfl; simp [leE, a0t]; omega
theorem c2p {c : Tb} {n f g h : Nat} {m : Int} (T : a6e c (2 * n)) (dz : ∀ f, f < 2 * n -> c f (fl f) = some 0) (hf : f < 2 * n) (hg : g < 2 * n) (hh : h < 2 * n) (ne : f / 2 ≠ g / 2)
  (n1 : leE (some m) (a0t (c f g) (hv c h))) (n2 : leE (some m) (a0t (c f h) (hv c g))) (n3 : leE (some m) (a0t (c g h) (hv c f))) (n4 : leE (some (m + m)) (a0t (c f g) (a0t (c f h) (c g h)))) :
  ∃ w, Pt w (2 * n) /\ a6u w c (2 * n) /\ m <= w f + w g + w h := by
 have d : ∀ f, f < 2 * n -> leE (some 0) (c f (fl f)) := fun f hf => by rw [dz f hf]; exact a1r _
 have ev : ∀ f, f < 2 * n -> fl f < 2 * n := fun f hf => a3k hf
 have ff := a3k hf
 have fg := a3k hg
 have fh := a3k hh
 have c1 := T.closed h hh f g hf hg
 have c2 := T.closed (fl h) fh f g hf hg
 have c3 := T.closed (fl h) fh g h hg hh
 have c4 := T.closed (fl h) fh f h hf hh
 have c5 := a4q (f := fl h) (g := f) T.closed T.sym fh (by rw [a5b]; exact hh) hf
 rw [a5b] at c2 c3 c4 c5
 rw [T.sym (fl h) g fh hg] at c1
 rw [T.sym h g hh hg] at c2
 rw [T.sym h f hh hf] at c5
 obtain ⟨z, z1, z2, q1, q2, q3, q4, q5⟩ := c8v (hf := hv c f) (hg := hv c g) (hh := hv c h) (hh' := hv c (fl h)) (C := c f g) (X1 := c f h) (X2 := c f (fl h)) (Y1 := c g h) (Y2 := c g (fl h)) (m := m) n1 n2 n3 n4 c1 c2
  (by rw [a6x T hh]; exact c3) (by rw [a6x T hh]; exact c4) c5 (a4w T hh fh (d h hh))
 have TT := b1o ev T d hh z1 z2
 have reach : leE (some (m - z)) (b1s c h z f g) := by
  refine a3y q1 ?_
  unfold b8l
  have k1 := b6a T hf hg
  rcases a1s (hv c f) (a3z (a0t (c f h) (some (-z))) (a0t (c f (fl h)) (some z))) with e | e <;> rw [e]
  · rcases a1s (hv c g) (a3z (a0t (c g h) (some (-z))) (a0t (c g (fl h)) (some z))) with e | e <;> rw [e]
    · exact a0j q1 k1
    · rcases a1s (a0t (c g h) (some (-z))) (a0t (c g (fl h)) (some z)) with e | e <;> rw [e]
      · revert n3; generalize c g h = a; generalize hv c f = b; cases a <;> cases b <;> simp [leE, a0t] <;> omega
      · exact q3
  · rcases a1s (a0t (c f h) (some (-z))) (a0t (c f (fl h)) (some z)) with e | e <;> rw [e]
    · rcases a1s (hv c g) (a3z (a0t (c g h) (some (-z))) (a0t (c g (fl h)) (some z))) with e | e <;> rw [e]
      · revert n2; generalize c f h = a; generalize hv c g = b; cases a <;> cases b <;> simp [leE, a0t] <;> omega
      · rcases a1s (a0t (c g h) (some (-z))) (a0t (c g (fl h)) (some z)) with e | e <;> rw [e]
        · exact q2
        · revert q1 c1; generalize c f h = a; generalize c g (fl h) = b; generalize c f g = x; cases a <;> cases b <;> cases x <;> simp [leE, a0t] <;> omega
    · rcases a1s (hv c g) (a3z (a0t (c g h) (some (-z))) (a0t (c g (fl h)) (some z))) with e | e <;> rw [e]
      · exact q4
      · rcases a1s (a0t (c g h) (some (-z))) (a0t (c g (fl h)) (some z)) with e | e <;> rw [e]
        · revert q1 c2; generalize c f (fl h) = a; generalize c g h = b; generalize c f g = x; cases a <;> cases b <;> cases x <;> simp [leE, a0t] <;> omega
        · exact q5
 obtain ⟨w, p, l, ge⟩ := c4c TT (b9x ev T d hh z1 z2) hf hg ne reach
 refine ⟨w, p, fun a b ha hb => a0j (l a b ha hb) (a5a _ _), ?_⟩
 have lo := l (fl h) (fl h) fh fh
 rw [a4c T fh] at lo
 unfold tab at lo
 rw [p h hh] at lo
 have cap : leE (b8l c h z (fl h)) (some (-z)) := by
  have hz : c (fl h) h = some 0 := by rw [T.sym _ _ fh hh]; exact dz h hh
  refine a0j (a2t _ _) (a0j (a5a _ _) ?_)
  rw [hz]
  simp [leE, a0t]
 revert lo cap
 generalize b8l c h z (fl h) = a
 cases a <;> simp [leE, dbl] <;> omega
theorem c9k {N : Nat} {hs : List Nat} {t : Tb} (even : ∀ f, f < N -> fl f < N) (b : ∀ h ∈ hs, h < N) (all : ∀ h, h < N -> h ∈ hs) (s : Sym t N) (d : ∀ h, h < N -> leE (some 0) (a4v t hs (fl h) h)) (e : ∀ f, f < N -> leE (some 0) (a0t (hv (a4v t hs) f) (hv (a4v t hs) (fl f)))) : a6e (a4s (a4v t hs)) N :=
 c6h even (b7w even b all d) (d5n even b all d s) e
theorem c1g {N : Nat} {hs : List Nat} {t c : Tb} (even : ∀ f, f < N -> fl f < N) (b : ∀ h ∈ hs, h < N) (k : a6e c N) (l : Le c t N) : Le c (a4s (a4v t hs)) N := d5y k (b8x k.closed even hs t b l)
theorem d9u (hs : List Nat) (t : Tb) (f g : Nat) : leE (a4s (a4v t hs) f g) (t f g) := a0j (d7l _ f g) (b5v hs t f g)
def a5c : Tb := fun f g => if g = fl f then some 0 else none
def d1m (c : Tb) (f g : Nat) (z : Int) : Tb := fun a b => if (a = f /\ b = g) \/ (a = g /\ b = f) then a3z (c a b) (some z) else c a b
abbrev Sdn := Nat × Nat × Int
def b7p (c : Tb) : List Sdn -> Tb
 | [] => c
 | s :: r => b7p (d1m c s.1 s.2.1 s.2.2) r
def c2q (N : Nat) : List Nat := (List.range N).map fl
def e4n : E -> Bool
 | some z => decide (z < 0)
 | none => false
def b5a (u : Tb) (f : Nat) : Bool := e4n (u f (fl f)) || e4n (a0t (hv u f) (hv u (fl f)))
def a6b (N : Nat) (t : Tb) : Option Tb := if (List.range N).any (b5a (a4v t (c2q N))) then none else some (a4s (a4v t (c2q N)))
def d9v (a b : Tb) (N : Nat) : Prop := ∀ f g, f < N -> g < N -> a f g = b f g
theorem d6l (t : Tb) (f g : Nat) : a3z (t f g) (a0t (hv t f) (hv t g)) = a4s t f g := by
 unfold a4s a9m
 by_cases h : f = g
 · subst h
   rw [if_pos rfl]
   unfold hv
   generalize t f f = a
   cases a <;> simp [a3z, a0t, hlf, dbl] <;> omega
 · rw [if_neg h]
theorem b9h (e : E) : e4n e = false ↔ leE (some 0) e := by cases e <;> simp [e4n, leE]
theorem e3a (c : Tb) (f g : Nat) (z : Int) (a b : Nat) : leE (d1m c f g z a b) (c a b) := by
 unfold d1m
 split
 · exact a5a _ _
 · exact a1r _
theorem d5h (c : Tb) (f g : Nat) (z : Int) : leE (d1m c f g z f g) (some z) /\ leE (d1m c f g z g f) (some z) := by
 unfold d1m
 rw [if_pos (.inl ⟨rfl, rfl⟩), if_pos (.inr ⟨rfl, rfl⟩)]
 exact ⟨a2t _ _, a2t _ _⟩
theorem e2y {c t : Tb} {N f g : Nat} {z : Int} (l : Le c t N) (h1 : leE (c f g) (some z)) (h2 : leE (c g f) (some z)) : Le c (d1m t f g z) N := fun a b ha hb => by
 unfold d1m
 split
 · rename_i h
   refine a3y (l a b ha hb) ?_
   rcases h with ⟨rfl, rfl⟩ | ⟨rfl, rfl⟩
   · exact h1
   · exact h2
 · exact l a b ha hb
theorem e0j {c : Tb} {N f g : Nat} {z : Int} (s : Sym c N) : Sym (d1m c f g z) N := fun a b ha hb => by
 unfold d1m
 rw [s a b ha hb]
 by_cases h : (a = f /\ b = g) \/ (a = g /\ b = f)
 · rw [if_pos h, if_pos (by rcases h with ⟨x, y⟩ | ⟨x, y⟩; exact .inr ⟨y, x⟩; exact .inl ⟨y, x⟩)]
 · rw [if_neg h, if_neg (fun q => h (by rcases q with ⟨x, y⟩ | ⟨x, y⟩; exact .inr ⟨y, x⟩; exact .inl ⟨y, x⟩))]
theorem b4l : ∀ (ss : List Sdn) (c : Tb) (a b : Nat), leE (b7p c ss a b) (c a b)
 | [], _, _, _ => a1r _
 | s :: r, c, a, b => a0j (b4l r _ a b) (e3a c _ _ _ a b)
theorem a9w {N : Nat} : ∀ (ss : List Sdn) (c : Tb), Sym c N -> Sym (b7p c ss) N
 | [], _, s => s
 | _ :: r, _, s => a9w r _ (e0j s)
theorem c1c : ∀ (ss : List Sdn) (c : Tb) (s : Sdn), s ∈ ss -> leE (b7p c ss s.1 s.2.1) (some s.2.2) /\ leE (b7p c ss s.2.1 s.1) (some s.2.2)
 | [], _, _, h => by simp at h
 | t :: r, c, s, h => by
  rcases List.mem_cons.mp h with e | e
  · subst e
    have q := d5h c s.1 s.2.1 s.2.2
    exact ⟨a0j (b4l r _ _ _) q.1, a0j (b4l r _ _ _) q.2⟩
  · exact c1c r _ s e
def d0z (c : Tb) (s : Sdn) : Prop := leE (c s.1 s.2.1) (some s.2.2) /\ leE (c s.2.1 s.1) (some s.2.2)
theorem b0e {c : Tb} {N : Nat} : ∀ (ss : List Sdn) (t : Tb), Le c t N -> (∀ s ∈ ss, d0z c s) -> Le c (b7p t ss) N
 | [], _, l, _ => l
 | s :: r, t, l, k => b0e r _ (e2y l (k s List.mem_cons_self).1 (k s List.mem_cons_self).2) fun u hu => k u (List.mem_cons_of_mem _ hu)
theorem a7y {c t : Tb} {N : Nat} {ss : List Sdn} (hin : ∀ s ∈ ss, s.1 < N /\ s.2.1 < N) : Le c (b7p t ss) N ↔ Le c t N /\ ∀ s ∈ ss, d0z c s :=
 ⟨fun h => ⟨fun a b ha hb => a0j (h a b ha hb) (b4l ss t a b), fun s hs => ⟨a0j (h _ _ (hin s hs).1 (hin s hs).2) (c1c ss t s hs).1, a0j (h _ _ (hin s hs).2 (hin s hs).1) (c1c ss t s hs).2⟩⟩, fun ⟨l, k⟩ => b0e ss t l k⟩
theorem d1w (N : Nat) : Sym a5c N := fun f g _ _ => by
 unfold a5c
 by_cases h : g = fl f
 · rw [if_pos h, if_pos (by rw [h, a5b])]
 · rw [if_neg h, if_neg (fun q => h (by rw [q, a5b]))]
structure e5b (c : Tb) (N : Nat) : Prop where
 tight : a6e c N
 nn : ∀ f, f < N -> leE (some 0) (c f (fl f))
theorem d0q {N : Nat} (even : ∀ f, f < N -> fl f < N) : ∀ h ∈ c2q N, h < N := fun h hh => by
 obtain ⟨f, hf, rfl⟩ := List.mem_map.mp hh
 exact even f (List.mem_range.mp hf)
theorem d9q {N : Nat} (even : ∀ f, f < N -> fl f < N) : ∀ h, h < N -> h ∈ c2q N := fun h hh => List.mem_map.mpr ⟨fl h, List.mem_range.mpr (even h hh), a5b h⟩
theorem e4c {N : Nat} {u : Tb} (h : (List.range N).any (b5a u) = false) : ∀ f, f < N -> leE (some 0) (u f (fl f)) /\ leE (some 0) (a0t (hv u f) (hv u (fl f))) := fun f hf => by
 have q := List.any_eq_false.mp h f (List.mem_range.mpr hf)
 unfold b5a at q
 simp only [Bool.or_eq_true, not_or, Bool.not_eq_true] at q
 exact ⟨(b9h _).mp q.1, (b9h _).mp q.2⟩
theorem d8e {c t : Tb} {f : Nat} (h : leE (c f f) (t f f)) : leE (hv c f) (hv t f) := by
 revert h
 unfold hv
 generalize c f f = a; generalize t f f = b
 cases a <;> cases b <;> simp [leE, hlf] <;> omega
theorem e5b.halves0 {c : Tb} {N f : Nat} (G : e5b c N) (even : ∀ f, f < N -> fl f < N) (hf : f < N) : leE (some 0) (a0t (hv c f) (hv c (fl f))) := by
 have z := G.tight.halves f (fl f) hf (even f hf)
 have n := G.nn f hf
 have e1 := G.tight.even f hf
 have e2 := G.tight.even (fl f) (even f hf)
 unfold hv
 revert z n e1 e2
 generalize c f (fl f) = x; generalize c f f = a; generalize c (fl f) (fl f) = b
 cases x <;> cases a <;> cases b <;> simp [leE, dbl, a0t, hlf] <;> omega
theorem a4z {N : Nat} {t s : Tb} (even : ∀ f, f < N -> fl f < N) (sy : Sym t N) (h : a6b N t = some s) : e5b s N /\ Le s t N /\ ∀ c, a6e c N -> Le c t N -> Le c s N := by
 unfold a6b at h
 split at h
 · cases h
 · rename_i nb
   have nb' : (List.range N).any (b5a (a4v t (c2q N))) = false := by simpa using nb
   have q := e4c nb'
   cases h
   have d : ∀ h, h < N -> leE (some 0) (a4v t (c2q N) (fl h) h) := fun h hh => by
    have := (q (fl h) (even h hh)).1
    rwa [a5b] at this
   have T := c9k even (d0q even) (d9q even) sy d fun f hf => (q f hf).2
   refine ⟨⟨T, fun f hf => ?_⟩, fun f g _ _ => d9u _ _ f g, fun c k l => c1g even (d0q even) k l⟩
   have l1 := (q f hf).1
   have l2 := (q f hf).2
   unfold a4s a9m
   rw [if_neg (Ne.symm (d7n f))]
   exact a3y l1 l2
theorem d4p {N : Nat} {t s : Tb} (even : ∀ f, f < N -> fl f < N) (z : ∀ f, f < N -> leE (t f (fl f)) (some 0)) (sy : Sym t N) (h : a6b N t = some s) : ∀ f, f < N -> s f (fl f) = some 0 := fun f hf => by
 obtain ⟨G, l, _⟩ := a4z even sy h
 exact a9c (a0j (l f _ hf (even f hf)) (z f hf)) (G.nn f hf)
theorem a5l {N : Nat} {t c : Tb} (even : ∀ f, f < N -> fl f < N) (G : e5b c N) (l : Le c t N) : ∃ s, a6b N t = some s := by
 have l1 := b8x G.tight.closed even (c2q N) t (d0q even) l
 unfold a6b
 have : (List.range N).any (b5a (a4v t (c2q N))) = false := by
  rw [List.any_eq_false]
  intro f hf
  have hf' := List.mem_range.mp hf
  have q1 := a0j (G.nn f hf') (l1 f _ hf' (even f hf'))
  have q2 := a0j (G.halves0 even hf') (a5j (d8e (l1 f f hf' hf')) (d8e (l1 _ _ (even f hf') (even f hf'))))
  unfold b5a
  rw [(b9h _).mpr q1, (b9h _).mpr q2]
  simp
 rw [this]
 exact ⟨_, rfl⟩
inductive e5m (N : Nat) : Option Tb -> Option Tb -> Prop
 | none : e5m N none none
 | some {a b : Tb} : d9v a b N -> e5m N (some a) (some b)
theorem d9v.symm {a b : Tb} {N : Nat} (h : d9v a b N) : d9v b a N := fun f g hf hg => (h f g hf hg).symm
def ln (N : Nat) (r : Nat -> E) : List E := (List.range N).map r
def c2z (i N : Nat) (c : Tb) : List (List E) := (List.range i).map fun f => ln N (c f)
abbrev toT (N : Nat) (c : Tb) : List (List E) := c2z N N c
theorem c8f (N : Nat) (r : Nat -> E) : (ln N r).length = N := by simp [ln]
theorem a4k (i N : Nat) (c : Tb) : (c2z i N c).length = i := by simp [c2z]
theorem d1o {N g : Nat} {r : Nat -> E} (h : g < N) : (ln N r)[g]? = some (r g) := by simp [ln, h]
theorem b9e {i N f : Nat} {c : Tb} (h : f < i) : (c2z i N c)[f]? = some (ln N (c f)) := by simp [c2z, h]
theorem e3u (N : Nat) (r : Nat -> E) : ln (N + 1) r = ln N r ++ [r N] := by simp [ln, List.range_succ]
theorem a6d (i N : Nat) (c : Tb) : c2z (i + 1) N c = c2z i N c ++ [ln N (c i)] := by simp [c2z, List.range_succ]
theorem e2g (N : Nat) (r : Nat -> E) (g : Nat) (e : E) : (ln N r).set g e = ln N fun x => if x = g then e else r x := by
 apply List.ext_getElem?
 intro i
 by_cases hi : i < N
 · rw [d1o hi]
   by_cases h : g = i
   · subst h
     rw [List.getElem?_set_self (by rw [c8f]; exact hi), if_pos rfl]
   · rw [List.getElem?_set_ne h, d1o hi, if_neg (Ne.symm h)]
 · rw [List.getElem?_eq_none (by rw [List.length_set, c8f]; omega), List.getElem?_eq_none (by rw [c8f]; omega)]
theorem e0u (i N : Nat) (c : Tb) (f : Nat) (r : Nat -> E) : (c2z i N c).set f (ln N r) = c2z i N fun a => if a = f then r else c a := by
 apply List.ext_getElem?
 intro j
 by_cases hj : j < i
 · rw [b9e hj]
   by_cases h : f = j
   · subst h
     rw [List.getElem?_set_self (by rw [a4k]; exact hj), if_pos rfl]
   · rw [List.getElem?_set_ne h, b9e hj, if_neg (Ne.symm h)]
 · rw [List.getElem?_eq_none (by rw [List.length_set, a4k]; omega), List.getElem?_eq_none (by rw [a4k]; omega)]
theorem d5i (N : Nat) (c : Tb) (f g : Nat) (z : Int) :
  (fun a => if a = g then (fun x => if x = f then a3z ((if g = f then (fun y => if y = g then a3z (c f g) (some z) else c f y) else c g) f) (some z) else (if g = f then (fun y => if y = g then a3z (c f g) (some z) else c f y) else c g) x) else (if a = f then (fun y => if y = g then a3z (c f g) (some z) else c f y) else c a)) = d1m c f g z := by
 funext a b
 unfold d1m
 by_cases hgf : g = f
 · subst hgf
   by_cases ha : a = g
   · subst ha
     by_cases hb : b = a
     · subst hb
       simp
       generalize c b b = e
       cases e <;> simp [a3z]
     · simp [hb]
   · simp [ha]
 · by_cases ha : a = g
   · subst ha
     by_cases hb : b = f
     · subst hb; simp [hgf]
     · simp [hgf, hb]
   · by_cases ha2 : a = f
     · subst ha2
       by_cases hb : b = g
       · subst hb; simp [ha]
       · simp [ha, hb]
     · simp [ha, ha2]
structure Shp (c : Tb) (N : Nat) : Prop where
 good : e5b c N
 zero : ∀ f, f < N -> c f (fl f) = some 0
theorem Shp.zero' {c : Tb} {N : Nat} (S : Shp c N) (even : ∀ f, f < N -> fl f < N) {f : Nat} (hf : f < N) : c (fl f) f = some 0 := by
 have := S.zero (fl f) (even f hf)
 rwa [a5b] at this
theorem c0z {w : Nat -> Int} {N : Nat} (p : Pt w N) : e5b (tab w) N := ⟨b8z p, fun f hf => by have := p f hf; simp [tab, leE]; omega⟩
theorem c8c {N : Nat} {t s : Tb} (even : ∀ f, f < N -> fl f < N) (z : ∀ f, f < N -> leE (t f (fl f)) (some 0)) (sy : Sym t N) (h : a6b N t = some s) : Shp s N := ⟨(a4z even sy h).1, d4p even z sy h⟩
theorem e1d {c : Tb} {n h : Nat} {z : Int} (S : Shp c (2 * n)) (hh : h < 2 * n) (z1 : leE (some z) (hv c h)) (z2 : leE (some (-z)) (hv c (fl h))) : ∃ w, Pt w (2 * n) /\ a6u w c (2 * n) /\ w h = z := by
 have even : ∀ f, f < 2 * n -> fl f < 2 * n := fun f hf => a3k hf
 have T := S.good.tight
 have d := S.good.nn
 obtain ⟨w, p, l⟩ := b1j (b1o even T d hh z1 z2) (b9x even T d hh z1 z2)
 refine ⟨w, p, fun f g hf hg => a0j (l f g hf hg) (a5a _ _), ?_⟩
 have l1 := l h h hh hh
 rw [a4c T hh] at l1
 have l2 := l (fl h) (fl h) (even h hh) (even h hh)
 rw [a4c T (even h hh)] at l2
 have c1 : leE (b8l c h z h) (some z) := by
  refine a0j (a2t _ _) (a0j (a2t _ _) ?_)
  rw [S.zero h hh]; simp [a0t, leE]
 have c2 : leE (b8l c h z (fl h)) (some (-z)) := by
  refine a0j (a2t _ _) (a0j (a5a _ _) ?_)
  rw [S.zero' even hh]; simp [a0t, leE]
 have pw := p h hh
 revert l1 l2 c1 c2
 unfold tab
 generalize b8l c h z h = a; generalize b8l c h z (fl h) = b
 cases a <;> cases b <;> simp [leE, dbl] <;> omega
def b6m (f : Nat) (z : Int) : List Sdn := [(f, f, 2 * z), (fl f, fl f, -2 * z)]
theorem b8v {c : Tb} {N : Nat} {ss : List Sdn} {s : Tb} (even : ∀ f, f < N -> fl f < N) (S : Shp c N) (h : a6b N (b7p c ss) = some s) : Shp s N /\ Le s (b7p c ss) N := by
 have sy := a9w ss c S.good.tight.sym
 have z : ∀ f, f < N -> leE (b7p c ss f (fl f)) (some 0) := fun f hf => a0j (b4l ss c f _) (by rw [S.zero f hf]; exact a1r _)
 exact ⟨c8c even z sy h, (a4z even sy h).2.1⟩
theorem c5e {c : Tb} {n f : Nat} {z : Int} (S : Shp c (2 * n)) (hf : f < 2 * n) (z1 : leE (some z) (hv c f)) (z2 : leE (some (-z)) (hv c (fl f))) :
  ∃ s, a6b (2 * n) (b7p c (b6m f z)) = some s /\ Shp s (2 * n) /\ Le s c (2 * n) /\ leE (s f f) (some (2 * z)) /\ leE (s (fl f) (fl f)) (some (-2 * z)) := by
 have even : ∀ f, f < 2 * n -> fl f < 2 * n := fun f hf => a3k hf
 obtain ⟨w, p, l, e⟩ := e1d S hf z1 z2
 have pw := p f hf
 have kw : ∀ s ∈ b6m f z, d0z (tab w) s := fun s hs => by
  have : s = (f, f, 2 * z) \/ s = (fl f, fl f, -2 * z) := by simpa [b6m] using hs
  rcases this with q | q <;> subst q <;> (constructor <;> simp [tab, leE] <;> omega)
 obtain ⟨s, hs⟩ := a5l even (c0z p) (b0e (b6m f z) c l kw)
 obtain ⟨Ss, Ls⟩ := b8v even S hs
 have hin : ∀ s ∈ b6m f z, s.1 < 2 * n /\ s.2.1 < 2 * n := fun s hs => by
  have : s = (f, f, 2 * z) \/ s = (fl f, fl f, -2 * z) := by simpa [b6m] using hs
  rcases this with q | q <;> subst q
  · exact ⟨hf, hf⟩
  · exact ⟨even f hf, even f hf⟩
 obtain ⟨La, Lk⟩ := (a7y hin).mp Ls
 exact ⟨s, hs, Ss, La, (Lk (f, f, 2 * z) (by simp [b6m])).1, (Lk (fl f, fl f, -2 * z) (by simp [b6m])).1⟩
def b6g (c : Tb) (f : Nat) : Int := match hv c f with
 | some m => m
 | none => match hv c (fl f) with
  | some m => -m
  | none => 0
theorem c6p {c : Tb} {n f : Nat} (S : Shp c (2 * n)) (hf : f < 2 * n) : leE (some (b6g c f)) (hv c f) /\ leE (some (-b6g c f)) (hv c (fl f)) := by
 have h0 := S.good.halves0 (fun f hf => a3k hf) hf
 unfold b6g
 revert h0
 generalize hv c f = a; generalize hv c (fl f) = b
 cases a <;> cases b <;> simp [leE, a0t] <;> omega
theorem c1y {c : Tb} {n : Nat} {w : Nat -> Int} (S : Shp c (2 * n)) (p : Pt w (2 * n)) (h : ∀ k, k < n -> leE (c (2 * k) (2 * k)) (some (2 * w (2 * k))) /\ leE (c (2 * k + 1) (2 * k + 1)) (some (-2 * w (2 * k)))) : a6u w c (2 * n) := by
 obtain ⟨v, pv, lv⟩ := b1j S.good.tight S.good.nn
 have ev : ∀ f, f < 2 * n -> v f = w f := fun f hf => by
  have hk : f / 2 < n := by omega
  obtain ⟨h1, h2⟩ := h (f / 2) hk
  have a1 := a0j (lv (2 * (f / 2)) (2 * (f / 2)) (by omega) (by omega)) h1
  have a2 := a0j (lv (2 * (f / 2) + 1) (2 * (f / 2) + 1) (by omega) (by omega)) h2
  have p1 := pv (2 * (f / 2)) (by omega)
  have p2 := p (2 * (f / 2)) (by omega)
  have e1 : fl (2 * (f / 2)) = 2 * (f / 2) + 1 := by unfold fl; rw [if_pos (by omega)]
  rw [e1] at p1 p2
  simp [tab, leE] at a1 a2
  have : f = 2 * (f / 2) \/ f = 2 * (f / 2) + 1 := by omega
  rcases this with q | q
  · rw [q]; omega
  · rw [q]; omega
 intro f g hf hg
 have := lv f g hf hg
 unfold tab at this ⊢
 rwa [ev f hf, ev g hg] at this
end Oct
set_option Elab.async false
set_option linter.all false
set_option maxRecDepth 100000
set_option maxHeartbeats 4000000
namespace L2
open PySem PySem.Spec PyProof.Rows
section
variable {X : Cx} {pins : List (Addr × Obj)} {σ : St} {H : Hp} {s : Shared} {h' : Heap}
theorem Inv.turnedL {t' : Nat} {ch : List Addr} (I : Inv X pins σ H s) (hf : ∀ b ∈ ch, b1g X pins H b) (k : ∀ b o, b ∉ ch -> s.heap.get? b = some o -> h'.get? b = some o) : Inv X pins σ H { s with heap := h', toks := t' } := by
 have nch : ∀ b u, H b = some u -> b ∉ ch := fun b u e z => by rw [(hf b z).1] at e; cases e
 refine I.step (g' := s.gens) (d' := s.drawn) (ch := ch) (fun b hb => ⟨(hf b hb).2.2.2.1, (hf b hb).2.1, (hf b hb).2.2.2.2.1, (hf b hb).2.2.2.2.2⟩) (fun b o _ _ hc e _ => k b o hc e) (fun b o _ _ hc e _ => ⟨o.slots, k b o hc e⟩)
  (fun b o hc e n => n) (fun b o hc e => ⟨o, k b o hc e⟩) (fun b ys e => e) (fun b o u e => e) (fun b ps e => ⟨#[], by rw [e]; simp⟩) (fun m hm => ?_) (fun b u e => ?_) I.bare
 · obtain ⟨o, es, ep, ho, r⟩ := hm
   exact ⟨o, es, ep, k _ o (fun z => (hf _ z).2.1 rfl) ho, r⟩
 · refine (I.hok b u e).stay (fun c v hc q => k c v ?_ q) (fun c q => q) fun c ys q => q
   rcases hc with z | z
   · rw [z]; exact nch b u e
   · exact nch c _ z
theorem Inv.turnedT {t' : Nat} {ch : List Addr} {T : Addr} {xs : List V} {us : List Value} (I : Inv X pins σ H s) (hf : ∀ b ∈ ch, b1g X pins H b)
  (k : ∀ b o, b ∉ ch -> s.heap.get? b = some o -> h'.get? b = some o) (hp : s.heap.objs.size <= T) (new : IsTup h' T us.toArray) (r : a4b xs us) (hz : xs.length <= sizeLine) :
  Inv X pins σ (upd H T (.tup xs)) { s with heap := h', toks := t' } := by
 have hT : H T = none := I.hok.fresh hp
 have nch : ∀ b u, H b = some u -> b ∉ ch := fun b u e z => by rw [(hf b z).1] at e; cases e
 refine I.step (g' := s.gens) (d' := s.drawn) (ch := ch) (fun b hb => ⟨(hf b hb).2.2.2.1, (hf b hb).2.1, (hf b hb).2.2.2.2.1, (hf b hb).2.2.2.2.2⟩) (fun b o _ _ hc e _ => k b o hc e) (fun b o _ _ hc e _ => ⟨o.slots, k b o hc e⟩)
  (fun b o hc e n => by rw [a1z (Nat.ne_of_lt (Nat.lt_of_lt_of_le (Heap.lt_size e) hp))]; exact n)
  (fun b o hc e => ⟨o, k b o hc e⟩) (fun b ys e => by rw [a1z (a2p e hT)]; exact e) (fun b o u e => by rw [a1z (a2p e hT)]; exact e) (fun b ps e => ⟨#[], by rw [a1z (a2p e hT), e]; simp⟩) (fun m hm => ?_) (fun b u e => ?_) I.bare
 · obtain ⟨o, es, ep, ho, r⟩ := hm
   exact ⟨o, es, ep, k _ o (fun z => (hf _ z).2.1 rfl) ho, r⟩
 · by_cases hb : b = T
   · subst hb
     rw [a0g] at e
     cases e
     exact ⟨hz, us, r, new⟩
   · rw [a1z hb] at e
     refine (I.hok b u e).stay (fun c v hc q => k c v ?_ q) (fun c q => by rw [a1z (a2p q hT)]; exact q) fun c ys q => by rw [a1z (a2p q hT)]; exact q
     rcases hc with z | z
     · rw [z]; exact nch b u e
     · exact nch c _ z
end
def Itn (K : PySem.W.Frag) (a : Addr) : It :=
 ⟨fun i H => ∃ xs x, SqL K H a xs /\ xs[i]? = some x, fun i H v H' => ∃ T x, v = .ref T /\ H T = none /\ H' = upd H T (.tup [.int i, x]) /\ ∀ xs, SqL K H a xs -> xs[i]? = some x, fun i H => ∃ xs, SqL K H a xs /\ xs.length <= i⟩
theorem d7q {P : Program} {w : World} {K : PySem.W.Frag} {elts : List Expr} {k : Nat} {tp : Pos} (a e it : Addr) (hne : e ≠ it) : d8i P w K (.Tuple elts k tp) (Itn K a) [e, it] e (fun i h => (∃ old, IsEnum h e it i old) /\ h.IsListIter it a i) where
 mem := by simp
 obj := fun i h st b hb => by
  obtain ⟨⟨old, he⟩, o, eo, c, d⟩ := st
  have hb' : b = e \/ b = it := by simpa using hb
  rcases hb' with z | z
  · subst z
    exact ⟨_, he, fun v z => by
     have z' : Data.fields _ = Data.cell v := z
     cases z'⟩
  · subst z
    exact ⟨o, eo, fun v z => by rw [d] at z; cases z⟩
 keep := fun i h h' st k => ⟨⟨st.1.choose, k e (by simp) _ st.1.choose_spec⟩, st.2.at fun o eo => k it (by simp) o eo⟩
 item := by
  intro X hP hw hK hc i pins s σ H E I hf st hg
  subst hP hw hK
  obtain ⟨⟨old, he⟩, st⟩ := st
  obtain ⟨xs, x, hq, hx⟩ := hg
  obtain ⟨its, rv, p, hz⟩ := I.list hq
  obtain ⟨u, hu, ru⟩ := rv.get hx
  refine wpAny_pyNext_enum_item he st p.isList (x := u) (by simpa using hu) hne fun h' ho hit' hT hsz hk => ?_
  refine ⟨_, rfl, wpAny_letOwnedTupleGo_enum ho fun h2 he2 hs2 => ?_⟩
  have helt : e < s.heap.objs.size := Heap.lt_size he
  have kk : ∀ b o, b ∉ [e, it] -> s.heap.get? b = some o -> h2.get? b = some o := fun b o hb q => by
   have hb' : b ≠ e /\ b ≠ it := by simpa using hb
   exact (hs2.2 b hb'.1).trans (hk b o hb'.1 hb'.2 q)
  have I2 : Inv X pins σ (upd H s.heap.objs.size (.tup [.int i, x])) { s with heap := h2, toks := s.toks + 1 } := I.turnedT (xs := [.int i, x]) (us := [.int i s.toks, u]) hf kk (Nat.le_refl _) ⟨_, (hs2.2 _ (Nat.ne_of_gt helt)).trans hT, rfl, _, rfl⟩ (.cons ⟨_, rfl⟩ (.cons ru .nil)) (sz 2)
  refine ⟨.ref s.heap.objs.size, _, I2, rfl, ⟨_, x, rfl, I.hok.fresh (Nat.le_refl _), rfl, fun ys hy => by rw [I.list_inj hy hq]; exact hx⟩, ?_, fun b hb => ?_⟩
  · exact ⟨⟨u, by simpa using he2⟩, hit'.at fun o y => (hs2.2 it hne.symm).trans y⟩
  · have : b < s.heap.objs.size := by
     have hb' : b = e \/ b = it := by simpa using hb
     rcases hb' with z | z
     · rw [z]; exact helt
     · obtain ⟨o, eo, _⟩ := st
       rw [z]; exact Heap.lt_size eo
    rw [a1z (Nat.ne_of_lt this)]
    exact (hf b hb).1
 done := by
  intro X hP hw hK hc i pins s σ H E I hf st hg
  subst hP hw hK
  obtain ⟨⟨old, he⟩, st⟩ := st
  obtain ⟨xs, hq, hx⟩ := hg
  obtain ⟨its, rv, p, hz⟩ := I.list hq
  have hl := rv.length
  exact wpAny_pyNext_enum_end (I.ok.hd hc) he st p.isList (by simp; omega) fun h' eb => ⟨rfl, I.turnedL (t' := s.toks) hf fun b o hb q => eb b o (fun z => hb (by simp [z])) q⟩
 self := fun _ _ _ _ _ st h => by
  obtain ⟨⟨old, he⟩, _⟩ := st
  exact wpAny_pyIter_enum he h
def e5u (K : PySem.W.Frag) (ta : TA) : TI := fun σ H R => ta σ H fun vs H1 => ∃ a, vs = [.ref a] /\ (∃ xs, SqL K H1 a xs) /\ R (Itn K a) H1
theorem e4e {X : Cx} {elts : List Expr} {k : Nat} {tp : Pos} {a : Expr} {ta : TA} {p pos : Pos} (hg : Gl X "enumerate") (hm : X.mg "enumerate" = none) (ha : PA X [a] ta) (hs : starEach [a] X.env = [(false, eval a X.env)] := by rfl) :
  PI X (.Tuple elts k tp) (.Call (.Name "enumerate" p) [a] [] pos) (e5u X.K ta) := by
 intro pins s σ H R I h
 refine Call_ (b5e I hg hm boot_enumerate (PyProof.Rows.callWith_type1 (thn (ha pos pins s σ H _ I h) fun us s1 ⟨vs, H1, I1, r1, q1⟩ => ?_) hs rfl))
 obtain ⟨l, e, ⟨xs, hq⟩, q⟩ := q1
 subst e
 obtain ⟨u, rfl, ru⟩ := r1.one
 cases ru
 obtain ⟨its, rv, pl, hz⟩ := I1.list hq
 refine call_enumerate_list pl.isList fun h' he hit hsz hk => wpAny_pyIter_enum he ?_
 refine ⟨s1.heap.objs.size + 1, [s1.heap.objs.size + 1, s1.heap.objs.size], _, _, H1, rfl, I1.kept (t' := s1.toks) hk, d7q l _ _ (Nat.succ_ne_self _), ⟨⟨_, he⟩, hit⟩, fun b hb => ?_, q⟩
 have hb' : b = s1.heap.objs.size + 1 \/ b = s1.heap.objs.size := by simpa using hb
 have hle : s1.heap.objs.size <= b := by rcases hb' with z | z <;> rw [z]; exact Nat.le_succ _; exact Nat.le_refl _
 exact I1.fpOk hle (I1.hok.fresh hle)
def Itz (K : PySem.W.Frag) (a b : Addr) : It :=
 ⟨fun i H => ∃ xs ys x y, SqL K H a xs /\ SqL K H b ys /\ xs[i]? = some x /\ ys[i]? = some y,
  fun i H v H' => ∃ T x y, v = .ref T /\ H T = none /\ H' = upd H T (.tup [x, y]) /\ (∀ xs, SqL K H a xs -> xs[i]? = some x) /\ ∀ ys, SqL K H b ys -> ys[i]? = some y,
  fun i H => ∃ xs ys, SqL K H a xs /\ SqL K H b ys /\ (xs.length <= i \/ ys.length <= i)⟩
structure Z5 (z TI TO i1 i2 : Addr) : Prop where
 TIz : TI ≠ z
 TOz : TO ≠ z
 i1z : i1 ≠ z
 i2z : i2 ≠ z
 TITO : TI ≠ TO
 TIi1 : TI ≠ i1
 TIi2 : TI ≠ i2
 TOi1 : TO ≠ i1
 TOi2 : TO ≠ i2
 i12 : i1 ≠ i2
theorem a8z {h : Heap} {l b : Addr} {items : Array Value} {o : Obj} (hl : h.IsList l items) (hb : h.get? b = some o) (hc : o.cls ≠ .type "list") : l ≠ b := fun z => by
 subst z
 obtain ⟨o', e, c, _⟩ := hl
 rw [hb] at e
 cases e
 exact hc c
theorem Z5.apart {h : Heap} {z TI TO i1 i2 l1 l2 : Addr} {u v : Value} {k1 k2 : Nat} {xs ys : Array Value} (D : Z5 z TI TO i1 i2) (hz : IsZip h z TI TO .none) (hTO : IsPair h TO u v) (h1 : h.IsListIter i1 l1 k1) (h2 : h.IsListIter i2 l2 k2)
  (hl1 : h.IsList l1 xs) (hl2 : h.IsList l2 ys) : ZipApart z TI TO i1 i2 l1 l2 := by
 obtain ⟨o1, e1, c1, _⟩ := h1
 obtain ⟨o2, e2, c2, _⟩ := h2
 have n1 : o1.cls ≠ .type "list" := by rw [c1]; simp
 have n2 : o2.cls ≠ .type "list" := by rw [c2]; simp
 exact ⟨D.TIz, D.TOz, D.i1z, D.i2z, D.TITO, D.TIi1, D.TIi2, D.TOi1, D.TOi2, D.i12, a8z hl1 hz (by simp), a8z hl1 hTO (by simp), a8z hl1 e1 n1, a8z hl1 e2 n2,
  a8z hl2 hz (by simp), a8z hl2 hTO (by simp), a8z hl2 e1 n1, a8z hl2 e2 n2⟩
theorem d9r {P : Program} {w : World} {K : PySem.W.Frag} {elts : List Expr} {k : Nat} {tp : Pos} (a b z TI TO i1 i2 : Addr) (D : Z5 z TI TO i1 i2) :
  d8i P w K (.Tuple elts k tp) (Itz K a b) [z, TI, TO, i1, i2] z (fun i h => IsZip h z TI TO .none /\ IsPair h TI (.ref i1) (.ref i2) /\ (∃ u v, IsPair h TO u v) /\ h.IsListIter i1 a i /\ h.IsListIter i2 b i) where
 mem := by simp
 obj := fun i h st c hc => by
  obtain ⟨hz, hTI, ⟨u, v, hTO⟩, ⟨o1, e1, c1, d1⟩, ⟨o2, e2, c2, d2⟩⟩ := st
  have hc' : c = z \/ c = TI \/ c = TO \/ c = i1 \/ c = i2 := by simpa using hc
  rcases hc' with q | q | q | q | q
  · subst q
    exact ⟨_, hz, fun v q => by have q' : Data.fields _ = Data.cell v := q; cases q'⟩
  · subst q
    exact ⟨_, hTI, fun v q => by have q' : Data.seq _ _ = Data.cell v := q; cases q'⟩
  · subst q
    exact ⟨_, hTO, fun v q => by have q' : Data.seq _ _ = Data.cell v := q; cases q'⟩
  · subst q
    exact ⟨o1, e1, fun v q => by rw [d1] at q; cases q⟩
  · subst q
    exact ⟨o2, e2, fun v q => by rw [d2] at q; cases q⟩
 keep := fun i h h' st k => by
  obtain ⟨hz, hTI, ⟨u, v, hTO⟩, h1, h2⟩ := st
  exact ⟨k z (by simp) _ hz, k TI (by simp) _ hTI, ⟨u, v, k TO (by simp) _ hTO⟩, h1.at fun o e => k i1 (by simp) o e, h2.at fun o e => k i2 (by simp) o e⟩
 item := by
  intro X hP hw hK hc i pins s σ H E I hf st hg
  subst hP hw hK
  obtain ⟨hz, hTI, ⟨u, v, hTO⟩, h1, h2⟩ := st
  obtain ⟨xs, ys, x, y, hqa, hqb, hx, hy⟩ := hg
  obtain ⟨itx, rvx, px, zx⟩ := I.list hqa
  obtain ⟨ity, rvy, py, zy⟩ := I.list hqb
  obtain ⟨ux, hux, rux⟩ := rvx.get hx
  obtain ⟨uy, huy, ruy⟩ := rvy.get hy
  have Z := D.apart hz hTO h1 h2 px.isList py.isList
  refine wpAny_pyNext_zip_item Z hz hTI hTO h1 h2 px.isList py.isList (x := ux) (y := uy) (by simpa using hux) (by simpa using huy) fun h' a1 a2 a3 a4 a5 a6 hk => ?_
  refine ⟨_, rfl, wpAny_letOwnedTupleGo_zip a1 fun h3 hz3 hs3 => ?_⟩
  have lt : ∀ c ∈ [z, TI, TO, i1, i2], c < s.heap.objs.size := fun c hc => by
   have hc' : c = z \/ c = TI \/ c = TO \/ c = i1 \/ c = i2 := by simpa using hc
   obtain ⟨o1, e1, _⟩ := h1
   obtain ⟨o2, e2, _⟩ := h2
   rcases hc' with q | q | q | q | q
   · rw [q]; exact Heap.lt_size hz
   · rw [q]; exact Heap.lt_size hTI
   · rw [q]; exact Heap.lt_size hTO
   · rw [q]; exact Heap.lt_size e1
   · rw [q]; exact Heap.lt_size e2
  have kk : ∀ c o, c ∉ [z, TI, TO, i1, i2] -> s.heap.get? c = some o -> h3.get? c = some o := fun c o hc q => by
   have hc' : c ≠ z /\ c ≠ TI /\ c ≠ TO /\ c ≠ i1 /\ c ≠ i2 := by simpa using hc
   exact (hs3.2 c hc'.1).trans (hk c o hc'.1 hc'.2.2.1 hc'.2.2.2.1 hc'.2.2.2.2 q)
  have zs : s.heap.objs.size ≠ z := Nat.ne_of_gt (lt z (by simp))
  have I2 : Inv X pins σ (upd H s.heap.objs.size (.tup [x, y])) { s with heap := h3 } := I.turnedT (t' := s.toks) (xs := [x, y]) (us := [ux, uy]) hf kk (Nat.le_refl _) ⟨_, (hs3.2 _ zs).trans a5, rfl, _, rfl⟩ (.cons rux (.cons ruy .nil)) (sz 2)
  refine ⟨.ref s.heap.objs.size, _, I2, rfl, ⟨_, x, y, rfl, I.hok.fresh (Nat.le_refl _), rfl, fun ys hy' => by rw [I.list_inj hy' hqa]; exact hx, fun ys hy' => by rw [I.list_inj hy' hqb]; exact hy⟩, ?_, fun c hc => ?_⟩
  · exact ⟨hz3, (hs3.2 _ D.TIz).trans (hk _ _ D.TIz D.TITO D.TIi1 D.TIi2 hTI), ⟨_, _, (hs3.2 _ D.TOz).trans a2⟩, a3.at fun o e => (hs3.2 _ D.i1z).trans e, a4.at fun o e => (hs3.2 _ D.i2z).trans e⟩
  · rw [a1z (Nat.ne_of_lt (lt c hc))]
    exact (hf c hc).1
 done := by
  intro X hP hw hK hc i pins s σ H E I hf st hg
  subst hP hw hK
  obtain ⟨hz, hTI, ⟨u, v, hTO⟩, h1, h2⟩ := st
  obtain ⟨xs, ys, hqa, hqb, hx⟩ := hg
  obtain ⟨itx, rvx, px, zx⟩ := I.list hqa
  obtain ⟨ity, rvy, py, zy⟩ := I.list hqb
  have lx := rvx.length
  have ly := rvy.length
  have Z := D.apart hz hTO h1 h2 px.isList py.isList
  refine wpAny_pyNext_zip_end (I.ok.hd hc) Z hz hTI hTO h1 h2 px.isList py.isList ?_ fun h' hk => ⟨rfl, I.turnedL (t' := s.toks) hf fun c o hc q => ?_⟩
  · rcases hx with hx | hx
    · exact .inl (by simp; omega)
    · exact .inr (by simp; omega)
  · have hc' : c ≠ z /\ c ≠ TI /\ c ≠ TO /\ c ≠ i1 /\ c ≠ i2 := by simpa using hc
    exact hk c o hc'.1 hc'.2.2.1 hc'.2.2.2.1 hc'.2.2.2.2 q
 self := fun _ _ _ _ _ st h => wpAny_pyIter_zip st.1 h
def g0c (K : PySem.W.Frag) (ta : TA) : TI := fun σ H R => ta σ H fun vs H1 => ∃ a b, vs = [.ref a, .ref b] /\ (∃ xs, SqL K H1 a xs) /\ (∃ ys, SqL K H1 b ys) /\ R (Itz K a b) H1
theorem e7p {X : Cx} {elts : List Expr} {k : Nat} {tp : Pos} {a b : Expr} {ta : TA} {p pos : Pos} (hg : Gl X "zip") (hm : X.mg "zip" = none) (ha : PA X [a, b] ta) (hs : starEach [a, b] X.env = [(false, eval a X.env), (false, eval b X.env)] := by rfl)
  (hs2 : starEach [b] X.env = [(false, eval b X.env)] := by rfl) : PI X (.Tuple elts k tp) (.Call (.Name "zip" p) [a, b] [] pos) (g0c X.K ta) := by
 intro pins s σ H R I h
 refine Call_ (b5e I hg hm boot_zip (PyProof.Rows.callWith_type1 (thn (ha pos pins s σ H _ I h) fun us s1 ⟨vs, H1, I1, r1, q1⟩ => ?_) (by rw [hs, hs2]) (by rw [hs2]; rfl)))
 obtain ⟨l1, l2, e, ⟨xs, hqa⟩, ⟨ys, hqb⟩, q⟩ := q1
 subst e
 obtain ⟨u, v, rfl, ru, rv⟩ := r1.two
 cases ru
 cases rv
 obtain ⟨itx, rvx, px, zx⟩ := I1.list hqa
 obtain ⟨ity, rvy, py, zy⟩ := I1.list hqb
 refine call_zip_2 px.isList py.isList fun h' hz hTI hTO h1 h2 hsz hk => wpAny_pyIter_zip hz ?_
 generalize en : s1.heap.objs.size = n at *
 refine ⟨n + 4, [n + 4, n + 2, n + 3, n, n + 1], _, _, H1, rfl, I1.kept (t' := s1.toks) hk, d9r l1 l2 (n + 4) (n + 2) (n + 3) n (n + 1) ⟨?_, ?_, ?_, ?_, ?_, ?_, ?_, ?_, ?_, ?_⟩, ⟨hz, hTI, ⟨_, _, hTO⟩, h1, h2⟩, fun b hb => ?_, q⟩
 iterate 10 (show (_ : Nat) ≠ _; omega)
 have hle : s1.heap.objs.size <= b := by
  rw [en]
  have hb' : b = n + 4 \/ b = n + 2 \/ b = n + 3 \/ b = n \/ b = n + 1 := by simpa using hb
  rcases hb' with q | q | q | q | q <;> rw [q] <;> first | exact Nat.le_refl _ | exact Nat.le_add_right _ _
 exact I1.fpOk hle (I1.hok.fresh hle)
def d9m (K : PySem.W.Frag) (i j : Nat) : TG := g0a K 2 (e4a (b5r i) (e4a (b5r j) e9s))
theorem d5e {X : Cx} {x y : Str} {i j k : Nat} {p q pos : Pos} (hc : X.calm = true) (h1 : PG X (.Name x p) (b5r i)) (h2 : PG X (.Name y q) (b5r j)) : PG X (.Tuple [.Name x p, .Name y q] k pos) (d9m X.K i j) := e7a hc (d1v h1 (d1v h2 e2k))
theorem d2y {K : PySem.W.Frag} {a : Addr} {xs : List V} {u v : Nat} {tb : TS} {D : d8c} {σ : St} {H : Hp} (Pv : Nat -> St -> Hp -> Prop) (h0 : Pv 0 σ H) (hl : ∀ i σ H, i <= xs.length -> Pv i σ H -> SqL K H a xs)
  (hs : ∀ i x σ H H', xs[i]? = some x -> Pv i σ H -> a1i H H' -> tb { D with nx := Pv (i + 1), ct := Pv (i + 1), bk := D.nx } ((σ.set u (some (.int i))).set v (some x)) H') (hd : ∀ σ H, Pv xs.length σ H -> D.nx σ H) :
  ∃ W : Nat -> Nat -> St -> Hp -> Prop, (∃ m, W 0 m σ H) /\ ∀ i m σ H, W i m σ H ->
   ((Itn K a).stop i H /\ D.nx σ H) \/ ((Itn K a).go i H /\ ∃ N : St -> Hp -> Prop, (∀ σ' H', N σ' H' -> ∃ m', m' < m /\ W (i + 1) m' σ' H') /\ ∀ x H', (Itn K a).yld i H x H' -> d9m K u v x σ H' fun σ2 H2 => tb { D with nx := N, ct := N, bk := D.nx } σ2 H2) := by
 refine ⟨fun i m σ H => m = xs.length - i /\ i <= xs.length /\ Pv i σ H, ⟨xs.length, by simp, Nat.zero_le _, h0⟩, ?_⟩
 rintro i m σ H ⟨rfl, hi, p⟩
 have q := hl i σ H hi p
 by_cases hlt : i < xs.length
 · refine .inr ⟨⟨xs, xs[i], q, by simp [hlt]⟩, Pv (i + 1), fun σ' H' p' => ⟨xs.length - (i + 1), by omega, rfl, hlt, p'⟩, fun x H' y => ?_⟩
   obtain ⟨T, x, rfl, hT, rfl, y⟩ := y
   exact ⟨T, [.int i, x], rfl, SqT.of a0g, rfl, _, _, rfl, _, _, rfl, rfl, hs i x σ H _ (y xs q) p (a0i hT _)⟩
 · have e : i = xs.length := by omega
   subst e
   exact .inl ⟨⟨xs, q, Nat.le_refl _⟩, hd σ H p⟩
theorem b7i {prog : Program} {w : World} {A : Around} {s : Shared} {elt iter target : Expr} {scope : Scope} {pos : Pos} {it acc : Value} {env : Env} {R : Result -> Shared -> Prop} (I : Nat -> Shared -> Prop)
  (turn : ∀ n s, I n s -> wpAny (model prog w) A (pyNext it) (fun r s₁ => match r with
   | none => R (.ok .next) s₁
   | some v => wpAny (model prog w) A (letOwnedTupleGo target it v) (fun _ s₁' => wpAny (model prog w) A (assign target env v) (fun _ s₂ =>
     wpAny (model prog w) A (eval elt env) (fun x s₄ =>
       wpAny (model prog w) A (call (.builtin "list.append") [acc, x]) (fun _ s₅ => ∃ m, m < n /\ I m s₅) (notedBy (model prog w) A env fun e s' => R (.error e) s') s₄) (notedBy (model prog w) A env fun e s' => R (.error e) s') s₂)
     (notedBy (model prog w) A env fun e s' => R (.error e) s') s₁') (notedBy (model prog w) A env fun e s' => R (.error e) s') s₁) (notedBy (model prog w) A env fun e s' => R (.error e) s') s)
  (n : Nat) (h : I n s) : codeAny (model prog w) A (.compLoop (.ListComp elt [⟨target, iter, [], 0⟩] scope pos) 0 it acc env) R s := by
 refine codeAny_loop rfl I (fun n s hI => ?_) n h
 show wpAny _ A ((compTurn (.ListComp elt [⟨target, iter, [], 0⟩] scope pos) 0 it acc env).onRaise (fun x => do noteFrame x env; theTreesLotGoes x)) _ _ s
 refine wpAny_noted ?_
 rw [compTurn_list]
 refine wpAny_bind (wpAny_standAt (wpAny_bind (wpAny_mono (turn n s hI) (fun r s₁ h₁ => ?_) fun _ _ h' => h')))
 cases r with
 | none => exact wpAny_pure h₁
 | some v =>
  refine wpAny_bind (wpAny_mono h₁ (fun _ s₁' h₁' => ?_) fun _ _ h' => h')
  refine wpAny_bind (wpAny_mono h₁' (fun _ s₂ h₂ => wpAny_bind (wpAny_mono (wpAny_tests_nil (Q := fun ok s₃ => ok = true /\ s₃ = s₂) ⟨rfl, rfl⟩) (fun ok s₃ h₃ => ?_) fun _ _ h' => h')) fun _ _ h' => h')
  obtain ⟨rfl, rfl⟩ := h₃
  exact wpAny_bind (wpAny_bind (wpAny_mono h₂ (fun x s₄ h₄ => wpAny_bind (wpAny_mono h₄ (fun _ s₅ h₅ => wpAny_pure (wpAny_pure ⟨rfl, h₅⟩)) fun _ _ h' => h')) fun _ _ h' => h'))
structure a1o (N M : List Str) (osc : Scope) (x y : Str) (sc : Scope) : Prop where
 kind : sc.kind = .function
 nocell : ∀ z ∈ sc.names, z.2 ≠ .cell
 names : ∀ z ∈ sc.names, z.2 = .local -> sc.names.lookup z.1 = some .local
 here : sc.names.lookup x = some .local
 here2 : sc.names.lookup y = some .local
 nd : (x :: y :: M).Nodup
 len : M.length = N.length
 hide : ∀ (i : Nat) z, M[i]? = some z -> N[i]? = some z \/ sc.names.lookup z = none
 free : ∀ z ∈ sc.names, z.2 = .free -> osc.names.lookup z.1 = some .cell \/ osc.names.lookup z.1 = some .free
 own : ∀ z ∈ sc.names, z.2 = .local -> z.1 = x \/ z.1 = y \/ z.1 ∉ M
def a3o (X : Cx) (M : List Str) (x y : Str) (sc : Scope) (fp : List Addr) (s3 : Shared) (H3 : Hp) : Cx where
 prog := X.prog
 w := X.w
 K := X.K
 mg := X.mg
 base := X.base
 A := X.A
 N := x :: y :: M
 s₀ := s3
 H₀ := H3
 env := compEnvC sc (c4u sc X.env) s3.heap.objs.size X.env
 outer := X.stack
 stack := X.stack
 ex := fp
 calm := X.calm
 fn := fun _ => false
 pn := []
 xe := fun _ _ => False
section
variable {X : Cx} {M : List Str} {x y : Str} {sc : Scope} {fp : List Addr} {s3 : Shared} {H3 : Hp} {pins : List (Addr × Obj)} {σ : St}
theorem a1o.cells (S : a1o X.N M X.env.scope x y sc) (ok : X.Ok) : ∀ z ∈ sc.names, z.2 = .free -> ∃ c, X.env.cells.lookup z.1 = some c := fun z hz hk => ok.has z.1 (S.free z hz hk)
theorem a1o.sub (S : a1o X.N M X.env.scope x y sc) (ok : X.Ok) {z : Str} {c : Addr} (e : (c4u sc X.env).lookup z = some c) : X.env.cells.lookup z = some c :=
 b8y sc.names [] (S.cells ok) (fun c h => by cases h) e
theorem a1o.isFree (S : a1o X.N M X.env.scope x y sc) {z : Str} (h : (relabel sc X.env).names.lookup z = some .cell \/ (relabel sc X.env).names.lookup z = some .free) : (z, NameKind.free) ∈ sc.names := by
 rw [a3f] at h
 cases e : sc.names.lookup z with
 | none => rw [e] at h; rcases h with h | h <;> cases h
 | some k =>
  rw [e] at h
  have hm := PySem.mem_of_lookup e
  cases k with
  | free => exact hm
  | cell => exact absurd rfl (S.nocell _ hm)
  | _ =>
   exfalso
   rcases h with h | h
   all_goals (simp at h)
theorem a1o.noLocal (S : a1o X.N M X.env.scope x y sc) {z : Str} (hz : z ∈ M) (h : (relabel sc X.env).names.lookup z = some .local) : False := by
 rw [a3f] at h
 cases e : sc.names.lookup z with
 | none => rw [e] at h; cases h
 | some k =>
  rw [e] at h
  have hm := PySem.mem_of_lookup e
  cases k with
  | «local» =>
   have nd := List.nodup_cons.mp S.nd
   have nd2 := List.nodup_cons.mp nd.2
   rcases S.own _ hm rfl with q | q | q
   · have q' : z = x := q
     exact nd.1 (List.mem_cons_of_mem _ (q' ▸ hz))
   · have q' : z = y := q
     exact nd2.1 (q' ▸ hz)
   · exact q hz
  | _ =>
   revert h
   simp
   try (split <;> simp)
theorem e0p (S : a1o X.N M X.env.scope x y sc) (I : Inv X pins σ H3 s3) (hf : ∀ b ∈ fp, b1g X pins H3 b) (hl : ∀ b ∈ fp, b < s3.heap.objs.size) : (a3o X M x y sc fp s3 H3).Ok where
 mod := I.ok.mod
 kind := S.kind
 glob := I.ok.glob
 blt := I.ok.blt
 above := Nat.le_refl _
 inj := fun y z c h1 h2 => I.ok.inj y z c (S.sub I.ok h1) (S.sub I.ok h2)
 has := fun y h => b0x sc.names [] (.inr (S.isFree h))
 cab := fun y c h => by cases h
 hd := I.ok.hd
 frames := I.ok.frames
 stk := .inl rfl
 exf := fun b hb => ⟨Nat.ne_of_lt (hl b hb), fun y c e => (hf b hb).2.2.2.2.1 y c (S.sub I.ok e)⟩
 bs := I.bs
 bsz := Nat.le_trans I.ok.bsz I.sz
 noex := fun b o e hb => b1g.nobase I.ok (hf b hb) e
 exfs := fun b hb hs => by
  rcases List.mem_cons.mp (I.stkSub b hs) with z | z
  · exact (hf b hb).2.1 z
  · exact (hf b hb).2.2.1 z
 funs := I.stack
 frf := I.stkFree
theorem d4u {h4 : Heap} {tk : Nat} (S : a1o X.N M X.env.scope x y sc) (I : Inv X pins σ H3 s3) (hf : ∀ b ∈ fp, b1g X pins H3 b) (hl : ∀ b ∈ fp, b < s3.heap.objs.size)
  (hk : ∀ b o, s3.heap.get? b = some o -> h4.get? b = some o) {m : Str -> Option Value} (hn : h4.Ns s3.heap.objs.size m) :
  Inv (a3o X M x y sc fp s3 H3) [] (none :: none :: σ) H3 { s3 with heap := h4, toks := tk } := by
 refine ⟨e0p S I hf hl, rfl, I.bare, Un.kept hk, ⟨m, hn, fun i z v h1 h2 h3 => ?_⟩, fun z c e => ?_, I.fresh, fun z c e => I.freeC z c (S.sub I.ok e), fun p hp => absurd (show p ∈ ([] : List (Addr × Obj)) from hp) (by simp), I.hok.kept hk, by show σ.length + 1 + 1 = M.length + 1 + 1; rw [I.len, S.len]⟩
 · match i, h1, h2 with
   | 0, h1, h2 => exact absurd (Option.some.inj h2) (by simp)
   | 1, h1, h2 => exact absurd (Option.some.inj h2) (by simp)
   | i + 2, h1, h2 =>
    have h1m : M[i]? = some z := h1
    have h2' : σ[i]? = some (some v) := h2
    have hyN : z ∈ M := List.mem_of_getElem? h1m
    have hfree : (z, NameKind.free) ∈ sc.names := by
     rcases h3 with h3 | h3 | h3
     · exact (S.noLocal hyN h3).elim
     · exact S.isFree (.inl h3)
     · exact S.isFree (.inr h3)
    have h1' : X.N[i]? = some z := by
     rcases S.hide i z h1m with q | q
     · exact q
     · exfalso
       obtain ⟨k, hk⟩ : ∃ k, sc.names.lookup z = some k := by
        cases e : sc.names.lookup z with
        | some k => exact ⟨k, rfl⟩
        | none =>
         rw [List.lookup_eq_none_iff] at e
         exact absurd (e _ hfree) (by simp)
       rw [hk] at q; cases q
    have hk0 := S.free _ hfree rfl
    obtain ⟨m0, hn0, hl0⟩ := I.loc
    obtain ⟨u, r, l⟩ := hl0 i z v h1' h2' (hk0.elim (fun q => .inr (.inl q)) (fun q => .inr (.inr q)))
    refine ⟨u, r, .inr ?_⟩
    have hv : (a3o X M x y sc fp s3 H3).env.kindOf z = some .cell \/ (a3o X M x y sc fp s3 H3).env.kindOf z = some .free := by
     rcases h3 with h3 | h3 | h3
     · exact (S.noLocal hyN h3).elim
     · exact .inl h3
     · exact .inr h3
    refine ⟨hv, ?_⟩
    obtain ⟨c, hc⟩ := b0x (env := X.env) (y := z) sc.names [] (.inr hfree)
    refine ⟨c, hc, ?_⟩
    have hc' := S.sub I.ok hc
    rcases l with ⟨hk1, _⟩ | ⟨_, c2, e2, z2⟩
    · exfalso
      have hk1' : X.env.scope.names.lookup z = some .local := hk1
      have hk0' : X.env.scope.names.lookup z = some .cell \/ X.env.scope.names.lookup z = some .free := hk0
      rw [hk1'] at hk0'
      rcases hk0' with q | q <;> cases q
    · rw [hc'] at e2; cases e2
      exact z2.keeps hk
 · obtain ⟨v, q⟩ := I.cell z c (S.sub I.ok e)
   exact ⟨v, q.keeps hk⟩
end
def e1z (K : PySem.W.Frag) (wi : TI) (te : TE) : TE := fun σ H Q => wi σ H fun J H1 => ∀ p, H1 p = none ->
 ∃ W : Nat -> Nat -> List V -> Hp -> Prop, (∃ m, W 0 m [] (upd H1 p (.lst []))) /\ ∀ i m ys H, W i m ys H ->
  (J.stop i H /\ Q (.ref p) H) \/ (J.go i H /\ ∀ u H', J.yld i H u H' -> ∃ T x y, u = .ref T /\ SqT K H' T [x, y] /\
   te (some x :: some y :: σ) H' fun v H3 => H3 p = some (.lst ys) /\ ys.length < sizeLine /\ ∃ m', m' < m /\ W (i + 1) m' (ys ++ [v]) (upd H3 p (.lst (ys ++ [v]))))
section
variable {X : Cx} {M : List Str} {x y : Str} {sc : Scope} {px py tp pos : Pos} {k : Nat} {elt iter : Expr} {wi : TI} {te : TE}
theorem Inv.back2 {fp : List Addr} {s3 s' : Shared} {H3 H' : Hp} {pins : List (Addr × Obj)} {σ σ' : St} {pl : List (Addr × Obj)} {h' : Heap} (I : Inv X pins σ H3 s3) (hf : ∀ b ∈ fp, b1g X pins H3 b)
  (J : Inv (a3o X M x y sc fp s3 H3) pl σ' H' s') (hs : Heap.SameBut s3.heap.objs.size s'.heap h') : Inv X pins σ H' { s' with heap := h' } := by
 have I1 : Inv X pins σ H' s' := I.call' (ch := fp) J.os J.base J.hok J.bare fun b hb => ⟨(hf b hb).2.2.2.1, (hf b hb).2.1, (hf b hb).2.2.2.2.1, (hf b hb).2.2.2.2.2⟩
 refine I1.turned (t' := s'.toks) (it := s3.heap.objs.size) (fun b o hb e => (hs.2 b hb).trans e) J.free ?_ (.inr I.sz) ?_ ?_
 · exact Nat.ne_of_gt I.lt
 · intro y c e z
   obtain ⟨v, q⟩ := I.cell y c e
   exact absurd q.lt (by rw [z]; exact Nat.lt_irrefl _)
 · intro p hp z
   exact absurd (Heap.lt_size (I.pin p hp).1) (by rw [z]; exact Nat.lt_irrefl _)
theorem d3p {pins : List (Addr × Obj)} {σ : St} {s2 : Shared} {H2 : Hp} {it : Addr} {fp : List Addr} {tn : Nat -> Heap -> Prop} {J : It} {Q : VK} {E : Value -> Shared -> Prop} {RR : Value -> Addr -> Result -> Shared -> Prop}
  (S : a1o X.N M X.env.scope x y sc) (hc : X.calm = true) (he : ∀ fp s3 H3, PE (a3o X M x y sc fp s3 H3) elt te)
  (I2 : Inv X pins σ H2 s2) (T : d8i X.prog X.w X.K (.Tuple [.Name x px, .Name y py] k tp) J fp it tn) (st2 : tn 0 s2.heap) (f2 : ∀ b ∈ fp, b1g X pins H2 b)
  (h : ∀ p, H2 p = none -> ∃ W : Nat -> Nat -> List V -> Hp -> Prop, (∃ m, W 0 m [] (upd H2 p (.lst []))) /\ ∀ i m ys H, W i m ys H ->
   (J.stop i H /\ Q (.ref p) H) \/ (J.go i H /\ ∀ u H', J.yld i H u H' -> ∃ T x y, u = .ref T /\ SqT X.K H' T [x, y] /\
    te (some x :: some y :: σ) H' fun v H3 => H3 p = some (.lst ys) /\ ys.length < sizeLine /\ ∃ m', m' < m /\ W (i + 1) m' (ys ++ [v]) (upd H3 p (.lst (ys ++ [v])))))
  (hRR : ∀ (s3 : Shared) (H3 : Hp) (s' : Shared) (σ' : St) (H' : Hp), Inv X pins σ H3 s3 -> (∀ b ∈ fp, b1g X pins H3 b) -> Inv (a3o X M x y sc fp s3 H3) [] σ' H' s' -> Q (.ref s2.heap.objs.size) H' -> RR (.ref s2.heap.objs.size) s3.heap.objs.size (.ok .next) s') :
  wpAny (model X.prog X.w) X.A (newList []) (fun acc s₃ => wpAny (model X.prog X.w) X.A (newFunctionEnv sc X.env.globals (c4u sc X.env) [] X.env.qual none .none (some X.env)) (fun cenv s₄ =>
   codeAny (model X.prog X.w) X.A (.compStart (.ListComp elt [⟨(.Tuple [.Name x px, .Name y py] k tp), iter, [], 0⟩] sc pos) 0 (.ref it) acc { cenv with scope := relabel sc X.env }) (RR acc cenv.locals) s₄) E s₃) E s2 := by
 obtain ⟨W, ⟨m0, w0⟩, turn⟩ := h s2.heap.objs.size I2.fresh
 refine wpAny_newList ?_
 have I3 : Inv X pins σ (upd H2 s2.heap.objs.size (.lst [])) { s2 with heap := s2.heap.push { cls := .type "list", data := .seq ([] : List Value).toArray } } := I2.lnew (ys := []) (t' := s2.toks) .nil (Nat.zero_le _)
 have fpl : ∀ b ∈ fp, b < s2.heap.objs.size := fun b hb => by
  obtain ⟨o, e, _⟩ := T.obj _ _ st2 b hb
  exact Heap.lt_size e
 have f3 : ∀ b ∈ fp, b1g X pins (upd H2 s2.heap.objs.size (.lst [])) b := fun b hb => ⟨by rw [a1z (Nat.ne_of_lt (fpl b hb))]; exact (f2 b hb).1, (f2 b hb).2⟩
 have st3 : tn 0 (s2.heap.push { cls := .type "list", data := .seq ([] : List Value).toArray }) := T.keep _ _ _ st2 fun b _ o e => Heap.get?_push_of_some _ e
 generalize hs3 : ({ s2 with heap := s2.heap.push { cls := .type "list", data := .seq ([] : List Value).toArray } } : Shared) = s3 at *
 have st3' : tn 0 s3.heap := by rw [← hs3]; exact st3
 have fpl3 : ∀ b ∈ fp, b < s3.heap.objs.size := fun b hb => by
  obtain ⟨o, e, _⟩ := T.obj _ _ st3' b hb
  exact Heap.lt_size e
 refine wpAny_newFunctionEnv S.nocell (by intro y hy; simp at hy) (fun h₁ hns₁ hsb₁ => ?_) S.kind
 have keep4 : ∀ b o, s3.heap.get? b = some o -> h₁.get? b = some o := fun b o e => (hsb₁.2 b (Nat.ne_of_lt (Heap.lt_size e))).trans (Heap.get?_push_of_some _ e)
 have I4 := d4u (fp := fp) (tk := s3.toks + ([] : List (Str × Value)).length) S I3 f3 fpl3 keep4 hns₁
 have st4 : tn 0 h₁ := T.keep _ _ _ st3' fun b _ o e => keep4 b o e
 generalize hs4 : ({ s3 with heap := h₁, toks := s3.toks + ([] : List (Str × Value)).length } : Shared) = s4 at *
 have st4' : tn 0 s4.heap := by rw [← hs4]; exact st4
 generalize hH3 : upd H2 s2.heap.objs.size (.lst []) = H3 at *
 have stat : ∀ {H' : Hp}, (∀ b ∈ fp, H' b = none) -> ∀ b ∈ fp, b1g (a3o X M x y sc fp s3 H3) [] H' b := fun hn b hb =>
  ⟨hn b hb, Nat.ne_of_lt (fpl3 b hb), I4.ok.exfs b hb, .inl hb, fun y c e => (f3 b hb).2.2.2.2.1 y c (S.sub I3.ok e), fun p hp => absurd (show p ∈ ([] : List (Addr × Obj)) from hp) (by simp)⟩
 have loop : codeAny (model X.prog X.w) X.A (.compLoop (.ListComp elt [⟨(.Tuple [.Name x px, .Name y py] k tp), iter, [], 0⟩] sc pos) 0 (.ref it) (.ref s2.heap.objs.size) (a3o X M x y sc fp s3 H3).env) (RR (.ref s2.heap.objs.size) s3.heap.objs.size) s4 := by
  refine b7i (fun n s' => ∃ i o o2 ys H', Inv (a3o X M x y sc fp s3 H3) [] (o :: o2 :: σ) H' s' /\ tn i s'.heap /\ (∀ b ∈ fp, H' b = none) /\ W i n ys H') ?_ m0 ⟨0, none, none, [], H3, I4, st4', fun b hb => (f3 b hb).1, w0⟩
  rintro n s5 ⟨i, o, o2, ys, H5, I5, st5, fr5, w5⟩
  rcases turn i n ys H5 w5 with ⟨stop, q⟩ | ⟨go, step⟩
  · refine wpAny_mono (T.done (a3o X M x y sc fp s3 H3) rfl rfl rfl hc i [] s5 (o :: o2 :: σ) H5 (fun _ _ => False) I5 (stat fr5) st5 stop) (fun r s6 ⟨hr, I6⟩ => ?_) fun _ _ z => z.elim
    subst hr
    exact hRR s3 H3 s6 _ H5 I3 f3 I6 q
  · refine wpAny_mono (T.item (a3o X M x y sc fp s3 H3) rfl rfl rfl hc i [] s5 (o :: o2 :: σ) H5 (fun _ _ => False) I5 (stat fr5) st5 go) (fun r s6 ⟨u, hr, h6⟩ => ?_) fun _ _ z => z.elim
    subst hr
    refine wpAny_mono h6 (fun _ s6' ⟨tv, H6, I6, r6, y6, st6, fr6⟩ => ?_) fun _ _ z => z.elim
    have I6' := I6.pinned (stat fr6) (T.obj _ _ st6)
    have hx : (relabel sc X.env).names.lookup x = some .local := lookup_relabel_local S.here
    have nd' : (a3o X M x y sc fp s3 H3).N.Nodup := S.nd
    have hy : (relabel sc X.env).names.lookup y = some .local := lookup_relabel_local S.here2
    obtain ⟨Tt, xv, yv, etv, sq6, q6⟩ := step tv H6 y6
    subst etv
    refine wpAny_mono (d5e (X := a3o X M x y sc fp s3 H3) (i := 0) (j := 1) (p := px) (q := py) (k := k) (pos := tp) hc (b6r nd' rfl (.inl hx) (.inr hx)) (b6r nd' rfl (.inl hy) (.inr hy)) _ s6' (o :: o2 :: σ) H6 (.ref Tt) u (fun σ' H' => σ' = some xv :: some yv :: σ /\ H' = H6) I6' r6
     ⟨Tt, [xv, yv], rfl, sq6, rfl, _, _, rfl, _, _, rfl, rfl, rfl, rfl⟩) (fun _ s7 ⟨σ7, H7, I7, e7, e7'⟩ => ?_) fun _ _ z => z.elim
    subst e7 e7'
    have a2j : ∀ {H' : Hp} {s' : Shared} {ys' : List V}, Inv (a3o X M x y sc fp s3 H3) ([] ++ b7g fp s6'.heap) (some xv :: some yv :: σ) H' s' -> (∃ m', m' < n /\ W (i + 1) m' ys' H') ->
      ∃ m, m < n /\ ∃ i o o2 ys H', Inv (a3o X M x y sc fp s3 H3) [] (o :: o2 :: σ) H' s' /\ tn i s'.heap /\ (∀ b ∈ fp, H' b = none) /\ W i m ys H' := fun {H' s' ys'} I' ⟨m', hm, w'⟩ => by
     refine ⟨m', hm, i + 1, some xv, some yv, ys', H', I'.unpinned, T.keep _ _ _ st6 fun b hb ob e => (I'.pin (b, ob) (List.mem_append_right _ (List.mem_append_right _ (a3x hb e)))).1, fun b hb => ?_, w'⟩
     obtain ⟨ob, e, d⟩ := T.obj _ _ st6 b hb
     exact (I'.pin (b, ob) (List.mem_append_right _ (List.mem_append_right _ (a3x hb e)))).2.1
    refine wpAny_mono (he fp s3 H3 _ s7 _ H7 _ I7 q6) (fun v s9 ⟨yy, H9, I9, r9, hp, hz, q9⟩ => ?_) fun _ _ z => z.elim
    refine wpAny_mono (a4t (X := a3o X M x y sc fp s3 H3) _ s9 _ H9 (.ref s2.heap.objs.size) [yy] (.ref s2.heap.objs.size) [v] (fun _ H' => H' = upd H9 s2.heap.objs.size (.lst (ys ++ [yy]))) I9 rfl (.cons r9 .nil) ⟨_, ys, yy, rfl, rfl, hp, hz, rfl⟩) (fun _ s10 ⟨_, H10, I10, _, e10⟩ => ?_) fun _ _ z => z.elim
    subst e10
    exact a2j I10 q9
 exact codeAny_compStart_list loop (T.self _ 0 _ _ _ st4' loop)
theorem e0a (S : a1o X.N M X.env.scope x y sc) (hc : X.calm = true) (hi : PI X (.Tuple [.Name x px, .Name y py] k tp) iter wi) (he : ∀ fp s3 H3, PE (a3o X M x y sc fp s3 H3) elt te)
  (hs : ∀ x, foldedSetIterable iter X.env x = pure x := by intro _; rfl) : PE X (.ListComp elt [⟨(.Tuple [.Name x px, .Name y py] k tp), iter, [], 0⟩] sc pos) (e1z X.K wi te) := by
 intro pins s σ H Q I h
 rw [eval_ListComp]
 refine wpAny_comprehension_free (use := none) (cl := c4u sc X.env) rfl hs (a9o (S.cells I.ok)) S.kind S.names (thn (hi pins s σ H _ I h) fun v s1 h1 => thn h1 fun itv s2 h2 => ?_)
 obtain ⟨it, fp, tn, J, H2, e, I2, T, st2, f2, q2⟩ := h2
 subst e
 refine d3p (RR := fun acc C => compPost (model X.prog X.w) X.A X.xe none (EP X pins σ Q) acc C) (Q := Q) S hc he I2 T st2 f2 q2 ?_
 intro s3 H3 s' σ' H' I3 f3 J' q'
 obtain ⟨m, hn, _⟩ := J'.loc
 exact ⟨m, hn, fun h' hs' => ⟨.ref s2.heap.objs.size, H', I3.back2 f3 J' hs', rfl, q'⟩⟩
end
def c2a (N M : List Str) (osc : Scope) (x w : Str) (sc : Scope) : Bool :=
 (match sc.kind with | .function => true | _ => false) && sc.names.all (fun y => match y.2 with | .cell => false | _ => true)
 && sc.names.all (fun y => match y.2 with | .local => (match sc.names.lookup y.1 with | some .local => true | _ => false) | _ => true)
 && (match sc.names.lookup x with | some .local => true | _ => false) && M.all (fun y => !(y == x))
 && sc.names.all (fun y => match y.2 with | .free => (match osc.names.lookup y.1 with | some .cell => true | some .free => true | _ => false) | _ => true)
 && sc.names.all (fun y => match y.2 with | .local => (y.1 == x || (y.1 == w || M.all (fun z => !(z == y.1))))| _ => true)
 && decide (M.length = N.length) && (List.range M.length).all (fun i => match M[i]?, N[i]? with | some a, some b => a == b || (match sc.names.lookup a with | none => true | _ => false) | _, _ => false)
 && (match sc.names.lookup w with | some .local => true | _ => false) && M.all (fun y => !(y == w)) && !(x == w)
theorem a1o.of {N M : List Str} {osc : Scope} {x w : Str} {sc : Scope} (hN : M.Nodup) (h : c2a N M osc x w sc = true) : a1o N M osc x w sc := by
 unfold c2a at h
 simp only [Bool.and_eq_true, List.all_eq_true, decide_eq_true_eq] at h
 obtain ⟨⟨⟨⟨⟨⟨⟨⟨⟨⟨⟨h1, h2⟩, h3⟩, h4⟩, h5⟩, h6⟩, h7⟩, h8⟩, h9⟩, h10⟩, h11⟩, h12⟩ := h
 refine ⟨?_, fun y hy e => ?_, fun y hy e => ?_, ?_, ?_, List.nodup_cons.mpr ⟨fun hx => by
  rcases List.mem_cons.mp hx with q | q
  · subst q; simp at h12
  · have := h5 x q; simp at this, List.nodup_cons.mpr ⟨fun hx => by have := h11 w hx; simp at this, hN⟩⟩, h8, fun i z hz => ?_, fun y hy e => ?_, fun y hy e => ?_⟩
 · revert h1; cases sc.kind <;> simp
 · have := h2 y hy; rw [e] at this; exact absurd this (by simp)
 · have := h3 y hy; rw [e] at this
   revert this
   cases sc.names.lookup y.1 with
   | none => simp
   | some k => cases k <;> simp
 · revert h4
   cases sc.names.lookup x with
   | none => simp
   | some k => cases k <;> simp
 · revert h10
   cases sc.names.lookup w with
   | none => simp
   | some k => cases k <;> simp
 · have hl := (List.getElem?_eq_some_iff.mp hz).1
   have q := h9 i (List.mem_range.mpr hl)
   have hl' : i < N.length := by rw [← h8]; exact hl
   rw [hz, List.getElem?_eq_getElem hl'] at q
   rw [List.getElem?_eq_getElem hl']
   simp only [Bool.or_eq_true, beq_iff_eq] at q
   rcases q with q | q
   · exact .inl (by rw [q])
   · refine .inr ?_
     revert q
     cases sc.names.lookup z with
     | none => simp
     | some k => simp
 · have := h6 y hy; rw [e] at this
   revert this
   cases osc.names.lookup y.1 with
   | none => simp
   | some k => cases k <;> simp
 · have := h7 y hy; rw [e] at this
   simp only [Bool.or_eq_true, List.all_eq_true] at this
   rcases this with z | z | z
   · exact .inl (by simpa using z)
   · exact .inr (.inl (by simpa using z))
   · refine .inr (.inr fun q => ?_)
     have := z _ q
     simp at this
structure a1q (N M : List Str) (osc : Scope) (x : Str) (sc : Scope) : Prop where
 kind : sc.kind = .function
 nocell : ∀ z ∈ sc.names, z.2 ≠ .cell
 names : ∀ z ∈ sc.names, z.2 = .local -> sc.names.lookup z.1 = some .local
 here : sc.names.lookup x = some .local
 nd : (x :: M).Nodup
 len : M.length = N.length
 hide : ∀ (i : Nat) z, M[i]? = some z -> N[i]? = some z \/ sc.names.lookup z = none
 free : ∀ z ∈ sc.names, z.2 = .free -> osc.names.lookup z.1 = some .cell \/ osc.names.lookup z.1 = some .free
 own : ∀ z ∈ sc.names, z.2 = .local -> z.1 = x \/ z.1 ∉ M
def a1p (X : Cx) (M : List Str) (x : Str) (sc : Scope) (fp : List Addr) (s3 : Shared) (H3 : Hp) : Cx where
 prog := X.prog
 w := X.w
 K := X.K
 mg := X.mg
 base := X.base
 A := X.A
 N := x :: M
 s₀ := s3
 H₀ := H3
 env := compEnvC sc (c4u sc X.env) s3.heap.objs.size X.env
 outer := X.stack
 stack := X.stack
 ex := fp
 calm := X.calm
 fn := fun _ => false
 pn := []
 xe := fun _ _ => False
section
variable {X : Cx} {M : List Str} {x : Str} {sc : Scope} {fp : List Addr} {s3 : Shared} {H3 : Hp} {pins : List (Addr × Obj)} {σ : St}
theorem a1q.cells (S : a1q X.N M X.env.scope x sc) (ok : X.Ok) : ∀ z ∈ sc.names, z.2 = .free -> ∃ c, X.env.cells.lookup z.1 = some c := fun z hz hk => ok.has z.1 (S.free z hz hk)
theorem a1q.sub (S : a1q X.N M X.env.scope x sc) (ok : X.Ok) {z : Str} {c : Addr} (e : (c4u sc X.env).lookup z = some c) : X.env.cells.lookup z = some c :=
 b8y sc.names [] (S.cells ok) (fun c h => by cases h) e
theorem a1q.isFree (S : a1q X.N M X.env.scope x sc) {z : Str} (h : (relabel sc X.env).names.lookup z = some .cell \/ (relabel sc X.env).names.lookup z = some .free) : (z, NameKind.free) ∈ sc.names := by
 rw [a3f] at h
 cases e : sc.names.lookup z with
 | none => rw [e] at h; rcases h with h | h <;> cases h
 | some k =>
  rw [e] at h
  have hm := PySem.mem_of_lookup e
  cases k with
  | free => exact hm
  | cell => exact absurd rfl (S.nocell _ hm)
  | _ =>
   exfalso
   rcases h with h | h
   all_goals (simp at h)
theorem a1q.noLocal (S : a1q X.N M X.env.scope x sc) {z : Str} (hz : z ∈ M) (h : (relabel sc X.env).names.lookup z = some .local) : False := by
 rw [a3f] at h
 cases e : sc.names.lookup z with
 | none => rw [e] at h; cases h
 | some k =>
  rw [e] at h
  have hm := PySem.mem_of_lookup e
  cases k with
  | «local» =>
   have nd := List.nodup_cons.mp S.nd
   rcases S.own _ hm rfl with q | q
   · have q' : z = x := q
     exact nd.1 (q' ▸ hz)
   · exact q hz
  | _ =>
   revert h
   simp
   try (split <;> simp)
theorem d9n (S : a1q X.N M X.env.scope x sc) (I : Inv X pins σ H3 s3) (hf : ∀ b ∈ fp, b1g X pins H3 b) (hl : ∀ b ∈ fp, b < s3.heap.objs.size) : (a1p X M x sc fp s3 H3).Ok where
 mod := I.ok.mod
 kind := S.kind
 glob := I.ok.glob
 blt := I.ok.blt
 above := Nat.le_refl _
 inj := fun y z c h1 h2 => I.ok.inj y z c (S.sub I.ok h1) (S.sub I.ok h2)
 has := fun y h => b0x sc.names [] (.inr (S.isFree h))
 cab := fun y c h => by cases h
 hd := I.ok.hd
 frames := I.ok.frames
 stk := .inl rfl
 exf := fun b hb => ⟨Nat.ne_of_lt (hl b hb), fun y c e => (hf b hb).2.2.2.2.1 y c (S.sub I.ok e)⟩
 bs := I.bs
 bsz := Nat.le_trans I.ok.bsz I.sz
 noex := fun b o e hb => b1g.nobase I.ok (hf b hb) e
 exfs := fun b hb hs => by
  rcases List.mem_cons.mp (I.stkSub b hs) with z | z
  · exact (hf b hb).2.1 z
  · exact (hf b hb).2.2.1 z
 funs := I.stack
 frf := I.stkFree
theorem c8r {h4 : Heap} {tk : Nat} (S : a1q X.N M X.env.scope x sc) (I : Inv X pins σ H3 s3) (hf : ∀ b ∈ fp, b1g X pins H3 b) (hl : ∀ b ∈ fp, b < s3.heap.objs.size)
  (hk : ∀ b o, s3.heap.get? b = some o -> h4.get? b = some o) {m : Str -> Option Value} (hn : h4.Ns s3.heap.objs.size m) :
  Inv (a1p X M x sc fp s3 H3) [] (none :: σ) H3 { s3 with heap := h4, toks := tk } := by
 refine ⟨d9n S I hf hl, rfl, I.bare, Un.kept hk, ⟨m, hn, fun i z v h1 h2 h3 => ?_⟩, fun z c e => ?_, I.fresh, fun z c e => I.freeC z c (S.sub I.ok e), fun p hp => absurd (show p ∈ ([] : List (Addr × Obj)) from hp) (by simp), I.hok.kept hk, by show σ.length + 1 = M.length + 1; rw [I.len, S.len]⟩
 · match i, h1, h2 with
   | 0, h1, h2 => exact absurd (Option.some.inj h2) (by simp)
   | i + 1, h1, h2 =>
    have h1m : M[i]? = some z := h1
    have h2' : σ[i]? = some (some v) := h2
    have hyN : z ∈ M := List.mem_of_getElem? h1m
    have hfree : (z, NameKind.free) ∈ sc.names := by
     rcases h3 with h3 | h3 | h3
     · exact (S.noLocal hyN h3).elim
     · exact S.isFree (.inl h3)
     · exact S.isFree (.inr h3)
    have h1' : X.N[i]? = some z := by
     rcases S.hide i z h1m with q | q
     · exact q
     · exfalso
       obtain ⟨k, hk⟩ : ∃ k, sc.names.lookup z = some k := by
        cases e : sc.names.lookup z with
        | some k => exact ⟨k, rfl⟩
        | none =>
         rw [List.lookup_eq_none_iff] at e
         exact absurd (e _ hfree) (by simp)
       rw [hk] at q; cases q
    have hk0 := S.free _ hfree rfl
    obtain ⟨m0, hn0, hl0⟩ := I.loc
    obtain ⟨u, r, l⟩ := hl0 i z v h1' h2' (hk0.elim (fun q => .inr (.inl q)) (fun q => .inr (.inr q)))
    refine ⟨u, r, .inr ?_⟩
    have hv : (a1p X M x sc fp s3 H3).env.kindOf z = some .cell \/ (a1p X M x sc fp s3 H3).env.kindOf z = some .free := by
     rcases h3 with h3 | h3 | h3
     · exact (S.noLocal hyN h3).elim
     · exact .inl h3
     · exact .inr h3
    refine ⟨hv, ?_⟩
    obtain ⟨c, hc⟩ := b0x (env := X.env) (y := z) sc.names [] (.inr hfree)
    refine ⟨c, hc, ?_⟩
    have hc' := S.sub I.ok hc
    rcases l with ⟨hk1, _⟩ | ⟨_, c2, e2, z2⟩
    · exfalso
      have hk1' : X.env.scope.names.lookup z = some .local := hk1
      have hk0' : X.env.scope.names.lookup z = some .cell \/ X.env.scope.names.lookup z = some .free := hk0
      rw [hk1'] at hk0'
      rcases hk0' with q | q <;> cases q
    · rw [hc'] at e2; cases e2
      exact z2.keeps hk
 · obtain ⟨v, q⟩ := I.cell z c (S.sub I.ok e)
   exact ⟨v, q.keeps hk⟩
end
def e6l (wi : TI) (te : TE) : TE := fun σ H Q => wi σ H fun J H1 => ∀ p, H1 p = none ->
 ∃ W : Nat -> Nat -> List V -> Hp -> Prop, (∃ m, W 0 m [] (upd H1 p (.lst []))) /\ ∀ i m ys H, W i m ys H ->
  (J.stop i H /\ Q (.ref p) H) \/ (J.go i H /\ ∀ u H', J.yld i H u H' ->
   te (some u :: σ) H' fun v H3 => H3 p = some (.lst ys) /\ ys.length < sizeLine /\ ∃ m', m' < m /\ W (i + 1) m' (ys ++ [v]) (upd H3 p (.lst (ys ++ [v]))))
section
variable {X : Cx} {M : List Str} {x : Str} {sc : Scope} {px pos : Pos} {k : Nat} {elt iter : Expr} {wi : TI} {te : TE}
theorem Inv.back1 {fp : List Addr} {s3 s' : Shared} {H3 H' : Hp} {pins : List (Addr × Obj)} {σ σ' : St} {pl : List (Addr × Obj)} {h' : Heap} (I : Inv X pins σ H3 s3) (hf : ∀ b ∈ fp, b1g X pins H3 b)
  (J : Inv (a1p X M x sc fp s3 H3) pl σ' H' s') (hs : Heap.SameBut s3.heap.objs.size s'.heap h') : Inv X pins σ H' { s' with heap := h' } := by
 have I1 : Inv X pins σ H' s' := I.call' (ch := fp) J.os J.base J.hok J.bare fun b hb => ⟨(hf b hb).2.2.2.1, (hf b hb).2.1, (hf b hb).2.2.2.2.1, (hf b hb).2.2.2.2.2⟩
 refine I1.turned (t' := s'.toks) (it := s3.heap.objs.size) (fun b o hb e => (hs.2 b hb).trans e) J.free ?_ (.inr I.sz) ?_ ?_
 · exact Nat.ne_of_gt I.lt
 · intro y c e z
   obtain ⟨v, q⟩ := I.cell y c e
   exact absurd q.lt (by rw [z]; exact Nat.lt_irrefl _)
 · intro p hp z
   exact absurd (Heap.lt_size (I.pin p hp).1) (by rw [z]; exact Nat.lt_irrefl _)
theorem d3c {pins : List (Addr × Obj)} {σ : St} {s2 : Shared} {H2 : Hp} {it : Addr} {fp : List Addr} {tn : Nat -> Heap -> Prop} {J : It} {Q : VK} {E : Value -> Shared -> Prop} {RR : Value -> Addr -> Result -> Shared -> Prop}
  (S : a1q X.N M X.env.scope x sc) (hc : X.calm = true) (he : ∀ fp s3 H3, PE (a1p X M x sc fp s3 H3) elt te)
  (I2 : Inv X pins σ H2 s2) (T : d8i X.prog X.w X.K (.Name x px) J fp it tn) (st2 : tn 0 s2.heap) (f2 : ∀ b ∈ fp, b1g X pins H2 b)
  (h : ∀ p, H2 p = none -> ∃ W : Nat -> Nat -> List V -> Hp -> Prop, (∃ m, W 0 m [] (upd H2 p (.lst []))) /\ ∀ i m ys H, W i m ys H ->
   (J.stop i H /\ Q (.ref p) H) \/ (J.go i H /\ ∀ u H', J.yld i H u H' ->
    te (some u :: σ) H' fun v H3 => H3 p = some (.lst ys) /\ ys.length < sizeLine /\ ∃ m', m' < m /\ W (i + 1) m' (ys ++ [v]) (upd H3 p (.lst (ys ++ [v])))))
  (hRR : ∀ (s3 : Shared) (H3 : Hp) (s' : Shared) (σ' : St) (H' : Hp), Inv X pins σ H3 s3 -> (∀ b ∈ fp, b1g X pins H3 b) -> Inv (a1p X M x sc fp s3 H3) [] σ' H' s' -> Q (.ref s2.heap.objs.size) H' -> RR (.ref s2.heap.objs.size) s3.heap.objs.size (.ok .next) s') :
  wpAny (model X.prog X.w) X.A (newList []) (fun acc s₃ => wpAny (model X.prog X.w) X.A (newFunctionEnv sc X.env.globals (c4u sc X.env) [] X.env.qual none .none (some X.env)) (fun cenv s₄ =>
   codeAny (model X.prog X.w) X.A (.compStart (.ListComp elt [⟨(.Name x px), iter, [], 0⟩] sc pos) 0 (.ref it) acc { cenv with scope := relabel sc X.env }) (RR acc cenv.locals) s₄) E s₃) E s2 := by
 obtain ⟨W, ⟨m0, w0⟩, turn⟩ := h s2.heap.objs.size I2.fresh
 refine wpAny_newList ?_
 have I3 : Inv X pins σ (upd H2 s2.heap.objs.size (.lst [])) { s2 with heap := s2.heap.push { cls := .type "list", data := .seq ([] : List Value).toArray } } := I2.lnew (ys := []) (t' := s2.toks) .nil (Nat.zero_le _)
 have fpl : ∀ b ∈ fp, b < s2.heap.objs.size := fun b hb => by
  obtain ⟨o, e, _⟩ := T.obj _ _ st2 b hb
  exact Heap.lt_size e
 have f3 : ∀ b ∈ fp, b1g X pins (upd H2 s2.heap.objs.size (.lst [])) b := fun b hb => ⟨by rw [a1z (Nat.ne_of_lt (fpl b hb))]; exact (f2 b hb).1, (f2 b hb).2⟩
 have st3 : tn 0 (s2.heap.push { cls := .type "list", data := .seq ([] : List Value).toArray }) := T.keep _ _ _ st2 fun b _ o e => Heap.get?_push_of_some _ e
 generalize hs3 : ({ s2 with heap := s2.heap.push { cls := .type "list", data := .seq ([] : List Value).toArray } } : Shared) = s3 at *
 have st3' : tn 0 s3.heap := by rw [← hs3]; exact st3
 have fpl3 : ∀ b ∈ fp, b < s3.heap.objs.size := fun b hb => by
  obtain ⟨o, e, _⟩ := T.obj _ _ st3' b hb
  exact Heap.lt_size e
 refine wpAny_newFunctionEnv S.nocell (by intro y hy; simp at hy) (fun h₁ hns₁ hsb₁ => ?_) S.kind
 have keep4 : ∀ b o, s3.heap.get? b = some o -> h₁.get? b = some o := fun b o e => (hsb₁.2 b (Nat.ne_of_lt (Heap.lt_size e))).trans (Heap.get?_push_of_some _ e)
 have I4 := c8r (fp := fp) (tk := s3.toks + ([] : List (Str × Value)).length) S I3 f3 fpl3 keep4 hns₁
 have st4 : tn 0 h₁ := T.keep _ _ _ st3' fun b _ o e => keep4 b o e
 generalize hs4 : ({ s3 with heap := h₁, toks := s3.toks + ([] : List (Str × Value)).length } : Shared) = s4 at *
 have st4' : tn 0 s4.heap := by rw [← hs4]; exact st4
 generalize hH3 : upd H2 s2.heap.objs.size (.lst []) = H3 at *
 have stat : ∀ {H' : Hp}, (∀ b ∈ fp, H' b = none) -> ∀ b ∈ fp, b1g (a1p X M x sc fp s3 H3) [] H' b := fun hn b hb =>
  ⟨hn b hb, Nat.ne_of_lt (fpl3 b hb), I4.ok.exfs b hb, .inl hb, fun y c e => (f3 b hb).2.2.2.2.1 y c (S.sub I3.ok e), fun p hp => absurd (show p ∈ ([] : List (Addr × Obj)) from hp) (by simp)⟩
 have loop : codeAny (model X.prog X.w) X.A (.compLoop (.ListComp elt [⟨(.Name x px), iter, [], 0⟩] sc pos) 0 (.ref it) (.ref s2.heap.objs.size) (a1p X M x sc fp s3 H3).env) (RR (.ref s2.heap.objs.size) s3.heap.objs.size) s4 := by
  refine b7i (fun n s' => ∃ i o ys H', Inv (a1p X M x sc fp s3 H3) [] (o :: σ) H' s' /\ tn i s'.heap /\ (∀ b ∈ fp, H' b = none) /\ W i n ys H') ?_ m0 ⟨0, none, [], H3, I4, st4', fun b hb => (f3 b hb).1, w0⟩
  rintro n s5 ⟨i, o, ys, H5, I5, st5, fr5, w5⟩
  rcases turn i n ys H5 w5 with ⟨stop, q⟩ | ⟨go, step⟩
  · refine wpAny_mono (T.done (a1p X M x sc fp s3 H3) rfl rfl rfl hc i [] s5 (o :: σ) H5 (fun _ _ => False) I5 (stat fr5) st5 stop) (fun r s6 ⟨hr, I6⟩ => ?_) fun _ _ z => z.elim
    subst hr
    exact hRR s3 H3 s6 _ H5 I3 f3 I6 q
  · refine wpAny_mono (T.item (a1p X M x sc fp s3 H3) rfl rfl rfl hc i [] s5 (o :: σ) H5 (fun _ _ => False) I5 (stat fr5) st5 go) (fun r s6 ⟨u, hr, h6⟩ => ?_) fun _ _ z => z.elim
    subst hr
    refine wpAny_mono h6 (fun _ s6' ⟨tv, H6, I6, r6, y6, st6, fr6⟩ => ?_) fun _ _ z => z.elim
    have I6' := I6.pinned (stat fr6) (T.obj _ _ st6)
    have hx : (relabel sc X.env).names.lookup x = some .local := lookup_relabel_local S.here
    have nd' : (a1p X M x sc fp s3 H3).N.Nodup := S.nd
    have q6 := step tv H6 y6
    refine wpAny_mono (b6r (X := a1p X M x sc fp s3 H3) (i := 0) (pos := px) nd' rfl (.inl hx) (.inr hx) _ s6' (o :: σ) H6 tv u (fun σ' H' => σ' = some tv :: σ /\ H' = H6) I6' r6 ⟨rfl, rfl⟩) (fun _ s7 ⟨σ7, H7, I7, e7, e7'⟩ => ?_) fun _ _ z => z.elim
    subst e7 e7'
    have a2j : ∀ {H' : Hp} {s' : Shared} {ys' : List V}, Inv (a1p X M x sc fp s3 H3) ([] ++ b7g fp s6'.heap) (some tv :: σ) H' s' -> (∃ m', m' < n /\ W (i + 1) m' ys' H') ->
      ∃ m, m < n /\ ∃ i o ys H', Inv (a1p X M x sc fp s3 H3) [] (o :: σ) H' s' /\ tn i s'.heap /\ (∀ b ∈ fp, H' b = none) /\ W i m ys H' := fun {H' s' ys'} I' ⟨m', hm, w'⟩ => by
     refine ⟨m', hm, i + 1, some tv, ys', H', I'.unpinned, T.keep _ _ _ st6 fun b hb ob e => (I'.pin (b, ob) (List.mem_append_right _ (List.mem_append_right _ (a3x hb e)))).1, fun b hb => ?_, w'⟩
     obtain ⟨ob, e, d⟩ := T.obj _ _ st6 b hb
     exact (I'.pin (b, ob) (List.mem_append_right _ (List.mem_append_right _ (a3x hb e)))).2.1
    refine wpAny_mono (he fp s3 H3 _ s7 _ H7 _ I7 q6) (fun v s9 ⟨yy, H9, I9, r9, hp, hz, q9⟩ => ?_) fun _ _ z => z.elim
    refine wpAny_mono (a4t (X := a1p X M x sc fp s3 H3) _ s9 _ H9 (.ref s2.heap.objs.size) [yy] (.ref s2.heap.objs.size) [v] (fun _ H' => H' = upd H9 s2.heap.objs.size (.lst (ys ++ [yy]))) I9 rfl (.cons r9 .nil) ⟨_, ys, yy, rfl, rfl, hp, hz, rfl⟩) (fun _ s10 ⟨_, H10, I10, _, e10⟩ => ?_) fun _ _ z => z.elim
    subst e10
    exact a2j I10 q9
 exact codeAny_compStart_list loop (T.self _ 0 _ _ _ st4' loop)
theorem e1c (S : a1q X.N M X.env.scope x sc) (hc : X.calm = true) (hi : PI X (.Name x px) iter wi) (he : ∀ fp s3 H3, PE (a1p X M x sc fp s3 H3) elt te)
  (hs : ∀ x, foldedSetIterable iter X.env x = pure x := by intro _; rfl) : PE X (.ListComp elt [⟨(.Name x px), iter, [], 0⟩] sc pos) (e6l wi te) := by
 intro pins s σ H Q I h
 rw [eval_ListComp]
 refine wpAny_comprehension_free (use := none) (cl := c4u sc X.env) rfl hs (a9o (S.cells I.ok)) S.kind S.names (thn (hi pins s σ H _ I h) fun v s1 h1 => thn h1 fun itv s2 h2 => ?_)
 obtain ⟨it, fp, tn, J, H2, e, I2, T, st2, f2, q2⟩ := h2
 subst e
 refine d3c (RR := fun acc C => compPost (model X.prog X.w) X.A X.xe none (EP X pins σ Q) acc C) (Q := Q) S hc he I2 T st2 f2 q2 ?_
 intro s3 H3 s' σ' H' I3 f3 J' q'
 obtain ⟨m, hn, _⟩ := J'.loc
 exact ⟨m, hn, fun h' hs' => ⟨.ref s2.heap.objs.size, H', I3.back1 f3 J' hs', rfl, q'⟩⟩
end
def c2t (N M : List Str) (osc : Scope) (x : Str) (sc : Scope) : Bool :=
 (match sc.kind with | .function => true | _ => false) && sc.names.all (fun y => match y.2 with | .cell => false | _ => true)
 && sc.names.all (fun y => match y.2 with | .local => (match sc.names.lookup y.1 with | some .local => true | _ => false) | _ => true)
 && (match sc.names.lookup x with | some .local => true | _ => false) && M.all (fun y => !(y == x))
 && sc.names.all (fun y => match y.2 with | .free => (match osc.names.lookup y.1 with | some .cell => true | some .free => true | _ => false) | _ => true)
 && sc.names.all (fun y => match y.2 with | .local => (y.1 == x || (M.all (fun z => !(z == y.1))))| _ => true)
 && decide (M.length = N.length) && (List.range M.length).all (fun i => match M[i]?, N[i]? with | some a, some b => a == b || (match sc.names.lookup a with | none => true | _ => false) | _, _ => false)
theorem a1q.of {N M : List Str} {osc : Scope} {x : Str} {sc : Scope} (hN : M.Nodup) (h : c2t N M osc x sc = true) : a1q N M osc x sc := by
 unfold c2t at h
 simp only [Bool.and_eq_true, List.all_eq_true, decide_eq_true_eq] at h
 obtain ⟨⟨⟨⟨⟨⟨⟨⟨h1, h2⟩, h3⟩, h4⟩, h5⟩, h6⟩, h7⟩, h8⟩, h9⟩ := h
 refine ⟨?_, fun y hy e => ?_, fun y hy e => ?_, ?_, List.nodup_cons.mpr ⟨fun hx => by have := h5 x hx; simp at this, hN⟩, h8, fun i z hz => ?_, fun y hy e => ?_, fun y hy e => ?_⟩
 · revert h1; cases sc.kind <;> simp
 · have := h2 y hy; rw [e] at this; exact absurd this (by simp)
 · have := h3 y hy; rw [e] at this
   revert this
   cases sc.names.lookup y.1 with
   | none => simp
   | some k => cases k <;> simp
 · revert h4
   cases sc.names.lookup x with
   | none => simp
   | some k => cases k <;> simp
 · have hl := (List.getElem?_eq_some_iff.mp hz).1
   have q := h9 i (List.mem_range.mpr hl)
   have hl' : i < N.length := by rw [← h8]; exact hl
   rw [hz, List.getElem?_eq_getElem hl'] at q
   rw [List.getElem?_eq_getElem hl']
   simp only [Bool.or_eq_true, beq_iff_eq] at q
   rcases q with q | q
   · exact .inl (by rw [q])
   · refine .inr ?_
     revert q
     cases sc.names.lookup z with
     | none => simp
     | some k => simp
 · have := h6 y hy; rw [e] at this
   revert this
   cases osc.names.lookup y.1 with
   | none => simp
   | some k => cases k <;> simp
 · have := h7 y hy; rw [e] at this
   simp only [Bool.or_eq_true, List.all_eq_true] at this
   rcases this with z | z
   · exact .inl (by simpa using z)
   · refine .inr fun q => ?_
     have := z _ q
     simp at this
theorem c9t {lo : Int} {n : Nat} {p : Addr} {te : TE} {σ : St} {H : Hp} {Z : Hp -> Prop} (Pv : Nat -> List V -> Hp -> Prop) (h0 : Pv 0 [] (upd H p (.lst [])))
  (hs : ∀ i ys H, i < n -> Pv i ys H -> te (some (.int (lo + i)) :: σ) H fun v H3 => H3 p = some (.lst ys) /\ ys.length < sizeLine /\ ∃ m', m' < n - i /\ m' = n - (i + 1) /\ i + 1 <= n /\ Pv (i + 1) (ys ++ [v]) (upd H3 p (.lst (ys ++ [v]))))
  (hd : ∀ ys H, Pv n ys H -> Z H) :
  ∃ W : Nat -> Nat -> List V -> Hp -> Prop, (∃ m, W 0 m [] (upd H p (.lst []))) /\ ∀ i m ys H, W i m ys H ->
   ((Itr lo n).stop i H /\ Z H) \/ ((Itr lo n).go i H /\ ∀ u H', (Itr lo n).yld i H u H' ->
     te (some u :: σ) H' fun v H3 => H3 p = some (.lst ys) /\ ys.length < sizeLine /\ ∃ m', m' < m /\ W (i + 1) m' (ys ++ [v]) (upd H3 p (.lst (ys ++ [v])))) := by
 refine ⟨fun i m ys H => m = n - i /\ i <= n /\ Pv i ys H, ⟨n, by simp, Nat.zero_le _, h0⟩, ?_⟩
 rintro i m ys H ⟨rfl, hi, pv⟩
 by_cases hlt : i < n
 · refine .inr ⟨hlt, fun x H' y => ?_⟩
   obtain ⟨e, y⟩ := y
   subst e y
   exact hs i ys _ hlt pv
 · have e : i = n := by omega
   subst e
   exact .inl ⟨Nat.le_refl _, hd ys H pv⟩
theorem d4e {K : PySem.W.Frag} {a p : Addr} {xs : List V} {te : TE} {σ : St} {H : Hp} {Z : Hp -> Prop} (Pv : Nat -> List V -> Hp -> Prop) (h0 : Pv 0 [] (upd H p (.lst []))) (hl : ∀ i ys H, i <= xs.length -> Pv i ys H -> SqL K H a xs)
  (hs : ∀ i x ys H H', xs[i]? = some x -> Pv i ys H -> a1i H H' -> te (some (.int i) :: some x :: σ) H' fun v H3 => H3 p = some (.lst ys) /\ ys.length < sizeLine /\ ∃ m', m' < xs.length - i /\ m' = xs.length - (i + 1) /\ i + 1 <= xs.length /\ Pv (i + 1) (ys ++ [v]) (upd H3 p (.lst (ys ++ [v]))))
  (hd : ∀ ys H, Pv xs.length ys H -> Z H) :
  ∃ W : Nat -> Nat -> List V -> Hp -> Prop, (∃ m, W 0 m [] (upd H p (.lst []))) /\ ∀ i m ys H, W i m ys H ->
   ((Itn K a).stop i H /\ Z H) \/ ((Itn K a).go i H /\ ∀ u H', (Itn K a).yld i H u H' -> ∃ T x y, u = .ref T /\ SqT K H' T [x, y] /\
     te (some x :: some y :: σ) H' fun v H3 => H3 p = some (.lst ys) /\ ys.length < sizeLine /\ ∃ m', m' < m /\ W (i + 1) m' (ys ++ [v]) (upd H3 p (.lst (ys ++ [v])))) := by
 refine ⟨fun i m ys H => m = xs.length - i /\ i <= xs.length /\ Pv i ys H, ⟨xs.length, by simp, Nat.zero_le _, h0⟩, ?_⟩
 rintro i m ys H ⟨rfl, hi, pv⟩
 have q := hl i ys H hi pv
 by_cases hlt : i < xs.length
 · refine .inr ⟨⟨xs, xs[i], q, by simp [hlt]⟩, fun u H' y => ?_⟩
   obtain ⟨T, x, rfl, hT, rfl, y⟩ := y
   exact ⟨T, .int i, x, rfl, SqT.of a0g, hs i x ys H _ (y xs q) pv (a0i hT _)⟩
 · have e : i = xs.length := by omega
   subst e
   exact .inl ⟨⟨xs, q, Nat.le_refl _⟩, hd ys H pv⟩
theorem b5p {K : PySem.W.Frag} {a b p : Addr} {xs zs : List V} {te : TE} {σ : St} {H : Hp} {Z : Hp -> Prop} (hlz : xs.length = zs.length) (Pv : Nat -> List V -> Hp -> Prop) (h0 : Pv 0 [] (upd H p (.lst []))) (hl : ∀ i ys H, i <= xs.length -> Pv i ys H -> SqL K H a xs /\ SqL K H b zs)
  (hs : ∀ i x z ys H H', xs[i]? = some x -> zs[i]? = some z -> Pv i ys H -> a1i H H' -> te (some x :: some z :: σ) H' fun v H3 => H3 p = some (.lst ys) /\ ys.length < sizeLine /\ ∃ m', m' < xs.length - i /\ m' = xs.length - (i + 1) /\ i + 1 <= xs.length /\ Pv (i + 1) (ys ++ [v]) (upd H3 p (.lst (ys ++ [v]))))
  (hd : ∀ ys H, Pv xs.length ys H -> Z H) :
  ∃ W : Nat -> Nat -> List V -> Hp -> Prop, (∃ m, W 0 m [] (upd H p (.lst []))) /\ ∀ i m ys H, W i m ys H ->
   ((Itz K a b).stop i H /\ Z H) \/ ((Itz K a b).go i H /\ ∀ u H', (Itz K a b).yld i H u H' -> ∃ T x y, u = .ref T /\ SqT K H' T [x, y] /\
     te (some x :: some y :: σ) H' fun v H3 => H3 p = some (.lst ys) /\ ys.length < sizeLine /\ ∃ m', m' < m /\ W (i + 1) m' (ys ++ [v]) (upd H3 p (.lst (ys ++ [v])))) := by
 refine ⟨fun i m ys H => m = xs.length - i /\ i <= xs.length /\ Pv i ys H, ⟨xs.length, by simp, Nat.zero_le _, h0⟩, ?_⟩
 rintro i m ys H ⟨rfl, hi, pv⟩
 obtain ⟨qa, qb⟩ := hl i ys H hi pv
 by_cases hlt : i < xs.length
 · have hlt' : i < zs.length := by omega
   refine .inr ⟨⟨xs, zs, xs[i], zs[i], qa, qb, by simp [hlt], by simp [hlt']⟩, fun u H' y => ?_⟩
   obtain ⟨T, x, z, rfl, hT, rfl, yx, yz⟩ := y
   exact ⟨T, x, z, rfl, SqT.of a0g, hs i x z ys H _ (yx xs qa) (yz zs qb) pv (a0i hT _)⟩
 · have e : i = xs.length := by omega
   subst e
   exact .inl ⟨⟨xs, zs, qa, qb, .inl (Nat.le_refl _)⟩, hd ys H pv⟩
theorem c5h {X : Cx} {K : PySem.W.Frag} {elts : List Expr} {k : Nat} {tp : Pos} {a : Expr} {ta : TA} {p pos : Pos} (h : X.K = K) (hg : Gl X "enumerate") (hm : X.mg "enumerate" = none) (ha : PA X [a] ta) (hs : starEach [a] X.env = [(false, eval a X.env)] := by rfl) :
  PI X (.Tuple elts k tp) (.Call (.Name "enumerate" p) [a] [] pos) (e5u K ta) := by subst h; exact e4e hg hm ha hs
theorem c3a {X : Cx} {K : PySem.W.Frag} {elts : List Expr} {k : Nat} {tp : Pos} {a b : Expr} {ta : TA} {p pos : Pos} (h : X.K = K) (hg : Gl X "zip") (hm : X.mg "zip" = none) (ha : PA X [a, b] ta) (hs : starEach [a, b] X.env = [(false, eval a X.env), (false, eval b X.env)] := by rfl)
  (hs2 : starEach [b] X.env = [(false, eval b X.env)] := by rfl) : PI X (.Tuple elts k tp) (.Call (.Name "zip" p) [a, b] [] pos) (g0c K ta) := by subst h; exact e7p hg hm ha hs hs2
theorem c3t {X : Cx} {K : PySem.W.Frag} {x y : Str} {i j k : Nat} {p q pos : Pos} (h : X.K = K) (hc : X.calm = true) (h1 : PG X (.Name x p) (b5r i)) (h2 : PG X (.Name y q) (b5r j)) : PG X (.Tuple [.Name x p, .Name y q] k pos) (d9m K i j) := by subst h; exact d5e hc h1 h2
theorem b1x {X : Cx} {K : PySem.W.Frag} {M : List Str} {x y : Str} {sc : Scope} {px py tp pos : Pos} {k : Nat} {elt iter : Expr} {wi : TI} {te : TE} (h : X.K = K) (S : a1o X.N M X.env.scope x y sc) (hc : X.calm = true) (hi : PI X (.Tuple [.Name x px, .Name y py] k tp) iter wi)
  (he : ∀ fp s3 H3, PE (a3o X M x y sc fp s3 H3) elt te) (hs : ∀ x, foldedSetIterable iter X.env x = pure x := by intro _; rfl) : PE X (.ListComp elt [⟨.Tuple [.Name x px, .Name y py] k tp, iter, [], 0⟩] sc pos) (e1z K wi te) := by subst h; exact e0a S hc hi he hs
def e7k (K : PySem.W.Frag) : R2 := fun x y H Q => ∃ a b ys, x = .ref a /\ y = .ref b /\ SqT K H a [] /\ SqT K H b ys /\ Q (.ref b) H
theorem e0n {X : Cx} : OpR X (binaryOp .Add) (e7k X.K) := by
 intro pins s σ H x y v u Q I rx ry h
 obtain ⟨a, b, ys, rfl, rfl, ha, hb, q⟩ := h
 cases rx
 cases ry
 obtain ⟨its, r1, p1, _⟩ := I.tuple ha
 obtain ⟨its2, r2, p2, _⟩ := I.tuple hb
 have e0 : its = [] := r1.nil_iff.mpr rfl
 subst e0
 obtain ⟨⟨c, dd, dt, sl⟩, ho, hc, n, hd⟩ := p1
 obtain ⟨⟨c2, dd2, dt2, sl2⟩, ho2, hc2, n2, hd2⟩ := p2
 replace hc : c = .type "tuple" := hc
 replace hd : dt = .seq ([] : List Value).toArray n := hd
 replace hc2 : c2 = .type "tuple" := hc2
 replace hd2 : dt2 = .seq its2.toArray n2 := hd2
 subst hc hd hc2 hd2
 exact concat_meets ⟨_, ho, rfl⟩ ⟨_, ho2, rfl⟩ noFill_tuple_add seq_tuple_add PySem.F.slot_tuple_add PySem.F.entry_tuple_add (PySem.F.args_tuple_add_2 _ _) (tuple_addW0 a b ([] : List Value).toArray its2.toArray n n2 dd dd2 sl sl2 rfl) ⟨ho, ho2, ⟨.ref b, H, I, rfl, q⟩⟩
def e8s (K : PySem.W.Frag) : R2 := fun x y H Q => e7o K x y H Q \/ e7k K x y H Q
theorem b5g {X : Cx} {K : PySem.W.Frag} (h : X.K = K) : OpR X (binaryOp .Add) (e8s K) := by subst h; exact OpR.or e4g e0n
end L2
set_option Elab.async false
set_option linter.all false
set_option maxRecDepth 100000
set_option maxHeartbeats 4000000
namespace L2
open PySem PySem.Spec PyProof.Rows
def a7g (f : Int) : Int := if f % 2 = 0 then f + 1 else f - 1
def a1k (ns : List Int) (f : Int) : Int := if f % 2 = 0 then ns.getD (f / 2).toNat 0 else -(ns.getD (f / 2).toNat 0)
def e3s (k seed : Int) : Int := (seed * 48271 % 65537) * (seed * 48271 % 65537 + 2 * k + 1) / 7 % 65521
def c1p (ns : List Int) (k : Int) : Int :=
 if k < ns.length then ns.getD k.toNat 0 else e3s k (if 0 < ns.length then k * 7919 + ns.getD (k % ns.length).toNat 0 % 65537 else k * 7919)
def e2c (c : Int) : Int := if c % 4 = 3 then c / 4 % (2 * 10 ^ 60 + 1) - 10 ^ 60 else c / 4 % 21 - 10
def b7m (ns : List Int) (k : Int) (n : Nat) : List Int := (List.range n).map fun (i : Nat) => e2c (c1p ns (k + (i : Int)))
theorem b6l (ns : List Int) (k : Int) (n : Nat) : (b7m ns k n).length = n := by simp [b7m]
theorem c9w (ns : List Int) (k : Int) (n : Nat) : b7m ns k (n + 1) = b7m ns k n ++ [e2c (c1p ns (k + (n : Int)))] := by simp [b7m, List.range_succ]
theorem d0r (ns : List Int) {f : Int} : a1k ns (a7g f) = -a1k ns f := by
 unfold a1k a7g
 by_cases h : f % 2 = 0
 · have e : (f + 1) / 2 = f / 2 := by omega
   rw [if_pos h, if_neg (by omega), if_pos h, e]
 · have e : (f - 1) / 2 = f / 2 := by omega
   rw [if_neg h, if_pos (by omega), if_neg h, e, Int.neg_neg]
theorem d6b (ns : List Int) (f : Int) : ns.getD (f / 2).toNat 0 * (1 - f % 2 * 2) = a1k ns f := by
 unfold a1k
 by_cases h : f % 2 = 0
 · rw [if_pos h, h]; simp
 · have e : f % 2 = 1 := by omega
   rw [if_neg h, e]; omega
structure Bl (mg : Str -> Option Value) : Prop where
 len : mg "len" = none
 isinstance : mg "isinstance" = none
 int : mg "int" = none
 bool : mg "bool" = none
 tuple : mg "tuple" = none
 range : mg "range" = none
 list : mg "list" = none
 sum : mg "sum" = none
 str : mg "str" = none
 enumerate : mg "enumerate" = none
 zip : mg "zip" = none
 min : mg "min" = none
 max : mg "max" = none
def a2r (K : PySem.W.Frag) : Sp := fun vs H Q _ => ∃ f, vs = [.int f] /\ Q (.int (a7g f)) H
def e0q (K : PySem.W.Frag) : Sp := fun vs H Q _ => ∃ (a : Addr) (ns : List Int) (f : Int), vs = [.ref a, .int f] /\ SqT K H a (ns.map V.int) /\ 0 <= f /\ f < 2 * ns.length /\ Q (.int (a1k ns f)) H
abbrev a4j := e0q
def a4x (K : PySem.W.Frag) : Sp := fun vs H Q _ => ∃ (a : Addr) (ns : List Int) (k : Int), vs = [.ref a, .int k] /\ SqL K H a (ns.map V.int) /\ 0 <= k /\ Q (.int (c1p ns k)) H
def a7a (K : PySem.W.Frag) : Sp := fun vs H Q _ => ∃ i, vs = [.int i] /\ Q (.bl true) H
def a5v (K : PySem.W.Frag) : Sp := fun vs H Q _ => ∃ c, vs = [.int c] /\ Q (.int (e2c c)) H
def b4q (K : PySem.W.Frag) : Sp := fun vs H Q _ => ∃ (a : Addr) (ns : List Int) (k : Int) (n : Nat), vs = [.ref a, .int k, .int n] /\ SqL K H a (ns.map V.int) /\ 0 <= k /\ n <= 100 /\
 ∀ p H', H p = none -> a1i H H' -> H' p = some (.tup ((b7m ns k n).map V.int)) -> Q (.ref p) H'
def d1p (K : PySem.W.Frag) : Sp := fun vs H Q _ => ∃ (a : Addr) (ns : List Int), vs = [.ref a] /\ SqL K H a (ns.map V.int) /\ ns.length <= 63 /\ ∀ H', Q (.bl true) H'
def e6r (K : PySem.W.Frag) (a : Addr) (ns : List Int) : Sp := fun vs H Q _ => ∃ k, vs = [.ref a, .int k] /\ 0 <= k /\ SqL K H a (ns.map V.int) /\ Q (.int (c1p ns k)) H
theorem c7n {K : PySem.W.Frag} {a : Addr} {ns : List Int} : ∀ vs H Q E, e6r K a ns vs H Q E -> a4x K vs H Q E := fun vs H Q E ⟨k, e, h0, hS, q⟩ => ⟨a, ns, k, e, hS, h0, q⟩
theorem e9b (ns : List Int) (k : Int) (n : Nat) : ∃ xs : List Int, b7m ns k n = xs /\ xs.length = n := ⟨_, rfl, b6l ns k n⟩
def gV : Option Int -> V
 | none => .non
 | some g => .int g
def d9a (xs : List Int) (f : Int) : Option Int -> Int
 | none => a1k xs f
 | some g => a1k xs f + a1k xs g
def a9d (w : Str) (s c : Int) : Bool := if w = Str.ofString "most" then decide (s <= c) else if w = Str.ofString "least" then decide (c <= s) else if w = Str.ofString "same" then decide (s = c) else !decide (s = c)
def InR (n : Nat) (f : Int) : Prop := 0 <= f /\ f < 2 * (n : Int)
def InG (n : Nat) : Option Int -> Prop
 | none => True
 | some g => InR n g
abbrev Tb := Oct.Tb
abbrev Sdn := Oct.Sdn
def e1f (s : Sdn) : List V := [.int (s.1 : Nat), .int (s.2.1 : Nat), .int s.2.2]
def a2o (H : Hp) (v : V) (s : Sdn) : Prop := ∃ a, v = .ref a /\ H a = some (.tup (e1f s))
theorem a2o.same {H H' : Hp} (e : a1i H H') {v : V} {s : Sdn} (h : a2o H v s) : a2o H' v s := let ⟨a, h1, h2⟩ := h; ⟨a, h1, e _ _ h2⟩
theorem a2o.put {H : Hp} {p : Addr} {zs ws : List V} (hp : H p = some (.lst zs)) {v : V} {s : Sdn} (h : a2o H v s) : a2o (upd H p (.lst ws)) v s := let ⟨a, h1, h2⟩ := h; ⟨a, h1, by rw [a1z (e8c h2 hp (by intro z; cases z))]; exact h2⟩
theorem a1v {H H' : Hp} (e : a1i H H') {xs : List V} {ss : List Sdn} (h : Paired (a2o H) xs ss) : Paired (a2o H') xs ss := Paired.mapP h fun _ _ z => z.same e
theorem b9u {H : Hp} {p : Addr} {zs ws : List V} (hp : H p = some (.lst zs)) {xs : List V} {ss : List Sdn} (h : Paired (a2o H) xs ss) : Paired (a2o (upd H p (.lst ws))) xs ss := Paired.mapP h fun _ _ z => z.put hp
theorem a7s {α β : Type} {R : α -> β -> Prop} {a : α} {b : β} : ∀ {xs : List α} {ys : List β}, Paired R xs ys -> R a b -> Paired R (xs ++ [a]) (ys ++ [b])
 | _, _, .nil, r => .cons r .nil
 | _, _, .cons q t, r => .cons q (a7s t r)
theorem a0z {H H' : Hp} {p : Addr} {o : HO} (h : H p = none) (s : a1i H H') : a1i H (upd H' p o) := fun b u q => by
 rw [a1z (a2p q h)]; exact s b u q
structure b3o (H H' : Hp) (p : Addr) (bs : List Addr) (t : Tbl) : Prop where
 tab : a2e H' p bs t
 newT : H p = none
 newL : ∀ b ∈ bs, H b = none
theorem b3o.of {H H1 H' : Hp} {p : Addr} {bs : List Addr} {t : Tbl} (s : a1i H H1) (T : b3o H1 H' p bs t) : b3o H H' p bs t := ⟨T.tab, s.free T.newT, fun b hb => s.free (T.newL b hb)⟩
def a1x (H : Hp) (v : V) (N : Nat) : Option Tb -> Prop
 | none => v = .non
 | some c => ∃ a bs, v = .ref a /\ a2e H a bs (Oct.toT N c)
def a2b (H H' : Hp) (v : V) (N : Nat) : Option Tb -> Prop
 | none => v = .non
 | some c => ∃ a bs, v = .ref a /\ b3o H H' a bs (Oct.toT N c)
theorem a2b.at {H H' : Hp} {v : V} {N : Nat} : ∀ {o : Option Tb}, a2b H H' v N o -> a1x H' v N o
 | none, h => h
 | some _, ⟨a, bs, e, T⟩ => ⟨a, bs, e, T.tab⟩
theorem a2b.of {H H1 H' : Hp} (s : a1i H H1) {v : V} {N : Nat} : ∀ {o : Option Tb}, a2b H1 H' v N o -> a2b H H' v N o
 | none, h => h
 | some _, ⟨a, bs, e, T⟩ => ⟨a, bs, e, T.of s⟩
theorem a1x.same {H H' : Hp} (s : a1i H H') {v : V} {N : Nat} : ∀ {o : Option Tb}, a1x H v N o -> a1x H' v N o
 | none, h => h
 | some _, ⟨a, bs, e, T⟩ => ⟨a, bs, e, T.same s⟩
theorem a2w (f : Nat) : a7g (f : Int) = ((Oct.fl f : Nat) : Int) := by unfold a7g Oct.fl; split <;> split <;> omega
theorem d5m (c : Int) {n : Nat} (h : 1 <= n) : ∃ f : Nat, c % (2 * (n : Int)) = (f : Int) /\ f < 2 * n :=
 ⟨(c % (2 * (n : Int))).toNat, by have := Int.emod_nonneg c (b := 2 * (n : Int)) (by omega); omega, by have := Int.emod_nonneg c (b := 2 * (n : Int)) (by omega); have := Int.emod_lt_of_pos c (b := 2 * (n : Int)) (by omega); omega⟩
def wN (xs : List Int) : Nat -> Int := fun f => a1k xs (f : Int)
theorem b4f (xs : List Int) (N : Nat) : Oct.Pt (wN xs) N := fun f _ => by unfold wN; rw [← a2w]; exact d0r xs
theorem a2e.rd {H : Hp} {a : Addr} {bs : List Addr} {N f : Nat} {c : Tb} (T : a2e H a bs (Oct.toT N c)) (h : f < N) : ∃ b, bs[f]? = some b /\ H b = some (.lst ((Oct.ln N (c f)).map eV)) /\ atI (bs.map V.ref) (f : Int) = some (.ref b) := T.line (Oct.b9e h)
theorem a4p {N g : Nat} {r : Nat -> Ent} (h : g < N) : atI ((Oct.ln N r).map eV) (g : Int) = some (eV (r g)) := e3b (Oct.d1o h)
theorem a2e.lenN {H : Hp} {a : Addr} {bs : List Addr} {i N : Nat} {c : Tb} (T : a2e H a bs (Oct.c2z i N c)) : bs.length = i := by rw [T.len, Oct.a4k]
theorem a2e.store {H : Hp} {a b : Addr} {bs : List Addr} {N f : Nat} {c : Tb} {r : Nat -> Ent} (T : a2e H a bs (Oct.toT N c)) (eb : bs[f]? = some b) : a2e (upd H b (.lst ((Oct.ln N r).map eV))) a bs (Oct.toT N fun x => if x = f then r else c x) := by
 have := T.put (r' := Oct.ln N r) eb
 rwa [Oct.toT, Oct.e0u] at this
theorem a2e.stepL {H : Hp} {a : Addr} {bs : List Addr} {i : Nat} {x : V} {t : Tbl} (T : a2e H a bs t) (hx : (bs.map V.ref)[i]? = some x) : ∃ b r, x = .ref b /\ bs[i]? = some b /\ t[i]? = some r /\ H b = some (.lst (r.map eV)) := by
 rw [List.getElem?_map] at hx
 cases e : bs[i]? with
 | none => rw [e] at hx; cases hx
 | some b =>
  rw [e] at hx
  obtain ⟨r, er, hb⟩ := a2s T.lines e
  exact ⟨b, r, (Option.some.inj hx).symm, rfl, er, hb⟩
theorem a2e.rowN {H : Hp} {a : Addr} {bs : List Addr} {i N : Nat} {c : Tb} {x : V} (T : a2e H a bs (Oct.toT N c)) (hx : (bs.map V.ref)[i]? = some x) : i < N /\ ∃ b, x = .ref b /\ bs[i]? = some b /\ H b = some (.lst ((Oct.ln N (c i)).map eV)) := by
 obtain ⟨b, r, e1, e2, e3, e4⟩ := T.stepL hx
 have hi : i < N := by have := (List.getElem?_eq_some_iff.mp e3).1; rwa [Oct.a4k] at this
 rw [Oct.b9e hi] at e3
 cases e3
 exact ⟨hi, b, e1, e2, e4⟩
theorem b2i {N i : Nat} {r : Nat -> Ent} {x : V} (hx : ((Oct.ln N r).map eV)[i]? = some x) : i < N /\ x = eV (r i) := by
 rw [List.getElem?_map] at hx
 by_cases hi : i < N
 · rw [Oct.d1o hi] at hx
   exact ⟨hi, (Option.some.inj hx).symm⟩
 · rw [List.getElem?_eq_none (by rw [Oct.c8f]; omega)] at hx; cases hx
theorem a2y (N : Nat) (r : Nat -> Ent) : ((Oct.ln N r).map eV).length = N := by rw [List.length_map, Oct.c8f]
theorem b2w (N : Nat) (r : Nat -> Ent) : (Oct.ln N r).map eV ++ [eV (r N)] = (Oct.ln (N + 1) r).map eV := by rw [Oct.e3u, List.map_append]; rfl
theorem c7t (s : Sdn) : ∀ (ss : List Sdn) (c : Tb), Oct.b7p c (ss ++ [s]) = Oct.d1m (Oct.b7p c ss) s.1 s.2.1 s.2.2
 | [], _ => rfl
 | t :: r, c => c7t s r _
theorem c2i (h : Nat) : ∀ (hs : List Nat) (c : Tb), Oct.a4v c (hs ++ [h]) = Oct.lnk (Oct.a4v c hs) h
 | [], _ => rfl
 | t :: r, c => c2i h r _
theorem d7a (N : Nat) : Oct.c2q (N + 1) = Oct.c2q N ++ [Oct.fl N] := by simp [Oct.c2q, List.range_succ]
def a6k (e : Ent) (z : Int) : Bool := match e with
 | some x => decide (x < z)
 | none => false
def c3d (K : PySem.W.Frag) : Sp := fun vs H Q _ => ∃ (e : Ent) (z : Int), vs = [eV e, .int z] /\ Q (.bl (a6k e z)) H
def b5y (K : PySem.W.Frag) : Sp := fun vs H Q _ => ∃ a b : Ent, vs = [eV a, eV b] /\ Q (eV (Oct.a3z a b)) H
def a9u (K : PySem.W.Frag) : Sp := fun vs H Q _ => ∃ a b : Ent, vs = [eV a, eV b] /\ Q (eV (Oct.a0t a b)) H
def b6u (K : PySem.W.Frag) : Sp := fun vs H Q _ => ∃ a : Ent, vs = [eV a] /\ Q (eV (Oct.hlf a)) H
def b9j (K : PySem.W.Frag) : Sp := fun vs H Q _ => ∃ f N : Nat, vs = [.int f, .int N] /\ N <= 1000 /\ ∀ p H', H p = none -> a1i H H' -> H' p = some (.lst ((Oct.ln N (Oct.a5c f)).map eV)) -> Q (.ref p) H'
def d6a (K : PySem.W.Frag) : Sp := fun vs H Q _ => ∃ n : Nat, vs = [.int n] /\ n <= 100 /\ ∀ p bs H', a1i H H' -> b3o H H' p bs (Oct.toT (2 * n) Oct.a5c) -> Q (.ref p) H'
def b0c (K : PySem.W.Frag) : Sp := fun vs H Q _ => ∃ (a : Addr) (e : Ent) (b : Addr) (N : Nat) (r o : Nat -> Ent), vs = [.ref a, eV e, .ref b] /\ SqL K H a ((Oct.ln N r).map eV) /\ SqL K H b ((Oct.ln N o).map eV) /\ N <= 1000 /\
 ∀ p H', H p = none -> a1i H H' -> H' p = some (.lst ((Oct.ln N fun g => Oct.a3z (r g) (Oct.a0t e (o g))).map eV)) -> Q (.ref p) H'
abbrev a6w := b0c
def a9t (K : PySem.W.Frag) : Sp := fun vs H Q _ => ∃ (a : Addr) (bs : List Addr) (N : Nat) (c : Tb) (m : Nat), vs = [.ref a, .int m] /\ a2e H a bs (Oct.toT N c) /\ N <= 1000 /\ m < N /\ Oct.fl m < N /\
 ∀ p bs' H', a1i H H' -> b3o H H' p bs' (Oct.toT N (Oct.lnk c (Oct.fl m))) -> Q (.ref p) H'
def a6j (K : PySem.W.Frag) : Sp := fun vs H Q _ => ∃ (a : Addr) (bs : List Addr) (n : Nat) (c : Tb), vs = [.ref a] /\ a2e H a bs (Oct.toT (2 * n) c) /\ n <= 100 /\
 ∀ p bs' H', a1i H H' -> a2e H' p bs' (Oct.toT (2 * n) (Oct.a4v c (Oct.c2q (2 * n)))) -> Q (.ref p) H'
def b7u (K : PySem.W.Frag) : Sp := fun vs H Q _ => ∃ (a : Addr) (bs : List Addr) (n : Nat) (c : Tb), vs = [.ref a] /\ a2e H a bs (Oct.toT (2 * n) c) /\ n <= 100 /\ (∀ f, f < 2 * n -> Oct.leE (c f (Oct.fl f)) (some 0)) /\
 ∀ v H', a1i H H' -> a2b H H' v (2 * n) (Oct.a6b (2 * n) c) -> Q v H'
def c1v (K : PySem.W.Frag) : Sp := fun vs H Q _ => ∃ (a b : Addr) (bs : List Addr) (n : Nat) (c : Tb) (ys : List V) (ss : List Sdn), vs = [.ref a, .ref b] /\ a2e H a bs (Oct.toT (2 * n) c) /\ SqL K H b ys /\ Paired (a2o H) ys ss /\ (∀ s ∈ ss, s.1 < 2 * n /\ s.2.1 < 2 * n) /\ n <= 100 /\
 ∀ p bs' H', a1i H H' -> b3o H H' p bs' (Oct.toT (2 * n) (Oct.b7p c ss)) -> Q (.ref p) H'
def a8a (N : Nat) (o : Option Tb) (ss : List Sdn) : Option Tb := o.bind fun c => Oct.a6b N (Oct.b7p c ss)
def d7h (N : Nat) : Option Tb -> Prop
 | none => True
 | some c => ∀ f, f < N -> Oct.leE (c f (Oct.fl f)) (some 0)
def a3w (K : PySem.W.Frag) : Sp := fun vs H Q _ => ∃ (v : V) (b : Addr) (n : Nat) (o : Option Tb) (ys : List V) (ss : List Sdn), vs = [v, .ref b] /\ a1x H v (2 * n) o /\ d7h (2 * n) o /\ SqL K H b ys /\ Paired (a2o H) ys ss /\ (∀ s ∈ ss, s.1 < 2 * n /\ s.2.1 < 2 * n) /\ n <= 100 /\
 ∀ u H', a1i H H' -> a2b H H' u (2 * n) (a8a (2 * n) o ss) -> Q u H'
def d7u (K : PySem.W.Frag) : Sp := fun vs H Q _ => ∃ (v w : V) (n : Nat) (o : Option Tb) (s : Sdn), vs = [v, w] /\ a1x H v (2 * n) o /\ d7h (2 * n) o /\ a2o H w s /\ s.1 < 2 * n /\ s.2.1 < 2 * n /\ n <= 100 /\
 ∀ u H', a1i H H' -> a2b H H' u (2 * n) (a8a (2 * n) o [s]) -> Q u H'
def a6l (n : Nat) (ss : List Sdn) : Option Tb := Oct.a6b (2 * n) (Oct.b7p Oct.a5c ss)
def c0l (K : PySem.W.Frag) : Sp := fun vs H Q _ => ∃ (b : Addr) (n : Nat) (ys : List V) (ss : List Sdn), vs = [.int n, .ref b] /\ SqL K H b ys /\ Paired (a2o H) ys ss /\ (∀ s ∈ ss, s.1 < 2 * n /\ s.2.1 < 2 * n) /\ n <= 100 /\
 ∀ u H', a1i H H' -> a2b H H' u (2 * n) (a6l n ss) -> Q u H'
def a5p (c : Tb) (f j : Nat) : List Sdn := (List.range j).filterMap fun g => if f <= g /\ g ≠ Oct.fl f then (c f g).map fun z => (f, g, z) else none
def b4y (N : Nat) (c : Tb) (i : Nat) : List Sdn := (List.range i).flatMap fun f => a5p c f N
theorem c2h (N : Nat) (c : Tb) (i : Nat) : b4y N c (i + 1) = b4y N c i ++ a5p c i N := by simp [b4y, List.range_succ]
theorem c8b (c : Tb) (f j : Nat) : a5p c f (j + 1) = a5p c f j ++ (if f <= j /\ j ≠ Oct.fl f then (match c f j with | some z => [(f, j, z)] | none => []) else []) := by
 unfold a5p
 rw [List.range_succ, List.filterMap_append]
 by_cases h : f <= j /\ j ≠ Oct.fl f
 · cases e : c f j <;> simp [h, e]
 · simp [h]
theorem b9i (c : Tb) (f j : Nat) : (a5p c f j).length <= j := by
 unfold a5p
 exact Nat.le_trans (List.length_filterMap_le _ _) (by simp)
theorem c0f (N : Nat) (c : Tb) : ∀ i, (b4y N c i).length <= N * i
 | 0 => by simp [b4y]
 | i + 1 => by
  rw [c2h, List.length_append]
  have := c0f N c i
  have := b9i c i N
  rw [Nat.mul_succ]
  omega
def b6c (K : PySem.W.Frag) : Sp := fun vs H Q _ => ∃ (a : Addr) (bs : List Addr) (N : Nat) (c : Tb), vs = [.ref a] /\ a2e H a bs (Oct.toT N c) /\ N <= 12 /\ ∀ p ys H', a1i H H' -> H p = none -> H' p = some (.lst ys) -> Paired (a2o H') ys (b4y N c N) -> Q (.ref p) H'
def b5h (K : PySem.W.Frag) : Sp := fun vs H Q _ => ∃ (a : Addr) (bs : List Addr) (n : Nat) (c : Tb), vs = [.ref a, .int n] /\ a2e H a bs (Oct.toT (2 * n) c) /\ n <= 100 /\ Q (.bl true) H
def b8j (H H' : Hp) (p : Addr) (ys : List V) (t : Tbl) : Prop := ∃ bs, ys = bs.map V.ref /\ b3o H H' p bs t /\ a1i H H'
theorem b8j.start {H : Hp} {p : Addr} (hp : H p = none) : b8j H (upd H p (.lst [])) p [] [] :=
 ⟨[], rfl, ⟨⟨a0g, List.nodup_nil, by simp, .nil⟩, hp, by simp⟩, a0i hp _⟩
theorem b8j.same {H H' : Hp} {p : Addr} {ys : List V} {t : Tbl} (G : b8j H H' p ys t) : a1i H H' := let ⟨_, _, _, s⟩ := G; s
theorem b8j.len {H H' : Hp} {p : Addr} {ys : List V} {t : Tbl} (G : b8j H H' p ys t) : ys.length = t.length := by
 obtain ⟨bs, rfl, T, _⟩ := G
 rw [List.length_map, T.tab.len]
theorem b8j.step {H H1 H2 : Hp} {p b : Addr} {ys : List V} {t : Tbl} {r : List Ent} (G : b8j H H1 p ys t) (hb : H1 b = none) (sm : a1i H1 H2) (hl : H2 b = some (.lst (r.map eV))) :
  H2 p = some (.lst ys) /\ b8j H (upd H2 p (.lst (ys ++ [.ref b]))) p (ys ++ [.ref b]) (t ++ [r]) := by
 obtain ⟨bs, rfl, T, s⟩ := G
 have hpb : p ≠ b := a2p T.tab.at_ hb
 refine ⟨sm _ _ T.tab.at_, bs ++ [b], by simp, ⟨T.tab.grow hb (fun c o hc e => by rw [a1z hc]; exact sm c o e) (by rw [a1z (Ne.symm hpb)]; exact hl) a0g, T.newT, fun c hc => ?_⟩, a0z T.newT (s.trans sm)⟩
 rcases List.mem_append.mp hc with z | z
 · exact T.newL c z
 · rw [List.mem_singleton.mp z]; exact s.free hb
theorem c9h (e : Ent) : a6k e 0 = Oct.e4n e := by cases e <;> rfl
theorem e7i {xs : List V} {j : Nat} {v : V} (h : xs[j]? = some v) : atI xs (j : Int) = some v := c0d h
theorem a2g {α : Type} {l : List α} {i : Nat} {x : α} (h : l[i]? = some x) : l.take (i + 1) = l.take i ++ [x] := by rw [List.take_add_one, h]; rfl
theorem e0b {H : Hp} {p b1 : Addr} {bs : List Addr} {N f g : Nat} {c : Tb} {z : Int} (T : a2e H p bs (Oct.toT N c)) (hf : f < N) (hg : g < N) (e1 : bs[f]? = some b1) :
  ∃ b2 r2, bs[g]? = some b2 /\ upd H b1 (.lst ((Oct.ln N fun y => if y = g then Oct.a3z (c f g) (some z) else c f y).map eV)) b2 = some (.lst ((Oct.ln N r2).map eV)) /\
   a2e (upd (upd H b1 (.lst ((Oct.ln N fun y => if y = g then Oct.a3z (c f g) (some z) else c f y).map eV))) b2 (.lst ((Oct.ln N fun x => if x = f then Oct.a3z (r2 f) (some z) else r2 x).map eV))) p bs (Oct.toT N (Oct.d1m c f g z)) /\
   a2e (upd H b1 (.lst ((Oct.ln N fun y => if y = g then Oct.a3z (c f g) (some z) else c f y).map eV))) p bs (Oct.toT N fun a => if a = f then (fun y => if y = g then Oct.a3z (c f g) (some z) else c f y) else c a) := by
 have T1 := T.store (r := fun y => if y = g then Oct.a3z (c f g) (some z) else c f y) e1
 obtain ⟨b2, e2, h2, _⟩ := T1.rd hg
 refine ⟨b2, _, e2, h2, ?_, T1⟩
 have T2 := T1.store (f := g) (r := fun x => if x = f then Oct.a3z ((if g = f then (fun y => if y = g then Oct.a3z (c f g) (some z) else c f y) else c g) f) (some z) else (if g = f then (fun y => if y = g then Oct.a3z (c f g) (some z) else c f y) else c g) x) e2
 rw [Oct.d5i N c f g z] at T2
 exact T2
theorem c7h {fs : List Int} {i : Nat} {y : V} (hi : (fs.map V.int)[i]? = some y) : ∃ h : i < fs.length, y = .int fs[i] := by
 have hil : i < fs.length := by
  have := (List.getElem?_eq_some_iff.mp hi).1
  rwa [List.length_map] at this
 refine ⟨hil, ?_⟩
 rw [List.getElem?_map, List.getElem?_eq_getElem hil] at hi
 exact (Option.some.inj hi).symm
theorem e0i (ns : List Int) (lo hi : Option Int) : ∃ cs : List Int, b3k (ns.map V.int) lo hi = cs.map V.int /\ cs.length <= ns.length := by
 refine ⟨(ns.drop (HT.sIx ns.length 0 lo)).take (HT.sIx ns.length ns.length hi - HT.sIx ns.length 0 lo), ?_, ?_⟩
 · simp [b3k, List.map_take, List.map_drop]
 · simp; omega
def b5w (K : PySem.W.Frag) : Sp := fun vs H Q _ => ∃ (a : Addr) (ns : List Int) (at_ room : Nat), vs = [.ref a, .int at_, .int room] /\ SqL K H a (ns.map V.int) /\ ns.length <= 63 /\ ∀ p H' (cs : List Int), a1i H H' -> H p = none -> H' p = some (.lst (cs.map V.int)) -> 4 <= cs.length -> cs.length <= 100 -> Q (.ref p) H'
def b5k (K : PySem.W.Frag) : Sp := fun vs H Q _ => ∃ (a pt : Addr) (cs xs : List Int) (n : Nat) (lo : Int), vs = [.ref a, .int n, .ref pt, .int lo] /\ SqL K H a (cs.map V.int) /\ SqT K H pt (xs.map V.int) /\ xs.length = n /\ 1 <= n /\ n <= 6 /\ cs.length <= 100 /\
 ∀ p H' ys ss, a1i H H' -> H p = none -> H' p = some (.lst ys) -> Paired (a2o H') ys ss -> (∀ s ∈ ss, s.1 < 2 * n /\ s.2.1 < 2 * n) -> (0 <= lo -> ∀ s ∈ ss, wN xs s.1 + wN xs s.2.1 <= s.2.2) -> ss.length = cs.length -> Q (.ref p) H'
theorem b3o.off {H H' : Hp} {p b : Addr} {bs : List Addr} {t : Tbl} {o : HO} (T : b3o H H' p bs t) (h : H b = some o) : b ≠ p /\ b ∉ bs :=
 ⟨fun e => (by rw [e, T.newT] at h; cases h), fun m => (by rw [T.newL b m] at h; cases h)⟩
theorem b4o {n : Nat} {ss : List Sdn} {w : Nat -> Int} (p : Oct.Pt w (2 * n)) (hk : ∀ s ∈ ss, w s.1 + w s.2.1 <= s.2.2) : ∃ c, a6l n ss = some c := by
 have l0 : Oct.a6u w Oct.a5c (2 * n) := fun f g hf hg => by
  unfold Oct.a5c Oct.tab
  by_cases h : g = Oct.fl f
  · rw [if_pos h, h, p f hf]; simp [Oct.leE]; omega
  · rw [if_neg h]; trivial
 exact Oct.a5l (fun f hf => Oct.a3k hf) (Oct.c0z p) (Oct.b0e ss _ l0 fun s hs => by
  have := hk s hs
  constructor <;> simp [Oct.tab, Oct.leE] <;> omega)
theorem a6i {n : Nat} {ss : List Sdn} {c : Tb} (hin : ∀ s ∈ ss, s.1 < 2 * n /\ s.2.1 < 2 * n) (h : a6l n ss = some c) : Oct.Shp c (2 * n) /\ ∀ s ∈ ss, Oct.d0z c s := by
 have even : ∀ f, f < 2 * n -> Oct.fl f < 2 * n := fun f hf => Oct.a3k hf
 have sy := Oct.a9w ss _ (Oct.d1w (2 * n))
 have z : ∀ f, f < 2 * n -> Oct.leE (Oct.b7p Oct.a5c ss f (Oct.fl f)) (some 0) := fun f hf => Oct.a0j (Oct.b4l ss _ f _) (by unfold Oct.a5c; rw [if_pos rfl]; exact Oct.a1r _)
 exact ⟨Oct.c8c even z sy h, ((Oct.a7y hin).mp (Oct.a4z even sy h).2.1).2⟩
theorem c0g {n : Nat} {ss : List Sdn} {c : Tb} {w : Nat -> Int} (p : Oct.Pt w (2 * n)) (hk : ∀ s ∈ ss, w s.1 + w s.2.1 <= s.2.2) (h : a6l n ss = some c) : Oct.a6u w c (2 * n) := by
 have l0 : Oct.a6u w Oct.a5c (2 * n) := fun f g hf hg => by
  unfold Oct.a5c Oct.tab
  by_cases h : g = Oct.fl f
  · rw [if_pos h, h, p f hf]; simp [Oct.leE]; omega
  · rw [if_neg h]; trivial
 exact (Oct.a4z (fun f hf => Oct.a3k hf) (Oct.a9w ss _ (Oct.d1w (2 * n))) h).2.2 _ (Oct.b8z p) (Oct.b0e ss _ l0 fun s hs => by
  have := hk s hs
  constructor <;> simp [Oct.tab, Oct.leE] <;> omega)
theorem b2l {c : Tb} {N : Nat} (S : Oct.Shp c N) : d7h N (some c) := fun f hf => by rw [S.zero f hf]; exact Oct.a1r _
def b0n (K : PySem.W.Frag) : Sp := fun vs H Q _ => ∃ (a : Addr) (bs : List Addr) (n : Nat) (c : Tb) (f : Nat), vs = [.ref a, .int f] /\ a2e H a bs (Oct.toT (2 * n) c) /\ f < 2 * n /\ Q (.int (Oct.b6g c f)) H
def b6n (N : Nat) : Option Tb -> Prop
 | none => True
 | some c => Oct.Shp c N
def b0t (K : PySem.W.Frag) : Sp := fun vs H Q _ => ∃ (v : V) (n : Nat) (o : Option Tb), vs = [v] /\ a1x H v (2 * n) o /\ b6n (2 * n) o /\ n <= 100 /\ (o = none -> ∀ H', a1i H H' -> Q .non H') /\
 (∀ c, o = some c -> ∀ (a1j : List Int) p H', a1j.length = n -> Oct.a6u (wN a1j) c (2 * n) -> a1i H H' -> H p = none -> H' p = some (.tup (a1j.map V.int)) -> Q (.ref p) H')
theorem c5c (xs : List Int) (k : Nat) : wN xs (2 * k) = xs.getD k 0 := by
 unfold wN a1k
 rw [if_pos (by omega)]
 congr 1
 omega
end L2
set_option Elab.async false
set_option linter.all false
set_option maxRecDepth 100000
set_option maxHeartbeats 4000000
namespace L2
open PySem PySem.Spec PyProof.Rows
end L2
set_option linter.all false
namespace Oct
theorem e5o {c : Tb} {n f g : Nat} {m : Int} (S : Shp c (2 * n)) (hf : f < 2 * n) (hg : g < 2 * n) (ne : g ≠ fl f) (hm : leE (some m) (c f g)) : ∃ w, Pt w (2 * n) /\ a6u w c (2 * n) /\ m <= w f + w g := by
 by_cases h : g = f
 · subst h
   have ev := S.good.tight.even g hg
   have hk : leE (some (-((-m) / 2))) (hv c g) := by
    unfold hv
    revert hm ev
    generalize c g g = a
    cases a <;> simp [leE, hlf] <;> omega
   obtain ⟨w, p, l, k⟩ := d2j S.good.tight S.good.nn hg hk
   exact ⟨w, p, l, by omega⟩
 · have nh : f / 2 ≠ g / 2 := fun e => by
    rcases b4i e.symm with q | q
    · exact h q
    · exact ne q
   obtain ⟨w, p, l, k⟩ := c4c S.good.tight S.good.nn hf hg nh hm
   exact ⟨w, p, l, by omega⟩
theorem d1i {c : Tb} {n f g : Nat} {m : Int} (S : Shp c (2 * n)) (hf : f < 2 * n) (hg : g < 2 * n) (ne : g ≠ fl f) (hm : leE (some m) (c f g)) :
  ∃ s, a6b (2 * n) (b7p c [(fl f, fl g, -m)]) = some s /\ Shp s (2 * n) /\ Le s c (2 * n) /\ leE (s (fl f) (fl g)) (some (-m)) := by
 have even : ∀ f, f < 2 * n -> fl f < 2 * n := fun f hf => a3k hf
 obtain ⟨w, p, l, k⟩ := e5o S hf hg ne hm
 have p1 := p f hf
 have p2 := p g hg
 obtain ⟨s, hs⟩ := a5l even (c0z p) (b0e [(fl f, fl g, -m)] c l fun s hs => by
  rw [List.mem_singleton.mp hs]
  constructor <;> simp [tab, leE] <;> omega)
 obtain ⟨Ss, Ls⟩ := b8v even S hs
 obtain ⟨La, Lk⟩ := (a7y (ss := [(fl f, fl g, -m)]) (by intro s hs; rw [List.mem_singleton.mp hs]; exact ⟨even f hf, even g hg⟩)).mp Ls
 exact ⟨s, hs, Ss, La, (Lk (fl f, fl g, -m) (by simp)).1⟩
end Oct
set_option Elab.async false
set_option linter.all false
set_option maxRecDepth 100000
set_option maxHeartbeats 4000000
namespace L2
open PySem PySem.Spec PyProof.Rows
section
variable {X : Cx}
theorem e5s : OpR X (compareOp .In) (fun x y H Q => ∃ (p : Addr) (ns : List Int) (k : Int), x = .int k /\ y = .ref p /\ SqL X.K H p (ns.map V.int) /\ Q (.bl (ns.any (· == k))) H) := by
 intro pins s σ H x y v u Q I rx ry h
 obtain ⟨p, ns, k, rfl, rfl, hq, q⟩ := h
 obtain ⟨t, rfl⟩ := rx
 cases ry
 obtain ⟨its, r, pl, hz⟩ := I.list hq
 exact in_list_ints pl.isList (a9n r) ⟨.bl _, H, I, rfl, q⟩
theorem e3q {K : PySem.W.Frag} (h : X.K = K) : OpR X (compareOp .In) (fun x y H Q => ∃ (p : Addr) (ns : List Int) (k : Int), x = .int k /\ y = .ref p /\ SqL K H p (ns.map V.int) /\ Q (.bl (ns.any (· == k))) H) := by subst h; exact e5s
def d2n (k : Int) : List Int -> List Int
 | [] => []
 | a :: r => if a = k then r else a :: d2n k r
theorem d5c (k : Int) : ∀ (ns : List Int), k ∈ ns -> ∃ j, ∃ h : j < ns.length, ns[j] = k /\ (∀ m (hm : m < ns.length), m < j -> ns[m] ≠ k) /\ ns.eraseIdx j = d2n k ns
 | [], h => by simp at h
 | a :: r, h => by
  by_cases e : a = k
  · exact ⟨0, by simp, by simpa using e, fun m _ h => by omega, by simp [d2n, e]⟩
  · have h' : k ∈ r := by
     rcases List.mem_cons.mp h with q | q
     · exact absurd q.symm e
     · exact q
    obtain ⟨j, hj, e1, e2, e3⟩ := d5c k r h'
    refine ⟨j + 1, by simp; omega, by simpa using e1, fun m hm h1 => ?_, by simp [d2n, e, e3]⟩
    cases m with
    | zero => simpa using e
    | succ m =>
     simp
     exact e2 m (by simp at hm; omega) (by omega)
theorem c8g (j : Nat) : ∀ (ns : List Int), (ns.map V.int).eraseIdx j = (ns.eraseIdx j).map V.int := by
 induction j with
 | zero => intro ns; cases ns <;> simp
 | succ j ih => intro ns; cases ns <;> simp [ih]
def e2w : V -> List V -> Hp -> VK -> Prop := fun x vs H Q => ∃ (l : Addr) (ns : List Int) (k : Int), x = .ref l /\ vs = [.int k] /\ H l = some (.lst (ns.map V.int)) /\ k ∈ ns /\ Q .non (upd H l (.lst ((d2n k ns).map V.int)))
theorem a5u : ∀ {vs : List Value} {ns : List Int}, IntsAre vs ns -> ∀ (j : Nat) (h1 : j < vs.length) (h2 : j < ns.length), ∃ t, vs[j] = .int ns[j] t
 | _, _, .nil, j, h1, _ => by simp at h1
 | _, _, .cons n t h, 0, _, _ => ⟨t, rfl⟩
 | _, _, .cons n t h, j + 1, h1, h2 => by
  obtain ⟨t, e⟩ := a5u h j (by simpa using h1) (by simpa using h2)
  exact ⟨t, by simpa using e⟩
theorem d5b : MtM X "list.remove" e2w := by
 intro pins s σ H x vs v us Q I rx rv h
 obtain ⟨l, ns, k, rfl, rfl, hH, hk, q⟩ := h
 cases rx
 obtain ⟨u, rfl, ru⟩ := rv.one
 obtain ⟨t, rfl⟩ := ru
 obtain ⟨z, its, n, r, hl, e⟩ := I.lstM hH
 have hi : IntsAre its ns := a9n r
 obtain ⟨j, hj, e1, e2, e3⟩ := d5c k ns hk
 have ln : its.length = ns.length := by rw [← hl, List.length_map]
 have it : ∀ m (hm : m < its.length), isInt k its[m] = decide (ns[m]'(by omega) = k) := fun m hm => by
  obtain ⟨tt, et⟩ := a5u hi m hm (by omega)
  rw [et]
  show (ns[m] == k) = decide (ns[m] = k)
  rw [Bool.eq_iff_iff]
  simp
 refine call_meets F.slot_list_remove ⟨_, e, rfl⟩ F.entry_list_remove (F.args_list_remove_2 _ _) (MeetsSeq.list_remove l its.toArray n (.int k t) (isInt k) (fun y hy => eq_isInt k t hi y (by simpa using hy)) j (by simp; omega) ?_ (fun m hm h1 => ?_) (by rw [List.size_toArray, ← hl]; exact z)) ⟨e, ?_⟩
 · simp only [List.getElem_toArray]
   rw [it j (by omega), e1]
   simp
 · simp only [List.getElem_toArray]
   rw [it m (by simpa using hm)]
   exact decide_eq_false (e2 m (by simp at hm; omega) h1)
 · refine ⟨.non, _, I.lset (its' := its.eraseIdx j) hH e (by simp [Array.eraseIdxIfInBounds]; intro h; exact (List.eraseIdx_of_length_le (by omega)).symm) (ys := (d2n k ns).map V.int) (by rw [← e3, ← c8g]; exact r.eraseIdx j) ?_, rfl, q⟩
   rw [← e3, List.length_map]
   have := List.length_eraseIdx_le ns j
   rw [List.length_map] at z
   omega
def e6e (K : PySem.W.Frag) : V -> List V -> Hp -> VK -> Prop := fun x vs H Q => ∃ (l : Addr) (ns : List Int) (k : Int), x = .ref l /\ vs = [.int k] /\ SqL K H l (ns.map V.int) /\ Q (.int (ns.count k : Nat)) H
theorem e0k {K : PySem.W.Frag} (hK : X.K = K) : MtR X "list.count" (e6e K) := by
 subst hK
 intro pins s σ H x vs v us Q I rx rv h
 obtain ⟨l, ns, k, rfl, rfl, hq, q⟩ := h
 cases rx
 obtain ⟨u, rfl, ru⟩ := rv.one
 obtain ⟨t, rfl⟩ := ru
 obtain ⟨its, r, pl, hz⟩ := I.list hq
 exact count_list_ints pl.isList (a9n r) ⟨.int _, H, I.tok _, ⟨_, rfl⟩, q⟩
end
section
variable {X : Cx} {es : List Expr} {te : TE} {t : TA}
theorem a0n {c : Const} {k : Nat} {p : Pos} (ha : PE X (.Constant c k p) te) (hr : PA X es t) : PA X (.Constant c k p :: es) (b8n te t) := a2i ha hr (by rfl)
theorem a0a {x : Str} {p : Pos} (ha : PE X (.Name x p) te) (hr : PA X es t) : PA X (.Name x p :: es) (b8n te t) := a2i ha hr (by rfl)
theorem a0x {a b : Expr} {o : Operator} {p : Pos} (ha : PE X (.BinOp a o b p) te) (hr : PA X es t) : PA X (.BinOp a o b p :: es) (b8n te t) := a2i ha hr (by rfl)
theorem b2t {a : Expr} {o : UnaryOp} {p : Pos} (ha : PE X (.UnaryOp o a p) te) (hr : PA X es t) : PA X (.UnaryOp o a p :: es) (b8n te t) := a2i ha hr (by rfl)
theorem a0u {f : Expr} {as : List Expr} {ks : List Keyword} {p : Pos} (ha : PE X (.Call f as ks p) te) (hr : PA X es t) : PA X (.Call f as ks p :: es) (b8n te t) := a2i ha hr (by rfl)
theorem a0e {a b : Expr} {p : Pos} (ha : PE X (.Subscript a b p) te) (hr : PA X es t) : PA X (.Subscript a b p :: es) (b8n te t) := a2i ha hr (by rfl)
theorem a4d {as : List Expr} {p : Pos} (ha : PE X (.List as p) te) (hr : PA X es t) : PA X (.List as p :: es) (b8n te t) := a2i ha hr (by rfl)
theorem b0m {as : List Expr} {k : Nat} {p : Pos} (ha : PE X (.Tuple as k p) te) (hr : PA X es t) : PA X (.Tuple as k p :: es) (b8n te t) := a2i ha hr (by rfl)
end
end L2
set_option linter.all false
set_option maxHeartbeats 4000000
namespace Oct
def c9a (k : Int) (e : E) (m : Int) : E := match e with
 | none => none
 | some a => some (-((a - m) / k))
def d6g : List E -> Int
 | [] => 0
 | none :: r => d6g r
 | some a :: r => match r.filterMap id with
  | [] => a
  | _ => max a (d6g r)
theorem b6y {a : Int} : ∀ (l : List E), some a ∈ l -> a <= d6g l
 | [], h => by simp at h
 | none :: r, h => by
  have : some a ∈ r := by simpa using h
  exact b6y r this
 | some b :: r, h => by
  unfold d6g
  rcases List.mem_cons.mp h with e | e
  · have e' : a = b := Option.some.inj e
    subst e'
    split
    · omega
    · omega
  · have ih := b6y r e
    split
    · rename_i e0
      have : a ∈ r.filterMap id := List.mem_filterMap.mpr ⟨some a, e, rfl⟩
      rw [e0] at this; simp at this
    · omega
def e4x (c : Tb) (f g h : Nat) (m : Int) : E := a3z (hv c h) (a0t (a0t (c f h) (c g h)) (some (-m)))
def b3y (c : Tb) (f g h : Nat) (m : Int) : List E :=
 [c9a 1 (hv c (fl h)) 0, c9a 1 (c f g) m, c9a 2 (a0t (hv c f) (c g (fl h))) m, c9a 2 (a0t (hv c g) (c f (fl h))) m, c9a 3 (a0t (c f (fl h)) (c g (fl h))) m]
def e7m (c : Tb) (f g h : Nat) (m : Int) : Int := match e4x c f g h m with
 | some z => z
 | none => d6g (b3y c f g h m)
structure ZOk (c : Tb) (f g h : Nat) (m z : Int) : Prop where
 up1 : leE (some z) (hv c h)
 up2 : leE (some (m - z)) (a0t (a0t (c f h) (some (-z))) (a0t (c g h) (some (-z))))
 lo1 : leE (some (-z)) (hv c (fl h))
 lo2 : leE (some (m - z)) (c f g)
 lo3 : leE (some (m - z)) (a0t (hv c f) (a0t (c g (fl h)) (some z)))
 lo4 : leE (some (m - z)) (a0t (a0t (c f (fl h)) (some z)) (hv c g))
 lo5 : leE (some (m - z)) (a0t (a0t (c f (fl h)) (some z)) (a0t (c g (fl h)) (some z)))
theorem e2q {c : Tb} {n f g h : Nat} {m : Int} (S : Shp c (2 * n)) (hf : f < 2 * n) (hg : g < 2 * n) (hh : h < 2 * n)
  (n1 : leE (some m) (a0t (c f g) (hv c h))) (n2 : leE (some m) (a0t (c f h) (hv c g))) (n3 : leE (some m) (a0t (c g h) (hv c f))) (n4 : leE (some (m + m)) (a0t (c f g) (a0t (c f h) (c g h)))) :
  ZOk c f g h m (e7m c f g h m) := by
 have T := S.good.tight
 have fh := a3k hh
 have c1 := T.closed h hh f g hf hg
 have c2 := T.closed (fl h) fh f g hf hg
 have c3 := T.closed (fl h) fh g h hg hh
 have c4 := T.closed (fl h) fh f h hf hh
 have c5 := a4q (f := fl h) (g := f) T.closed T.sym fh (by rw [a5b]; exact hh) hf
 rw [a5b] at c2 c3 c4 c5
 rw [T.sym (fl h) g fh hg] at c1
 rw [T.sym h g hh hg] at c2
 rw [T.sym h f hh hf] at c5
 obtain ⟨z0, z1, z2, q1, q2, q3, q4, q5⟩ := c8v (hf := hv c f) (hg := hv c g) (hh := hv c h) (hh' := hv c (fl h)) (C := c f g) (X1 := c f h) (X2 := c f (fl h)) (Y1 := c g h) (Y2 := c g (fl h)) (m := m) n1 n2 n3 n4 c1 c2
  (by rw [a6x T hh]; exact c3) (by rw [a6x T hh]; exact c4) c5 (a4w T hh fh (S.good.nn h hh))
 unfold e7m
 cases e : e4x c f g h m with
 | some z =>
  have u1 : leE (some z) (hv c h) := by rw [← e]; exact a5a _ _
  have u2 : leE (some z) (a0t (a0t (c f h) (c g h)) (some (-m))) := by rw [← e]; exact a2t _ _
  have zz : z0 <= z := by
   have a2 : leE (some z0) (a0t (a0t (c f h) (c g h)) (some (-m))) := by
    revert q2
    generalize c f h = a; generalize c g h = b
    cases a <;> cases b <;> simp [leE, a0t] <;> omega
   have : leE (some z0) (e4x c f g h m) := a3y z1 a2
   rw [e] at this
   exact this
  refine ⟨u1, ?_, ?_, ?_, ?_, ?_, ?_⟩
  · revert u2; generalize c f h = a; generalize c g h = b
    cases a <;> cases b <;> simp [leE, a0t] <;> omega
  · revert z2; generalize hv c (fl h) = a; cases a <;> simp [leE] <;> omega
  · revert q1; generalize c f g = a; cases a <;> simp [leE] <;> omega
  · revert q3; generalize hv c f = a; generalize c g (fl h) = b
    cases a <;> cases b <;> simp [leE, a0t] <;> omega
  · revert q4; generalize hv c g = a; generalize c f (fl h) = b
    cases a <;> cases b <;> simp [leE, a0t] <;> omega
  · revert q5; generalize c f (fl h) = a; generalize c g (fl h) = b
    cases a <;> cases b <;> simp [leE, a0t] <;> omega
 | none =>
  have em : ∀ x ∈ b3y c f g h m, ∀ a, x = some a -> a <= d6g (b3y c f g h m) := fun x hx a ea => b6y _ (by rw [← ea]; exact hx)
  have e1 := em (c9a 1 (hv c (fl h)) 0) (by simp [b3y])
  have e2 := em (c9a 1 (c f g) m) (by simp [b3y])
  have e3 := em (c9a 2 (a0t (hv c f) (c g (fl h))) m) (by simp [b3y])
  have e4 := em (c9a 2 (a0t (hv c g) (c f (fl h))) m) (by simp [b3y])
  have e5 := em (c9a 3 (a0t (c f (fl h)) (c g (fl h))) m) (by simp [b3y])
  generalize d6g (b3y c f g h m) = z at *
  unfold e4x at e
  show ZOk c f g h m z
  refine ⟨?_, ?_, ?_, ?_, ?_, ?_, ?_⟩
  · revert e; generalize hv c h = a; generalize a0t (a0t (c f h) (c g h)) (some (-m)) = b
    cases a <;> cases b <;> simp [a3z, leE]
  · revert e; generalize hv c h = a; generalize c f h = x; generalize c g h = y
    cases a <;> cases x <;> cases y <;> simp [a3z, leE, a0t]
  · revert e1; generalize hv c (fl h) = a; cases a <;> simp [c9a, leE] <;> omega
  · revert e2; generalize c f g = a; cases a <;> simp [c9a, leE] <;> omega
  · revert e3; generalize hv c f = a; generalize c g (fl h) = b
    cases a <;> cases b <;> simp [c9a, leE, a0t] <;> omega
  · revert e4; generalize hv c g = a; generalize c f (fl h) = b
    cases a <;> cases b <;> simp [c9a, leE, a0t] <;> omega
  · revert e5; generalize c f (fl h) = a; generalize c g (fl h) = b
    cases a <;> cases b <;> simp [c9a, leE, a0t] <;> omega
theorem g0h {c : Tb} {n f g h : Nat} {m z : Int} (S : Shp c (2 * n)) (hf : f < 2 * n) (hg : g < 2 * n) (hh : h < 2 * n) (n2 : leE (some m) (a0t (c f h) (hv c g))) (n3 : leE (some m) (a0t (c g h) (hv c f))) (Z : ZOk c f g h m z) :
  ∃ s, a6b (2 * n) (b7p c (b6m h z)) = some s /\ Shp s (2 * n) /\ Le s c (2 * n) /\ leE (s h h) (some (2 * z)) /\ leE (s (fl h) (fl h)) (some (-2 * z)) /\ leE (some (m - z)) (s f g) := by
 have ev : ∀ f, f < 2 * n -> fl f < 2 * n := fun f hf => a3k hf
 have T := S.good.tight
 have d := S.good.nn
 have fh := a3k hh
 have c1 := T.closed h hh f g hf hg
 have c2 := T.closed (fl h) fh f g hf hg
 rw [a5b] at c2
 rw [T.sym (fl h) g fh hg] at c1
 rw [T.sym h g hh hg] at c2
 obtain ⟨s, es, Ss, Ls, l1, l2⟩ := c5e S hh Z.up1 Z.lo1
 have TT := b1o ev T d hh Z.up1 Z.lo1
 have reach : leE (some (m - z)) (b1s c h z f g) := by
  refine a3y Z.lo2 ?_
  unfold b8l
  have k1 := b6a T hf hg
  rcases a1s (hv c f) (a3z (a0t (c f h) (some (-z))) (a0t (c f (fl h)) (some z))) with e | e <;> rw [e]
  · rcases a1s (hv c g) (a3z (a0t (c g h) (some (-z))) (a0t (c g (fl h)) (some z))) with e | e <;> rw [e]
    · exact a0j Z.lo2 k1
    · rcases a1s (a0t (c g h) (some (-z))) (a0t (c g (fl h)) (some z)) with e | e <;> rw [e]
      · revert n3; generalize c g h = a; generalize hv c f = b; cases a <;> cases b <;> simp [leE, a0t] <;> omega
      · exact Z.lo3
  · rcases a1s (a0t (c f h) (some (-z))) (a0t (c f (fl h)) (some z)) with e | e <;> rw [e]
    · rcases a1s (hv c g) (a3z (a0t (c g h) (some (-z))) (a0t (c g (fl h)) (some z))) with e | e <;> rw [e]
      · revert n2; generalize c f h = a; generalize hv c g = b; cases a <;> cases b <;> simp [leE, a0t] <;> omega
      · rcases a1s (a0t (c g h) (some (-z))) (a0t (c g (fl h)) (some z)) with e | e <;> rw [e]
        · exact Z.up2
        · have q1 := Z.lo2
          revert q1 c1; generalize c f h = a; generalize c g (fl h) = b; generalize c f g = x; cases a <;> cases b <;> cases x <;> simp [leE, a0t] <;> omega
    · rcases a1s (hv c g) (a3z (a0t (c g h) (some (-z))) (a0t (c g (fl h)) (some z))) with e | e <;> rw [e]
      · exact Z.lo4
      · rcases a1s (a0t (c g h) (some (-z))) (a0t (c g (fl h)) (some z)) with e | e <;> rw [e]
        · have q1 := Z.lo2
          revert q1 c2; generalize c f (fl h) = a; generalize c g h = b; generalize c f g = x; cases a <;> cases b <;> cases x <;> simp [leE, a0t] <;> omega
        · exact Z.lo5
 have hle : Le (b1s c h z) (b7p c (b6m h z)) (2 * n) := by
  refine b0e (b6m h z) c (fun a b _ _ => a5a _ _) fun x hx => ?_
  have : x = (h, h, 2 * z) \/ x = (fl h, fl h, -2 * z) := by simpa [b6m] using hx
  have k1 : leE (b8l c h z h) (some z) := by
   refine a0j (a2t _ _) (a0j (a2t _ _) ?_)
   rw [S.zero h hh]; simp [a0t, leE]
  have k2 : leE (b8l c h z (fl h)) (some (-z)) := by
   refine a0j (a2t _ _) (a0j (a5a _ _) ?_)
   rw [S.zero' ev hh]; simp [a0t, leE]
  have d1 := a4c (z := z) (h := h) T hh
  have d2 := a4c (z := z) (h := h) T fh
  rcases this with q | q <;> subst q
  · have : leE (b1s c h z h h) (some (2 * z)) := by
     rw [d1]; revert k1; generalize b8l c h z h = a; cases a <;> simp [leE, dbl] <;> omega
    exact ⟨this, this⟩
  · have : leE (b1s c h z (fl h) (fl h)) (some (-2 * z)) := by
     rw [d2]; revert k2; generalize b8l c h z (fl h) = a; cases a <;> simp [leE, dbl] <;> omega
    exact ⟨this, this⟩
 have sy := a9w (b6m h z) c T.sym
 have mx := (a4z ev sy es).2.2 _ TT hle
 exact ⟨s, es, Ss, Ls, l1, l2, a0j reach (mx f g hf hg)⟩
theorem d4g {s : Tb} {n h : Nat} {z : Int} {w : Nat -> Int} (hh : h < 2 * n) (p : Pt w (2 * n)) (l : a6u w s (2 * n)) (l1 : leE (s h h) (some (2 * z))) (l2 : leE (s (fl h) (fl h)) (some (-2 * z))) : w h = z := by
 have a1 := a0j (l h h hh hh) l1
 have a2 := a0j (l (fl h) (fl h) (a3k hh) (a3k hh)) l2
 have p1 := p h hh
 simp [tab, leE] at a1 a2
 omega
def c1f : List E -> E
 | [] => none
 | a :: r => a3z a (c1f r)
def gr3 (c : Tb) (f g h : Nat) : E := c1f [a0t (c f g) (hv c h), a0t (c f h) (hv c g), a0t (c g h) (hv c f), hlf (a0t (a0t (c f g) (c g h)) (c f h))]
theorem c2m {c : Tb} {f g h : Nat} {m : Int} (hm : leE (some m) (gr3 c f g h)) : leE (some m) (a0t (c f g) (hv c h)) /\ leE (some m) (a0t (c f h) (hv c g)) /\ leE (some m) (a0t (c g h) (hv c f)) /\ leE (some (m + m)) (a0t (c f g) (a0t (c f h) (c g h))) := by
 unfold gr3 c1f c1f c1f c1f c1f at hm
 refine ⟨a0j hm (a5a _ _), a0j hm (a0j (a2t _ _) (a5a _ _)), a0j hm (a0j (a2t _ _) (a0j (a2t _ _) (a5a _ _))), ?_⟩
 have q := a0j hm (a0j (a2t _ _) (a0j (a2t _ _) (a0j (a2t _ _) (a5a _ _))))
 revert q
 generalize c f g = a; generalize c f h = b; generalize c g h = x
 cases a <;> cases b <;> cases x <;> simp [leE, a0t, hlf] <;> omega
theorem e4o {c : Tb} {n f g h : Nat} {w : Nat -> Int} (l : a6u w c (2 * n)) (hf : f < 2 * n) (hg : g < 2 * n) (hh : h < 2 * n) : leE (some (w f + w g + w h)) (gr3 c f g h) := by
 have h1 := l f g hf hg
 have h2 := l f h hf hh
 have h3 := l g h hg hh
 have h4 := l f f hf hf
 have h5 := l g g hg hg
 have h6 := l h h hh hh
 unfold tab at h1 h2 h3 h4 h5 h6
 unfold gr3 c1f c1f c1f c1f c1f hv
 refine a3y ?_ (a3y ?_ (a3y ?_ (a3y ?_ trivial)))
 · revert h1 h6; generalize c f g = a; generalize c h h = b
   cases a <;> cases b <;> simp [leE, a0t, hlf] <;> omega
 · revert h2 h5; generalize c f h = a; generalize c g g = b
   cases a <;> cases b <;> simp [leE, a0t, hlf] <;> omega
 · revert h3 h4; generalize c g h = a; generalize c f f = b
   cases a <;> cases b <;> simp [leE, a0t, hlf] <;> omega
 · revert h1 h2 h3; generalize c f g = a; generalize c f h = b; generalize c g h = x
   cases a <;> cases b <;> cases x <;> simp [leE, a0t, hlf] <;> omega
end Oct
set_option Elab.async false
set_option linter.all false
set_option maxRecDepth 100000
set_option maxHeartbeats 4000000
namespace L2
open PySem PySem.Spec PyProof.Rows
def c8y : Int -> List Int -> Int
 | b, [] => b
 | b, x :: r => c8y (if x < b then x else b) r
section
variable {P : Program} {w : World} {A : Around} {R : Result -> Shared -> Prop}
theorem e8g {it bx l : Addr} {its : List Value} {ns : List Int} {kw : List (Str × Value)} (quiet : A.in1.handled = none) (hi : IntsAre its ns) (n1 : it ≠ bx) (n2 : l ≠ bx) (n3 : l ≠ it) :
  ∀ (k j : Nat) (s : Shared) (b : Int) (t : Tok) (cnt : Nat), ns.length - j = k -> s.heap.IsListIter it l j -> s.heap.IsList l its.toArray ->
   s.heap.get? bx = some { cls := .type "list", dict := none, data := .seq #[.int b t, .int b t] cnt, slots := #[] } ->
   (∀ t' h' tk, (∀ x o, x ≠ it -> x ≠ bx -> s.heap.get? x = some o -> h'.get? x = some o) -> R (.ok (.ret (.int (c8y b (ns.drop j)) t'))) { s with heap := h', toks := tk }) ->
   codeAny (model P w) A (.builtin "min.loop" ⟨[.ref it, .none, .ref bx], kw⟩) R s := by
 have nm : (toString "min" ++ toString ".loop" : String) = "min.loop" := by decide
 have ln : its.length = ns.length := hi.length
 intro k
 induction k with
 | zero =>
  intro j s b t cnt hk st hl hb q
  refine codeAny_builtin F.entry_min_loop ?_
  rw [Around.under_plainId F.plain_min_loop _]
  show wpAny _ _ (seqItems? (.ref bx) >>= _) _ _ _
  refine wpAny_bind (wpAny_seqItems hb rfl ?_)
  show wpAny _ _ (tryCatch (pyNext (.ref it)) _ >>= _) _ _ _
  refine wpAny_bind (wpAny_tryCatch (wpAny_pyNext_list_end quiet st hl (by simp; omega) fun h1 ex => ?_))
  have hb1 := ex bx _ (Ne.symm n1) hb
  show wpAny _ _ (updateSeq bx (fun _ => #[]) >>= _) _ _ _
  refine wpAny_bind (wpAny_updateSeq hb1 rfl ?_)
  refine wpAny_bind (wpAny_letGo (wpAny_pure ?_))
  have e0 : ns.drop j = [] := List.drop_eq_nil_of_le (by omega)
  rw [e0] at q
  exact q t _ _ fun x o h2 h3 e => (Heap.get?_update_other _ _ (Ne.symm h3)).trans (ex x o h2 e)
 | succ k ih =>
  intro j s b t cnt hk st hl hb q
  have hj : j < ns.length := by omega
  obtain ⟨t2, et⟩ := a5u hi j (by omega) hj
  have gi : its.toArray[j]? = some (.int ns[j] t2) := by rw [← et]; simp [ln, hj]
  have ed : ns.drop j = ns[j] :: ns.drop (j + 1) := List.drop_eq_getElem_cons hj
  rw [ed] at q
  generalize ns[j] = y at *
  refine codeAny_builtin F.entry_min_loop ?_
  rw [Around.under_plainId F.plain_min_loop _]
  show wpAny _ _ (seqItems? (.ref bx) >>= _) _ _ _
  refine wpAny_bind (wpAny_seqItems hb rfl ?_)
  show wpAny _ _ (tryCatch (pyNext (.ref it)) _ >>= _) _ _ _
  refine wpAny_bind (wpAny_tryCatch (wpAny_pyNext_list_item st hl gi fun h1 st1 ex => ?_))
  have hb1 := ex.extBut bx _ (Ne.symm n1) hb
  have hl1 := hl.extBut ex.extBut n3
  show wpAny _ _ (tryCatch (holding [.int y t2, .int y t2] (richCompare .Lt (.int y t2) (.int b t) >>= _)) _ >>= _) _ _ _
  have cmp := CmpOf.ints_lt (prog := P) (w := w) (A := A.in1) (P := fun i v => ∃ u, v = Value.int (if i = 0 then b else y) u) (fun i => if i = 0 then b else y) fun i v h => h
  refine wpAny_bind (wpAny_tryCatch (wpAny_holding (wpAny_bind (cmp 1 0 _ _ _ _ _ ⟨t2, rfl⟩ ⟨t, rfl⟩ ?_))))
  refine wpAny_bind (wpAny_holding (wpAny_truthy_bool ?_))
  refine wpAny_bind (wpAny_letGo (wpAny_pure ?_))
  by_cases hlt : y < b
  · have d1 : decide ((if (1 : Nat) = 0 then b else y) < (if (0 : Nat) = 0 then b else y)) = true := by simpa using hlt
    rw [if_pos d1]
    have f1 : c8y b (y :: ns.drop (j + 1)) = c8y y (ns.drop (j + 1)) := by simp [c8y, hlt]
    rw [f1] at q
    refine wpAny_bind (wpAny_updateSeq hb1 rfl (wpAny_bind (wpAny_letGo ?_)))
    rw [nm]
    refine wpAny_pure ⟨plainId_quiet F.plain_min_loop _, ih (j + 1) _ y t2 _ (by omega) (st1.at fun o e => (Heap.get?_update_other _ _ (Ne.symm n1)).trans e) (hl1.at fun o e => (Heap.get?_update_other _ _ (Ne.symm n2)).trans e) (Heap.get?_update_self _ hb1 rfl) fun t' h' tk kk => ?_⟩
    exact q t' h' tk fun x o h2 h3 e => kk x o h2 h3 ((Heap.get?_update_other _ _ (Ne.symm h3)).trans (ex.extBut x o h2 e))
  · have d1 : decide ((if (1 : Nat) = 0 then b else y) < (if (0 : Nat) = 0 then b else y)) = false := by simpa using hlt
    rw [if_neg (show ¬ (decide ((if (1 : Nat) = 0 then b else y) < (if (0 : Nat) = 0 then b else y)) = true) from by rw [d1]; exact Bool.false_ne_true)]
    have f1 : c8y b (y :: ns.drop (j + 1)) = c8y b (ns.drop (j + 1)) := by simp [c8y, hlt]
    rw [f1] at q
    refine wpAny_bind (wpAny_letGo ?_)
    rw [nm]
    refine wpAny_pure ⟨plainId_quiet F.plain_min_loop _, ih (j + 1) _ b t cnt (by omega) st1 hl1 hb1 fun t' h' tk kk => ?_⟩
    exact q t' h' tk fun x o h2 h3 e => kk x o h2 h3 (ex.extBut x o h2 e)
end
section
variable {P : Program} {w : World} {A : Around} {s : Shared} {E : Value -> Shared -> Prop} {Q : Value -> Shared -> Prop}
theorem d7r (a v : Value) : argsOk "min" ⟨[a], [(Str.ofString "default", v)]⟩ := by unfold argsOk; kernel_rfl
theorem g0f {l : Addr} {its : List Value} {ns : List Int} {dv : Value} (quiet : A.handled = none) (hl : s.heap.IsList l its.toArray) (hi : IntsAre its ns)
  (q0 : ns = [] -> ∀ h' tk, (∀ x o, s.heap.get? x = some o -> h'.get? x = some o) -> Q dv { s with heap := h', toks := tk })
  (q1 : ∀ b r, ns = b :: r -> ∀ t h' tk, (∀ x o, s.heap.get? x = some o -> h'.get? x = some o) -> Q (.int (c8y b r) t) { s with heap := h', toks := tk }) :
  wpAny (model P w) A (call (.builtin "min") [.ref l] [(Str.ofString "default", dv)]) Q E s := by
 have nm : (toString "min" ++ toString ".loop" : String) = "min.loop" := by decide
 have ln : its.length = ns.length := hi.length
 refine kmk_tree F.kind_min F.plain_min F.entry_min (d7r _ _) ?_
 show wpAny _ _ (Builtin.Builtins.bindParams "min" ["key", "default"] 0 ⟨[], [(Str.ofString "default", dv)]⟩ >>= _) _ _ _
 refine wpAny_bind (wpAny_of_eq (show Builtin.Builtins.bindParams "min" ["key", "default"] 0 ⟨[], [(Str.ofString "default", dv)]⟩ = pure [none, some dv] from rfl) ?_)
 refine wpAny_bind (wpAny_pure ?_)
 refine wpAny_bind (wpAny_pyIter_list hl ?_)
 refine wpAny_bind (wpAny_newList ?_ (Nat.zero_le _))
 rw [nm]
 refine wpAny_pure ⟨plainId_quiet F.plain_min_loop _, ?_⟩
 have llt : l < s.heap.objs.size := by obtain ⟨o, e, _⟩ := hl; exact Heap.lt_size e
 generalize ehp : s.heap.push { cls := .type "list_iterator", data := .fields #[.ref l, .int 0 0] } = hp1
 have sz1 : hp1.objs.size = s.heap.objs.size + 1 := by rw [← ehp]; exact Heap.size_push ..
 have k1 : ∀ x o, s.heap.get? x = some o -> hp1.get? x = some o := fun x o e => by rw [← ehp]; exact Heap.get?_push_of_some _ e
 have gi1 : hp1.get? s.heap.objs.size = some { cls := .type "list_iterator", data := .fields #[.ref l, .int 0 0] } := by rw [← ehp]; exact Heap.get?_push_size _ rfl
 generalize ehq : hp1.push { cls := .type "list", data := .seq ([] : List Value).toArray } = hp2
 have gb2 : hp2.get? hp1.objs.size = some { cls := .type "list", data := .seq ([] : List Value).toArray } := by rw [← ehq]; exact Heap.get?_push_size _ rfl
 have k2 : ∀ x o, hp1.get? x = some o -> hp2.get? x = some o := fun x o e => by rw [← ehq]; exact Heap.get?_push_of_some _ e
 have st2 : hp2.IsListIter s.heap.objs.size l 0 := ⟨_, k2 _ _ gi1, rfl, rfl⟩
 have hl2 : hp2.IsList l its.toArray := hl.at fun o e => k2 _ _ (k1 _ _ e)
 have n1 : s.heap.objs.size ≠ hp1.objs.size := by rw [sz1]; exact Nat.ne_of_lt (Nat.lt_succ_self _)
 have n2 : l ≠ hp1.objs.size := by rw [sz1]; exact Nat.ne_of_lt (Nat.lt_succ_of_lt llt)
 have n3 : l ≠ s.heap.objs.size := Nat.ne_of_lt llt
 have old : ∀ x o, s.heap.get? x = some o -> x ≠ s.heap.objs.size /\ x ≠ hp1.objs.size := fun x o e => ⟨Nat.ne_of_lt (Heap.lt_size e), by rw [sz1]; exact Nat.ne_of_lt (Nat.lt_succ_of_lt (Heap.lt_size e))⟩
 refine codeAny_builtin F.entry_min_loop ?_
 rw [Around.under_plainId F.plain_min_loop _]
 show wpAny _ _ (seqItems? (.ref hp1.objs.size) >>= _) _ _ _
 refine wpAny_bind (wpAny_seqItems gb2 rfl ?_)
 show wpAny _ _ (tryCatch (pyNext (.ref s.heap.objs.size)) _ >>= _) _ _ _
 cases ns with
 | nil =>
  refine wpAny_bind (wpAny_tryCatch (wpAny_pyNext_list_end quiet st2 hl2 (by simp at ln; simp [ln]) fun h1 ex => ?_))
  refine wpAny_bind (wpAny_rule (wpAny_pure ?_))
  exact q0 rfl h1 _ fun x o e => ex x o (old x o e).1 (k2 _ _ (k1 _ _ e))
 | cons b r =>
  obtain ⟨t2, et⟩ := a5u hi 0 (by simp at ln; omega) (by simp)
  have gi : its.toArray[0]? = some (.int b t2) := by
   have : its[0]'(by simp at ln; omega) = .int b t2 := et
   rw [← this]; simp at ln ⊢
  refine wpAny_bind (wpAny_tryCatch (wpAny_pyNext_list_item st2 hl2 gi fun h1 st1 ex => ?_))
  have gb3 := ex.extBut hp1.objs.size _ (Ne.symm n1) gb2
  show wpAny _ _ (updateSeq hp1.objs.size (fun _ => #[.int b t2, .int b t2]) >>= _) _ _ _
  refine wpAny_bind (wpAny_updateSeq gb3 rfl ?_)
  rw [nm]
  refine wpAny_pure ⟨plainId_quiet F.plain_min_loop _, e8g quiet hi n1 n2 n3 _ 1 _ b t2 _ rfl (st1.at fun o e => (Heap.get?_update_other _ _ (Ne.symm n1)).trans e) ((hl2.extBut ex.extBut n3).at fun o e => (Heap.get?_update_other _ _ (Ne.symm n2)).trans e) (Heap.get?_update_self _ gb3 rfl) fun t' h' tk kk => ?_⟩
  refine q1 b r rfl t' h' tk fun x o e => ?_
  obtain ⟨o1, o2⟩ := old x o e
  exact kk x o o1 o2 ((Heap.get?_update_other _ _ (Ne.symm o2)).trans (ex.extBut x o o1 (k2 _ _ (k1 _ _ e))))
end
def c8o : Int -> List Int -> Int
 | b, [] => b
 | b, x :: r => c8o (if b < x then x else b) r
section
variable {P : Program} {w : World} {A : Around} {R : Result -> Shared -> Prop}
theorem e9m {it bx l : Addr} {its : List Value} {ns : List Int} {kw : List (Str × Value)} (quiet : A.in1.handled = none) (hi : IntsAre its ns) (n1 : it ≠ bx) (n2 : l ≠ bx) (n3 : l ≠ it) :
  ∀ (k j : Nat) (s : Shared) (b : Int) (t : Tok) (cnt : Nat), ns.length - j = k -> s.heap.IsListIter it l j -> s.heap.IsList l its.toArray ->
   s.heap.get? bx = some { cls := .type "list", dict := none, data := .seq #[.int b t, .int b t] cnt, slots := #[] } ->
   (∀ t' h' tk, (∀ x o, x ≠ it -> x ≠ bx -> s.heap.get? x = some o -> h'.get? x = some o) -> R (.ok (.ret (.int (c8o b (ns.drop j)) t'))) { s with heap := h', toks := tk }) ->
   codeAny (model P w) A (.builtin "max.loop" ⟨[.ref it, .none, .ref bx], kw⟩) R s := by
 have nm : (toString "max" ++ toString ".loop" : String) = "max.loop" := by decide
 have ln : its.length = ns.length := hi.length
 intro k
 induction k with
 | zero =>
  intro j s b t cnt hk st hl hb q
  refine codeAny_builtin F.entry_max_loop ?_
  rw [Around.under_plainId F.plain_max_loop _]
  show wpAny _ _ (seqItems? (.ref bx) >>= _) _ _ _
  refine wpAny_bind (wpAny_seqItems hb rfl ?_)
  show wpAny _ _ (tryCatch (pyNext (.ref it)) _ >>= _) _ _ _
  refine wpAny_bind (wpAny_tryCatch (wpAny_pyNext_list_end quiet st hl (by simp; omega) fun h1 ex => ?_))
  have hb1 := ex bx _ (Ne.symm n1) hb
  show wpAny _ _ (updateSeq bx (fun _ => #[]) >>= _) _ _ _
  refine wpAny_bind (wpAny_updateSeq hb1 rfl ?_)
  refine wpAny_bind (wpAny_letGo (wpAny_pure ?_))
  have e0 : ns.drop j = [] := List.drop_eq_nil_of_le (by omega)
  rw [e0] at q
  exact q t _ _ fun x o h2 h3 e => (Heap.get?_update_other _ _ (Ne.symm h3)).trans (ex x o h2 e)
 | succ k ih =>
  intro j s b t cnt hk st hl hb q
  have hj : j < ns.length := by omega
  obtain ⟨t2, et⟩ := a5u hi j (by omega) hj
  have gi : its.toArray[j]? = some (.int ns[j] t2) := by rw [← et]; simp [ln, hj]
  have ed : ns.drop j = ns[j] :: ns.drop (j + 1) := List.drop_eq_getElem_cons hj
  rw [ed] at q
  generalize ns[j] = y at *
  refine codeAny_builtin F.entry_max_loop ?_
  rw [Around.under_plainId F.plain_max_loop _]
  show wpAny _ _ (seqItems? (.ref bx) >>= _) _ _ _
  refine wpAny_bind (wpAny_seqItems hb rfl ?_)
  show wpAny _ _ (tryCatch (pyNext (.ref it)) _ >>= _) _ _ _
  refine wpAny_bind (wpAny_tryCatch (wpAny_pyNext_list_item st hl gi fun h1 st1 ex => ?_))
  have hb1 := ex.extBut bx _ (Ne.symm n1) hb
  have hl1 := hl.extBut ex.extBut n3
  show wpAny _ _ (tryCatch (holding [.int y t2, .int y t2] (richCompare .Gt (.int y t2) (.int b t) >>= _)) _ >>= _) _ _ _
  have cmp := CmpOf.ints_gt (prog := P) (w := w) (A := A.in1) (P := fun i v => ∃ u, v = Value.int (if i = 0 then b else y) u) (fun i => if i = 0 then b else y) fun i v h => h
  refine wpAny_bind (wpAny_tryCatch (wpAny_holding (wpAny_bind (cmp 1 0 _ _ _ _ _ ⟨t2, rfl⟩ ⟨t, rfl⟩ ?_))))
  refine wpAny_bind (wpAny_holding (wpAny_truthy_bool ?_))
  refine wpAny_bind (wpAny_letGo (wpAny_pure ?_))
  by_cases hlt : b < y
  · have d1 : decide ((if (1 : Nat) = 0 then b else y) > (if (0 : Nat) = 0 then b else y)) = true := by simpa using hlt
    rw [if_pos d1]
    have f1 : c8o b (y :: ns.drop (j + 1)) = c8o y (ns.drop (j + 1)) := by simp [c8o, hlt]
    rw [f1] at q
    refine wpAny_bind (wpAny_updateSeq hb1 rfl (wpAny_bind (wpAny_letGo ?_)))
    rw [nm]
    refine wpAny_pure ⟨plainId_quiet F.plain_max_loop _, ih (j + 1) _ y t2 _ (by omega) (st1.at fun o e => (Heap.get?_update_other _ _ (Ne.symm n1)).trans e) (hl1.at fun o e => (Heap.get?_update_other _ _ (Ne.symm n2)).trans e) (Heap.get?_update_self _ hb1 rfl) fun t' h' tk kk => ?_⟩
    exact q t' h' tk fun x o h2 h3 e => kk x o h2 h3 ((Heap.get?_update_other _ _ (Ne.symm h3)).trans (ex.extBut x o h2 e))
  · have d1 : decide ((if (1 : Nat) = 0 then b else y) > (if (0 : Nat) = 0 then b else y)) = false := by simpa using hlt
    rw [if_neg (show ¬ (decide ((if (1 : Nat) = 0 then b else y) > (if (0 : Nat) = 0 then b else y)) = true) from by rw [d1]; exact Bool.false_ne_true)]
    have f1 : c8o b (y :: ns.drop (j + 1)) = c8o b (ns.drop (j + 1)) := by simp [c8o, hlt]
    rw [f1] at q
    refine wpAny_bind (wpAny_letGo ?_)
    rw [nm]
    refine wpAny_pure ⟨plainId_quiet F.plain_max_loop _, ih (j + 1) _ b t cnt (by omega) st1 hl1 hb1 fun t' h' tk kk => ?_⟩
    exact q t' h' tk fun x o h2 h3 e => kk x o h2 h3 (ex.extBut x o h2 e)
end
section
variable {P : Program} {w : World} {A : Around} {s : Shared} {E : Value -> Shared -> Prop} {Q : Value -> Shared -> Prop}
theorem d5p (a v : Value) : argsOk "max" ⟨[a], [(Str.ofString "default", v)]⟩ := by unfold argsOk; kernel_rfl
theorem g0o {l : Addr} {its : List Value} {ns : List Int} {dv : Value} (quiet : A.handled = none) (hl : s.heap.IsList l its.toArray) (hi : IntsAre its ns)
  (q0 : ns = [] -> ∀ h' tk, (∀ x o, s.heap.get? x = some o -> h'.get? x = some o) -> Q dv { s with heap := h', toks := tk })
  (q1 : ∀ b r, ns = b :: r -> ∀ t h' tk, (∀ x o, s.heap.get? x = some o -> h'.get? x = some o) -> Q (.int (c8o b r) t) { s with heap := h', toks := tk }) :
  wpAny (model P w) A (call (.builtin "max") [.ref l] [(Str.ofString "default", dv)]) Q E s := by
 have nm : (toString "max" ++ toString ".loop" : String) = "max.loop" := by decide
 have ln : its.length = ns.length := hi.length
 refine kmk_tree F.kind_max F.plain_max F.entry_max (d5p _ _) ?_
 show wpAny _ _ (Builtin.Builtins.bindParams "max" ["key", "default"] 0 ⟨[], [(Str.ofString "default", dv)]⟩ >>= _) _ _ _
 refine wpAny_bind (wpAny_of_eq (show Builtin.Builtins.bindParams "max" ["key", "default"] 0 ⟨[], [(Str.ofString "default", dv)]⟩ = pure [none, some dv] from rfl) ?_)
 refine wpAny_bind (wpAny_pure ?_)
 refine wpAny_bind (wpAny_pyIter_list hl ?_)
 refine wpAny_bind (wpAny_newList ?_ (Nat.zero_le _))
 rw [nm]
 refine wpAny_pure ⟨plainId_quiet F.plain_max_loop _, ?_⟩
 have llt : l < s.heap.objs.size := by obtain ⟨o, e, _⟩ := hl; exact Heap.lt_size e
 generalize ehp : s.heap.push { cls := .type "list_iterator", data := .fields #[.ref l, .int 0 0] } = hp1
 have sz1 : hp1.objs.size = s.heap.objs.size + 1 := by rw [← ehp]; exact Heap.size_push ..
 have k1 : ∀ x o, s.heap.get? x = some o -> hp1.get? x = some o := fun x o e => by rw [← ehp]; exact Heap.get?_push_of_some _ e
 have gi1 : hp1.get? s.heap.objs.size = some { cls := .type "list_iterator", data := .fields #[.ref l, .int 0 0] } := by rw [← ehp]; exact Heap.get?_push_size _ rfl
 generalize ehq : hp1.push { cls := .type "list", data := .seq ([] : List Value).toArray } = hp2
 have gb2 : hp2.get? hp1.objs.size = some { cls := .type "list", data := .seq ([] : List Value).toArray } := by rw [← ehq]; exact Heap.get?_push_size _ rfl
 have k2 : ∀ x o, hp1.get? x = some o -> hp2.get? x = some o := fun x o e => by rw [← ehq]; exact Heap.get?_push_of_some _ e
 have st2 : hp2.IsListIter s.heap.objs.size l 0 := ⟨_, k2 _ _ gi1, rfl, rfl⟩
 have hl2 : hp2.IsList l its.toArray := hl.at fun o e => k2 _ _ (k1 _ _ e)
 have n1 : s.heap.objs.size ≠ hp1.objs.size := by rw [sz1]; exact Nat.ne_of_lt (Nat.lt_succ_self _)
 have n2 : l ≠ hp1.objs.size := by rw [sz1]; exact Nat.ne_of_lt (Nat.lt_succ_of_lt llt)
 have n3 : l ≠ s.heap.objs.size := Nat.ne_of_lt llt
 have old : ∀ x o, s.heap.get? x = some o -> x ≠ s.heap.objs.size /\ x ≠ hp1.objs.size := fun x o e => ⟨Nat.ne_of_lt (Heap.lt_size e), by rw [sz1]; exact Nat.ne_of_lt (Nat.lt_succ_of_lt (Heap.lt_size e))⟩
 refine codeAny_builtin F.entry_max_loop ?_
 rw [Around.under_plainId F.plain_max_loop _]
 show wpAny _ _ (seqItems? (.ref hp1.objs.size) >>= _) _ _ _
 refine wpAny_bind (wpAny_seqItems gb2 rfl ?_)
 show wpAny _ _ (tryCatch (pyNext (.ref s.heap.objs.size)) _ >>= _) _ _ _
 cases ns with
 | nil =>
  refine wpAny_bind (wpAny_tryCatch (wpAny_pyNext_list_end quiet st2 hl2 (by simp at ln; simp [ln]) fun h1 ex => ?_))
  refine wpAny_bind (wpAny_rule (wpAny_pure ?_))
  exact q0 rfl h1 _ fun x o e => ex x o (old x o e).1 (k2 _ _ (k1 _ _ e))
 | cons b r =>
  obtain ⟨t2, et⟩ := a5u hi 0 (by simp at ln; omega) (by simp)
  have gi : its.toArray[0]? = some (.int b t2) := by
   have : its[0]'(by simp at ln; omega) = .int b t2 := et
   rw [← this]; simp at ln ⊢
  refine wpAny_bind (wpAny_tryCatch (wpAny_pyNext_list_item st2 hl2 gi fun h1 st1 ex => ?_))
  have gb3 := ex.extBut hp1.objs.size _ (Ne.symm n1) gb2
  show wpAny _ _ (updateSeq hp1.objs.size (fun _ => #[.int b t2, .int b t2]) >>= _) _ _ _
  refine wpAny_bind (wpAny_updateSeq gb3 rfl ?_)
  rw [nm]
  refine wpAny_pure ⟨plainId_quiet F.plain_max_loop _, e9m quiet hi n1 n2 n3 _ 1 _ b t2 _ rfl (st1.at fun o e => (Heap.get?_update_other _ _ (Ne.symm n1)).trans e) ((hl2.extBut ex.extBut n3).at fun o e => (Heap.get?_update_other _ _ (Ne.symm n2)).trans e) (Heap.get?_update_self _ gb3 rfl) fun t' h' tk kk => ?_⟩
  refine q1 b r rfl t' h' tk fun x o e => ?_
  obtain ⟨o1, o2⟩ := old x o e
  exact kk x o o1 o2 ((Heap.get?_update_other _ _ (Ne.symm o2)).trans (ex.extBut x o o1 (k2 _ _ (k1 _ _ e))))
end
def e6p (K : PySem.W.Frag) (f : Int -> List Int -> Int) (ta tk : TA) : TE := fun σ H Q => ta σ H fun vs H1 => tk σ H1 fun zs H2 => ∃ (p : Addr) (ns : List Int) (dv : V), vs = [.ref p] /\ zs = [dv] /\ SqL K H2 p (ns.map V.int) /\ (ns = [] -> Q dv H2) /\ ∀ b r, ns = b :: r -> Q (.int (f b r)) H2
section
variable {X : Cx} {K : PySem.W.Frag} {e d : Expr} {ta tk : TA} {p kp pos : Pos}
theorem e2l (hK : X.K = K) (hc : X.calm = true) (hg : Gl X "min") (hm : X.mg "min" = none) (ha : PA X [e] ta) (hk : PK X [⟨some "default", d, kp⟩] tk) (hs : starEach [e] X.env = [(false, eval e X.env)] := by rfl)
  (hks : keywordEach [⟨some "default", d, kp⟩] X.env = [(some (Str.ofString "default"), eval d X.env)] := by rfl) : PE X (.Call (.Name "min" p) [e] [⟨some "default", d, kp⟩] pos) (e6p K c8y ta tk) := by
 subst hK
 intro pins s σ H Q I h
 refine wpAny_Call_Name_kw (b5e I hg hm boot_min ?_)
 refine callWith_kw (thn (ha pos pins s σ H _ I h) fun us s1 ⟨vs, H1, I1, r1, q1⟩ => ?_) (by rw [hs]; rfl) (by rw [hs]; rfl) (by rw [hks]; rfl) (by rw [hks]; rfl)
 refine thn (hk pos pins s1 σ H1 _ I1 q1) fun ws s2 ⟨zs, H2, I2, r2, q2⟩ => ?_
 obtain ⟨l, ns, dv, rfl, rfl, sq, q0, q3⟩ := q2
 obtain ⟨u, rfl, ru⟩ := r1.one
 cases ru
 obtain ⟨v, rfl, rv⟩ := r2.one
 obtain ⟨its, r, pl, hz⟩ := I2.list sq
 rw [hks]
 exact g0f (I2.ok.hd hc) pl.isList (a9n r) (fun en h' tk kk => ⟨dv, H2, I2.kept kk, rv, q0 en⟩) (fun b rr en t h' tk kk => ⟨.int _, H2, I2.kept kk, ⟨t, rfl⟩, q3 b rr en⟩)
theorem e2h (hK : X.K = K) (hc : X.calm = true) (hg : Gl X "max") (hm : X.mg "max" = none) (ha : PA X [e] ta) (hk : PK X [⟨some "default", d, kp⟩] tk) (hs : starEach [e] X.env = [(false, eval e X.env)] := by rfl)
  (hks : keywordEach [⟨some "default", d, kp⟩] X.env = [(some (Str.ofString "default"), eval d X.env)] := by rfl) : PE X (.Call (.Name "max" p) [e] [⟨some "default", d, kp⟩] pos) (e6p K c8o ta tk) := by
 subst hK
 intro pins s σ H Q I h
 refine wpAny_Call_Name_kw (b5e I hg hm boot_max ?_)
 refine callWith_kw (thn (ha pos pins s σ H _ I h) fun us s1 ⟨vs, H1, I1, r1, q1⟩ => ?_) (by rw [hs]; rfl) (by rw [hs]; rfl) (by rw [hks]; rfl) (by rw [hks]; rfl)
 refine thn (hk pos pins s1 σ H1 _ I1 q1) fun ws s2 ⟨zs, H2, I2, r2, q2⟩ => ?_
 obtain ⟨l, ns, dv, rfl, rfl, sq, q0, q3⟩ := q2
 obtain ⟨u, rfl, ru⟩ := r1.one
 cases ru
 obtain ⟨v, rfl, rv⟩ := r2.one
 obtain ⟨its, r, pl, hz⟩ := I2.list sq
 rw [hks]
 exact g0o (I2.ok.hd hc) pl.isList (a9n r) (fun en h' tk kk => ⟨dv, H2, I2.kept kk, rv, q0 en⟩) (fun b rr en t h' tk kk => ⟨.int _, H2, I2.kept kk, ⟨t, rfl⟩, q3 b rr en⟩)
end
def a1j (es : List Ent) : List Int := es.filterMap id
theorem c0m : ∀ (es : List Ent), Oct.c1f es = match a1j es with
  | [] => none
  | b :: r => some (c8y b r)
 | [] => rfl
 | none :: es => by
  show Oct.a3z none (Oct.c1f es) = _
  rw [c0m es]
  rfl
 | some a :: es => by
  have ih := c0m es
  show Oct.a3z (some a) (Oct.c1f es) = _
  have e1 : a1j (some a :: es) = a :: a1j es := rfl
  rw [e1]
  cases e : a1j es with
  | nil => rw [e] at ih; rw [ih]; rfl
  | cons b r =>
   rw [e] at ih
   rw [ih]
   show some (min a (c8y b r)) = some (c8y a (b :: r))
   have go : ∀ (r : List Int) (x y : Int), c8y (min x y) r = min x (c8y y r) := by
    intro r
    induction r with
    | nil => intro x y; rfl
    | cons z r ih =>
     intro x y
     unfold c8y
     have : (if z < min x y then z else min x y) = min x (if z < y then z else y) := by split <;> split <;> omega
     rw [this]
     exact ih x _
   show _ = some (c8y (if b < a then b else a) r)
   have : (if b < a then b else a) = min a b := by split <;> omega
   rw [this, go]
theorem b9s : ∀ (es : List Ent), Oct.d6g es = match a1j es with
  | [] => 0
  | b :: r => c8o b r
 | [] => rfl
 | none :: es => by
  show Oct.d6g es = _
  rw [b9s es]
  rfl
 | some a :: es => by
  have ih := b9s es
  have e1 : a1j (some a :: es) = a :: a1j es := rfl
  rw [e1]
  unfold Oct.d6g
  have e2 : es.filterMap id = a1j es := rfl
  rw [e2]
  cases e : a1j es with
  | nil => rfl
  | cons b r =>
   rw [e] at ih
   show max a (Oct.d6g es) = c8o a (b :: r)
   rw [ih]
   have go : ∀ (r : List Int) (x y : Int), c8o (max x y) r = max x (c8o y r) := by
    intro r
    induction r with
    | nil => intro x y; rfl
    | cons z r ih =>
     intro x y
     unfold c8o
     have : (if max x y < z then z else max x y) = max x (if y < z then z else y) := by split <;> split <;> omega
     rw [this]
     exact ih x _
   show max a (c8o b r) = c8o (if a < b then b else a) r
   have : (if a < b then b else a) = max a b := by split <;> omega
   rw [this, go]
theorem e8i {X : Cx} {K : PySem.W.Frag} {e : Expr} {T : String} {r : V -> List V -> Hp -> VK -> Prop} {to : TE} {t : TA} (h : X.K = K) (p : PE X e (tBM X.K T r to t)) : PE X e (tBM K T r to t) := by
 subst h
 exact p
end L2
set_option Elab.async false
set_option linter.all false
set_option maxRecDepth 100000
set_option maxHeartbeats 4000000
namespace L2
open PySem PySem.Spec PyProof.Rows
open Sem (wp)
open Builtin Builtin.Str
section
variable {prog : Program} {w : World} {A : Around} {E : Value -> Shared -> Prop} {s : Shared}
theorem d3x {j t : Addr} {i : Nat} {ws : Array Value} {x : Value} {Q : Value -> Shared -> Prop} (J : s.heap.IsTupleIter j t i) (T : s.heap.IsTuple t ws) (hx : ws[i]? = some x)
  (q : ∀ h', h'.IsTupleIter j t (i + 1) -> Heap.SameBut j s.heap h' -> Q x { s with heap := h' }) : wpAny (model prog w) A (Builtin.SmallTypes.nextOf (.ref j)) Q E s := by
 obtain ⟨oj, ej, cj, dj⟩ := id J
 obtain ⟨ot, et, _, m, dt⟩ := T
 unfold Builtin.SmallTypes.nextOf
 refine wpAny_bind (wpAny_callSpecial?_slot (name := Str.ofString "__next__") J.typeIs F.slot_tuple_iterator_next (wpAny_call_entry F.slot_tuple_iterator_next J.typeIs F.entry_tuple_iterator_next ?_ (F.args_tuple_iterator_next_1 _)))
 show wpAny _ _ (field (.ref j) 0 >>= _) _ _ s
 refine wpAny_bind (wpAny_field ej dj (x := .ref t) rfl ?_)
 refine (show wpAny _ _ (if (Value.ref t == Value.none) = true then _ else _) _ _ s from ?_)
 rw [if_neg (by exact Bool.false_ne_true)]
 show wpAny _ _ (field (.ref j) 1 >>= _) _ _ s
 refine wpAny_bind (wpAny_field ej dj (x := .int i 0) rfl ?_)
 refine (show wpAny _ _ (seqItems? (.ref t) >>= _) _ _ s from ?_)
 refine wpAny_bind (wpAny_seqItems et dt ?_)
 simp only [Int.toNat_natCast, hx]
 refine wpAny_bind (wpAny_setField ej dj (by simp) (wpAny_pure ⟨x, rfl, wpAny_pure (q _ ?_ (Heap.SameBut.update ..))⟩))
 exact ⟨_, Heap.get?_update_self _ ej (Obj.isFreed_of_fields (Obj.data_mapFields dj _)), (Obj.cls_mapFields ..).trans cj, by rw [Obj.data_mapFields dj]; simp [rawInt]⟩
theorem c8t {j t : Addr} {i : Nat} {ws : Array Value} {Q : Value -> Shared -> Prop} (hh : A.handled = none) (J : s.heap.IsTupleIter j t i) (T : s.heap.IsTuple t ws) (hx : ws[i]? = none)
  (q : ∀ h' e, Heap.ExtBut j s.heap h' -> (∃ o, h'.get? e = some o /\ o.cls = .type "StopIteration") -> E (.ref e) { s with heap := h' }) : wpAny (model prog w) A (Builtin.SmallTypes.nextOf (.ref j)) Q E s := by
 obtain ⟨oj, ej, cj, dj⟩ := id J
 obtain ⟨ot, et, _, m, dt⟩ := T
 unfold Builtin.SmallTypes.nextOf
 refine wpAny_bind (wpAny_callSpecial?_slot (name := Str.ofString "__next__") J.typeIs F.slot_tuple_iterator_next (wpAny_call_entry F.slot_tuple_iterator_next J.typeIs F.entry_tuple_iterator_next ?_ (F.args_tuple_iterator_next_1 _)))
 show wpAny _ _ (field (.ref j) 0 >>= _) _ _ s
 refine wpAny_bind (wpAny_field ej dj (x := .ref t) rfl ?_)
 refine (show wpAny _ _ (if (Value.ref t == Value.none) = true then _ else _) _ _ s from ?_)
 rw [if_neg (by exact Bool.false_ne_true)]
 show wpAny _ _ (field (.ref j) 1 >>= _) _ _ s
 refine wpAny_bind (wpAny_field ej dj (x := .int i 0) rfl ?_)
 refine (show wpAny _ _ (seqItems? (.ref t) >>= _) _ _ s from ?_)
 refine wpAny_bind (wpAny_seqItems et dt ?_)
 simp only [Int.toNat_natCast, hx]
 refine wpAny_bind (wpAny_rule (wpAny_bind (wpAny_setField ej dj (by simp) ?_)))
 refine (show wpAny _ _ (newExc (.type "StopIteration") [] >>= _) _ _ _ from ?_)
 refine wpAny_bind ?_
 simp only [newExc, newTuple]
 refine (wpAny_bind (wpAny_newObj_type ?_ (by size_fits)))
 refine (wpAny_bind (m := firstArgMember _ _) (wpAny_of_eq (a := Value.none) (by first | rfl | (simp only [firstArgMember]; rfl)) ?_))
 refine (wpAny_newObj_type ?_ (by size_fits))
 simp only [raiseNew]
 refine (wpAny_bind (wpAny_handled ?_))
 rw [hh]
 refine (wpAny_bind (wpAny_pure (wpAny_throw ?_)))
 exact q _ _ (((Heap.SameBut.update ..).extBut.push _).push _) ⟨_, Heap.get?_push_size _ rfl, rfl⟩
theorem d1j {h : Heap} {j t : Addr} {i : Nat} {ws : Array Value} (J : h.IsTupleIter j t i) (T : h.IsTuple t ws) : t ≠ j := fun z => by
 subst z
 obtain ⟨o, e, c, _⟩ := J
 obtain ⟨o2, e2, c2, _⟩ := T
 rw [e] at e2
 cases e2
 rw [c] at c2
 exact absurd c2 (by decide)
theorem e9c {j t : Addr} {its : List Value} (hh : A.handled = none) : Draws prog w A.in1 j [j, t] its.length (fun i x => its[i]? = some x) (fun i h => h.IsTupleIter j t i /\ h.IsTuple t its.toArray) where
 live := fun i h ⟨⟨o, e, _⟩, _⟩ => ⟨o, e⟩
 frame := fun i h h' ⟨J, T⟩ k => ⟨J.at fun o e => k j (by simp) o e, by obtain ⟨o, e, r⟩ := T; exact ⟨o, k t (by simp) o e, r⟩⟩
 item := fun i s Q E hi ⟨J, T⟩ q => d3x J T (x := its[i]) (by simp [hi]) fun h' J' sb => by
  refine q its[i] h' s.toks (by simp [hi]) ⟨J', ?_⟩ sb
  have ne := d1j J T
  obtain ⟨o, e, r⟩ := T
  exact ⟨o, (sb.2 t ne).trans e, r⟩
 done := fun s Q E ⟨J, T⟩ q => c8t (show A.in1.handled = none from hh) J T (by simp) q
theorem d7x {e j t : Addr} {i : Nat} {ws : Array Value} {old : Value} {Q : Option Value -> Shared -> Prop} (hh : A.handled = none) (he : IsEnum s.heap e j i old) (J : s.heap.IsTupleIter j t i) (T : s.heap.IsTuple t ws) (hx : ws[i]? = none)
  (q : ∀ h', Heap.ExtBut j s.heap h' -> Q none { s with heap := h' }) : wpAny (model prog w) A (pyNext (.ref e)) Q E s := by
 have hT : s.TypeIs (.ref e) "enumerate" := (⟨_, he, rfl⟩)
 unfold pyNext
 refine wpAny_bind (wpAny_attempt (wpAny_callSpecial?_slot (name := Str.ofString "__next__") hT F.slot_enumerate_next (wpAny_call_entry F.slot_enumerate_next hT F.entry_enumerate_next ?_ (F.args_enumerate_next_1 _))))
 refine (show wpAny _ _ (field (.ref e) 2 >>= _) _ _ _ from ?_)
 refine wpAny_bind (wpAny_field he rfl (x := .ref j) rfl ?_)
 refine wpAny_bind (c8t (show A.in1.handled = none from hh) J T hx fun h' x he' hx' => ?_)
 obtain ⟨ox, ex, cx⟩ := hx'
 refine wpAny_bind (wpAny_isInstance (T := "StopIteration") (b := true) ⟨ox, ex, cx⟩ isSubtype_stop ?_)
 exact wpAny_pure (q _ he')
open AutoSeq1 (wpAny_loadPart')
theorem newT (t : Addr) (ws : Array Value) (n : Nat) (dct : Option Addr) (sl : Array (Option Value)) :
  Meets (Builtin.«enumerate.__new__» ⟨[.type "enumerate", .ref t], []⟩) (fun _ R s => s.heap.get? t = some { cls := .type "tuple", dict := dct, data := .seq ws n, slots := sl } /\
   R (.ok (.ret (.ref (s.heap.push { cls := .type "tuple_iterator", data := .fields #[.ref t, .int 0 0] }).objs.size)))
    { s with heap := (s.heap.push { cls := .type "tuple_iterator", data := .fields #[.ref t, .int 0 0] }).push { cls := .type "enumerate", data := .fields #[.none, .bool false, .ref s.heap.objs.size, rawInt 0, .none, .none] } }) :=
 .of_wp fun prog w A R s h => by
  obtain ⟨hp, g, d, tk, os⟩ := s
  obtain ⟨et, h⟩ := h
  have hsub := sub_enumerate
  have hT : Heap.IsTuple (Shared.heap ⟨hp, g, d, tk, os⟩) t ws := ⟨_, et, rfl, n, rfl⟩
  wp_walk using wpAny_loadPart' et
  refine wpAny_stack_any fun st => wpAny_pure ?_
  split
  · rename_i c _ _ _ _ _
    cases (c == Value.type "enumerate")
    · wp_walk using wpAny_loadPart' et, wpAny_pyIter_tuple hT
      exact ⟨_, rfl, h⟩
    · wp_walk using wpAny_loadPart' et, wpAny_pyIter_tuple hT
      exact ⟨_, rfl, h⟩
  · wp_walk using wpAny_loadPart' et, wpAny_pyIter_tuple hT
    exact ⟨_, rfl, h⟩
theorem d3v {t : Addr} {ws : Array Value} {Q : Value -> Shared -> Prop} (hT : s.heap.IsTuple t ws)
  (h : ∀ h', IsEnum h' (s.heap.objs.size + 1) s.heap.objs.size 0 .none -> h'.IsTupleIter s.heap.objs.size t 0 -> h'.objs.size = s.heap.objs.size + 2 -> (∀ b o, s.heap.get? b = some o -> h'.get? b = some o) -> Q (.ref (s.heap.objs.size + 1)) { s with heap := h' }) :
  wpAny (model prog w) A (call (.type "enumerate") [.ref t]) Q E s := by
 obtain ⟨⟨c, dct, dt, sl⟩, et, hc, n, hd⟩ := hT
 replace hc : c = .type "tuple" := hc
 replace hd : dt = .seq ws n := hd
 subst hc hd
 refine callType_new F.called_enumerate (by decide) (F.typeCall_enumerate_1 _) (F.newCall_enumerate_1 _) (fun obj => F.args_object_init_2 obj _) F.entry_enumerate_new (newT t ws n dct sl) ⟨et, ?_⟩
 have hz : (s.heap.push { cls := .type "tuple_iterator", data := .fields #[.ref t, .int 0 0] }).objs.size = s.heap.objs.size + 1 := Heap.size_push ..
 show _ /\ _
 rw [hz]
 have he : IsEnum ((s.heap.push { cls := .type "tuple_iterator", data := .fields #[.ref t, .int 0 0] }).push { cls := .type "enumerate", data := .fields #[.none, .bool false, .ref s.heap.objs.size, rawInt 0, .none, .none] }) (s.heap.objs.size + 1) s.heap.objs.size 0 .none := by
  have z := Heap.get?_push_size (s.heap.push { cls := .type "tuple_iterator", data := .fields #[.ref t, .int 0 0] }) (o := { cls := .type "enumerate", data := .fields #[.none, .bool false, .ref s.heap.objs.size, rawInt 0, .none, .none] }) rfl
  rw [hz] at z; exact z
 refine ⟨⟨_, he, rfl⟩, h _ he ⟨_, Heap.get?_push_of_some _ (Heap.get?_push_size _ rfl), rfl, rfl⟩ (by rw [Heap.size_push, hz]) fun b o x => Heap.get?_push_of_some _ (Heap.get?_push_of_some _ x)⟩
end
def Itm (K : PySem.W.Frag) (a : Addr) : It :=
 ⟨fun i H => ∃ xs x, SqT K H a xs /\ xs[i]? = some x, fun i H v H' => ∃ T x, v = .ref T /\ H T = none /\ H' = upd H T (.tup [.int i, x]) /\ ∀ xs, SqT K H a xs -> xs[i]? = some x, fun i H => ∃ xs, SqT K H a xs /\ xs.length <= i⟩
theorem d3i {P : Program} {w : World} {K : PySem.W.Frag} {elts : List Expr} {k : Nat} {tp : Pos} (a e it : Addr) (hne : e ≠ it) (hna : e ≠ a) : d8i P w K (.Tuple elts k tp) (Itm K a) [e, it] e (fun i h => (∃ old, IsEnum h e it i old) /\ h.IsTupleIter it a i) where
 mem := by simp
 obj := fun i h st b hb => by
  obtain ⟨⟨old, he⟩, o, eo, c, d⟩ := st
  have hb' : b = e \/ b = it := by simpa using hb
  rcases hb' with z | z
  · subst z
    exact ⟨_, he, fun v z => by
     have z' : Data.fields _ = Data.cell v := z
     cases z'⟩
  · subst z
    exact ⟨o, eo, fun v z => by rw [d] at z; cases z⟩
 keep := fun i h h' st k => ⟨⟨st.1.choose, k e (by simp) _ st.1.choose_spec⟩, st.2.at fun o eo => k it (by simp) o eo⟩
 item := by
  intro X hP hw hK hc i pins s σ H E I hf st hg
  subst hP hw hK
  obtain ⟨⟨old, he⟩, st⟩ := st
  obtain ⟨xs, x, hq, hx⟩ := hg
  obtain ⟨its, rv, p, hz⟩ := I.tuple hq
  obtain ⟨u, hu, ru⟩ := rv.get hx
  have hlt : i < its.length := (List.getElem?_eq_some_iff.mp hu).1
  refine wpAny_pyNext_enum_itemD (e9c (its := its) (I.ok.hd hc)) he ⟨st, p⟩ hlt hne (by simp [hne, hna]) fun u2 h' tk hP ho hst hT hsz hk => ?_
  rw [hu] at hP
  cases hP
  refine ⟨_, rfl, wpAny_letOwnedTupleGo_enum ho fun h2 he2 hs2 => ?_⟩
  have helt : e < s.heap.objs.size := Heap.lt_size he
  have kk : ∀ b o, b ∉ [e, it] -> s.heap.get? b = some o -> h2.get? b = some o := fun b o hb q => by
   have hb' : b ≠ e /\ b ≠ it := by simpa using hb
   exact (hs2.2 b hb'.1).trans (hk b o hb'.1 hb'.2 q)
  have I2 : Inv X pins σ (upd H s.heap.objs.size (.tup [.int i, x])) { s with heap := h2, toks := tk + 1 } := I.turnedT (xs := [.int i, x]) (us := [.int i tk, u]) hf kk (Nat.le_refl _) ⟨_, (hs2.2 _ (Nat.ne_of_gt helt)).trans hT, rfl, _, rfl⟩ (.cons ⟨_, rfl⟩ (.cons ru .nil)) (sz 2)
  refine ⟨.ref s.heap.objs.size, _, I2, rfl, ⟨_, x, rfl, I.hok.fresh (Nat.le_refl _), rfl, fun ys hy => by rw [I.tuple_inj hy hq]; exact hx⟩, ?_, fun b hb => ?_⟩
  · exact ⟨⟨u, by simpa using he2⟩, hst.1.at fun o y => (hs2.2 it hne.symm).trans y⟩
  · have : b < s.heap.objs.size := by
     have hb' : b = e \/ b = it := by simpa using hb
     rcases hb' with z | z
     · rw [z]; exact helt
     · obtain ⟨o, eo, _⟩ := st
       rw [z]; exact Heap.lt_size eo
    rw [a1z (Nat.ne_of_lt this)]
    exact (hf b hb).1
 done := by
  intro X hP hw hK hc i pins s σ H E I hf st hg
  subst hP hw hK
  obtain ⟨⟨old, he⟩, st⟩ := st
  obtain ⟨xs, hq, hx⟩ := hg
  obtain ⟨its, rv, p, hz⟩ := I.tuple hq
  have hl := rv.length
  exact d7x (I.ok.hd hc) he st p (by simp; omega) fun h' eb => ⟨rfl, I.turnedL (t' := s.toks) hf fun b o hb q => eb b o (fun z => hb (by simp [z])) q⟩
 self := fun _ _ _ _ _ st h => by
  obtain ⟨⟨old, he⟩, _⟩ := st
  exact wpAny_pyIter_enum he h
def e1v (K : PySem.W.Frag) (ta : TA) : TI := fun σ H R => ta σ H fun vs H1 => ∃ a, vs = [.ref a] /\ (∃ xs, SqT K H1 a xs) /\ R (Itm K a) H1
theorem d9x {X : Cx} {elts : List Expr} {k : Nat} {tp : Pos} {a : Expr} {ta : TA} {p pos : Pos} (hg : Gl X "enumerate") (hm : X.mg "enumerate" = none) (ha : PA X [a] ta) (hs : starEach [a] X.env = [(false, eval a X.env)] := by rfl) :
  PI X (.Tuple elts k tp) (.Call (.Name "enumerate" p) [a] [] pos) (e1v X.K ta) := by
 intro pins s σ H R I h
 refine Call_ (b5e I hg hm boot_enumerate (PyProof.Rows.callWith_type1 (thn (ha pos pins s σ H _ I h) fun us s1 ⟨vs, H1, I1, r1, q1⟩ => ?_) hs rfl))
 obtain ⟨l, e, ⟨xs, hq⟩, q⟩ := q1
 subst e
 obtain ⟨u, rfl, ru⟩ := r1.one
 cases ru
 obtain ⟨its, rv, pl, hz⟩ := I1.tuple hq
 have llt : l < s1.heap.objs.size := by obtain ⟨o, eo, _⟩ := id pl; exact Heap.lt_size eo
 refine d3v (show s1.heap.IsTuple l its.toArray from pl) fun h' he hit hsz hk => wpAny_pyIter_enum he ?_
 refine ⟨s1.heap.objs.size + 1, [s1.heap.objs.size + 1, s1.heap.objs.size], _, _, H1, rfl, I1.kept (t' := s1.toks) hk, d3i l _ _ (Nat.succ_ne_self _) (Nat.ne_of_gt (Nat.lt_succ_of_lt llt)), ⟨⟨_, he⟩, hit⟩, fun b hb => ?_, q⟩
 have hb' : b = s1.heap.objs.size + 1 \/ b = s1.heap.objs.size := by simpa using hb
 have hle : s1.heap.objs.size <= b := by rcases hb' with z | z <;> rw [z]; exact Nat.le_succ _; exact Nat.le_refl _
 exact I1.fpOk hle (I1.hok.fresh hle)
theorem d8o {X : Cx} {K : PySem.W.Frag} {elts : List Expr} {k : Nat} {tp : Pos} {a : Expr} {ta : TA} {p pos : Pos} (h : X.K = K) (hg : Gl X "enumerate") (hm : X.mg "enumerate" = none) (ha : PA X [a] ta) (hs : starEach [a] X.env = [(false, eval a X.env)] := by rfl) :
  PI X (.Tuple elts k tp) (.Call (.Name "enumerate" p) [a] [] pos) (e1v K ta) := by subst h; exact d9x hg hm ha hs
theorem d4x {K : PySem.W.Frag} {a : Addr} {xs : List V} {u v : Nat} {tb : TS} {D : d8c} {σ : St} {H : Hp} (Pv : Nat -> St -> Hp -> Prop) (h0 : Pv 0 σ H) (hl : ∀ i σ H, i <= xs.length -> Pv i σ H -> SqT K H a xs)
  (hs : ∀ i x σ H H', xs[i]? = some x -> Pv i σ H -> a1i H H' -> tb { D with nx := Pv (i + 1), ct := Pv (i + 1), bk := D.nx } ((σ.set u (some (.int i))).set v (some x)) H') (hd : ∀ σ H, Pv xs.length σ H -> D.nx σ H) :
  ∃ W : Nat -> Nat -> St -> Hp -> Prop, (∃ m, W 0 m σ H) /\ ∀ i m σ H, W i m σ H ->
   ((Itm K a).stop i H /\ D.nx σ H) \/ ((Itm K a).go i H /\ ∃ N : St -> Hp -> Prop, (∀ σ' H', N σ' H' -> ∃ m', m' < m /\ W (i + 1) m' σ' H') /\ ∀ x H', (Itm K a).yld i H x H' -> d9m K u v x σ H' fun σ2 H2 => tb { D with nx := N, ct := N, bk := D.nx } σ2 H2) := by
 refine ⟨fun i m σ H => m = xs.length - i /\ i <= xs.length /\ Pv i σ H, ⟨xs.length, by simp, Nat.zero_le _, h0⟩, ?_⟩
 rintro i m σ H ⟨rfl, hi, p⟩
 have q := hl i σ H hi p
 by_cases hlt : i < xs.length
 · refine .inr ⟨⟨xs, xs[i], q, by simp [hlt]⟩, Pv (i + 1), fun σ' H' p' => ⟨xs.length - (i + 1), by omega, rfl, hlt, p'⟩, fun x H' y => ?_⟩
   obtain ⟨T, x, rfl, hT, rfl, y⟩ := y
   exact ⟨T, [.int i, x], rfl, SqT.of a0g, rfl, _, _, rfl, _, _, rfl, rfl, hs i x σ H _ (y xs q) p (a0i hT _)⟩
 · have e : i = xs.length := by omega
   subst e
   exact .inl ⟨⟨xs, q, Nat.le_refl _⟩, hd σ H p⟩
end L2
set_option Elab.async false
set_option linter.all false
set_option maxRecDepth 100000
set_option maxHeartbeats 4000000
namespace L2
open PySem PySem.Spec PyProof.Rows
def d7k : List Expr -> Option (List Int × Expr)
 | [] => none
 | [e] => some ([], e)
 | .Constant (.int i) _ _ :: e :: es => (d7k (e :: es)).map fun r => (i :: r.1, r.2)
 | _ :: _ :: _ => none
theorem d2r {X : Cx} {ta : TA} : ∀ {es : List Expr} {ns : List Int} {e : Expr}, d7k es = some (ns, e) -> PA X [e] ta -> PA X es (fun σ H Q => ta σ H fun xs H1 => Q (ns.map V.int ++ xs) H1)
 | [], ns, e, h, _ => by cases h
 | [x], ns, e, h, p => by
  cases h
  exact p
 | x :: y :: es, ns, e, h, p => by
  unfold d7k at h
  split at h
  · rename_i q; cases q
  · rename_i q; cases q
  · rename_i i k p' y' es' q
    cases q
    cases e2 : d7k (y :: es) with
    | none => rw [e2] at h; cases h
    | some r =>
     obtain ⟨ms, e3⟩ := r
     rw [e2] at h
     have h' : (i :: ms, e3) = (ns, e) := Option.some.inj h
     cases h'
     exact a2i (te := tC (.int i)) a0d (d2r e2 p) (by rfl)
  · cases h
theorem d3r (X : Cx) (K : PySem.W.Frag) (es : List Expr) (ns : List Int) (e : Expr) (ta : TA) (idx : Expr) (ti : TE) (p2 p3 pos : Pos) (hK : X.K = K) (he : d7k es = some (ns, e)) (hp : PA X [e] ta) (hidx : PE X idx ti) (hpl : c5a idx) :
  PS X (.Return (some (.Subscript (.List es p2) idx p3)) pos) (e5i (tOp (e4y K) (e7r (fun σ H Q => ta σ H fun xs H1 => Q (ns.map V.int ++ xs) H1)) ti)) :=
 a0l (e4q (d3a hK) (a2n (d2r he hp)) hidx hpl)
end L2
set_option Elab.async false
set_option linter.all false
set_option maxRecDepth 100000
set_option maxHeartbeats 4000000
namespace L2
open PySem PySem.Spec PyProof.Rows
theorem c4e {X : Cx} {K : PySem.W.Frag} (h : X.K = K) : OpR X (compareOp .NotIn) (rIn K true) := by subst h; exact c5p
end L2
set_option Elab.async false
set_option linter.all false
set_option maxRecDepth 100000
set_option maxHeartbeats 4000000
namespace L2
open PySem PySem.Spec PyProof.Rows
structure b3s (P : Program) (w : World) (K : PySem.W.Frag) (mg : Str -> Option Value) (base : Heap) (CX : CXT) (k : Nat) (ps : List Str) (sp : Sp) (f : Addr) : Prop where
 ex : ∃ fd, c6n P w K mg base CX k f fd ps sp /\ c1l K fd ps []
section
variable {X : Cx} {CX : CXT} {k : Nat} {m x : Str} {ps : List Str} {sp : Sp} {E : XK} {e o : Expr} {es : List Expr} {t : TA} {ta : TE} {p pos apos : Pos} {f C : Addr} {K : PySem.W.Frag}
theorem a3g {pl : Sem Bool} (F : b3s X.prog X.w X.K X.mg X.base CX k ps sp f) (c : Cls X.K C) (hm : d7y X.K C m f) (he : PE X o ta) (hr : b5x k X.A) (hx : b5i CX X E) (ha : PA X (e :: es) t)
  (hst : starEach (e :: es) X.env = (false, eval e X.env) :: starEach es X.env := by rfl) (hpl : (backTo pos (starEach es X.env)).any (·.1) = false := by rfl)
  (ht : eval (.Call (.Attribute o m apos) (e :: es) [] pos) X.env = (do
   let ov ← eval o X.env
   standAt apos.atName
   let (f, first) ← holding [ov] (getMethod ov m pl)
   callWith pos f first (backTo pos (starEach (e :: es) X.env)) (backToKw pos (keywordEach [] X.env))) := by rfl) :
  PE X (.Call (.Attribute o m apos) (e :: es) [] pos) (c1s C m sp [] E ta t) := by
 obtain ⟨fd, G, b⟩ := F.ex
 exact e4v (pl := pl) he c hm G hr b .nil hx ha hst hpl ht
theorem d0u (F : b3s X.prog X.w X.K X.mg X.base CX k ps sp f) (M : Mk X.K C f) (hm : X.mg x = some (.ref C)) (hr : b5x (k + 1) X.A) (hg : Gl X x) (hx : b5i CX X E)
  (ha : PA X (e :: es) t) (hdb : (x == ("__debug__" : Str)) = false := by decide) (he : starEach (e :: es) X.env = (false, eval e X.env) :: starEach es X.env := by rfl) (hpl : (backTo pos (starEach es X.env)).any (·.1) = false := by rfl) :
  PE X (.Call (.Name x p) (e :: es) [] pos) (e6n C sp [] E t) := by
 obtain ⟨fd, G, b⟩ := F.ex
 exact e3y M G hr hg hm b .nil hx ha hdb he hpl
structure MkO (K : PySem.W.Frag) (C : Addr) : Prop where
 makes : PySem.W.makesIn K C = true
 init : PySem.W.findIn K (.ref C) "__init__" = some (some (.builtin "object.__init__"))
 kp : PySem.W.keepIn K (.ref C) = true
def e6c (C : Addr) : TE := fun _ H Q => ∀ x dx, H x = none -> H dx = none -> dx ≠ x -> Q (.ref x) (upd (upd H dx (.own x)) x (.ins C dx []))
theorem e1i (M : MkO X.K C) (hm : X.mg x = some (.ref C)) (hg : Gl X x) (hdb : (x == ("__debug__" : Str)) = false := by decide) : PE X (.Call (.Name x p) [] [] pos) (e6c C) := by
 intro pins s σ H Q I h
 refine wpAny_Call_Name_kw (c9z I hg hm ?_ hdb)
 refine PySem.W.callWith_K0 I.kIn M.kp ?_
 have hq := h (s.heap.objs.size + 1) s.heap.objs.size (I.hok.fresh (Nat.le_succ _)) (I.hok.fresh (Nat.le_refl _)) (Nat.ne_of_lt (Nat.lt_succ_self _))
 have I2 := Inv.made (C := C) I
 refine wpAny_call (d6m I.kIn M.makes M.init (fun self => PySem.W.Looks.of_pure (PySem.W.oi_bind self)) ?_)
 have Y := PySem.W.makes_of (M := model X.prog X.w) I.kIn M.makes
 have e2 : ((s.heap.push PySem.W.emptyDict).push (PySem.W.instObj C s.heap.objs.size)).get? (s.heap.objs.size + 1) = some (PySem.W.instObj C s.heap.objs.size) := by
  have z := Heap.get?_push_size (s.heap.push PySem.W.emptyDict) (o := PySem.W.instObj C s.heap.objs.size) rfl
  rwa [Heap.size_push] at z
 have t1 : PySem.W.Looks (model X.prog X.w) ((s.heap.push PySem.W.emptyDict).push (PySem.W.instObj C s.heap.objs.size)) (typeOf (.ref (s.heap.objs.size + 1))) (.ref C) := (PySem.W.Looks.ld e2).andThen .now
 have t2 : PySem.W.Looks (model X.prog X.w) ((s.heap.push PySem.W.emptyDict).push (PySem.W.instObj C s.heap.objs.size)) (isInstance (.ref (s.heap.objs.size + 1)) (.type "object")) true := t1.andThen (Y.top.keeps fun b o e => Heap.get?_push_of_some _ (Heap.get?_push_of_some _ e))
 refine codeAny_call_builtin PySem.W.oi_plain PySem.W.entry_oi (PySem.W.check_slot PySem.W.oi_kind PySem.W.oi_split t2 (PySem.W.oi_args _) ?_)
 rw [PySem.W.oi_run]
 exact wpAny_pure (And.intro rfl ⟨V.ref (s.heap.objs.size + 1), _, I2, rfl, hq⟩)
theorem a2u {e : Expr} {t1 t2 : TE} (h1 : PE X e t1) (h2 : PE X e t2) : PE X e (fun σ H Q => t1 σ H Q \/ t2 σ H Q) := fun pins s σ H Q I h => h.elim (fun z => h1 pins s σ H Q I z) fun z => h2 pins s σ H Q I z
theorem a6o (h : X.K = K) {f : Str} (he : PE X o ta) (hb : attributeBase o f X.env (eval o X.env) = eval o X.env := by rfl) : PE X (.Attribute o f pos) (e9z K ta f) := by subst h; exact e5w he hb
theorem b7b (h : X.K = K) {f : Str} {value : Expr} {tv : TE} {pos' : Pos} (ha : PE X o ta) (hv : PE X value tv) (hs : swapsWith value (some (.Attribute o f pos')) pos.line X.env = pure false := by rfl) : PS X (.Assign [.Attribute o f pos'] value pos) (e9p K ta tv f) := by subst h; exact e5l ha hv hs
end
theorem c1d {K : PySem.W.Frag} {a p : Addr} {xs : List V} {tc : TT} {te : TE} {σ : St} {H : Hp} {Z : Hp -> Prop} (Pv : Nat -> List V -> Hp -> Prop) (h0 : Pv 0 [] (upd H p (.lst []))) (hl : ∀ i ys H, i <= xs.length -> Pv i ys H -> SqT K H a xs)
  (hs : ∀ i x ys H, xs[i]? = some x -> Pv i ys H -> tc (some x :: σ) H fun b H2 =>
   if b = true then te (some x :: σ) H2 fun v H3 => H3 p = some (.lst ys) /\ ys.length < sizeLine /\ ∃ m', m' < xs.length - i /\ m' = xs.length - (i + 1) /\ i + 1 <= xs.length /\ Pv (i + 1) (ys ++ [v]) (upd H3 p (.lst (ys ++ [v]))) else ∃ m', m' < xs.length - i /\ m' = xs.length - (i + 1) /\ i + 1 <= xs.length /\ Pv (i + 1) ys H2)
  (hd : ∀ ys H, Pv xs.length ys H -> Z H) :
  ∃ W : Nat -> Nat -> List V -> Hp -> Prop, (∃ m, W 0 m [] (upd H p (.lst []))) /\ ∀ i m ys H, W i m ys H ->
   ((Itt K a).stop i H /\ Z H) \/ ((Itt K a).go i H /\ ∀ x H', (Itt K a).yld i H x H' -> tc (some x :: σ) H' fun b H2 =>
     if b = true then te (some x :: σ) H2 fun v H3 => H3 p = some (.lst ys) /\ ys.length < sizeLine /\ ∃ m', m' < m /\ W (i + 1) m' (ys ++ [v]) (upd H3 p (.lst (ys ++ [v])))
     else ∃ m', m' < m /\ W (i + 1) m' ys H2) := by
 refine ⟨fun i m ys H => m = xs.length - i /\ i <= xs.length /\ Pv i ys H, ⟨xs.length, by simp, Nat.zero_le _, h0⟩, ?_⟩
 rintro i m ys H ⟨rfl, hi, pv⟩
 have q := hl i ys H hi pv
 by_cases hlt : i < xs.length
 · refine .inr ⟨⟨xs, xs[i], q, by simp [hlt]⟩, fun x H' y => ?_⟩
   obtain ⟨e, y⟩ := y
   subst e
   exact hs i x ys _ (y xs q) pv
 · have e : i = xs.length := by omega
   subst e
   exact .inl ⟨⟨xs, q, Nat.le_refl _⟩, hd ys H pv⟩
section
variable {X : Cx} {x : Str} {px pos : Pos} {sc : Scope} {M : List Str} {elt iter : Expr} {wi : TI} {te : TE}
end
end L2
set_option Elab.async false
set_option linter.all false
set_option maxRecDepth 100000
set_option maxHeartbeats 4000000
namespace L2
open PySem PySem.Spec PyProof.Rows
section
variable {P : Program} {w : World} {A : Around} {s : Shared} {E : Value -> Shared -> Prop} {Q : Value -> Shared -> Prop}
end
variable {X : Cx}
end L2
set_option Elab.async false
set_option linter.all false
set_option maxRecDepth 100000
set_option maxHeartbeats 4000000
namespace L2
open PySem PySem.Spec PyProof.Rows
section
variable {prog : Program} {w : World} {A : Around} {E : Value -> Shared -> Prop} {s : Shared}
end
section
variable {X : Cx} {pos : Pos}
end
end L2
set_option Elab.async false
set_option linter.all false
set_option maxRecDepth 100000
set_option maxHeartbeats 4000000
namespace L2
open PySem PySem.Spec PyProof.Rows
section
variable {X : Cx} {M : List Str} {x : Str} {sc : Scope} {px pos : Pos} {elt iter : Expr} {ifs : List Expr} {wi : TI} {tc : TT} {te : TE}
theorem c9e {pins : List (Addr × Obj)} {σ : St} {s2 : Shared} {H2 : Hp} {it : Addr} {fp : List Addr} {tn : Nat -> Heap -> Prop} {J : It} {Q : VK} {E : Value -> Shared -> Prop} {RR : Value -> Addr -> Result -> Shared -> Prop}
  (S : a1q X.N M X.env.scope x sc) (hc : X.calm = true) (hif : ∀ fp s3 H3, PIf (a1p X M x sc fp s3 H3) ifs tc) (he : ∀ fp s3 H3, PE (a1p X M x sc fp s3 H3) elt te)
  (I2 : Inv X pins σ H2 s2) (T : d8i X.prog X.w X.K (.Name x px) J fp it tn) (st2 : tn 0 s2.heap) (f2 : ∀ b ∈ fp, b1g X pins H2 b)
  (h : ∀ p, H2 p = none -> ∃ W : Nat -> Nat -> List V -> Hp -> Prop, (∃ m, W 0 m [] (upd H2 p (.lst []))) /\ ∀ i m ys H, W i m ys H ->
   (J.stop i H /\ Q (.ref p) H) \/ (J.go i H /\ ∀ x H', J.yld i H x H' -> tc (some x :: σ) H' fun b H2 =>
    if b = true then te (some x :: σ) H2 fun v H3 => H3 p = some (.lst ys) /\ ys.length < sizeLine /\ ∃ m', m' < m /\ W (i + 1) m' (ys ++ [v]) (upd H3 p (.lst (ys ++ [v])))
    else ∃ m', m' < m /\ W (i + 1) m' ys H2))
  (hRR : ∀ (s3 : Shared) (H3 : Hp) (s' : Shared) (σ' : St) (H' : Hp), Inv X pins σ H3 s3 -> (∀ b ∈ fp, b1g X pins H3 b) -> Inv (a1p X M x sc fp s3 H3) [] σ' H' s' -> Q (.ref s2.heap.objs.size) H' -> RR (.ref s2.heap.objs.size) s3.heap.objs.size (.ok .next) s') :
  wpAny (model X.prog X.w) X.A (newList []) (fun acc s₃ => wpAny (model X.prog X.w) X.A (newFunctionEnv sc X.env.globals (c4u sc X.env) [] X.env.qual none .none (some X.env)) (fun cenv s₄ =>
   codeAny (model X.prog X.w) X.A (.compStart (.ListComp elt [⟨.Name x px, iter, ifs, 0⟩] sc pos) 0 (.ref it) acc { cenv with scope := relabel sc X.env }) (RR acc cenv.locals) s₄) E s₃) E s2 := by
 obtain ⟨W, ⟨m0, w0⟩, turn⟩ := h s2.heap.objs.size I2.fresh
 refine wpAny_newList ?_
 have I3 : Inv X pins σ (upd H2 s2.heap.objs.size (.lst [])) { s2 with heap := s2.heap.push { cls := .type "list", data := .seq ([] : List Value).toArray } } := I2.lnew (ys := []) (t' := s2.toks) .nil (Nat.zero_le _)
 have fpl : ∀ b ∈ fp, b < s2.heap.objs.size := fun b hb => by
  obtain ⟨o, e, _⟩ := T.obj _ _ st2 b hb
  exact Heap.lt_size e
 have f3 : ∀ b ∈ fp, b1g X pins (upd H2 s2.heap.objs.size (.lst [])) b := fun b hb => ⟨by rw [a1z (Nat.ne_of_lt (fpl b hb))]; exact (f2 b hb).1, (f2 b hb).2⟩
 have st3 : tn 0 (s2.heap.push { cls := .type "list", data := .seq ([] : List Value).toArray }) := T.keep _ _ _ st2 fun b _ o e => Heap.get?_push_of_some _ e
 generalize hs3 : ({ s2 with heap := s2.heap.push { cls := .type "list", data := .seq ([] : List Value).toArray } } : Shared) = s3 at *
 have st3' : tn 0 s3.heap := by rw [← hs3]; exact st3
 have fpl3 : ∀ b ∈ fp, b < s3.heap.objs.size := fun b hb => by
  obtain ⟨o, e, _⟩ := T.obj _ _ st3' b hb
  exact Heap.lt_size e
 refine wpAny_newFunctionEnv S.nocell (by intro y hy; simp at hy) (fun h₁ hns₁ hsb₁ => ?_) S.kind
 have keep4 : ∀ b o, s3.heap.get? b = some o -> h₁.get? b = some o := fun b o e => (hsb₁.2 b (Nat.ne_of_lt (Heap.lt_size e))).trans (Heap.get?_push_of_some _ e)
 have I4 := c8r (fp := fp) (tk := s3.toks + ([] : List (Str × Value)).length) S I3 f3 fpl3 keep4 hns₁
 have st4 : tn 0 h₁ := T.keep _ _ _ st3' fun b _ o e => keep4 b o e
 generalize hs4 : ({ s3 with heap := h₁, toks := s3.toks + ([] : List (Str × Value)).length } : Shared) = s4 at *
 have st4' : tn 0 s4.heap := by rw [← hs4]; exact st4
 generalize hH3 : upd H2 s2.heap.objs.size (.lst []) = H3 at *
 have stat : ∀ {H' : Hp}, (∀ b ∈ fp, H' b = none) -> ∀ b ∈ fp, b1g (a1p X M x sc fp s3 H3) [] H' b := fun hn b hb =>
  ⟨hn b hb, Nat.ne_of_lt (fpl3 b hb), I4.ok.exfs b hb, .inl hb, fun y c e => (f3 b hb).2.2.2.2.1 y c (S.sub I3.ok e), fun p hp => absurd (show p ∈ ([] : List (Addr × Obj)) from hp) (by simp)⟩
 have loop : codeAny (model X.prog X.w) X.A (.compLoop (.ListComp elt [⟨.Name x px, iter, ifs, 0⟩] sc pos) 0 (.ref it) (.ref s2.heap.objs.size) (a1p X M x sc fp s3 H3).env) (RR (.ref s2.heap.objs.size) s3.heap.objs.size) s4 := by
  refine codeAny_compLoop_tests (fun n s' => ∃ i o ys H', Inv (a1p X M x sc fp s3 H3) [] (o :: σ) H' s' /\ tn i s'.heap /\ (∀ b ∈ fp, H' b = none) /\ W i n ys H') ?_ m0 ⟨0, none, [], H3, I4, st4', fun b hb => (f3 b hb).1, w0⟩
  rintro n s5 ⟨i, o, ys, H5, I5, st5, fr5, w5⟩
  rcases turn i n ys H5 w5 with ⟨stop, q⟩ | ⟨go, step⟩
  · refine wpAny_mono (T.done (a1p X M x sc fp s3 H3) rfl rfl rfl hc i [] s5 (o :: σ) H5 (fun _ _ => False) I5 (stat fr5) st5 stop) (fun r s6 ⟨hr, I6⟩ => ?_) fun _ _ z => z.elim
    subst hr
    exact hRR s3 H3 s6 _ H5 I3 f3 I6 q
  · refine wpAny_mono (T.item (a1p X M x sc fp s3 H3) rfl rfl rfl hc i [] s5 (o :: σ) H5 (fun _ _ => False) I5 (stat fr5) st5 go) (fun r s6 ⟨u, hr, h6⟩ => ?_) fun _ _ z => z.elim
    subst hr
    refine of_pure (a := ()) h6 fun ⟨xv, H6, I6, r6, y6, st6, fr6⟩ => ?_
    have I6' := I6.pinned (stat fr6) (T.obj _ _ st6)
    have hx : (relabel sc X.env).names.lookup x = some .local := lookup_relabel_local S.here
    refine wpAny_mono (b6r (X := a1p X M x sc fp s3 H3) (i := 0) (pos := px) (show (a1p X M x sc fp s3 H3).N.Nodup from S.nd) rfl (.inl hx) (.inr hx) _ s6 (o :: σ) H6 xv u (fun σ' H' => σ' = some xv :: σ /\ H' = H6) I6' r6 ⟨rfl, rfl⟩) (fun _ s7 ⟨σ7, H7, I7, e7, e7'⟩ => ?_) fun _ _ z => z.elim
    subst e7 e7'
    have a2j : ∀ {H' : Hp} {s' : Shared} {ys' : List V}, Inv (a1p X M x sc fp s3 H3) ([] ++ b7g fp s6.heap) (some xv :: σ) H' s' -> (∃ m', m' < n /\ W (i + 1) m' ys' H') ->
      ∃ m, m < n /\ ∃ i o ys H', Inv (a1p X M x sc fp s3 H3) [] (o :: σ) H' s' /\ tn i s'.heap /\ (∀ b ∈ fp, H' b = none) /\ W i m ys H' := fun {H' s' ys'} I' ⟨m', hm, w'⟩ => by
     refine ⟨m', hm, i + 1, some xv, ys', H', I'.unpinned, T.keep _ _ _ st6 fun b hb ob e => (I'.pin (b, ob) (List.mem_append_right _ (List.mem_append_right _ (a3x hb e)))).1, fun b hb => ?_, w'⟩
     obtain ⟨ob, e, d⟩ := T.obj _ _ st6 b hb
     exact (I'.pin (b, ob) (List.mem_append_right _ (List.mem_append_right _ (a3x hb e)))).2.1
    refine wpAny_mono (hif fp s3 H3 _ s7 _ H7 _ I7 (step xv H7 y6)) (fun ok s8 ⟨H8, I8, q8⟩ => ?_) fun _ _ z => z.elim
    cases ok with
    | false =>
     rw [if_neg Bool.false_ne_true] at q8 ⊢
     exact a2j I8 q8
    | true =>
     rw [if_pos rfl] at q8 ⊢
     refine wpAny_mono (he fp s3 H3 _ s8 _ H8 _ I8 q8) (fun v s9 ⟨y, H9, I9, r9, hp, hz, q9⟩ => ?_) fun _ _ z => z.elim
     refine wpAny_mono (a4t (X := a1p X M x sc fp s3 H3) _ s9 _ H9 (.ref s2.heap.objs.size) [y] (.ref s2.heap.objs.size) [v] (fun _ H' => H' = upd H9 s2.heap.objs.size (.lst (ys ++ [y]))) I9 rfl (.cons r9 .nil) ⟨_, ys, y, rfl, rfl, hp, hz, rfl⟩) (fun _ s10 ⟨_, H10, I10, _, e10⟩ => ?_) fun _ _ z => z.elim
     subst e10
     exact a2j I10 q9
 exact codeAny_compStart_list loop (T.self _ 0 _ _ _ st4' loop)
theorem d8d {i : Nat} {y : Str} {py spos : Pos} (S : a1q X.N M X.env.scope x sc) (hc : X.calm = true) (hi : PI X (.Name x px) iter wi) (hif : ∀ fp s3 H3, PIf (a1p X M x sc fp s3 H3) ifs tc) (he : ∀ fp s3 H3, PE (a1p X M x sc fp s3 H3) elt te)
  (hN : X.N.Nodup) (hy : X.N[i]? = some y) (hl : Loc X.env.scope y) (hsw : swapsWith (.ListComp elt [⟨.Name x px, iter, ifs, 0⟩] sc pos) (some (.Name y py)) spos.line X.env = pure true)
  (hs : ∀ x, foldedSetIterable iter X.env x = pure x := by intro _; rfl) (hf : X.fn y = true \/ X.env.scope.names.lookup y = some .local := by first | exact .inl rfl | exact .inr rfl | assumption) :
  PS X (.Assign [.Name y py] (.ListComp elt [⟨.Name x px, iter, ifs, 0⟩] sc pos) spos) (e2n (e4s wi tc te) (b5r i)) := by
 intro pins s σ H D I h
 rw [exec_Assign_Name_used _ _ _ _ hsw]
 refine wpAny_bind (wpAny_standAt (wpAny_bind ?_))
 show wpAny _ X.A (do let _ ← comprehension (.ListComp elt [⟨.Name x px, iter, ifs, 0⟩] sc pos) sc X.env _ (newList []) false (eval iter X.env) (some (assign (.Name y py) X.env))) _ _ s
 refine wpAny_bind (wpAny_mono (wpAny_comprehension_free (use := some (assign (.Name y py) X.env)) (cl := c4u sc X.env) (Q := fun _ s' => SP X pins D .next s') rfl hs (a9o (S.cells I.ok)) S.kind S.names
  (thn (hi pins s σ H _ I h) fun v s1 h1 => thn h1 fun itv s2 h2 => ?_)) (fun _ s' hq => wpAny_pure (wpAny_pure hq)) fun _ _ e => e)
 obtain ⟨it, fp, tn, J, H2, e, I2, T, st2, f2, q2⟩ := h2
 subst e
 refine c9e (RR := fun acc C => compPost (model X.prog X.w) X.A X.xe (some (assign (.Name y py) X.env)) (fun _ s' => SP X pins D .next s') acc C) (Q := fun v H' => D.nx (σ.set i (some v)) H') S hc hif he I2 T st2 f2 q2 ?_
 intro s3 H3 s' σ' H' I3 f3 J' q'
 obtain ⟨m, hn, _⟩ := J'.loc
 have I1 : Inv X pins σ H' s' := I3.call' (ch := fp) J'.os J'.base J'.hok J'.bare fun b hb => ⟨(f3 b hb).2.2.2.1, (f3 b hb).2.1, (f3 b hb).2.2.2.2.1, (f3 b hb).2.2.2.2.2⟩
 have cL : s3.heap.objs.size ≠ X.env.locals := Nat.ne_of_gt I3.lt
 have cC : ∀ z c, X.env.cells.lookup z = some c -> c ≠ s3.heap.objs.size := fun z c e q => by
  obtain ⟨v, w⟩ := I3.cell z c e
  exact absurd w.lt (by rw [q]; exact Nat.lt_irrefl _)
 have cP : ∀ p ∈ X.pn ++ pins, p.1 ≠ s3.heap.objs.size := fun p hp z => absurd (Heap.lt_size (I3.pin p hp).1) (by rw [z]; exact Nat.lt_irrefl _)
 show wpAny _ X.A (assign (.Name y py) X.env (.ref s2.heap.objs.size)) _ _ s'
 refine wpAny_assign_Name (c0x (v := .ref s2.heap.objs.size) I1 hN hy hl rfl (fun s4 I4 ⟨a, sb, ha⟩ => ?_) hf)
 have ne : s3.heap.objs.size ≠ a := by
  rcases ha with z | z
  · rw [z]; exact cL
  · exact (cC _ _ z).symm
 refine ⟨m, hn.sameBut sb ne, fun h' hs' => ⟨_, H', ?_, q'⟩⟩
 exact I4.turned (t' := s4.toks) (it := s3.heap.objs.size) (fun b o hb e => (hs'.2 b hb).trans e) J'.free cL (.inr I3.sz) cC cP
end
section
variable {X : Cx} {K : PySem.W.Frag} {n k : Nat} {x : Str} {ps : List Str} {sp : Sp} {a b e : Expr} {es : List Expr} {t : TA} {ta tb te : TE} {p pos pos' : Pos}
theorem a0q (F : Def X.prog X.w X.K X.mg X.base CX0 x k ps sp) (hr : b5x n X.A) (ha : PA X (e :: es) t) (hk : k <= n := by decide) (hg : Gl X x := by rfl)
  (hdb : (x == ("__debug__" : Str)) = false := by decide) (he : starEach (e :: es) X.env = (false, eval e X.env) :: starEach es X.env := by rfl) (hpl : (backTo pos (starEach es X.env)).any (·.1) = false := by rfl) :
  PE X (.Call (.Name x p) (e :: es) [] pos) (d6z sp [] E0 t) := e7c F (hr.mono hk) hg a6p ha hdb he hpl
theorem a1h (i : Nat) (hN : X.N.Nodup) (he : PE X e te) (hi : X.N[i]? = some x := by rfl) (hx : Loc X.env.scope x := by first | exact Or.inl rfl | exact Or.inr rfl) (hs : swapsWith e (some (.Name x pos')) pos.line X.env = pure false := by rfl) (hf : X.fn x = true \/ X.env.scope.names.lookup x = some .local := by first | exact .inl rfl | exact .inr rfl | assumption) :
  PS X (.Assign [.Name x pos'] e pos) (e2n te (b5r i)) := e7e hN hi hx he hs hf
theorem a9k (i : Nat) (hN : X.N.Nodup) (hi : X.N[i]? = some x := by rfl) (hx : Loc X.env.scope x := by first | exact Or.inl rfl | exact Or.inr rfl) (hf : X.fn x = true \/ X.env.scope.names.lookup x = some .local := by first | exact .inl rfl | exact .inr rfl | assumption) : PG X (.Name x pos) (b5r i) := b6r hN hi hx hf
theorem a1b (ha : PE X a ta) (hb : PE X b tb) (h : X.K = K := by rfl) (hs : c5a b := by exact fun _ _ => rfl) : PE X (.Subscript a b pos) (tOp (e4y K) ta tb) := e4q (d3a h) ha hb hs
theorem a1n (ha : PE X a ta) (hb : PE X b tb) (h : X.K = K := by rfl) (hs : c5a b := by exact fun _ _ => rfl) : PE X (.Subscript a b pos) (tOp (e6f K) ta tb) := e4q (e2z h) ha hb hs
end
abbrev Ha (K : PySem.W.Frag) (x : Str) (f : Addr) : Prop := PySem.W.nsIn K mainGlobals x = some (some (.ref f))
abbrev Hl (K : PySem.W.Frag) (f : Addr) (x q : Str) (st : Stmt) (oc : Value) (od : Option Addr) (kV dc pm : Value) (an : Option Addr) (cd ct : Value) (sl : Array (Option Value)) : Prop := K.lookup f = some ⟨oc, od, .func (PySem.W.fnOf x q (b6p st) (b4k st) (a0k st) .none kV dc pm an cd ct), sl⟩
abbrev Hc (K : PySem.W.Frag) (cd : Value) (x : Str) : Prop := PySem.W.codeIn K cd x = true
abbrev Hk (K : PySem.W.Frag) (f : Addr) : Prop := PySem.W.keepIn K (.ref f) = true
abbrev Hm (K : PySem.W.Frag) (Z : Addr) (m : Str) (f : Addr) : Prop := PySem.W.findIn K (.ref Z) m = some (some (.ref f))
abbrev Hi (K : PySem.W.Frag) (f : Addr) : Prop := PySem.W.isFn K (.ref f) = true
abbrev Hz (K : PySem.W.Frag) (x : Str) : Prop := PySem.W.nsIn K mainGlobals x = some none
end L2
set_option Elab.async false
set_option linter.all false
set_option maxRecDepth 100000
set_option maxHeartbeats 4000000
namespace T
open PySem L2
def top (i : Nat) : Stmt := PySem.Challenge.pw_eightsides_k27_image_least.main.body.getD i (.Pass ⟨0, 0, 0, 0⟩)
def a7v : Stmt -> List Stmt
 | .ClassDef _ _ _ b _ _ _ _ _ _ _ => b
 | _ => []
abbrev c3r : Stmt := top 2
abbrev b8w : Stmt := top 3
abbrev b5u : Stmt := top 4
abbrev c4w : Stmt := top 5
abbrev b9a : Stmt := top 6
abbrev d1y : Stmt := top 7
abbrev b5j : Stmt := top 9
abbrev d2v : Stmt := top 11
abbrev b3d : Stmt := top 12
abbrev a8h : Stmt := top 13
abbrev b8t : Stmt := top 14
abbrev d1q : Stmt := top 15
abbrev a6y : Stmt := top 16
abbrev b5n : Stmt := top 17
abbrev b0p : Stmt := top 18
abbrev a3p : Stmt := top 19
abbrev a3i : Stmt := top 20
abbrev a4u : Stmt := top 21
abbrev a9f : Stmt := top 22
abbrev a8m : Stmt := top 24
abbrev a8c : Stmt := top 25
abbrev c5g : Stmt := top 26
abbrev b2v : Stmt := top 27
abbrev a3q : Stmt := top 28
abbrev b2y : Stmt := top 29
abbrev a5i : Stmt := top 30
abbrev a3r : Stmt := top 31
abbrev a3e : Stmt := top 32
abbrev a5z : Stmt := top 33
abbrev a5x : Stmt := top 34
abbrev c3n : Stmt := top 36
abbrev b0d : Stmt := top 37
abbrev b8s : Stmt := top 38
abbrev a6z : Stmt := top 39
abbrev a5y : Stmt := top 40
abbrev d9s : Stmt := top 41
abbrev b6h : Stmt := top 42
abbrev b0k : Stmt := top 43
abbrev a4m : Stmt := top 44
abbrev b0b : Stmt := top 45
abbrev a8f : Stmt := top 46
abbrev d2l : Stmt := top 48
abbrev b9c : Stmt := top 49
abbrev a8o : Stmt := top 50
abbrev c4m : Stmt := top 52
abbrev a9x : Stmt := top 53
abbrev a8n : Stmt := top 54
abbrev b2m : Stmt := (a7v (top 57)).getD 1 (.Pass ⟨0, 0, 0, 0⟩)
abbrev b0i : Stmt := (a7v (top 57)).getD 2 (.Pass ⟨0, 0, 0, 0⟩)
abbrev b0a : Stmt := (a7v (top 58)).getD 0 (.Pass ⟨0, 0, 0, 0⟩)
abbrev a8d : Stmt := (a7v (top 58)).getD 2 (.Pass ⟨0, 0, 0, 0⟩)
abbrev a7h : Stmt := (a7v (top 58)).getD 3 (.Pass ⟨0, 0, 0, 0⟩)
abbrev b2n : Stmt := (a7v (top 59)).getD 0 (.Pass ⟨0, 0, 0, 0⟩)
abbrev b0y : Stmt := (a7v (top 59)).getD 2 (.Pass ⟨0, 0, 0, 0⟩)
abbrev a8i : Stmt := (a7v (top 59)).getD 3 (.Pass ⟨0, 0, 0, 0⟩)
abbrev b3b : Stmt := (a7v (top 60)).getD 0 (.Pass ⟨0, 0, 0, 0⟩)
abbrev b0l : Stmt := (a7v (top 60)).getD 4 (.Pass ⟨0, 0, 0, 0⟩)
abbrev a8g : Stmt := (a7v (top 60)).getD 5 (.Pass ⟨0, 0, 0, 0⟩)
abbrev a4f : Stmt := top 61
abbrev a8q : Stmt := top 63
abbrev b0w : Stmt := top 64
abbrev a8w : Stmt := top 65
abbrev b2r : Stmt := top 66
abbrev a8t : Stmt := top 67
abbrev a9e : Stmt := top 68
abbrev a8u : Stmt := top 69
abbrev a8r : Stmt := top 70
abbrev b2q : Stmt := top 71
abbrev a8b : Stmt := top 72
abbrev a4g : Stmt := top 73
abbrev b0j : Stmt := top 74
abbrev a9i : Stmt := top 75
abbrev b2s : Stmt := top 76
abbrev a8y : Stmt := top 77
abbrev a5g : Stmt := top 78
abbrev a7f : Stmt := top 79
abbrev b3c : Stmt := top 80
abbrev b0q : Stmt := top 81
abbrev a9z : Stmt := top 82
abbrev b0g : Stmt := top 83
abbrev a4h : Stmt := top 84
abbrev b2z : Stmt := top 85
abbrev d0w : Stmt := top 86
structure Kl (K : PySem.W.Frag) (mg : Str -> Option Value) (Z_Go Z_Keep Z_Put Z_Ask y8 y9 y11 y10 y12 y14 y13 y15 y4 y3 y7 : Addr) : Prop where
 cl_Go : Cls K Z_Go
 cl_Keep : Cls K Z_Keep
 cl_Put : Cls K Z_Put
 cl_Ask : Cls K Z_Ask
 me_Go_image : d7y K Z_Go "image" y8
 me_Go_source : d7y K Z_Go "source" y9
 me_Keep_image : d7y K Z_Keep "image" y10
 me_Keep_source : d7y K Z_Keep "source" y12
 me_Put_image : d7y K Z_Put "image" y13
 me_Put_source : d7y K Z_Put "source" y15
 me_Ask_image : d7y K Z_Ask "image" y3
 me_Ask_source : d7y K Z_Ask "source" y7
 mk_Go : MkO K Z_Go
 mk_Keep : Mk K Z_Keep y11
 mk_Put : Mk K Z_Put y14
 mk_Ask : Mk K Z_Ask y4
 mg_Go : mg "Go" = some (.ref Z_Go)
 mg_Keep : mg "Keep" = some (.ref Z_Keep)
 mg_Put : mg "Put" = some (.ref Z_Put)
 mg_Ask : mg "Ask" = some (.ref Z_Ask)
 n_Keep_question : b1a K Z_Keep "question"
 n_Put_k : b1a K Z_Put "k"
 n_Put_amount : b1a K Z_Put "amount"
 n_Ask_k : b1a K Z_Ask "k"
 n_Ask_low : b1a K Z_Ask "low"
 n_Ask_high : b1a K Z_Ask "high"
def IsQ (w : Str) : Prop := w = Str.ofString "most" \/ w = Str.ofString "least" \/ w = Str.ofString "same" \/ w = Str.ofString "unlike"
def e9y (lo hi : Ent) : Prop := ∀ l h, lo = some l -> hi = some h -> l <= h
abbrev fK (a : V) : List (Str × V) := b3i "question" a []
abbrev fP (k a : V) : List (Str × V) := b3i "amount" a (b3i "k" k [])
abbrev fA (k lo hi : V) : List (Str × V) := b3i "high" hi (b3i "low" lo (b3i "k" k []))
theorem lkK (a : V) : (fK a).lookup ("question" : Str) = some a := by rw [a1l, if_pos rfl]
theorem e9t (k a : V) : (fP k a).lookup ("amount" : Str) = some a := by rw [a1l, if_pos rfl]
theorem e9q (k a : V) : (fP k a).lookup ("k" : Str) = some k := by rw [a1l, if_neg (by decide +kernel), a1l, if_pos rfl]
theorem g0l (k lo hi : V) : (fA k lo hi).lookup ("high" : Str) = some hi := by rw [a1l, if_pos rfl]
theorem g0p (k lo hi : V) : (fA k lo hi).lookup ("low" : Str) = some lo := by rw [a1l, if_neg (by decide +kernel), a1l, if_pos rfl]
theorem e7u (k lo hi : V) : (fA k lo hi).lookup ("k" : Str) = some k := by rw [a1l, if_neg (by decide +kernel), a1l, if_neg (by decide +kernel), a1l, if_pos rfl]
def e6i (m : Str) : Prop := m ≠ "question" /\ m ≠ "amount" /\ m ≠ "k" /\ m ≠ "low" /\ m ≠ "high"
theorem noK {m : Str} (h : e6i m) (a : V) : (fK a).lookup m = none := by rw [a1l, if_neg h.1]; rfl
theorem noP {m : Str} (h : e6i m) (k a : V) : (fP k a).lookup m = none := by rw [a1l, if_neg h.2.1, a1l, if_neg h.2.2.1]; rfl
theorem noA {m : Str} (h : e6i m) (k lo hi : V) : (fA k lo hi).lookup m = none := by rw [a1l, if_neg h.2.2.2.2, a1l, if_neg h.2.2.2.1, a1l, if_neg h.2.2.1]; rfl
inductive Dd where
 | go
 | keep (f : Int) (g : Option Int) (w : Str) (c : Int)
 | put (k : Nat) (f g : Option Int) (c : Int)
 | ask (k : Nat) (lo hi : Ent)
def InD (n : Nat) : Dd -> Prop
 | .go => True
 | .keep f g w _ => InR n f /\ InG n g /\ IsQ w
 | .put k f g _ => k < n /\ InG n f /\ InG n g
 | .ask k lo hi => k < n /\ e9y lo hi
theorem b6b : e6i "image" := ⟨by decide +kernel, by decide +kernel, by decide +kernel, by decide +kernel, by decide +kernel⟩
theorem e5p (c : Int) {a b d : Int} (ha : 0 <= a) (hb : 0 <= b) (hd : 0 <= d) : ∃ z : Int, 0 <= z /\ atI ([.int a, .int b, .int d] : List V) (c % 3) = some (.int z) := by
 have : c % 3 = 0 \/ c % 3 = 1 \/ c % 3 = 2 := by omega
 rcases this with h | h | h <;> rw [h]
 · exact ⟨a, ha, rfl⟩
 · exact ⟨b, hb, rfl⟩
 · exact ⟨d, hd, rfl⟩
def d1r : Option Int -> List Int
 | none => []
 | some f => [f]
def fsO (f g : Option Int) : List Int := d1r f ++ d1r g
theorem e5f {n : Nat} {f g : Option Int} (hf : InG n f) (hg : InG n g) : ∀ h ∈ fsO f g, InR n h := by
 intro h hh
 unfold fsO at hh
 cases f <;> cases g <;> simp [d1r] at hh
 · rw [hh]; exact hg
 · rw [hh]; exact hf
 · rcases hh with e | e <;> rw [e]
   · exact hf
   · exact hg
def c1r : Ent -> Int -> Int
 | some h, z => if h < z then h else z
 | none, z => z
def b3t : Ent -> Ent -> Int -> Int
 | some l, hi, z => if z < l then l else c1r hi z
 | none, hi, z => c1r hi z
theorem b9b {lo hi : Ent} {z : Int} (h : ∀ l, lo = some l -> ¬ z < l) : b3t lo hi z = c1r hi z := by
 cases lo with
 | none => rfl
 | some l => show (if z < l then l else c1r hi z) = _; rw [if_neg (h l rfl)]
theorem c3w {l : Int} {hi : Ent} {z : Int} (h : z < l) : b3t (some l) hi z = l := by show (if z < l then l else c1r hi z) = _; rw [if_pos h]
theorem e1o {y z : Int} (h : y < z) : c1r (some y) z = y := by show (if y < z then y else z) = _; rw [if_pos h]
theorem e2a {y z : Int} (h : ¬ y < z) : c1r (some y) z = z := by show (if y < z then y else z) = _; rw [if_neg h]
def e4z (xs : List Int) (f g : Option Int) (c : Int) : Int := ((fsO f g).map (a1k xs)).sum + c
def d3f (xs : List Int) (num : Int) : Dd -> Option (List Int)
 | .go => some xs
 | .keep f g w c => if a9d w (d9a xs f g) c = true then some xs else none
 | .put k f g c => some (xs.set k (e4z xs f g c))
 | .ask k lo hi => some (xs.set k (b3t lo hi num))
def PtO (H : Hp) (r : V) : Option (List Int) -> Prop
 | none => r = .non
 | some ys => ∃ p, r = .ref p /\ H p = some (.tup (ys.map V.int))
def b7k (Z_Go Z_Keep Z_Put Z_Ask : Addr) (H : Hp) (v : V) : Dd -> Prop
 | .go => ∃ x dx, v = .ref x /\ H x = some (.ins Z_Go dx [])
 | .keep f g w c => ∃ x dx qa, v = .ref x /\ H x = some (.ins Z_Keep dx (fK (.ref qa))) /\ H qa = some (.tup [.int f, gV g, .str w, .int c])
 | .put k f g c => ∃ x dx aa, v = .ref x /\ H x = some (.ins Z_Put dx (fP (.int k) (.ref aa))) /\ H aa = some (.tup [gV f, gV g, .int c])
 | .ask k lo hi => ∃ x dx, v = .ref x /\ H x = some (.ins Z_Ask dx (fA (.int k) (eV lo) (eV hi)))
theorem b7k.same {Z_Go Z_Keep Z_Put Z_Ask : Addr} {H H' : Hp} (s : a1i H H') {v : V} : ∀ {D : Dd}, b7k Z_Go Z_Keep Z_Put Z_Ask H v D -> b7k Z_Go Z_Keep Z_Put Z_Ask H' v D
 | .go, ⟨x, dx, e, h⟩ => ⟨x, dx, e, s _ _ h⟩
 | .keep _ _ _ _, ⟨x, dx, qa, e, h, h2⟩ => ⟨x, dx, qa, e, s _ _ h, s _ _ h2⟩
 | .put _ _ _ _, ⟨x, dx, aa, e, h, h2⟩ => ⟨x, dx, aa, e, s _ _ h, s _ _ h2⟩
 | .ask _ _ _, ⟨x, dx, e, h⟩ => ⟨x, dx, e, s _ _ h⟩
def b1w (H : Hp) (v : V) : Dd -> Prop
 | .go => ∃ t, v = .ref t /\ H t = some (.tup [.str "go"])
 | .keep f g w c => ∃ t qa, v = .ref t /\ H t = some (.tup [.str "keep", .ref qa]) /\ H qa = some (.tup [.int f, gV g, .str w, .int c])
 | .put k f g c => ∃ t aa, v = .ref t /\ H t = some (.tup [.str "put", .int k, .ref aa]) /\ H aa = some (.tup [gV f, gV g, .int c])
 | .ask k lo hi => ∃ t, v = .ref t /\ H t = some (.tup [.str "ask", .int k, eV lo, eV hi])
theorem b1w.same {H H' : Hp} (s : a1i H H') {v : V} : ∀ {D : Dd}, b1w H v D -> b1w H' v D
 | .go, ⟨x, e, h⟩ => ⟨x, e, s _ _ h⟩
 | .keep _ _ _ _, ⟨x, qa, e, h, h2⟩ => ⟨x, qa, e, s _ _ h, s _ _ h2⟩
 | .put _ _ _ _, ⟨x, aa, e, h, h2⟩ => ⟨x, aa, e, s _ _ h, s _ _ h2⟩
 | .ask _ _ _, ⟨x, e, h⟩ => ⟨x, e, s _ _ h⟩
theorem a5h {n i d : Nat} (h : i <= n) : HT.sIx n d (some (i : Int)) = i := by
 simp only [HT.sIx]
 split <;> omega
theorem c3o {xs : List Int} {k : Nat} (h : k <= xs.length) : b3k (xs.map V.int) none (some (k : Int)) = (xs.take k).map V.int := by
 unfold b3k
 rw [List.length_map, a5h h]
 simp [HT.sIx, List.map_take]
theorem b2o {xs : List Int} {k : Nat} (h : k <= xs.length) : b3k (xs.map V.int) (some (k : Int)) none = (xs.drop k).map V.int := by
 unfold b3k
 rw [List.length_map, a5h h]
 simp [HT.sIx, List.map_drop, List.take_of_length_le]
theorem a3u {xs : List Int} {k : Nat} {z : Int} (h : k < xs.length) : (xs.set k z).map V.int = ((xs.take k).map V.int ++ [V.int z]) ++ (xs.drop (k + 1)).map V.int := by
 rw [List.set_eq_take_append_cons_drop, if_pos h]
 simp
def b8d (K : PySem.W.Frag) (Z : Addr) : Sp := fun vs H Q _ => ∃ (x dx : Addr) (v : V), vs = [.ref x, v] /\ H x = some (.ins Z dx []) /\ Q .non (upd H x (.ins Z dx (fK v)))
def b9m (K : PySem.W.Frag) (Z : Addr) : Sp := fun vs H Q _ => ∃ (x dx : Addr) (v u : V), vs = [.ref x, v, u] /\ H x = some (.ins Z dx []) /\ Q .non (upd (upd H x (.ins Z dx (b3i "k" v []))) x (.ins Z dx (fP v u)))
def b9r (K : PySem.W.Frag) (Z : Addr) : Sp := fun vs H Q _ => ∃ (x dx : Addr) (v u t : V), vs = [.ref x, v, u, t] /\ H x = some (.ins Z dx []) /\ Q .non (upd (upd (upd H x (.ins Z dx (b3i "k" v []))) x (.ins Z dx (b3i "low" u (b3i "k" v [])))) x (.ins Z dx (fA v u t)))
def b0r (K : PySem.W.Frag) : Sp := fun vs H Q _ => ∃ (a b : Addr) (xs fs : List Int), vs = [.ref a, .ref b] /\ SqT K H a (xs.map V.int) /\ SqL K H b (fs.map V.int) /\ (∀ f ∈ fs, InR xs.length f) /\ Q (.int (fs.map (a1k xs)).sum) H
def b5q (K : PySem.W.Frag) : Sp := fun vs H Q _ => ∃ (a b : Addr) (xs : List Int) (f : Int) (g : Option Int) (w : Str) (c : Int), vs = [.ref a, .ref b] /\ SqT K H a (xs.map V.int) /\ SqT K H b [.int f, gV g, .str w, .int c] /\ InR xs.length f /\ InG xs.length g /\ Q (.bl (a9d w (d9a xs f g) c)) H
def b0z (K : PySem.W.Frag) : Sp := fun vs H Q _ => ∃ (c o : Int) (w : Int) (pt : Addr) (xs : List Int) (n : Nat), vs = [.int c, .int o, .int w, .ref pt] /\ SqT K H pt (xs.map V.int) /\ xs.length = n /\ 1 <= n /\ n <= 6 /\ ∀ p f g wd cc H', a1i H H' -> H' p = some (.tup [.int f, gV g, .str wd, .int cc]) -> InR n f -> InG n g -> IsQ wd -> Q (.ref p) H'
def b3u (K : PySem.W.Frag) : Sp := fun vs H Q _ => ∃ (c : Int) (n : Nat), vs = [.int c, .int n] /\ 1 <= n /\ n <= 6 /\ ∀ p f g H', a1i H H' -> H' p = some (.tup [gV f, gV g]) -> InG n f -> InG n g -> Q (.ref p) H'
def b9z (K : PySem.W.Frag) : Sp := fun vs H Q _ => ∃ (k : Nat) (c o : Int), vs = [.int k, .int c, .int o] /\ ∀ p lo hi H', a1i H H' -> H' p = some (.tup [.str "ask", .int k, eV lo, eV hi]) -> e9y lo hi -> Q (.ref p) H'
def b8e (K : PySem.W.Frag) : Sp := fun vs H Q _ => ∃ (kd c o : Int) (pt : Addr) (xs : List Int) (n : Nat), vs = [.int kd, .int c, .int o, .ref pt] /\ SqT K H pt (xs.map V.int) /\ xs.length = n /\ 1 <= n /\ n <= 6 /\ ∀ v D H', a1i H H' -> b1w H' v D -> InD n D -> Q v H'
def b7n (K : PySem.W.Frag) (Z_Go Z_Keep Z_Put Z_Ask : Addr) : Sp := fun vs H Q _ => ∃ (v : V) (D : Dd), vs = [v] /\ b1w H v D /\ ∀ u H', a1i H H' -> b7k Z_Go Z_Keep Z_Put Z_Ask H' u D -> Q u H'
def b7q (K : PySem.W.Frag) : Sp := fun vs H Q _ => ∃ (v : V) (D : Dd) (pt : Addr) (xs : List Int) (num : Int), vs = [v, .ref pt, .int num] /\ b1w H v D /\ H pt = some (.tup (xs.map V.int)) /\ InD xs.length D /\ xs.length <= 100 /\ ∀ r H', a1i H H' -> PtO H' r (d3f xs num D) -> Q r H'
theorem e3z (a : Str) : decide (V.str a = V.str a) = true := decide_eq_true rfl
theorem c5m {a b : Str} (h : a ≠ b) : decide (V.str a = V.str b) = false := decide_eq_false fun e => h (V.str.inj e)
theorem e8v : ("go" : Str) ≠ "keep" := by decide +kernel
theorem e8u : ("go" : Str) ≠ "put" := by decide +kernel
theorem e8f : ("go" : Str) ≠ "ask" := by decide +kernel
theorem e6o : ("keep" : Str) ≠ "go" := by decide +kernel
theorem e8m : ("put" : Str) ≠ "go" := by decide +kernel
theorem e2m : ("put" : Str) ≠ "keep" := by decide +kernel
theorem e9g : ("ask" : Str) ≠ "go" := by decide +kernel
theorem e4f : ("ask" : Str) ≠ "keep" := by decide +kernel
theorem e6q : ("ask" : Str) ≠ "put" := by decide +kernel
theorem e7w (c : Int) {n : Nat} (h : 1 <= n) : ∃ f : Int, c % (2 * (n : Int)) = f /\ InR n f := ⟨_, rfl, Int.emod_nonneg _ (by omega), Int.emod_lt_of_pos _ (by omega)⟩
theorem e3o (c : Int) {n : Nat} (h : 1 <= n) : ∃ f : Nat, c % (n : Int) = (f : Int) /\ f < n :=
 ⟨(c % (n : Int)).toNat, by have := Int.emod_nonneg c (b := (n : Int)) (by omega); omega, by have := Int.emod_nonneg c (b := (n : Int)) (by omega); have := Int.emod_lt_of_pos c (b := (n : Int)) (by omega); omega⟩
theorem e3l (v u : V) : (b3i "low" u (b3i "k" v [])).length = 2 := by
 show (if ("k" : Str) = "low" then [(("k" : Str), u)] else (("k" : Str), v) :: b3i "low" u []).length = 2
 rw [if_neg (by decide +kernel)]
 rfl
def b7x (xs : List Int) (ss : List Sdn) : Bool := ss.all fun s => decide (wN xs s.1 + wN xs s.2.1 <= s.2.2)
def b6k (K : PySem.W.Frag) : Sp := fun vs H Q _ => ∃ (a b : Addr) (xs : List Int) (ys : List V) (ss : List Sdn), vs = [.ref a, .ref b] /\ SqT K H a (xs.map V.int) /\ SqL K H b ys /\ Paired (a2o H) ys ss /\ (∀ s ∈ ss, s.1 < 2 * xs.length /\ s.2.1 < 2 * xs.length) /\ Q (.bl (b7x xs ss)) H
def a8j (K : PySem.W.Frag) : Sp := fun vs H Q _ => ∃ (a : Addr) (xs : List Int) (n : Nat), vs = [.ref a, .int n] /\ H a = some (.tup (xs.map V.int)) /\ xs.length = n /\ Q (.bl true) H
def b1y (K : PySem.W.Frag) : Sp := fun vs H Q _ => ∃ (v : V) (n : Nat) (o : Option Tb), vs = [v] /\ a1x H v (2 * n) o /\ n <= 100 /\ ∀ u H', a1i H H' -> a2b H H' u (2 * n) o -> Q u H'
theorem b2k {xs : List Int} {ss : List Sdn} : b7x xs ss = true ↔ ∀ s ∈ ss, wN xs s.1 + wN xs s.2.1 <= s.2.2 := by simp [b7x, List.all_eq_true]
def shD : Nat -> Option Tb -> PyData
 | _, none => .none
 | N, some c => e1l (Oct.toT N c)
theorem d2q {K : PySem.W.Frag} {H : Hp} {v : V} {N : Nat} : ∀ {o : Option Tb}, a1x H v N o -> Dt K H (shD N o) v
 | none, h => by cases h; exact Dt.non
 | some _, ⟨a, bs, e, T⟩ => by subst e; exact T.dt
theorem d8r (N : Nat) (o : Option Tb) : (shD N o).depth <= 60 := by
 cases o with
 | none => simp [shD, PyData.depth]
 | some c => exact d8m _
theorem e2s (N : Nat) (o : Option Tb) : PyData.eqv (shD N o) (shD N o) = true := by
 cases o with
 | none => simp [shD, PyData.eqv]
 | some c => rw [shD, d9e]; exact decide_eq_true rfl
def fI (fs : List Nat) : List Int := fs.map fun (f : Nat) => (f : Int)
abbrev fV (fs : List Nat) : List V := (fI fs).map V.int
theorem c8k (fs : List Nat) : (fV fs).length = fs.length := by simp [fV, fI]
def grE (c : Tb) : List Nat -> Ent
 | [] => some 0
 | [f] => Oct.hv c f
 | [f, g] => c f g
 | _ => none
def a5d (w : Nat -> Int) (fs : List Nat) : Int := (fs.map w).sum
def d3n (acc : List Int) (f : Int) : List Int := if acc.any (· == a7g f) then d2n (a7g f) acc else acc ++ [f]
def b8i (fs : List Int) : List Int := fs.foldl d3n []
theorem c6e (fs : List Int) (f : Int) : b8i (fs ++ [f]) = d3n (b8i fs) f := by simp [b8i]
theorem d9b (acc : List Int) (f : Int) : (d3n acc f).length <= acc.length + 1 := by
 have r : ∀ (k : Int) (l : List Int), (d2n k l).length <= l.length := fun k l => by
  induction l with
  | nil => simp [d2n]
  | cons a l ih => unfold d2n; split <;> simp <;> omega
 unfold d3n
 split
 · have := r (a7g f) acc; omega
 · simp
theorem d9o (fs : List Int) (i : Nat) : (b8i (fs.take i)).length <= i := by
 induction i with
 | zero => simp [b8i]
 | succ i ih =>
  cases e : fs[i]? with
  | none => rw [List.take_add_one, e]; simp; omega
  | some x =>
   rw [a2g e, c6e]
   have := d9b (b8i (fs.take i)) x
   omega
theorem b7s (f g : Nat) : ((f : Int) = a7g (g : Int)) ↔ f = Oct.fl g := by rw [a2w]; omega
theorem e4r (f : Nat) : b8i (fI [f]) = [(f : Int)] := by simp [b8i, fI, d3n]
theorem d6r (f g : Nat) : b8i (fI [f, g]) = if f = Oct.fl g then [] else [(f : Int), (g : Int)] := by
 by_cases h : f = Oct.fl g
 · rw [if_pos h]
   have e : (f : Int) = a7g (g : Int) := (b7s f g).mpr h
   simp [b8i, fI, d3n, e, d2n]
 · rw [if_neg h]
   have e : ¬ ((f : Int) = a7g (g : Int)) := fun z => h ((b7s f g).mp z)
   simp [b8i, fI, d3n, e]
theorem d5t {c : Tb} {n : Nat} {w : Nat -> Int} {fs : List Nat} (S : Oct.Shp c (2 * n)) (l : Oct.a6u w c (2 * n)) (hin : ∀ f ∈ fs, f < 2 * n) (h2 : fs.length <= 2) : Oct.leE (some (a5d w fs)) (grE c fs) := by
 match fs, hin, h2 with
 | [], _, _ => simp [a5d, grE, Oct.leE]
 | [f], hin, _ =>
  have := l f f (hin f (by simp)) (hin f (by simp))
  unfold Oct.tab at this
  simp only [a5d, grE, List.map_cons, List.map_nil, List.sum_cons, List.sum_nil]
  unfold Oct.hv
  revert this
  generalize c f f = a
  cases a <;> simp [Oct.leE, Oct.hlf] <;> omega
 | [f, g], hin, _ =>
  have := l f g (hin f (by simp)) (hin g (by simp))
  unfold Oct.tab at this
  simp only [a5d, grE, List.map_cons, List.map_nil, List.sum_cons, List.sum_nil]
  rw [Int.add_zero]
  exact this
 | _ :: _ :: _ :: _, _, h => simp at h
def b1e (K : PySem.W.Frag) : Sp := fun vs H Q _ => ∃ (b : Addr) (ns : List Int), vs = [.ref b] /\ SqL K H b (ns.map V.int) /\ ns.length <= 100 /\ ∀ p H', a1i H H' -> H p = none -> H' p = some (.lst ((b8i ns).map V.int)) -> Q (.ref p) H'
def a4o (K : PySem.W.Frag) : Sp := fun vs H Q _ => ∃ (a : Addr) (bs : List Addr) (n : Nat) (c : Tb) (f g : Nat) (m : Int), vs = [.ref a, .int f, .int g, .int m] /\ a2e H a bs (Oct.toT (2 * n) c) /\ Oct.Shp c (2 * n) /\ f < 2 * n /\ g < 2 * n /\ g ≠ Oct.fl f /\ Oct.leE (some m) (c f g) /\ n <= 100 /\
 ∀ (a1j : List Int) p H', a1j.length = n -> Oct.a6u (wN a1j) c (2 * n) -> m <= wN a1j f + wN a1j g -> a1i H H' -> H p = none -> H' p = some (.tup (a1j.map V.int)) -> Q (.ref p) H'
theorem d2g {e : Ent} {m : Int} (h : a6k e m = false) : Oct.leE (some m) e := by
 revert h
 cases e <;> simp [a6k, Oct.leE]
theorem d6i (f g h : Nat) : b8i (fI [f, g, h]) = if f = Oct.fl g then [(h : Int)] else if f = Oct.fl h then [(g : Int)] else if g = Oct.fl h then [(f : Int)] else [(f : Int), (g : Int), (h : Int)] := by
 by_cases h1 : f = Oct.fl g
 · rw [if_pos h1]
   have e : (f : Int) = a7g (g : Int) := (b7s f g).mpr h1
   simp [b8i, fI, d3n, e, d2n]
 · have e1 : ¬ ((f : Int) = a7g (g : Int)) := fun z => h1 ((b7s f g).mp z)
   rw [if_neg h1]
   by_cases h2 : f = Oct.fl h
   · rw [if_pos h2]
     have e2 : (f : Int) = a7g (h : Int) := (b7s f h).mpr h2
     rw [e2] at e1
     simp [b8i, fI, d3n, e1, e2, d2n]
   · have e2 : ¬ ((f : Int) = a7g (h : Int)) := fun z => h2 ((b7s f h).mp z)
     rw [if_neg h2]
     by_cases h3 : g = Oct.fl h
     · rw [if_pos h3]
       have e3 : (g : Int) = a7g (h : Int) := (b7s g h).mpr h3
       rw [e3] at e1
       simp [b8i, fI, d3n, e1, e2, e3, d2n]
     · have e3 : ¬ ((g : Int) = a7g (h : Int)) := fun z => h3 ((b7s g h).mp z)
       rw [if_neg h3]
       simp [b8i, fI, d3n, e1, e2, e3]
theorem d6x (a : Ent) : Oct.a3z a none = a := by cases a <;> rfl
def c2x (K : PySem.W.Frag) : Sp := fun vs H Q _ => ∃ (b : Addr) (es : List Ent), vs = [.ref b] /\ SqL K H b (es.map eV) /\ es.length <= 100 /\ ∀ H', a1i H H' -> Q (eV (Oct.c1f es)) H'
def a5k (K : PySem.W.Frag) : Sp := fun vs H Q _ => ∃ (k : Int) (e : Ent) (m : Int), vs = [.int k, eV e, .int m] /\ 0 < k /\ k < 1073741824 /\ Q (eV (Oct.c9a k e m)) H
def a6s (K : PySem.W.Frag) : Sp := fun vs H Q _ => ∃ (a : Addr) (bs : List Addr) (n : Nat) (c : Tb) (f g h : Nat), vs = [.ref a, .int f, .int g, .int h] /\ a2e H a bs (Oct.toT (2 * n) c) /\ f < 2 * n /\ g < 2 * n /\ h < 2 * n /\ ∀ H', a1i H H' -> Q (eV (Oct.gr3 c f g h)) H'
def b1m (K : PySem.W.Frag) : Sp := fun vs H Q _ => ∃ (a : Addr) (bs : List Addr) (n : Nat) (c : Tb) (f g h : Nat) (m : Int), vs = [.ref a, .int f, .int g, .int h, .int m] /\ a2e H a bs (Oct.toT (2 * n) c) /\ f < 2 * n /\ g < 2 * n /\ h < 2 * n /\ ∀ H', a1i H H' -> Q (.int (Oct.e7m c f g h m)) H'
def a5m (K : PySem.W.Frag) : Sp := fun vs H Q _ => ∃ (a b : Addr) (bs : List Addr) (n : Nat) (c : Tb) (f g h : Nat) (m : Int), vs = [.ref a, .ref b, .int m] /\ a2e H a bs (Oct.toT (2 * n) c) /\ Oct.Shp c (2 * n) /\ SqL K H b (fV [f, g, h]) /\ f < 2 * n /\ g < 2 * n /\ h < 2 * n /\ f ≠ Oct.fl g /\ f ≠ Oct.fl h /\ g ≠ Oct.fl h /\ Oct.leE (some m) (Oct.gr3 c f g h) /\ n <= 100 /\
 ∀ (a1j : List Int) p H', a1j.length = n -> Oct.a6u (wN a1j) c (2 * n) -> m <= wN a1j f + wN a1j g + wN a1j h -> a1i H H' -> H p = none -> H' p = some (.tup (a1j.map V.int)) -> Q (.ref p) H'
theorem e8p (w : Nat -> Int) (f g h : Nat) : a5d w [f, g, h] = w f + w g + w h := by simp [a5d]; omega
theorem c5z {ns : List Int} {p : Int -> Bool} {i : Nat} {x : Int} (e : ns[i]? = some x) : (ns.take (i + 1)).filter p = (ns.take i).filter p ++ (if p x then [x] else []) := by
 rw [a2g e, List.filter_append]
 cases h : p x <;> simp [h]
theorem c6q (es : List Ent) (i : Nat) (e : Ent) (h : es[i]? = some e) : a1j (es.take (i + 1)) = a1j (es.take i) ++ (match e with | some z => [z] | none => []) := by
 rw [a2g h]
 unfold a1j
 rw [List.filterMap_append]
 cases e <;> simp
theorem d0m {c : Tb} {N f g h : Nat} {m : Int} (sy : Oct.Sym c N) (hf : f < N) (hg : g < N) (hh : h < N) (hm : Oct.leE (some m) (Oct.gr3 c f g h)) : Oct.leE (some m) (Oct.gr3 c g h f) /\ Oct.leE (some m) (Oct.gr3 c f h g) := by
 obtain ⟨a1, a2, a3, a4⟩ := Oct.c2m hm
 have mk : ∀ x y z : Nat, Oct.leE (some m) (Oct.a0t (c x y) (Oct.hv c z)) -> Oct.leE (some m) (Oct.a0t (c x z) (Oct.hv c y)) -> Oct.leE (some m) (Oct.a0t (c y z) (Oct.hv c x)) -> Oct.leE (some (m + m)) (Oct.a0t (c x y) (Oct.a0t (c x z) (c y z))) -> Oct.leE (some m) (Oct.gr3 c x y z) := fun x y z b1 b2 b3 b4 => by
  unfold Oct.gr3 Oct.c1f Oct.c1f Oct.c1f Oct.c1f Oct.c1f
  refine Oct.a3y b1 (Oct.a3y b2 (Oct.a3y b3 (Oct.a3y ?_ trivial)))
  revert b4
  generalize c x y = u; generalize c x z = v; generalize c y z = w
  cases u <;> cases v <;> cases w <;> simp [Oct.leE, Oct.a0t, Oct.hlf] <;> omega
 refine ⟨mk g h f ?_ ?_ ?_ ?_, mk f h g a2 a1 ?_ ?_⟩
 · exact a3
 · rw [sy g f hg hf]; exact a1
 · rw [sy h f hh hf]; exact a2
 · rw [sy g f hg hf, sy h f hh hf]
   revert a4; generalize c f g = u; generalize c f h = v; generalize c g h = w
   cases u <;> cases v <;> cases w <;> simp [Oct.leE, Oct.a0t] <;> omega
 · rw [sy h g hh hg]; exact a3
 · rw [sy h g hh hg]
   revert a4; generalize c f g = u; generalize c f h = v; generalize c g h = w
   cases u <;> cases v <;> cases w <;> simp [Oct.leE, Oct.a0t] <;> omega
def gr4 (c : Tb) : List Nat -> Ent
 | [] => some 0
 | [f] => Oct.hv c f
 | [f, g] => c f g
 | [f, g, h] => Oct.gr3 c f g h
 | _ => none
def b4b (K : PySem.W.Frag) : Sp := fun vs H Q _ => ∃ (a b : Addr) (bs : List Addr) (n : Nat) (c : Tb) (fs : List Nat), vs = [.ref a, .ref b] /\ a2e H a bs (Oct.toT (2 * n) c) /\ SqL K H b (fV fs) /\ (∀ f ∈ fs, f < 2 * n) /\ fs.length <= 3 /\ ∀ H', a1i H H' -> Q (eV (gr4 c fs)) H'
def a7t (K : PySem.W.Frag) : Sp := fun vs H Q _ => ∃ (v : V) (b : Addr) (n : Nat) (o : Option Tb) (fs : List Nat) (m : Int), vs = [v, .ref b, .int m] /\ a1x H v (2 * n) o /\ b6n (2 * n) o /\ SqL K H b (fV fs) /\ (∀ f ∈ fs, f < 2 * n) /\ fs.length <= 3 /\ n <= 100 /\
 (o = none -> ∀ H', a1i H H' -> Q .non H') /\ (∀ c, o = some c -> a6k (gr4 c fs) m = true -> ∀ H', a1i H H' -> Q .non H') /\
 (∀ c, o = some c -> a6k (gr4 c fs) m = false -> ∀ (a1j : List Int) p H', a1j.length = n -> Oct.a6u (wN a1j) c (2 * n) -> m <= a5d (wN a1j) fs -> a1i H H' -> H p = none -> H' p = some (.tup (a1j.map V.int)) -> Q (.ref p) H')
theorem c4y {fs : List Nat} (h : fs.length <= 3) : fs.length <= 2 \/ ∃ f g h, fs = [f, g, h] := by
 match fs, h with
 | [], _ => exact .inl (by simp)
 | [_], _ => exact .inl (by simp)
 | [_, _], _ => exact .inl (by simp)
 | [f, g, h], _ => exact .inr ⟨f, g, h, rfl⟩
 | _ :: _ :: _ :: _ :: _, h => exact absurd h (by simp)
theorem d3e {c : Tb} {n : Nat} {w : Nat -> Int} {fs : List Nat} (S : Oct.Shp c (2 * n)) (l : Oct.a6u w c (2 * n)) (hin : ∀ f ∈ fs, f < 2 * n) (h3 : fs.length <= 3) : Oct.leE (some (a5d w fs)) (gr4 c fs) := by
 rcases c4y h3 with h2 | ⟨f, g, h, rfl⟩
 · have := d5t S l hin h2
   match fs, h2 with
   | [], _ => exact this
   | [_], _ => exact this
   | [_, _], _ => exact this
   | _ :: _ :: _ :: _, h2 => exact absurd h2 (by simp)
 · rw [e8p]
   exact Oct.e4o l (hin f (by simp)) (hin g (by simp)) (hin h (by simp))
theorem c2u {α β : Type} {R : α -> β -> Prop} : ∀ {xs xs' : List α} {ys ys' : List β}, Paired R xs ys -> Paired R xs' ys' -> Paired R (xs ++ xs') (ys ++ ys')
 | _, _, _, _, .nil, r => r
 | _, _, _, _, .cons q t, r => .cons q (c2u t r)
def b0h (n : Nat) (w : Nat -> Int) : Option Tb -> Prop
 | none => False
 | some c => Oct.a6u w c (2 * n)
theorem c3c {N : Nat} {c : Tb} {i : Nat} {s : Sdn} : s ∈ b4y N c i ↔ s.1 < i /\ s.2.1 < N /\ s.1 <= s.2.1 /\ s.2.1 ≠ Oct.fl s.1 /\ c s.1 s.2.1 = some s.2.2 := by
 unfold b4y a5p
 simp only [List.mem_flatMap, List.mem_filterMap, List.mem_range]
 constructor
 · rintro ⟨f, hf, g, hg, h⟩
   by_cases hc : f <= g /\ g ≠ Oct.fl f
   · rw [if_pos hc] at h
     cases e : c f g with
     | none => rw [e] at h; cases h
     | some z => rw [e] at h; cases h; exact ⟨hf, hg, hc.1, hc.2, e⟩
   · rw [if_neg hc] at h; cases h
 · rintro ⟨h1, h2, h3, h4, h5⟩
   refine ⟨s.1, h1, s.2.1, h2, ?_⟩
   rw [if_pos ⟨h3, h4⟩, h5]
   rfl
theorem d3s {n : Nat} {ss : List Sdn} {w : List Int} (hin : ∀ s ∈ ss, s.1 < 2 * n /\ s.2.1 < 2 * n) : b7x w ss = true ↔ b0h n (wN w) (a6l n ss) := by
 rw [b2k]
 constructor
 · intro h
   obtain ⟨c, ec⟩ := b4o (b4f w (2 * n)) h
   rw [ec]
   exact c0g (b4f w _) h ec
 · intro l s hs
   cases ec : a6l n ss with
   | none => rw [ec] at l; exact l.elim
   | some c =>
    rw [ec] at l
    exact Oct.a0j (l s.1 s.2.1 (hin s hs).1 (hin s hs).2) ((a6i hin ec).2 s hs).1
def InS (n : Nat) (ss : List Sdn) : Prop := ∀ s ∈ ss, s.1 < 2 * n /\ s.2.1 < 2 * n
def d1l : Ent -> Ent -> Ent
 | some x, some y => some (if y > x then y else x)
 | _, _ => none
theorem d4w (a b : Ent) : d1l a b = d1l b a := by
 cases a <;> cases b <;> simp [d1l]
 split <;> split <;> omega
theorem e7q {a b : Ent} : d1l a b = a \/ d1l a b = b := by
 cases a with
 | none => left; cases b <;> rfl
 | some x =>
  cases b with
  | none => right; rfl
  | some y =>
   by_cases h : y > x
   · right; simp [d1l, h]
   · left; simp [d1l, h]
theorem b6y {e a b : Ent} (h : Oct.leE e a) : Oct.leE e (d1l a b) := by
 revert h
 cases e <;> cases a <;> cases b <;> simp [Oct.leE, d1l]
 split <;> omega
def e6j (c d : Tb) : Tb := fun f g => d1l (c f g) (d f g)
def b8h : Option Tb -> Option Tb -> Option Tb
 | none, o => o
 | o, none => o
 | some c, some d => some (e6j c d)
theorem d8v {o1 o2 : Option Tb} (h : b8h o1 o2 = none) : o1 = none /\ o2 = none := by
 cases o1 <;> cases o2 <;> simp [b8h] at h ⊢
theorem c8e {n : Nat} {o1 o2 : Option Tb} {d : Tb} {w : Nat -> Int} (h : b8h o1 o2 = some d) (l : b0h n w o1 \/ b0h n w o2) : Oct.a6u w d (2 * n) := by
 cases o1 with
 | none =>
  cases o2 with
  | none => cases h
  | some c2 =>
   cases h
   rcases l with l | l
   · exact l.elim
   · exact l
 | some c1 =>
  cases o2 with
  | none =>
   cases h
   rcases l with l | l
   · exact l
   · exact l.elim
  | some c2 =>
   cases h
   intro f g hf hg
   rcases l with l | l
   · exact b6y (l f g hf hg)
   · have := b6y (b := c1 f g) (l f g hf hg)
     rw [d4w] at this
     exact this
theorem d1z {o1 o2 : Option Tb} {d : Tb} {f g : Nat} (h : b8h o1 o2 = some d) : (∃ c, o1 = some c /\ c f g = d f g) \/ ∃ c, o2 = some c /\ c f g = d f g := by
 cases o1 with
 | none =>
  cases o2 with
  | none => cases h
  | some c2 => cases h; exact .inr ⟨_, rfl, rfl⟩
 | some c1 =>
  cases o2 with
  | none => cases h; exact .inl ⟨_, rfl, rfl⟩
  | some c2 =>
   cases h
   rcases e7q (a := c1 f g) (b := c2 f g) with e | e
   · exact .inl ⟨c1, rfl, e.symm⟩
   · exact .inr ⟨c2, rfl, e.symm⟩
def c2k (K : PySem.W.Frag) : Sp := fun vs H Q _ => ∃ a b : Ent, vs = [eV a, eV b] /\ Q (eV (d1l a b)) H
def b4r (K : PySem.W.Frag) : Sp := fun vs H Q _ => ∃ (a b : Addr) (N : Nat) (r o : Nat -> Ent), vs = [.ref a, .ref b] /\ SqL K H a ((Oct.ln N r).map eV) /\ SqL K H b ((Oct.ln N o).map eV) /\ N <= 1000 /\ ∀ p H', H p = none -> a1i H H' -> H' p = some (.lst ((Oct.ln N fun g => d1l (r g) (o g)).map eV)) -> Q (.ref p) H'
def b9t := b1y
def d8x (K : PySem.W.Frag) : Sp := fun vs H Q _ => ∃ (v u : V) (n : Nat) (o1 o2 : Option Tb), vs = [v, u] /\ a1x H v (2 * n) o1 /\ a1x H u (2 * n) o2 /\ n <= 100 /\ ∀ w H', a1i H H' -> a2b H H' w (2 * n) (b8h o1 o2) -> Q w H'
theorem d5j {a b : Ent} (h : ∀ m : Int, Oct.leE (some m) a -> Oct.leE (some m) b) : Oct.leE a b := by
 cases b with
 | none => trivial
 | some z =>
  cases a with
  | none => have : z + 1 <= z := h (z + 1) trivial; omega
  | some y => exact h y (Int.le_refl y)
theorem e5g {c : Tb} {N : Nat} (S : Oct.Shp c N) : ∀ f, f < N -> Oct.leE (some 0) (c f (Oct.fl f)) := fun f hf => by rw [S.zero f hf]; exact Oct.a1r _
def gN : Option Nat -> V
 | none => .non
 | some x => .int (x : Nat)
abbrev wM : Str := Str.ofString "most"
abbrev wL : Str := Str.ofString "least"
abbrev wS : Str := Str.ofString "same"
abbrev wU : Str := Str.ofString "unlike"
theorem e9a : wL ≠ wM := by decide +kernel
theorem e9n : wS ≠ wM := by decide +kernel
theorem e9h : wS ≠ wL := by decide +kernel
theorem e8w : wU ≠ wM := by decide +kernel
theorem e8h : wU ≠ wL := by decide +kernel
theorem e8t : wU ≠ wS := by decide +kernel
def InN (n f : Nat) (g : Option Nat) : Prop := f < 2 * n /\ ∀ x, g = some x -> x < 2 * n
def b4d (f : Nat) (g : Option Nat) (c : Int) : Sdn := match g with | none => (f, f, 2 * c) | some g => (f, g, c)
def b5d (f : Nat) (g : Option Nat) (c : Int) : Sdn := (Oct.fl (b4d f g c).1, Oct.fl (b4d f g c).2.1, -(b4d f g c).2.2)
def a6t (f : Nat) (g : Option Nat) (w : Str) (c : Int) : List (List Sdn) :=
 if w = wM then [[b4d f g c]] else if w = wL then [[b5d f g c]] else if w = wS then [[b4d f g c, b5d f g c]] else [[b4d f g (c - 1)], [b5d f g (c + 1)]]
def e5x (w : Nat -> Int) (f : Nat) : Option Nat -> Int
 | none => w f
 | some g => w f + w g
theorem c5f {n f : Nat} {g : Option Nat} {c : Int} (h : InN n f g) : (b4d f g c).1 < 2 * n /\ (b4d f g c).2.1 < 2 * n := by
 cases g with
 | none => exact ⟨h.1, h.1⟩
 | some g => exact ⟨h.1, h.2 g rfl⟩
theorem d5f {n f : Nat} {g : Option Nat} {c : Int} (h : InN n f g) : (b5d f g c).1 < 2 * n /\ (b5d f g c).2.1 < 2 * n := ⟨Oct.a3k (c5f (c := c) h).1, Oct.a3k (c5f (c := c) h).2⟩
theorem b5o {n f : Nat} {g : Option Nat} {w : Str} {c : Int} (h : InN n f g) : ∀ l ∈ a6t f g w c, InS n l := by
 intro l hl s hs
 have h1 := fun c => c5f (c := c) h
 have h2 := fun c => d5f (c := c) h
 unfold a6t at hl
 split at hl
 · simp at hl; subst hl; simp at hs; subst hs; exact h1 _
 split at hl
 · simp at hl; subst hl; simp at hs; subst hs; exact h2 _
 split at hl
 · simp at hl; subst hl; simp at hs; rcases hs with rfl | rfl
   · exact h1 _
   · exact h2 _
 · simp at hl; rcases hl with rfl | rfl
   · simp at hs; subst hs; exact h1 _
   · simp at hs; subst hs; exact h2 _
theorem d4l (w : Nat -> Int) (f : Nat) (g : Option Nat) (c : Int) : (w (b4d f g c).1 + w (b4d f g c).2.1 <= (b4d f g c).2.2) ↔ e5x w f g <= c := by
 cases g with
 | none => show w f + w f <= 2 * c ↔ w f <= c; omega
 | some g => exact Iff.rfl
theorem d1c {n : Nat} {w : Nat -> Int} (p : Oct.Pt w (2 * n)) {f : Nat} {g : Option Nat} (c : Int) (h : InN n f g) : (w (b5d f g c).1 + w (b5d f g c).2.1 <= (b5d f g c).2.2) ↔ c <= e5x w f g := by
 have pf := p f h.1
 cases g with
 | none => show w (Oct.fl f) + w (Oct.fl f) <= -(2 * c) ↔ c <= w f; omega
 | some g =>
  have pg := p g (h.2 g rfl)
  show w (Oct.fl f) + w (Oct.fl g) <= -c ↔ c <= w f + w g
  omega
def e0h (w : Nat -> Int) (ss : List Sdn) : Prop := ∀ s ∈ ss, w s.1 + w s.2.1 <= s.2.2
theorem e3j {w : Nat -> Int} {s : Sdn} : e0h w [s] ↔ w s.1 + w s.2.1 <= s.2.2 := ⟨fun h => h s List.mem_cons_self, fun h t ht => by rw [List.mem_singleton.mp ht]; exact h⟩
theorem e8q {w : Nat -> Int} {s t : Sdn} : e0h w [s, t] ↔ w s.1 + w s.2.1 <= s.2.2 /\ w t.1 + w t.2.1 <= t.2.2 := ⟨fun h => ⟨h s List.mem_cons_self, h t (List.mem_cons_of_mem _ List.mem_cons_self)⟩, fun h u hu => by
 rcases List.mem_cons.mp hu with e | e
 · rw [e]; exact h.1
 · rw [List.mem_singleton.mp e]; exact h.2⟩
theorem c1a {n : Nat} {w : Nat -> Int} (p : Oct.Pt w (2 * n)) {f : Nat} {g : Option Nat} {v : Str} (c : Int) (h : InN n f g) (hv : IsQ v) : (∃ l ∈ a6t f g v c, e0h w l) ↔ a9d v (e5x w f g) c = true := by
 have m := fun c => d4l w f g c
 have l := fun c => d1c p (f := f) (g := g) c h
 rcases hv with rfl | rfl | rfl | rfl
 · simp [a6t, a9d, e3j, m]
 · simp [a6t, a9d, e3j, l, e9a]
 · simp [a6t, a9d, e8q, m, l, e9n, e9h]
   omega
 · simp [a6t, a9d, e3j, m, l, e8w, e8h, e8t]
   omega
theorem c2n {n : Nat} {c s : Tb} {ss : List Sdn} (S : Oct.Shp c (2 * n)) (hin : InS n ss) (h : a8a (2 * n) (some c) ss = some s) : Oct.Shp s (2 * n) /\ Oct.Le s c (2 * n) /\ ∀ t ∈ ss, Oct.d0z s t := by
 have h' : Oct.a6b (2 * n) (Oct.b7p c ss) = some s := h
 obtain ⟨Ss, Ls⟩ := Oct.b8v (fun f hf => Oct.a3k hf) S h'
 obtain ⟨La, Lk⟩ := (Oct.a7y hin).mp Ls
 exact ⟨Ss, La, Lk⟩
theorem c7l {n : Nat} {c : Tb} {ss : List Sdn} {w : Nat -> Int} (S : Oct.Shp c (2 * n)) (hin : InS n ss) (p : Oct.Pt w (2 * n)) : b0h n w (a8a (2 * n) (some c) ss) ↔ Oct.a6u w c (2 * n) /\ e0h w ss := by
 constructor
 · intro l
   cases e : a8a (2 * n) (some c) ss with
   | none => rw [e] at l; exact l.elim
   | some s =>
    rw [e] at l
    obtain ⟨_, L, k⟩ := c2n S hin e
    exact ⟨l.trans L, fun t ht => Oct.a0j (l _ _ (hin t ht).1 (hin t ht).2) (k t ht).1⟩
 · rintro ⟨l, k⟩
   have kw : ∀ s ∈ ss, Oct.d0z (Oct.tab w) s := fun s hs => by
    have := k s hs
    constructor <;> simp [Oct.tab, Oct.leE] <;> omega
   have ll := Oct.b0e ss c l kw
   obtain ⟨s, hs⟩ := Oct.a5l (fun f hf => Oct.a3k hf) (Oct.c0z p) ll
   have e : a8a (2 * n) (some c) ss = some s := hs
   rw [e]
   exact (Oct.a4z (fun f hf => Oct.a3k hf) (Oct.a9w _ _ S.good.tight.sym) hs).2.2 _ (Oct.b8z p) ll
theorem c7w {n : Nat} {o : Option Tb} {ss : List Sdn} (S : b6n (2 * n) o) (hin : InS n ss) : b6n (2 * n) (a8a (2 * n) o ss) := by
 cases o with
 | none => trivial
 | some c =>
  cases e : a8a (2 * n) (some c) ss with
  | none => trivial
  | some s => exact (c2n S hin e).1
def e1s (n : Nat) (o : Option Tb) (acc : Option Tb) (ls : List (List Sdn)) : Option Tb := ls.foldl (fun acc ss => b8h acc (a8a (2 * n) o ss)) acc
theorem d8n (n : Nat) (o acc : Option Tb) (ls : List (List Sdn)) (ss : List Sdn) : e1s n o acc (ls ++ [ss]) = b8h (e1s n o acc ls) (a8a (2 * n) o ss) := by simp [e1s]
def e8k (n : Nat) (o : Option Tb) (f : Nat) (g : Option Nat) (w : Str) (c : Int) : Option Tb := e1s n o none (a6t f g w c)
theorem c2b {n : Nat} {o1 o2 : Option Tb} {w : Nat -> Int} (l : b0h n w o1 \/ b0h n w o2) : b0h n w (b8h o1 o2) := by
 cases e : b8h o1 o2 with
 | none =>
  obtain ⟨e1, e2⟩ := d8v e
  rw [e1, e2] at l
  exact l.elim id id
 | some d => exact c8e e l
theorem c7a {n : Nat} {o : Option Tb} {w : Nat -> Int} : ∀ (ls : List (List Sdn)) (acc : Option Tb), (b0h n w acc \/ ∃ l ∈ ls, b0h n w (a8a (2 * n) o l)) -> b0h n w (e1s n o acc ls)
 | [], acc, h => by
  rcases h with h | ⟨l, hl, _⟩
  · exact h
  · cases hl
 | x :: r, acc, h => by
  refine c7a r _ ?_
  rcases h with h | ⟨l, hl, h⟩
  · exact .inl (c2b (.inl h))
  · rcases List.mem_cons.mp hl with e | e
    · subst e; exact .inl (c2b (.inr h))
    · exact .inr ⟨l, e, h⟩
theorem d9g {n : Nat} {c : Tb} {f : Nat} {g : Option Nat} {v : Str} {z : Int} {w : Nat -> Int} (S : Oct.Shp c (2 * n)) (h : InN n f g) (hv : IsQ v) (p : Oct.Pt w (2 * n)) (l : Oct.a6u w c (2 * n)) (hh : a9d v (e5x w f g) z = true) : b0h n w (e8k n (some c) f g v z) := by
 obtain ⟨ss, hs, k⟩ := (c1a p z h hv).mpr hh
 exact c7a _ none (.inr ⟨ss, hs, (c7l S (b5o h ss hs) p).mpr ⟨l, k⟩⟩)
def e7g (H : Hp) (v : V) (ss : List Sdn) : Prop := ∃ a ys, v = .ref a /\ H a = some (.lst ys) /\ Paired (a2o H) ys ss
def e5d (H : Hp) (b : Addr) (f : Nat) (g : Option Nat) (w : Str) (c : Int) : Prop := H b = some (.tup [.int (f : Nat), gN g, .str w, .int c])
def b1l (K : PySem.W.Frag) : Sp := fun vs H Q _ => ∃ (b : Addr) (f : Nat) (g : Option Nat) (w : Str) (c m : Int), vs = [.ref b, .int m] /\ e5d H b f g w c /\ ∀ p H', a1i H H' -> H' p = some (.tup (e1f (b4d f g m))) -> Q (.ref p) H'
def b6i (K : PySem.W.Frag) : Sp := fun vs H Q _ => ∃ (b : Addr) (f : Nat) (g : Option Nat) (w : Str) (c m : Int), vs = [.ref b, .int m] /\ e5d H b f g w c /\ ∀ p H', a1i H H' -> H' p = some (.tup (e1f (b5d f g m))) -> Q (.ref p) H'
def c4l (K : PySem.W.Frag) : Sp := fun vs H Q _ => ∃ (b : Addr) (f : Nat) (g : Option Nat) (w : Str) (c : Int), vs = [.ref b] /\ e5d H b f g w c /\ ∀ p ys H', a1i H H' -> H' p = some (.lst ys) -> Paired (e7g H') ys (a6t f g w c) -> Q (.ref p) H'
def a7c (K : PySem.W.Frag) (Z : Addr) : Sp := fun vs H Q _ => ∃ (x dx qa : Addr) (v : V) (n : Nat) (o : Option Tb) (f : Nat) (g : Option Nat) (w : Str) (c : Int), vs = [.ref x, v] /\ H x = some (.ins Z dx (fK (.ref qa))) /\ e5d H qa f g w c /\ a1x H v (2 * n) o /\ b6n (2 * n) o /\ InN n f g /\ n <= 100 /\
 ∀ u H', a1i H H' -> a2b H H' u (2 * n) (e8k n o f g w c) -> Q u H'
theorem e9d (c : Int) : ∃ w : Str, IsQ w /\ atI ([.str "most", .str "least", .str "same", .str "unlike"] : List V) (c % 4) = some (.str w) := by
 have : c % 4 = 0 \/ c % 4 = 1 \/ c % 4 = 2 \/ c % 4 = 3 := by omega
 rcases this with h | h | h | h <;> rw [h]
 · exact ⟨wM, .inl rfl, rfl⟩
 · exact ⟨wL, .inr (.inl rfl), rfl⟩
 · exact ⟨wS, .inr (.inr (.inl rfl)), rfl⟩
 · exact ⟨wU, .inr (.inr (.inr rfl)), rfl⟩
def d6e : Option Nat -> List Nat
 | none => []
 | some f => [f]
def fsN (f g : Option Nat) : List Nat := d6e f ++ d6e g
theorem b7c (f g : Option Nat) : (fsN f g).length <= 2 := by unfold fsN; cases f <;> cases g <;> simp [d6e]
def InO (n : Nat) (f : Option Nat) : Prop := ∀ x, f = some x -> x < 2 * n
theorem d2b {n : Nat} {f g : Option Nat} (hf : InO n f) (hg : InO n g) : ∀ x ∈ fsN f g, x < 2 * n := by
 intro x hx
 unfold fsN at hx
 cases f <;> cases g <;> simp [d6e] at hx
 · rw [hx]; exact hg _ rfl
 · rw [hx]; exact hf _ rfl
 · rcases hx with e | e <;> rw [e]
   · exact hf _ rfl
   · exact hg _ rfl
theorem e1k (a b : List Nat) : fV a ++ fV b = fV (a ++ b) := by simp [fV, fI]
def a1a (k : Nat) (fs : List Nat) (z : Int) (f : Nat) : List Nat × Int := if f = 2 * k then (fs, z) else if f = 2 * k + 1 then (fs.map Oct.fl, -z) else ([f], 0)
theorem c4q {n k f : Nat} {fs : List Nat} {z : Int} (h : ∀ x ∈ fs, x < 2 * n) (hf : f < 2 * n) : ∀ x ∈ (a1a k fs z f).1, x < 2 * n := by
 unfold a1a
 split
 · exact h
 split
 · intro x hx
   obtain ⟨y, hy, rfl⟩ := List.mem_map.mp hx
   exact Oct.a3k (h y hy)
 · intro x hx
   rw [List.mem_singleton.mp hx]; exact hf
theorem b1n (k : Nat) (fs : List Nat) (z : Int) (f : Nat) (h : fs.length <= 2) : (a1a k fs z f).1.length <= 2 := by
 unfold a1a
 split
 · exact h
 split
 · simpa using h
 · simp
theorem c5w {k : Nat} {fs : List Nat} {z : Int} {f : Nat} (h : f / 2 ≠ k) : a1a k fs z f = ([f], 0) := by
 unfold a1a
 rw [if_neg (by omega), if_neg (by omega)]
theorem d8j {k f g : Nat} {fs : List Nat} {z : Int} (h : fs.length <= 2) (ne : g ≠ f) (nf : g ≠ Oct.fl f) : ((a1a k fs z f).1 ++ (a1a k fs z g).1).length <= 3 := by
 have l1 := b1n k fs z f h
 have l2 := b1n k fs z g h
 have ho : f / 2 ≠ k \/ g / 2 ≠ k := by
  by_cases e : f / 2 = k
  · right
    intro e2
    unfold Oct.fl at nf
    split at nf <;> omega
  · exact .inl e
 rw [List.length_append]
 rcases ho with e | e
 · rw [c5w e] at *; simp at *; omega
 · rw [c5w e] at *; simp at *; omega
def b1i (k : Nat) (fs : List Nat) (z : Int) (f g : Nat) : Int × List Nat × Int :=
 if g = Oct.fl f then (1, [], 0) else if g = f then (2, (a1a k fs z f).1, (a1a k fs z f).2) else (1, (a1a k fs z f).1 ++ (a1a k fs z g).1, (a1a k fs z f).2 + (a1a k fs z g).2)
theorem c4g {n k f g : Nat} {fs : List Nat} {z : Int} (h : ∀ x ∈ fs, x < 2 * n) (hf : f < 2 * n) (hg : g < 2 * n) : ∀ x ∈ (b1i k fs z f g).2.1, x < 2 * n := by
 unfold b1i
 split
 · intro x hx; cases hx
 split
 · exact c4q h hf
 · intro x hx
   exact (List.mem_append.mp hx).elim (c4q h hf x) (c4q h hg x)
theorem b9g {k f g : Nat} {fs : List Nat} {z : Int} (h : fs.length <= 2) : (b1i k fs z f g).2.1.length <= 3 := by
 unfold b1i
 split
 · simp
 split
 · have := b1n k fs z f h; show (a1a k fs z f).1.length <= 3; omega
 · exact d8j h ‹_› ‹_›
theorem c1u (k : Nat) (fs : List Nat) (z : Int) (f g : Nat) : (b1i k fs z f g).1 = 1 \/ (b1i k fs z f g).1 = 2 := by
 unfold b1i
 split
 · exact .inl rfl
 split
 · exact .inr rfl
 · exact .inl rfl
def peE (t m : Int) : Ent -> Ent
 | none => none
 | some x => some (t * (x + m))
def d8a (c : Tb) (k : Nat) (fs : List Nat) (z : Int) : Tb := fun f g => peE (b1i k fs z f g).1 (b1i k fs z f g).2.2 (gr4 c (b1i k fs z f g).2.1)
def e7v (k : Nat) (fs : List Nat) (z : Int) : Option Tb -> Option Tb
 | none => none
 | some c => some (d8a c k fs z)
def c5n (w : Nat -> Int) (k : Nat) (v : Int) : Nat -> Int := fun f => if f = 2 * k then v else if f = 2 * k + 1 then -v else w f
theorem d2z {n : Nat} {w : Nat -> Int} (p : Oct.Pt w (2 * n)) : ∀ (fs : List Nat), (∀ x ∈ fs, x < 2 * n) -> a5d w (fs.map Oct.fl) = -a5d w fs
 | [], _ => by simp [a5d]
 | x :: r, h => by
  have ih := d2z p r fun y hy => h y (List.mem_cons_of_mem _ hy)
  have e := p x (h x List.mem_cons_self)
  simp only [a5d, List.map_cons, List.sum_cons] at ih ⊢
  omega
theorem c9b (w : Nat -> Int) (a b : List Nat) : a5d w (a ++ b) = a5d w a + a5d w b := by simp [a5d]
theorem b1k {n k f : Nat} {w : Nat -> Int} {fs : List Nat} {z : Int} (p : Oct.Pt w (2 * n)) (h : ∀ x ∈ fs, x < 2 * n) : c5n w k (a5d w fs + z) f = a5d w (a1a k fs z f).1 + (a1a k fs z f).2 := by
 unfold c5n a1a
 split
 · rfl
 split
 · show -(a5d w fs + z) = a5d w (fs.map Oct.fl) + -z
   rw [d2z p fs h]; omega
 · simp [a5d]
theorem d1s {n k : Nat} {c : Tb} {w : Nat -> Int} {fs : List Nat} {z : Int} (S : Oct.Shp c (2 * n)) (p : Oct.Pt w (2 * n)) (l : Oct.a6u w c (2 * n)) (h : ∀ x ∈ fs, x < 2 * n) (h2 : fs.length <= 2) : Oct.a6u (c5n w k (a5d w fs + z)) (d8a c k fs z) (2 * n) := by
 intro f g hf hg
 have le := d3e S l (c4g (k := k) (z := z) h hf hg) (b9g h2)
 have ef := b1k (k := k) (f := f) (z := z) p h
 have eg := b1k (k := k) (f := g) (z := z) p h
 unfold d8a
 unfold Oct.tab
 revert le
 generalize eg4 : gr4 c (b1i k fs z f g).2.1 = e
 cases e with
 | none => intro _; trivial
 | some x =>
  intro le
  have le' : a5d w (b1i k fs z f g).2.1 <= x := le
  show c5n w k (a5d w fs + z) f + c5n w k (a5d w fs + z) g <= (b1i k fs z f g).1 * (x + (b1i k fs z f g).2.2)
  unfold b1i at le' eg4 ⊢
  by_cases h1 : g = Oct.fl f
  · rw [if_pos h1] at le' eg4 ⊢
    have e0 : (0 : Int) = x := Option.some.inj eg4
    have : c5n w k (a5d w fs + z) g = -c5n w k (a5d w fs + z) f := by
     rw [h1]
     have pf := p f hf
     unfold c5n
     unfold Oct.fl at pf ⊢
     by_cases o : f % 2 = 0
     · rw [if_pos o] at pf ⊢
       by_cases a1 : f = 2 * k
       · rw [if_neg (by omega), if_pos (by omega), if_pos a1]
       · rw [if_neg (by omega), if_neg (by omega), if_neg a1, if_neg (by omega)]; exact pf
     · rw [if_neg o] at pf ⊢
       by_cases a1 : f = 2 * k + 1
       · rw [if_pos (by omega), if_neg (by omega), if_pos a1, Int.neg_neg]
       · rw [if_neg (by omega), if_neg (by omega), if_neg (by omega), if_neg a1]; exact pf
    show _ <= (1 : Int) * (x + 0)
    omega
  · rw [if_neg h1] at le' ⊢
    by_cases h3 : g = f
    · rw [if_pos h3] at le' ⊢
      show _ <= (2 : Int) * (x + (a1a k fs z f).2)
      have le2 : a5d w (a1a k fs z f).1 <= x := le'
      rw [h3, ef]
      omega
    · rw [if_neg h3] at le' ⊢
      show _ <= (1 : Int) * (x + ((a1a k fs z f).2 + (a1a k fs z g).2))
      have le2 : a5d w ((a1a k fs z f).1 ++ (a1a k fs z g).1) <= x := le'
      rw [c9b] at le2
      rw [ef, eg]
      omega
def c3z (H : Hp) (b : Addr) (f g : Option Nat) (z : Int) : Prop := H b = some (.tup [gN f, gN g, .int z])
def b2g (K : PySem.W.Frag) : Sp := fun vs H Q _ => ∃ (b : Addr) (f g : Option Nat) (c : Int), vs = [.ref b] /\ c3z H b f g c /\ ∀ p H', a1i H H' -> H' p = some (.lst (fV (fsN f g))) -> Q (.ref p) H'
def b5f (K : PySem.W.Frag) : Sp := fun vs H Q _ => ∃ (b : Addr) (k h : Nat) (f g : Option Nat) (c : Int), vs = [.int k, .ref b, .int h] /\ c3z H b f g c /\ ∀ p l H', a1i H H' -> H' p = some (.tup [.ref l, .int (a1a k (fsN f g) c h).2]) -> H' l = some (.lst (fV (a1a k (fsN f g) c h).1)) -> Q (.ref p) H'
def b2f (K : PySem.W.Frag) : Sp := fun vs H Q _ => ∃ (b : Addr) (k h j : Nat) (f g : Option Nat) (c : Int), vs = [.int k, .ref b, .int h, .int j] /\ c3z H b f g c /\ ∀ p l H', a1i H H' -> H' p = some (.tup [.int (b1i k (fsN f g) c h j).1, .ref l, .int (b1i k (fsN f g) c h j).2.2]) -> H' l = some (.lst (fV (b1i k (fsN f g) c h j).2.1)) -> Q (.ref p) H'
def b8c (K : PySem.W.Frag) : Sp := fun vs H Q _ => ∃ (a p l : Addr) (bs : List Addr) (n : Nat) (c : Tb) (t m : Int) (fs : List Nat), vs = [.ref a, .ref p] /\ a2e H a bs (Oct.toT (2 * n) c) /\ H p = some (.tup [.int t, .ref l, .int m]) /\ H l = some (.lst (fV fs)) /\ (∀ f ∈ fs, f < 2 * n) /\ fs.length <= 3 /\ (t = 1 \/ t = 2) /\ ∀ H', a1i H H' -> Q (eV (peE t m (gr4 c fs))) H'
def c2j (K : PySem.W.Frag) : Sp := fun vs H Q _ => ∃ (a b : Addr) (bs : List Addr) (n k h : Nat) (c : Tb) (f g : Option Nat) (z : Int), vs = [.ref a, .int k, .ref b, .int h] /\ a2e H a bs (Oct.toT (2 * n) c) /\ c3z H b f g z /\ InO n f /\ InO n g /\ h < 2 * n /\ n <= 100 /\ ∀ p H', H p = none -> a1i H H' -> H' p = some (.lst ((Oct.ln (2 * n) (d8a c k (fsN f g) z h)).map eV)) -> Q (.ref p) H'
def e2f (K : PySem.W.Frag) : Sp := fun vs H Q _ => ∃ (v : V) (b : Addr) (n k : Nat) (o : Option Tb) (f g : Option Nat) (z : Int), vs = [v, .int k, .ref b] /\ a1x H v (2 * n) o /\ c3z H b f g z /\ InO n f /\ InO n g /\ n <= 100 /\ ∀ u H', a1i H H' -> a2b H H' u (2 * n) (e7v k (fsN f g) z o) -> Q u H'
theorem c4r {xs : List Int} {k j : Nat} {z : Int} (hk : k < xs.length) : (xs.set k z).getD j 0 = if j = k then z else xs.getD j 0 := by
 rw [List.getD_eq_getElem?_getD, List.getElem?_set, List.getD_eq_getElem?_getD]
 by_cases h : k = j
 · subst h; simp [hk]
 · simp [h, Ne.symm h]
theorem d6o {α : Type} {l : List α} {p : α -> Bool} {i : Nat} {x : α} (e : l[i]? = some x) : (l.take (i + 1)).filter p = (l.take i).filter p ++ (if p x then [x] else []) := by
 rw [a2g e, List.filter_append]
 cases h : p x <;> simp [h]
def loL (k : Nat) : Ent -> List Sdn
 | some l => [(2 * k + 1, 2 * k + 1, -2 * l)]
 | none => []
def hiL (k : Nat) : Ent -> List Sdn
 | some h => [(2 * k, 2 * k, 2 * h)]
 | none => []
def d7c (k : Nat) (lo hi : Ent) : List Sdn := loL k lo ++ hiL k hi
def e1j (k : Nat) (s : Sdn) : Bool := !inV (.int (k : Int)) [.int ((s.1 : Nat) / 2 : Int), .int ((s.2.1 : Nat) / 2 : Int)]
theorem d1x {k : Nat} {s : Sdn} : e1j k s = true ↔ s.1 / 2 ≠ k /\ s.2.1 / 2 ≠ k := by
 unfold e1j inV
 simp [eqV]
 omega
def e0x (n k : Nat) (lo hi : Ent) (c : Tb) : List Sdn := (b4y (2 * n) c (2 * n)).filter (e1j k) ++ d7c k lo hi
def e5a (n k : Nat) (lo hi : Ent) (o : Option Tb) : Option Tb := o.bind fun c => a6l n (e0x n k lo hi c)
theorem e5v {n k : Nat} {lo hi : Ent} (hk : k < n) : ∀ s ∈ d7c k lo hi, s.1 < 2 * n /\ s.2.1 < 2 * n := fun s hs => by
 unfold d7c at hs
 cases lo <;> cases hi <;> simp [loL, hiL] at hs
 · rw [hs]; exact ⟨by show 2 * k < 2 * n; omega, by show 2 * k < 2 * n; omega⟩
 · rw [hs]; exact ⟨by show 2 * k + 1 < 2 * n; omega, by show 2 * k + 1 < 2 * n; omega⟩
 · rcases hs with h | h <;> rw [h]
   · exact ⟨by show 2 * k + 1 < 2 * n; omega, by show 2 * k + 1 < 2 * n; omega⟩
   · exact ⟨by show 2 * k < 2 * n; omega, by show 2 * k < 2 * n; omega⟩
theorem c8l {n k : Nat} {lo hi : Ent} {c : Tb} (hk : k < n) : ∀ s ∈ e0x n k lo hi c, s.1 < 2 * n /\ s.2.1 < 2 * n := fun s hs => by
 rcases List.mem_append.mp hs with h | h
 · have := c3c.mp (List.mem_filter.mp h).1
   exact ⟨this.1, this.2.1⟩
 · exact e5v hk s h
theorem e3c (k : Nat) (lo hi : Ent) : (d7c k lo hi).length <= 2 := by
 unfold d7c
 cases lo <;> cases hi <;> simp [loL, hiL]
theorem d7e {n k : Nat} {lo hi : Ent} {c : Tb} {w : Nat -> Int} {z : Int} (l : Oct.a6u w c (2 * n)) (hlo : ∀ x, lo = some x -> x <= z) (hhi : ∀ x, hi = some x -> z <= x) : ∀ s ∈ e0x n k lo hi c, Oct.b4p w k z s.1 + Oct.b4p w k z s.2.1 <= s.2.2 := fun s hs => by
 rcases List.mem_append.mp hs with h | h
 · obtain ⟨m1, m2⟩ := List.mem_filter.mp h
   obtain ⟨a1, a2, a3, a4, a5⟩ := c3c.mp m1
   obtain ⟨b1, b2⟩ := d1x.mp m2
   have := l s.1 s.2.1 a1 a2
   rw [a5] at this
   have t : w s.1 + w s.2.1 <= s.2.2 := this
   unfold Oct.b4p
   rw [if_neg (by omega), if_neg (by omega), if_neg (by omega), if_neg (by omega)]
   exact t
 · have p0 : Oct.b4p w k z (2 * k) = z := by unfold Oct.b4p; rw [if_pos rfl]
   have p1 : Oct.b4p w k z (2 * k + 1) = -z := by unfold Oct.b4p; rw [if_neg (by omega), if_pos rfl]
   unfold d7c at h
   cases lo with
   | none =>
    cases hi with
    | none => simp [loL, hiL] at h
    | some y =>
     have hy := hhi y rfl
     have h' : s = (2 * k, 2 * k, 2 * y) := by simpa [loL, hiL] using h
     rw [h']
     show Oct.b4p w k z (2 * k) + Oct.b4p w k z (2 * k) <= 2 * y
     rw [p0]; omega
   | some x =>
    have hx := hlo x rfl
    cases hi with
    | none =>
     have h' : s = (2 * k + 1, 2 * k + 1, -2 * x) := by simpa [loL, hiL] using h
     rw [h']
     show Oct.b4p w k z (2 * k + 1) + Oct.b4p w k z (2 * k + 1) <= -2 * x
     rw [p1]; omega
    | some y =>
     have hy := hhi y rfl
     have h' : s = (2 * k + 1, 2 * k + 1, -2 * x) \/ s = (2 * k, 2 * k, 2 * y) := by simpa [loL, hiL] using h
     rcases h' with h' | h' <;> rw [h']
     · show Oct.b4p w k z (2 * k + 1) + Oct.b4p w k z (2 * k + 1) <= -2 * x
       rw [p1]; omega
     · show Oct.b4p w k z (2 * k) + Oct.b4p w k z (2 * k) <= 2 * y
       rw [p0]; omega
theorem e1a {n k : Nat} {lo hi : Ent} {c d : Tb} {w : Nat -> Int} (S : Oct.Shp c (2 * n)) (hk : k < n) (pw : Oct.Pt w (2 * n)) (e : a6l n (e0x n k lo hi c) = some d) (l : Oct.a6u w d (2 * n)) :
  (∀ x, lo = some x -> x <= w (2 * k)) /\ (∀ x, hi = some x -> w (2 * k) <= x) /\ ∃ z, Oct.a6u (Oct.b4p w k z) c (2 * n) := by
 have kd : ∀ s ∈ e0x n k lo hi c, w s.1 + w s.2.1 <= s.2.2 := fun s hs => Oct.a0j (l s.1 s.2.1 (c8l hk s hs).1 (c8l hk s hs).2) ((a6i (c8l hk) e).2 s hs).1
 have p1 := pw (2 * k) (by omega)
 have e1 : Oct.fl (2 * k) = 2 * k + 1 := by unfold Oct.fl; rw [if_pos (by omega)]
 rw [e1] at p1
 refine ⟨fun x hx => ?_, fun x hx => ?_, ?_⟩
 · have : w (2 * k + 1) + w (2 * k + 1) <= -2 * x := kd (2 * k + 1, 2 * k + 1, -2 * x) (List.mem_append.mpr (.inr (by rw [hx]; simp [d7c, loL, hiL])))
   omega
 · have : w (2 * k) + w (2 * k) <= 2 * x := kd (2 * k, 2 * k, 2 * x) (List.mem_append.mpr (.inr (by rw [hx]; simp [d7c, loL, hiL])))
   omega
 · have key : ∀ f g, f < 2 * n -> g < 2 * n -> f / 2 ≠ k -> g / 2 ≠ k -> f <= g -> Oct.leE (Oct.tab w f g) (c f g) := fun f g hf hg hfk hgk hfg => by
    by_cases hfl : g = Oct.fl f
    · rw [hfl, S.zero f hf]
      have := pw f hf
      simp [Oct.tab, Oct.leE]
      omega
    · cases ec : c f g with
      | none => trivial
      | some z => exact kd (f, g, z) (List.mem_append.mpr (.inl (List.mem_filter.mpr ⟨c3c.mpr ⟨hf, hg, hfg, hfl, ec⟩, d1x.mpr ⟨hfk, hgk⟩⟩)))
   have lS : Oct.d7w (fun j => j != k) w c (2 * n) := fun f g hf hg h1 h2 => by
    have hfk : f / 2 ≠ k := by simpa using h1
    have hgk : g / 2 ≠ k := by simpa using h2
    by_cases hfg : f <= g
    · exact key f g hf hg hfk hgk hfg
    · have := key g f hg hf hgk hfk (by omega)
      rw [S.good.tight.sym f g hf hg]
      have et : Oct.tab w f g = Oct.tab w g f := by simp [Oct.tab]; omega
      rw [et]; exact this
   obtain ⟨z, hz⟩ := Oct.d8f S.good.tight S.good.nn hk (by simp) lS
   refine ⟨z, fun f g hf hg => hz f g hf hg ?_ ?_⟩ <;> simp <;> omega
theorem e1m {xs : List Int} {n k f : Nat} {z : Int} (lx : xs.length = n) (hk : k < n) : wN (xs.set k z) f = Oct.b4p (wN xs) k z f := by
 have e1 : ((f : Int) / 2).toNat = f / 2 := by omega
 unfold wN a1k Oct.b4p
 rw [e1, c4r (by omega)]
 by_cases h0 : f = 2 * k
 · rw [if_pos (by omega), if_pos (by omega), if_pos h0]
 · rw [if_neg h0]
   by_cases h1 : f = 2 * k + 1
   · rw [if_neg (by omega), if_pos (by omega), if_pos h1]
   · have hj : f / 2 ≠ k := by omega
     rw [if_neg h1, if_neg hj]
     show _ = (if (f : Int) % 2 = 0 then xs.getD ((f : Int) / 2).toNat 0 else -xs.getD ((f : Int) / 2).toNat 0)
     rw [e1]
theorem d2o {xs : List Int} {n k : Nat} {z : Int} {c : Tb} (lx : xs.length = n) (hk : k < n) : Oct.a6u (wN (xs.set k z)) c (2 * n) ↔ Oct.a6u (Oct.b4p (wN xs) k z) c (2 * n) := by
 have e : wN (xs.set k z) = Oct.b4p (wN xs) k z := funext fun f => e1m lx hk
 rw [e]
def b8b (K : PySem.W.Frag) : Sp := fun vs H Q _ => ∃ (k : Nat) (lo hi : Ent), vs = [.int k, eV lo, eV hi] /\ ∀ p ys H', a1i H H' -> H p = none -> H' p = some (.lst ys) -> Paired (a2o H') ys (d7c k lo hi) -> Q (.ref p) H'
def d2t (K : PySem.W.Frag) : Sp := fun vs H Q _ => ∃ (v : V) (n k : Nat) (lo hi : Ent) (o : Option Tb), vs = [v, .int k, eV lo, eV hi] /\ a1x H v (2 * n) o /\ k < n /\ n <= 6 /\ ∀ u H', a1i H H' -> a2b H H' u (2 * n) (e5a n k lo hi o) -> Q u H'
theorem d6d {n : Nat} {c : Tb} {fs : List Nat} {m : Int} (S : Oct.Shp c (2 * n)) (hin : ∀ f ∈ fs, f < 2 * n) (h3 : fs.length <= 3) (hm : Oct.leE (some m) (gr4 c fs)) : ∃ w, Oct.Pt w (2 * n) /\ Oct.a6u w c (2 * n) /\ m <= a5d w fs := by
 have T := S.good.tight
 have D := e5g S
 have even : ∀ f, f < 2 * n -> Oct.fl f < 2 * n := fun f hf => Oct.a3k hf
 have one : ∀ f, f < 2 * n -> ∀ m : Int, Oct.leE (some m) (Oct.hv c f) -> ∃ w, Oct.Pt w (2 * n) /\ Oct.a6u w c (2 * n) /\ m <= w f := fun f hf m h => Oct.d2j T D hf h
 match fs, hin, h3, hm with
 | [], _, _, hm =>
  obtain ⟨w, p, l⟩ := Oct.b1j T D
  exact ⟨w, p, l, hm⟩
 | [f], hin, _, hm =>
  obtain ⟨w, p, l, h⟩ := one f (hin f (by simp)) m hm
  exact ⟨w, p, l, by simpa [a5d] using h⟩
 | [f, g], hin, _, hm =>
  have hf := hin f (by simp)
  have hg := hin g (by simp)
  have hm' : Oct.leE (some m) (c f g) := hm
  suffices h0 : ∃ w, Oct.Pt w (2 * n) /\ Oct.a6u w c (2 * n) /\ m <= w f + w g from by
   obtain ⟨w, p, l, h⟩ := h0
   exact ⟨w, p, l, by simpa [a5d] using h⟩
  by_cases e1 : g = Oct.fl f
  · rw [e1, S.zero f hf] at hm'
    obtain ⟨w, p, l⟩ := Oct.b1j T D
    refine ⟨w, p, l, ?_⟩
    have := p f hf
    have hm0 : m <= 0 := hm'
    rw [e1]; omega
  by_cases e2 : f = g
  · subst e2
    rw [← Oct.a6x T hf] at hm'
    have h2 : Oct.leE (some (m - m / 2)) (Oct.hv c f) := by
     revert hm'
     generalize Oct.hv c f = z
     cases z <;> simp [Oct.leE, Oct.dbl] <;> omega
    obtain ⟨w, p, l, h⟩ := one f hf _ h2
    exact ⟨w, p, l, by omega⟩
  · exact Oct.c4c T D hf hg (fun z => by unfold Oct.fl at e1; split at e1 <;> omega) hm'
 | [f, g, h], hin, _, hm =>
  have hf := hin f (by simp)
  have hg := hin g (by simp)
  have hh := hin h (by simp)
  have hm' : Oct.leE (some m) (Oct.gr3 c f g h) := hm
  obtain ⟨b1, b2, b3, b4⟩ := Oct.c2m hm'
  have tot : ∀ w : Nat -> Int, a5d w [f, g, h] = w f + w g + w h := fun w => e8p w f g h
  have drop0 : ∀ {e : Ent}, Oct.leE (some m) (Oct.a0t (some 0) e) -> Oct.leE (some m) e := fun {e} h => by
   revert h
   cases e <;> simp [Oct.leE, Oct.a0t]
  have lone : ∀ x, x < 2 * n -> Oct.leE (some m) (Oct.hv c x) -> (∀ w, Oct.Pt w (2 * n) -> w x = w f + w g + w h) -> ∃ w, Oct.Pt w (2 * n) /\ Oct.a6u w c (2 * n) /\ m <= a5d w [f, g, h] := fun x hx hl ht => by
   obtain ⟨w, p, l, hw⟩ := one x hx m hl
   exact ⟨w, p, l, by rw [tot, ← ht w p]; exact hw⟩
  by_cases c1 : f = Oct.fl g
  · rw [c1, S.zero' even hg] at b1
    exact lone h hh (drop0 b1) fun w p => by have := p g hg; rw [← c1] at this; omega
  by_cases c2 : f = Oct.fl h
  · rw [c2, S.zero' even hh] at b2
    exact lone g hg (drop0 b2) fun w p => by have := p h hh; rw [← c2] at this; omega
  by_cases c3 : g = Oct.fl h
  · rw [c3, S.zero' even hh] at b3
    exact lone f hf (drop0 b3) fun w p => by have := p h hh; rw [← c3] at this; omega
  have par : ∀ x y : Nat, x ≠ Oct.fl y -> x ≠ y -> x / 2 ≠ y / 2 := fun x y h1 h2 e => by
   unfold Oct.fl at h1
   split at h1 <;> omega
  by_cases d1 : f = g
  · by_cases d2 : f = h
    · subst d1 d2
      have ev := Oct.a6x T hf
      rw [← ev] at b1
      have h2 : Oct.leE (some (-(-m / 3))) (Oct.hv c f) := by
       revert b1
       generalize Oct.hv c f = z
       cases z <;> simp [Oct.leE, Oct.dbl, Oct.a0t] <;> omega
      obtain ⟨w, p, l, hw⟩ := one f hf _ h2
      exact ⟨w, p, l, by rw [tot]; omega⟩
    · have hp := (d0m T.sym hf hg hh hm').2
      obtain ⟨e1, e2, e3, e4⟩ := Oct.c2m hp
      obtain ⟨w, p, l, hw⟩ := Oct.c2p T S.zero hf hh hg (par f h c2 d2) e1 e2 e3 e4
      exact ⟨w, p, l, by rw [tot]; omega⟩
  · obtain ⟨w, p, l, hw⟩ := Oct.c2p T S.zero hf hg hh (par f g c1 d1) b1 b2 b3 b4
    exact ⟨w, p, l, by rw [tot]; exact hw⟩
 | _ :: _ :: _ :: _ :: _, _, h3, _ => exact absurd h3 (by simp)
theorem d6n {n : Nat} {t : Tb} {P : (Nat -> Int) -> Prop} (hp : ∀ w, P w -> Oct.Pt w (2 * n)) (up : ∀ w, P w -> Oct.a6u w t (2 * n)) (met : ∀ f g, f < 2 * n -> g < 2 * n -> ∀ m : Int, Oct.leE (some m) (t f g) -> ∃ w, P w /\ m <= w f + w g) : Oct.Shp t (2 * n) := by
 have even : ∀ f, f < 2 * n -> Oct.fl f < 2 * n := fun f hf => Oct.a3k hf
 have u : ∀ w, P w -> ∀ f g, f < 2 * n -> g < 2 * n -> Oct.leE (some (w f + w g)) (t f g) := fun w h f g hf hg => up w h f g hf hg
 have sy : Oct.Sym t (2 * n) := fun f g hf hg => by
  refine Oct.a9c (d5j fun m hm => ?_) (d5j fun m hm => ?_)
  · obtain ⟨w, h, hw⟩ := met f g hf hg m hm
    exact Oct.a0j (show Oct.leE (some m) (some (w g + w f)) from by show m <= w g + w f; omega) (u w h g f hg hf)
  · obtain ⟨w, h, hw⟩ := met g f hg hf m hm
    exact Oct.a0j (show Oct.leE (some m) (some (w f + w g)) from by show m <= w f + w g; omega) (u w h f g hf hg)
 have add : ∀ {a b : Int} {x y : Ent} {m : Int}, Oct.leE (some a) x -> Oct.leE (some b) y -> m <= a + b -> Oct.leE (some m) (Oct.a0t x y) := fun {a b x y m} h1 h2 h3 => by
  revert h1 h2
  cases x <;> cases y <;> simp [Oct.leE, Oct.a0t] <;> omega
 have zero : ∀ f, f < 2 * n -> t f (Oct.fl f) = some 0 := fun f hf => by
  refine Oct.a9c (d5j fun m hm => ?_) ?_
  · obtain ⟨w, h, hw⟩ := met f (Oct.fl f) hf (even f hf) m hm
    have := hp w h f hf
    show m <= 0
    omega
  · obtain ⟨w, h, _⟩ : ∃ w, P w /\ True := by
     cases e : t f (Oct.fl f) with
     | none => obtain ⟨w, h, _⟩ := met f (Oct.fl f) hf (even f hf) 0 (by rw [e]; trivial); exact ⟨w, h, trivial⟩
     | some z => obtain ⟨w, h, _⟩ := met f (Oct.fl f) hf (even f hf) z (by rw [e]; exact Oct.a1r _); exact ⟨w, h, trivial⟩
    have e := hp w h f hf
    have := u w h f (Oct.fl f) hf (even f hf)
    rwa [show w f + w (Oct.fl f) = 0 by omega] at this
 have tight : Oct.a6e t (2 * n) := by
  refine ⟨sy, fun h hh f g hf hg => d5j fun m hm => ?_, fun f hf a ea => ?_, fun f g hf hg => d5j fun m hm => ?_⟩
  · obtain ⟨w, q, hw⟩ := met f g hf hg m hm
    have e := hp w q h hh
    exact add (u w q f h hf hh) (u w q (Oct.fl h) g (even h hh) hg) (by omega)
  · obtain ⟨w, q, hw⟩ := met f f hf hf a (by rw [ea]; exact Oct.a1r _)
    have := u w q f f hf hf
    rw [ea] at this
    have : w f + w f <= a := this
    omega
  · have hm' : Oct.leE (some (m - m / 2)) (t f g) := by
     revert hm
     generalize t f g = e
     cases e <;> simp [Oct.leE, Oct.dbl] <;> omega
    obtain ⟨w, q, hw⟩ := met f g hf hg _ hm'
    exact add (u w q f f hf hf) (u w q g g hg hg) (by omega)
 exact ⟨⟨tight, fun f hf => by rw [zero f hf]; exact Oct.a1r _⟩, zero⟩
theorem d5k {n : Nat} {c : Tb} (S : Oct.Shp c (2 * n)) {f g : Nat} (hf : f < 2 * n) (hg : g < 2 * n) {m : Int} (hm : Oct.leE (some m) (c f g)) : ∃ w, Oct.Pt w (2 * n) /\ Oct.a6u w c (2 * n) /\ m <= w f + w g := by
 obtain ⟨w, p, l, h⟩ := d6d (fs := [f, g]) S (fun x hx => by
  have : x = f \/ x = g := by simpa using hx
  rcases this with e | e <;> rw [e] <;> assumption) (by decide : 2 <= 3) hm
 exact ⟨w, p, l, by simpa [a5d] using h⟩
theorem d9f {n : Nat} {o1 o2 : Option Tb} (S1 : b6n (2 * n) o1) (S2 : b6n (2 * n) o2) : b6n (2 * n) (b8h o1 o2) := by
 cases e : b8h o1 o2 with
 | none => trivial
 | some d =>
  refine d6n (P := fun w => Oct.Pt w (2 * n) /\ (b0h n w o1 \/ b0h n w o2)) (fun w h => h.1) (fun w h => c8e e h.2) fun f g hf hg m hm => ?_
  rcases d1z (f := f) (g := g) e with ⟨x, ex, q⟩ | ⟨x, ex, q⟩
  · rw [← q] at hm
    subst ex
    obtain ⟨w, p, l, h⟩ := d5k S1 hf hg hm
    exact ⟨w, ⟨p, .inl l⟩, h⟩
  · rw [← q] at hm
    subst ex
    obtain ⟨w, p, l, h⟩ := d5k S2 hf hg hm
    exact ⟨w, ⟨p, .inr l⟩, h⟩
theorem d1u {n : Nat} {o : Option Tb} (S : b6n (2 * n) o) : ∀ (ls : List (List Sdn)) (acc : Option Tb), (∀ l ∈ ls, InS n l) -> b6n (2 * n) acc -> b6n (2 * n) (e1s n o acc ls)
 | [], _, _, h => h
 | x :: r, acc, hi, h => d1u S r _ (fun l hl => hi l (List.mem_cons_of_mem _ hl)) (d9f h (c7w S (hi x List.mem_cons_self)))
theorem d8t {n k : Nat} {w : Nat -> Int} {v : Int} (p : Oct.Pt w (2 * n)) : Oct.Pt (c5n w k v) (2 * n) := by
 intro f hf
 have pf := p f hf
 unfold c5n
 unfold Oct.fl at pf ⊢
 by_cases o : f % 2 = 0
 · rw [if_pos o] at pf ⊢
   by_cases a1 : f = 2 * k
   · rw [if_neg (by omega), if_pos (by omega), if_pos a1]
   · rw [if_neg (by omega), if_neg (by omega), if_neg a1, if_neg (by omega)]; exact pf
 · rw [if_neg o] at pf ⊢
   by_cases a1 : f = 2 * k + 1
   · rw [if_pos (by omega), if_neg (by omega), if_pos a1, Int.neg_neg]
   · rw [if_neg (by omega), if_neg (by omega), if_neg (by omega), if_neg a1]; exact pf
theorem e4b {n k : Nat} {c : Tb} {fs : List Nat} {z : Int} (S : Oct.Shp c (2 * n)) (h : ∀ x ∈ fs, x < 2 * n) (h2 : fs.length <= 2) : Oct.Shp (d8a c k fs z) (2 * n) := by
 refine d6n (P := fun w' => ∃ w, Oct.Pt w (2 * n) /\ Oct.a6u w c (2 * n) /\ w' = c5n w k (a5d w fs + z)) ?_ ?_ fun f g hf hg m hm => ?_
 · rintro w' ⟨w, p, l, rfl⟩
   exact d8t p
 · rintro w' ⟨w, p, l, rfl⟩
   exact d1s S p l h h2
 · have key : ∃ w, Oct.Pt w (2 * n) /\ Oct.a6u w c (2 * n) /\ m <= c5n w k (a5d w fs + z) f + c5n w k (a5d w fs + z) g := by
    unfold d8a at hm
    have hin := c4g (k := k) (z := z) h hf hg
    have h3 := b9g (k := k) (f := f) (g := g) (z := z) h2
    by_cases e1 : g = Oct.fl f
    · have m0 : m <= 0 := by
       unfold b1i at hm
       rw [if_pos e1] at hm
       have : m <= 1 * (0 + 0) := hm
       omega
      obtain ⟨w, p, l⟩ := Oct.b1j S.good.tight (e5g S)
      refine ⟨w, p, l, ?_⟩
      have := d8t (k := k) (v := a5d w fs + z) p f hf
      rw [e1]; omega
    · by_cases e2 : g = f
      · have es : b1i k fs z f g = (2, (a1a k fs z f).1, (a1a k fs z f).2) := by unfold b1i; rw [if_neg e1, if_pos e2]
        rw [es] at hm hin h3
        have hm' : Oct.leE (some (-(-m / 2) - (a1a k fs z f).2)) (gr4 c (a1a k fs z f).1) := by
         revert hm
         show Oct.leE (some m) (peE 2 (a1a k fs z f).2 (gr4 c (a1a k fs z f).1)) -> _
         generalize gr4 c (a1a k fs z f).1 = e
         cases e with
         | none => intro _; trivial
         | some t =>
          intro hm
          have : m <= 2 * (t + (a1a k fs z f).2) := hm
          show -(-m / 2) - (a1a k fs z f).2 <= t
          omega
        obtain ⟨w, p, l, hw⟩ := d6d S hin h3 hm'
        refine ⟨w, p, l, ?_⟩
        have hw' : -(-m / 2) - (a1a k fs z f).2 <= a5d w (a1a k fs z f).1 := hw
        rw [e2, b1k p h]
        omega
      · have es : b1i k fs z f g = (1, (a1a k fs z f).1 ++ (a1a k fs z g).1, (a1a k fs z f).2 + (a1a k fs z g).2) := by unfold b1i; rw [if_neg e1, if_neg e2]
        rw [es] at hm hin h3
        have hm' : Oct.leE (some (m - (a1a k fs z f).2 - (a1a k fs z g).2)) (gr4 c ((a1a k fs z f).1 ++ (a1a k fs z g).1)) := by
         revert hm
         show Oct.leE (some m) (peE 1 ((a1a k fs z f).2 + (a1a k fs z g).2) (gr4 c ((a1a k fs z f).1 ++ (a1a k fs z g).1))) -> _
         generalize gr4 c ((a1a k fs z f).1 ++ (a1a k fs z g).1) = e
         cases e with
         | none => intro _; trivial
         | some t =>
          intro hm
          have : m <= 1 * (t + ((a1a k fs z f).2 + (a1a k fs z g).2)) := hm
          show m - (a1a k fs z f).2 - (a1a k fs z g).2 <= t
          omega
        obtain ⟨w, p, l, hw⟩ := d6d S hin h3 hm'
        refine ⟨w, p, l, ?_⟩
        have hw' : m - (a1a k fs z f).2 - (a1a k fs z g).2 <= a5d w ((a1a k fs z f).1 ++ (a1a k fs z g).1) := hw
        rw [c9b] at hw'
        rw [b1k p h, b1k p h]
        omega
   obtain ⟨w, p, l, hw⟩ := key
   exact ⟨_, ⟨w, p, l, rfl⟩, hw⟩
theorem b1c {n : Nat} {f : Int} (h : InR n f) : ((f.toNat : Nat) : Int) = f /\ f.toNat < 2 * n := by
 have := h.1
 have := h.2
 constructor <;> omega
theorem e4p {n : Nat} {g : Option Int} (h : InG n g) : gN (g.map Int.toNat) = gV g := by
 cases g with
 | none => rfl
 | some x =>
  show V.int ((x.toNat : Nat) : Int) = V.int x
  rw [(b1c h).1]
theorem b6f {n : Nat} {g : Option Int} (h : InG n g) : InO n (g.map Int.toNat) := by
 intro x hx
 cases g with
 | none => cases hx
 | some y =>
  cases hx
  exact (b1c h).2
theorem d2e {n : Nat} {f : Int} {g : Option Int} (hf : InR n f) (hg : InG n g) : InN n f.toNat (g.map Int.toNat) := ⟨(b1c hf).2, b6f hg⟩
theorem d7s {n : Nat} {H : Hp} {b : Addr} {f : Int} {g : Option Int} {w : Str} {c : Int} (h : H b = some (.tup [.int f, gV g, .str w, .int c])) (hf : InR n f) (hg : InG n g) : e5d H b f.toNat (g.map Int.toNat) w c := by
 rw [e5d, (b1c hf).1, e4p hg]
 exact h
theorem e1t {n : Nat} {H : Hp} {b : Addr} {f g : Option Int} {c : Int} (h : H b = some (.tup [gV f, gV g, .int c])) (hf : InG n f) (hg : InG n g) : c3z H b (f.map Int.toNat) (g.map Int.toNat) c := by
 rw [c3z, e4p hf, e4p hg]
 exact h
def e4w (n : Nat) (o : Option Tb) : Dd -> Option Tb
 | .go => o
 | .keep f g w c => e8k n o f.toNat (g.map Int.toNat) w c
 | .put k f g c => e7v k (fsN (f.map Int.toNat) (g.map Int.toNat)) c o
 | .ask k lo hi => e5a n k lo hi o
theorem d9d {n : Nat} {o : Option Tb} {D : Dd} (S : b6n (2 * n) o) (h : InD n D) : b6n (2 * n) (e4w n o D) := by
 cases D with
 | go => exact S
 | keep f g w c => exact d1u S _ none (b5o (d2e h.1 h.2.1)) trivial
 | put k f g c =>
  cases o with
  | none => trivial
  | some t => exact e4b S (d2b (b6f h.2.1) (b6f h.2.2)) (b7c _ _)
 | ask k lo hi =>
  cases o with
  | none => trivial
  | some t =>
   show b6n (2 * n) (a6l n (e0x n k lo hi t))
   cases e : a6l n (e0x n k lo hi t) with
   | none => trivial
   | some d => exact (a6i (c8l h.1) e).1
theorem d8s {n : Nat} {xs : List Int} {f : Int} {g : Option Int} (hf : InR n f) (hg : InG n g) : e5x (wN xs) f.toNat (g.map Int.toNat) = d9a xs f g := by
 cases g with
 | none =>
  show a1k xs ((f.toNat : Nat) : Int) = a1k xs f
  rw [(b1c hf).1]
 | some y =>
  show a1k xs ((f.toNat : Nat) : Int) + a1k xs ((y.toNat : Nat) : Int) = a1k xs f + a1k xs y
  rw [(b1c hf).1, (b1c hg).1]
theorem e1w {n : Nat} {xs : List Int} {f g : Option Int} (hf : InG n f) (hg : InG n g) : a5d (wN xs) (fsN (f.map Int.toNat) (g.map Int.toNat)) = ((fsO f g).map (a1k xs)).sum := by
 have one : ∀ {x : Int}, InR n x -> wN xs x.toNat = a1k xs x := fun {x} h => by
  show a1k xs ((x.toNat : Nat) : Int) = a1k xs x
  rw [(b1c h).1]
 cases f <;> cases g
 · rfl
 · simp [a5d, fsN, fsO, d6e, d1r, one hg]
 · simp [a5d, fsN, fsO, d6e, d1r, one hf]
 · simp [a5d, fsN, fsO, d6e, d1r, one hf, one hg]
theorem d3b {xs : List Int} {n k : Nat} {z : Int} (lx : xs.length = n) (hk : k < n) : wN (xs.set k z) = c5n (wN xs) k z := funext fun f => by rw [e1m lx hk]; rfl
theorem c0q {n : Nat} {o : Option Tb} {D : Dd} {xs ys : List Int} {num : Int} (S : b6n (2 * n) o) (h : InD n D) (lx : xs.length = n) (l : b0h n (wN xs) o) (e : d3f xs num D = some ys) : b0h n (wN ys) (e4w n o D) /\ ys.length = n := by
 cases o with
 | none => exact l.elim
 | some t =>
  have S' : Oct.Shp t (2 * n) := S
  have pw := b4f xs (2 * n)
  cases D with
  | go => cases e; exact ⟨l, lx⟩
  | keep f g w c =>
   have e' : (if a9d w (d9a xs f g) c = true then some xs else none) = some ys := e
   by_cases hh : a9d w (d9a xs f g) c = true
   · rw [if_pos hh] at e'
     cases e'
     exact ⟨d9g S' (d2e h.1 h.2.1) h.2.2 pw l (by rw [d8s h.1 h.2.1]; exact hh), lx⟩
   · rw [if_neg hh] at e'
     cases e'
  | put k f g c =>
   cases e
   refine ⟨?_, by rw [List.length_set, lx]⟩
   have hin := d2b (b6f h.2.1) (b6f h.2.2)
   have := d1s (k := k) (z := c) S' pw l hin (b7c _ _)
   show Oct.a6u (wN (xs.set k (e4z xs f g c))) (d8a t k _ c) (2 * n)
   rw [d3b lx h.1, e4z, ← e1w h.2.1 h.2.2]
   exact this
  | ask k lo hi =>
   cases e
   refine ⟨?_, by rw [List.length_set, lx]⟩
   have b1 : ∀ x, lo = some x -> x <= b3t lo hi num := fun x hx => by
    subst hx
    by_cases hz : num < x
    · rw [c3w hz]; exact Int.le_refl _
    · rw [b9b (fun l' e => by cases e; exact hz)]
      cases hi with
      | none => show x <= num; omega
      | some y =>
       have := h.2 x y rfl rfl
       show x <= (if y < num then y else num)
       split <;> omega
   have b2 : ∀ x, hi = some x -> b3t lo hi num <= x := fun x hx => by
    subst hx
    have cap : c1r (some x) num <= x := by show (if x < num then x else num) <= x; split <;> omega
    cases lo with
    | none => exact cap
    | some y =>
     by_cases hz : num < y
     · rw [c3w hz]; exact h.2 y x rfl rfl
     · rw [b9b (fun l' e => by cases e; exact hz)]; exact cap
   have kp := d7e (k := k) (lo := lo) (hi := hi) l b1 b2
   obtain ⟨d, ed⟩ := b4o (Oct.d0g (k := k) (z := b3t lo hi num) pw) kp
   have := c0g (Oct.d0g (k := k) (z := b3t lo hi num) pw) kp ed
   show b0h n _ (a6l n (e0x n k lo hi t))
   rw [ed]
   exact (d2o lx h.1).mpr this
def b0s (K : PySem.W.Frag) : Sp := fun vs H Q _ => ∃ (x v : V) (n : Nat) (o : Option Tb), vs = [x, v] /\ a1x H v (2 * n) o /\ n <= 100 /\ ∀ u H', a1i H H' -> a2b H H' u (2 * n) o -> Q u H'
def a9b (K : PySem.W.Frag) (Z : Addr) : Sp := fun vs H Q _ => ∃ (x dx aa : Addr) (v : V) (n k : Nat) (o : Option Tb) (f g : Option Nat) (c : Int), vs = [.ref x, v] /\ H x = some (.ins Z dx (fP (.int k) (.ref aa))) /\ c3z H aa f g c /\ a1x H v (2 * n) o /\ InO n f /\ InO n g /\ n <= 100 /\ ∀ u H', a1i H H' -> a2b H H' u (2 * n) (e7v k (fsN f g) c o) -> Q u H'
def a9h (K : PySem.W.Frag) (Z : Addr) : Sp := fun vs H Q _ => ∃ (x dx : Addr) (v : V) (n k : Nat) (lo hi : Ent) (o : Option Tb), vs = [.ref x, v] /\ H x = some (.ins Z dx (fA (.int k) (eV lo) (eV hi))) /\ a1x H v (2 * n) o /\ k < n /\ n <= 6 /\ ∀ u H', a1i H H' -> a2b H H' u (2 * n) (e5a n k lo hi o) -> Q u H'
theorem e1e {K : PySem.W.Frag} {Z_Go Z_Keep Z_Put Z_Ask : Addr} {n : Nat} {o : Option Tb} {D : Dd} {σ : St} {H : Hp} {Q : VK} {E : XK} {i : Nat} {d v : V} {ta : TA} (hd : σ[i]? = some (some d)) (hta : ∀ G, G [v] H -> ta σ H G) (hD : b7k Z_Go Z_Keep Z_Put Z_Ask H d D) (hI : InD n D) (hV : a1x H v (2 * n) o) (hS : b6n (2 * n) o) (n6 : n <= 6) (k : ∀ u H', a1i H H' -> a2b H H' u (2 * n) (e4w n o D) -> Q u H') :
  c1s Z_Go "image" (b0s K) [] E (d4t i) ta σ H Q \/ c1s Z_Keep "image" (a7c K Z_Keep) [] E (d4t i) ta σ H Q \/ c1s Z_Put "image" (a9b K Z_Put) [] E (d4t i) ta σ H Q \/ c1s Z_Ask "image" (a9h K Z_Ask) [] E (d4t i) ta σ H Q := by
 cases D with
 | go =>
  obtain ⟨x, dx, rfl, hx⟩ := hD
  exact .inl ⟨_, hd, x, dx, [], rfl, hx, rfl, hta _ ⟨_, v, n, o, rfl, hV, by omega, k⟩⟩
 | keep f g w c =>
  obtain ⟨x, dx, qa, rfl, hx, hqa⟩ := hD
  exact .inr (.inl ⟨_, hd, x, dx, _, rfl, hx, noK b6b _, hta _ ⟨x, dx, qa, v, n, o, f.toNat, g.map Int.toNat, w, c, rfl, hx, d7s hqa hI.1 hI.2.1, hV, hS, d2e hI.1 hI.2.1, by omega, k⟩⟩)
 | put j f g c =>
  obtain ⟨x, dx, aa, rfl, hx, haa⟩ := hD
  exact .inr (.inr (.inl ⟨_, hd, x, dx, _, rfl, hx, noP b6b _ _, hta _ ⟨x, dx, aa, v, n, j, o, f.map Int.toNat, g.map Int.toNat, c, rfl, hx, e1t haa hI.2.1 hI.2.2, hV, b6f hI.2.1, b6f hI.2.2, by omega, k⟩⟩))
 | ask j lo hi =>
  obtain ⟨x, dx, rfl, hx⟩ := hD
  exact .inr (.inr (.inr ⟨_, hd, x, dx, _, rfl, hx, noA b6b _ _ _, hta _ ⟨x, dx, v, n, j, lo, hi, o, rfl, hx, hV, hI.1, n6, k⟩⟩))
def b5l (K : PySem.W.Frag) : Sp := fun vs H Q _ => ∃ c : Int, vs = [.int c] /\ ∀ (n : Nat) H', a1i H H' -> 1 <= n -> n <= 6 -> Q (.int n) H'
theorem e6d (c : Int) {z : Int} (h1 : 4 <= z) (h2 : z <= 6) : ∃ n : Nat, atI ([.int 2, .int 1, .int 3, .int 2, .int 3, .int 2, .int 1, .int z] : List V) (c % 8) = some (.int (n : Int)) /\ 1 <= n /\ n <= 6 := by
 have : c % 8 = 0 \/ c % 8 = 1 \/ c % 8 = 2 \/ c % 8 = 3 \/ c % 8 = 4 \/ c % 8 = 5 \/ c % 8 = 6 \/ c % 8 = 7 := by omega
 obtain ⟨m, rfl⟩ : ∃ m : Nat, z = (m : Int) := ⟨z.toNat, by omega⟩
 rcases this with h | h | h | h | h | h | h | h <;> rw [h]
 · exact ⟨2, rfl, by decide, by decide⟩
 · exact ⟨1, rfl, by decide, by decide⟩
 · exact ⟨3, rfl, by decide, by decide⟩
 · exact ⟨2, rfl, by decide, by decide⟩
 · exact ⟨3, rfl, by decide, by decide⟩
 · exact ⟨2, rfl, by decide, by decide⟩
 · exact ⟨1, rfl, by decide, by decide⟩
 · exact ⟨m, rfl, by omega, by omega⟩
theorem e1y {n f : Nat} {z : Int} (hf : f < 2 * n) : ∀ s ∈ Oct.b6m f z, s.1 < 2 * n /\ s.2.1 < 2 * n := fun s hs => by
 have : s = (f, f, 2 * z) \/ s = (Oct.fl f, Oct.fl f, -2 * z) := by simpa [Oct.b6m] using hs
 rcases this with q | q <;> subst q
 · exact ⟨hf, hf⟩
 · exact ⟨Oct.a3k hf, Oct.a3k hf⟩
theorem d2i {c s : Tb} {n f : Nat} {z : Int} (S : Oct.Shp c (2 * n)) (hf : f < 2 * n) (h : Oct.a6b (2 * n) (Oct.b7p c (Oct.b6m f z)) = some s) :
  Oct.Shp s (2 * n) /\ Oct.Le s c (2 * n) /\ Oct.leE (s f f) (some (2 * z)) /\ Oct.leE (s (Oct.fl f) (Oct.fl f)) (some (-2 * z)) := by
 obtain ⟨Ss, Ls⟩ := Oct.b8v (fun f hf => Oct.a3k hf) S h
 obtain ⟨La, Lk⟩ := (Oct.a7y (e1y hf)).mp Ls
 exact ⟨Ss, La, (Lk (f, f, 2 * z) (by simp [Oct.b6m])).1, (Lk (Oct.fl f, Oct.fl f, -2 * z) (by simp [Oct.b6m])).1⟩
theorem e0g {c : Tb} {n f : Nat} {z : Int} {w : Nat -> Int} (S : Oct.Shp c (2 * n)) (hf : f < 2 * n) (p : Oct.Pt w (2 * n)) (l : Oct.a6u w c (2 * n)) (e : w f = z) :
  ∃ s, Oct.a6b (2 * n) (Oct.b7p c (Oct.b6m f z)) = some s /\ Oct.a6u w s (2 * n) := by
 have even : ∀ f, f < 2 * n -> Oct.fl f < 2 * n := fun f hf => Oct.a3k hf
 have pw := p f hf
 have kw : ∀ s ∈ Oct.b6m f z, Oct.d0z (Oct.tab w) s := fun s hs => by
  have : s = (f, f, 2 * z) \/ s = (Oct.fl f, Oct.fl f, -2 * z) := by simpa [Oct.b6m] using hs
  rcases this with q | q <;> subst q <;> (constructor <;> simp [Oct.tab, Oct.leE] <;> omega)
 have ll := Oct.b0e (Oct.b6m f z) c l kw
 obtain ⟨s, hs⟩ := Oct.a5l even (Oct.c0z p) ll
 exact ⟨s, hs, (Oct.a4z even (Oct.a9w _ _ S.good.tight.sym) hs).2.2 _ (Oct.b8z p) ll⟩
def Fil (n k : Nat) (o0 : Option Tb) (xs : List Int) (i : Nat) (o : Option Tb) : Prop :=
 b6n (2 * n) o /\ (∀ d, o = some d -> ∃ c, o0 = some c /\ Oct.Le d c (2 * n) /\ ∀ j, j < i -> j ≠ k -> Oct.leE (d (2 * j) (2 * j)) (some (2 * xs.getD j 0)) /\ Oct.leE (d (2 * j + 1) (2 * j + 1)) (some (-2 * xs.getD j 0))) /\
 ∀ c, o0 = some c -> ∀ w, Oct.Pt w (2 * n) -> Oct.a6u w c (2 * n) -> (∀ j, j < i -> j ≠ k -> w (2 * j) = xs.getD j 0) -> ∃ d, o = some d /\ Oct.a6u w d (2 * n)
theorem Fil.start {n k : Nat} {o0 : Option Tb} {xs : List Int} (S : b6n (2 * n) o0) : Fil n k o0 xs 0 o0 :=
 ⟨S, fun d e => ⟨d, e, Oct.Le.refl _ _, fun j hj => absurd hj (Nat.not_lt_zero j)⟩, fun c e w p l _ => ⟨c, e, l⟩⟩
theorem Fil.skip {n k i : Nat} {o0 o : Option Tb} {xs : List Int} (F : Fil n k o0 xs i o) (e : i = k) : Fil n k o0 xs (i + 1) o :=
 ⟨F.1, fun d ed => by
  obtain ⟨c, ec, L, h⟩ := F.2.1 d ed
  exact ⟨c, ec, L, fun j hj hk => h j (by omega) hk⟩, fun c ec w p l h => F.2.2 c ec w p l fun j hj hk => h j (by omega) hk⟩
theorem Fil.step {n k i : Nat} {o0 o : Option Tb} {xs : List Int} (F : Fil n k o0 xs i o) (hi : i < n) (ne : i ≠ k) : Fil n k o0 xs (i + 1) (a8a (2 * n) o (Oct.b6m (2 * i) (xs.getD i 0))) := by
 obtain ⟨S, h1, h2⟩ := F
 have hf : 2 * i < 2 * n := by omega
 cases o with
 | none =>
  refine ⟨trivial, fun d e => (by cases e), fun c ec w p l h => ?_⟩
  obtain ⟨d, e, _⟩ := h2 c ec w p l fun j hj hk => h j (by omega) hk
  cases e
 | some d =>
  have S' : Oct.Shp d (2 * n) := S
  refine ⟨?_, fun s es => ?_, fun c ec w p l h => ?_⟩
  · cases e : a8a (2 * n) (some d) (Oct.b6m (2 * i) (xs.getD i 0)) with
    | none => trivial
    | some s => exact (d2i S' hf e).1
  · obtain ⟨Ss, Ls, l1, l2⟩ := d2i S' hf es
    obtain ⟨c, ec, L, hb⟩ := h1 d rfl
    refine ⟨c, ec, Ls.trans L, fun j hj hk => ?_⟩
    by_cases hji : j = i
    · subst hji
      have e1 : Oct.fl (2 * j) = 2 * j + 1 := by unfold Oct.fl; rw [if_pos (by omega)]
      rw [e1] at l2
      exact ⟨l1, l2⟩
    · obtain ⟨b1, b2⟩ := hb j (by omega) hk
      exact ⟨Oct.a0j (Ls _ _ (by omega) (by omega)) b1, Oct.a0j (Ls _ _ (by omega) (by omega)) b2⟩
  · obtain ⟨d', e, l'⟩ := h2 c ec w p l fun j hj hk => h j (by omega) hk
    cases e
    exact e0g S' hf p l' (h i (by omega) ne)
def e8o (n k : Nat) (o0 : Option Tb) (xs : List Int) (r : Ent) : Prop :=
 (∀ z, r = some z -> ∃ c, o0 = some c /\ Oct.a6u (wN (xs.set k z)) c (2 * n)) /\ (r = none -> ∀ c, o0 = some c -> ∀ z, ¬ Oct.a6u (wN (xs.set k z)) c (2 * n))
theorem Fil.none' {n k : Nat} {o0 : Option Tb} {xs : List Int} (F : Fil n k o0 xs n none) (lx : xs.length = n) (hk : k < n) : e8o n k o0 xs none :=
 ⟨fun z e => (by cases e), fun _ c ec z l => by
  obtain ⟨d, e, _⟩ := F.2.2 c ec _ (b4f _ _) l fun j hj ne => by rw [c5c, c4r (by omega), if_neg ne]
  cases e⟩
theorem Fil.some' {n k : Nat} {o0 : Option Tb} {d : Tb} {xs : List Int} (F : Fil n k o0 xs n (some d)) (lx : xs.length = n) (hk : k < n) : e8o n k o0 xs (some (Oct.b6g d (2 * k))) := by
 refine ⟨fun z e => ?_, fun e => (by cases e)⟩
 cases e
 obtain ⟨S, h1, _⟩ := F
 have S' : Oct.Shp d (2 * n) := S
 obtain ⟨c, ec, L, hb⟩ := h1 d rfl
 have hf : 2 * k < 2 * n := by omega
 obtain ⟨z1, z2⟩ := Oct.c6p S' hf
 obtain ⟨s, es, Ss, Ls, l1, l2⟩ := Oct.c5e S' hf z1 z2
 generalize Oct.b6g d (2 * k) = z at *
 refine ⟨c, ec, ?_⟩
 have li : Oct.a6u (wN (xs.set k z)) s (2 * n) := Oct.c1y Ss (b4f _ _) fun j hj => by
  rw [c5c, c4r (by omega)]
  by_cases hjk : j = k
  · subst hjk
    have e1 : Oct.fl (2 * j) = 2 * j + 1 := by unfold Oct.fl; rw [if_pos (by omega)]
    rw [e1] at l2
    rw [if_pos rfl]
    exact ⟨l1, l2⟩
  · rw [if_neg hjk]
    obtain ⟨b1, b2⟩ := hb j hj hjk
    exact ⟨Oct.a0j (Ls _ _ (by omega) (by omega)) b1, Oct.a0j (Ls _ _ (by omega) (by omega)) b2⟩
 exact (li.trans Ls).trans L
def b8u (K : PySem.W.Frag) : Sp := fun vs H Q _ => ∃ (v : V) (n : Nat) (o : Option Tb) (f : Nat) (z : Int), vs = [v, .int f, .int z] /\ a1x H v (2 * n) o /\ d7h (2 * n) o /\ f < 2 * n /\ n <= 100 /\
 ∀ u H', a1i H H' -> a2b H H' u (2 * n) (a8a (2 * n) o (Oct.b6m f z)) -> Q u H'
def c7z (K : PySem.W.Frag) : Sp := fun vs H Q _ => ∃ (v : V) (a : Addr) (n k : Nat) (o : Option Tb) (xs : List Int), vs = [v, .ref a, .int k] /\ a1x H v (2 * n) o /\ b6n (2 * n) o /\ SqT K H a (xs.map V.int) /\ xs.length = n /\ k < n /\ n <= 100 /\
 ∀ r H', a1i H H' -> e8o n k o xs r -> Q (eV r) H'
theorem b6n.diag {N : Nat} : ∀ {o : Option Tb}, b6n N o -> d7h N o
 | none, _ => trivial
 | some _, S => b2l S
theorem e7f {xs : List Int} {k : Nat} (h : k < xs.length) : atI (xs.map V.int) (k : Int) = some (.int (xs.getD k 0)) := by
 have := c3x (ns := xs) (k := (k : Int)) (by omega) (by omega)
 simpa using this
theorem e9i (c : Int) {a b d e : Int} : ∃ z : Int, atI ([.int a, .int b, .int d, .int e] : List V) (c % 4) = some (.int z) := by
 have : c % 4 = 0 \/ c % 4 = 1 \/ c % 4 = 2 \/ c % 4 = 3 := by omega
 rcases this with h | h | h | h <;> rw [h] <;> exact ⟨_, rfl⟩
def c0k (K : PySem.W.Frag) : Sp := fun vs H Q _ => ∃ c : Int, vs = [.int c] /\ ∀ z H', a1i H H' -> Q (.int z) H'
def b3q (K : PySem.W.Frag) : Sp := fun vs H Q _ => ∃ (a : Addr) (xs : List Int) (k : Nat) (z : Int), vs = [.ref a, .int k, .int z] /\ SqT K H a (xs.map V.int) /\ k < xs.length /\ xs.length <= 100 /\
 ∀ p H', a1i H H' -> H' p = some (.tup ((xs.set k z).map V.int)) -> Q (.ref p) H'
theorem b7a : e6i "source" := ⟨by decide +kernel, by decide +kernel, by decide +kernel, by decide +kernel, by decide +kernel⟩
def d8b (o : Option Tb) (f g : Nat) (m : Int) : Prop := ∀ t, o = some t -> a6k (t f g) m = true
theorem e2j {e : Ent} {m : Int} (h : Oct.leE (some m) e) : a6k e m = false := by
 revert h
 cases e <;> simp [a6k, Oct.leE]
theorem e1h {o1 o2 : Option Tb} {f g : Nat} {m : Int} (h1 : d8b o1 f g m) (h2 : d8b o2 f g m) : d8b (b8h o1 o2) f g m := fun t e => by
 rcases d1z (f := f) (g := g) e with ⟨x, ex, q⟩ | ⟨x, ex, q⟩
 · rw [← q]; exact h1 x ex
 · rw [← q]; exact h2 x ex
theorem d2w {n : Nat} {o : Option Tb} {f g : Nat} {m : Int} : ∀ (ls : List (List Sdn)) (acc : Option Tb), d8b acc f g m -> (∀ l ∈ ls, d8b (a8a (2 * n) o l) f g m) -> d8b (e1s n o acc ls) f g m
 | [], _, h, _ => h
 | x :: r, acc, h, hl => d2w r _ (e1h h (hl x List.mem_cons_self)) fun l hx => hl l (List.mem_cons_of_mem _ hx)
theorem e3p {e : Ent} {t z m : Int} (h : t = 1 \/ t = 2) : a6k e (-((0 - m) / t) - z) = a6k (peE t z e) m := by
 cases e with
 | none => rfl
 | some x =>
  show decide (x < -((0 - m) / t) - z) = decide (t * (x + z) < m)
  rcases h with rfl | rfl
  · rw [Bool.eq_iff_iff, decide_eq_true_iff, decide_eq_true_iff]; omega
  · rw [Bool.eq_iff_iff, decide_eq_true_iff, decide_eq_true_iff]; omega
theorem e6a {n k f g : Nat} {w : Nat -> Int} {fs : List Nat} {z : Int} (p : Oct.Pt w (2 * n)) (h : ∀ x ∈ fs, x < 2 * n) (hf : f < 2 * n) : c5n w k (a5d w fs + z) f + c5n w k (a5d w fs + z) g = (b1i k fs z f g).1 * (a5d w (b1i k fs z f g).2.1 + (b1i k fs z f g).2.2) := by
 unfold b1i
 split
 · rename_i e
   have := d8t (k := k) (v := a5d w fs + z) p f hf
   rw [e]
   show _ = 1 * (0 + 0)
   omega
 split
 · rename_i e
   rw [e, b1k p h]
   show _ = 2 * (a5d w (a1a k fs z f).1 + (a1a k fs z f).2)
   omega
 · rw [b1k p h, b1k p h]
   show _ = 1 * (a5d w ((a1a k fs z f).1 ++ (a1a k fs z g).1) + ((a1a k fs z f).2 + (a1a k fs z g).2))
   rw [c9b]
   omega
theorem e6g {t x z m : Int} (h : t = 1 \/ t = 2) (hm : -((0 - m) / t) - z <= x) : m <= t * (x + z) := by
 rcases h with rfl | rfl <;> omega
def g0d (n : Nat) (o : Option Tb) (D : Dd) (f g : Nat) (m : Int) (H : Hp) (Q : VK) : Prop :=
 (∀ H', a1i H H' -> d8b (e4w n o D) f g m -> Q .non H') /\ ∀ (p a : Addr) (a1j ys : List Int) (num : Int) (H' : Hp), a1i H H' -> H' p = some (.tup [.ref a, .int num]) -> H' a = some (.tup (a1j.map V.int)) -> a1j.length = n -> b0h n (wN a1j) o -> d3f a1j num D = some ys -> m <= wN ys f + wN ys g -> Q (.ref p) H'
def a4a (K : PySem.W.Frag) : Sp := fun vs H Q _ => ∃ v : V, vs = [v] /\ ((v = .non /\ Q .non H) \/ ∃ a, v = .ref a /\ ∀ p H', a1i H H' -> H' p = some (.tup [.ref a, .int 0]) -> Q (.ref p) H')
def a9g (K : PySem.W.Frag) : Sp := fun vs H Q _ => ∃ (v : V) (b : Addr) (n k : Nat) (o : Option Tb) (f1 g1 : Option Nat) (c : Int) (f g : Nat) (m : Int), vs = [v, .int k, .ref b, .int f, .int g, .int m] /\ a1x H v (2 * n) o /\ b6n (2 * n) o /\ c3z H b f1 g1 c /\ InO n f1 /\ InO n g1 /\ f < 2 * n /\ g < 2 * n /\ n <= 6 /\
 (∀ H', a1i H H' -> d8b (e7v k (fsN f1 g1) c o) f g m -> Q .non H') /\ ∀ (a1j : List Int) (p : Addr) (H' : Hp), a1j.length = n -> b0h n (wN a1j) o -> m <= c5n (wN a1j) k (a5d (wN a1j) (fsN f1 g1) + c) f + c5n (wN a1j) k (a5d (wN a1j) (fsN f1 g1) + c) g -> a1i H H' -> H' p = some (.tup (a1j.map V.int)) -> Q (.ref p) H'
def d1t (P : Dd -> Prop) (Z_Go Z_Keep Z_Put Z_Ask : Addr) : Sp := fun vs H Q _ => ∃ (D : Dd) (d v : V) (n : Nat) (o : Option Tb) (f g : Nat) (m : Int), vs = [d, v, .int f, .int g, .int m] /\ P D /\ b7k Z_Go Z_Keep Z_Put Z_Ask H d D /\ InD n D /\ a1x H v (2 * n) o /\ b6n (2 * n) o /\ f < 2 * n /\ g < 2 * n /\ n <= 6 /\ g0d n o D f g m H Q
def a8e (K : PySem.W.Frag) (Z_Go Z_Keep Z_Put Z_Ask : Addr) : Sp := d1t (fun D => D = .go) Z_Go Z_Keep Z_Put Z_Ask
def a6a (K : PySem.W.Frag) (Z_Go Z_Keep Z_Put Z_Ask : Addr) : Sp := d1t (fun D => ∃ f g w c, D = .keep f g w c) Z_Go Z_Keep Z_Put Z_Ask
def a7e (K : PySem.W.Frag) (Z_Go Z_Keep Z_Put Z_Ask : Addr) : Sp := d1t (fun D => ∃ k f g c, D = .put k f g c) Z_Go Z_Keep Z_Put Z_Ask
def a7d (K : PySem.W.Frag) (Z_Go Z_Keep Z_Put Z_Ask : Addr) : Sp := d1t (fun D => ∃ k lo hi, D = .ask k lo hi) Z_Go Z_Keep Z_Put Z_Ask
theorem b9d {K : PySem.W.Frag} {Z_Go Z_Keep Z_Put Z_Ask : Addr} {n : Nat} {o : Option Tb} {D : Dd} {σ : St} {H : Hp} {Q : VK} {E : XK} {i f g : Nat} {m : Int} {d v : V} {ta : TA} (hd : σ[i]? = some (some d)) (hta : ∀ G, G [v, .int f, .int g, .int m] H -> ta σ H G) (hD : b7k Z_Go Z_Keep Z_Put Z_Ask H d D) (hI : InD n D) (hV : a1x H v (2 * n) o) (hS : b6n (2 * n) o) (hf : f < 2 * n) (hg : g < 2 * n) (n6 : n <= 6) (q : g0d n o D f g m H Q) :
  c1s Z_Go "source" (a8e K Z_Go Z_Keep Z_Put Z_Ask) [] E (d4t i) ta σ H Q \/ c1s Z_Keep "source" (a6a K Z_Go Z_Keep Z_Put Z_Ask) [] E (d4t i) ta σ H Q \/ c1s Z_Put "source" (a7e K Z_Go Z_Keep Z_Put Z_Ask) [] E (d4t i) ta σ H Q \/ c1s Z_Ask "source" (a7d K Z_Go Z_Keep Z_Put Z_Ask) [] E (d4t i) ta σ H Q := by
 have hD0 := hD
 cases D with
 | go =>
  obtain ⟨x, dx, rfl, hx⟩ := hD
  exact .inl ⟨_, hd, x, dx, [], rfl, hx, rfl, hta _ ⟨_, _, v, n, o, f, g, m, rfl, rfl, hD0, hI, hV, hS, hf, hg, n6, q⟩⟩
 | keep f1 g1 w c =>
  obtain ⟨x, dx, qa, rfl, hx, hqa⟩ := hD
  exact .inr (.inl ⟨_, hd, x, dx, _, rfl, hx, noK b7a _, hta _ ⟨_, _, v, n, o, f, g, m, rfl, ⟨_, _, _, _, rfl⟩, hD0, hI, hV, hS, hf, hg, n6, q⟩⟩)
 | put j f1 g1 c =>
  obtain ⟨x, dx, aa, rfl, hx, haa⟩ := hD
  exact .inr (.inr (.inl ⟨_, hd, x, dx, _, rfl, hx, noP b7a _ _, hta _ ⟨_, _, v, n, o, f, g, m, rfl, ⟨_, _, _, _, rfl⟩, hD0, hI, hV, hS, hf, hg, n6, q⟩⟩))
 | ask j lo hi =>
  obtain ⟨x, dx, rfl, hx⟩ := hD
  exact .inr (.inr (.inr ⟨_, hd, x, dx, _, rfl, hx, noA b7a _ _ _, hta _ ⟨_, _, v, n, o, f, g, m, rfl, ⟨_, _, _, rfl⟩, hD0, hI, hV, hS, hf, hg, n6, q⟩⟩))
theorem d6p {n f g : Nat} (hf : f < 2 * n) (hg : g < 2 * n) : ∀ h ∈ [f, g], h < 2 * n := fun h hh => by
 have : h = f \/ h = g := by simpa using hh
 rcases this with e | e <;> rw [e] <;> assumption
theorem c9j (w : Nat -> Int) (f g : Nat) : a5d w [f, g] = w f + w g := by simp [a5d]
theorem d9j {lo hi : Ent} {z : Int} (h1 : ∀ x, lo = some x -> x <= z) (h2 : ∀ x, hi = some x -> z <= x) : b3t lo hi z = z := by
 have cap : c1r hi z = z := by
  cases hi with
  | none => rfl
  | some y =>
   have := h2 y rfl
   show (if y < z then y else z) = z
   rw [if_neg (by omega)]
 cases lo with
 | none => exact cap
 | some x =>
  have := h1 x rfl
  show (if z < x then x else c1r hi z) = z
  rw [if_neg (by omega)]
  exact cap
theorem c7g {xs : List Int} {k : Nat} {y : Int} (h : k < xs.length) : (xs.set k y).set k (xs.getD k 0) = xs := by
 rw [List.set_set]
 have : xs.getD k 0 = xs[k] := by simp [List.getD, h]
 rw [this]
 exact List.set_getElem_self h
def a8x (K : PySem.W.Frag) : Sp := fun vs H Q _ => ∃ (r a sd pr : Addr) (v : V) (D : Dd) (n f g : Nat) (a1j ys : List Int) (num : Int) (yv : List V) (ss : List Sdn), vs = [.ref r, v, .ref sd, .int n, .ref pr] /\ H r = some (.tup [.ref a, .int num]) /\ H a = some (.tup (a1j.map V.int)) /\ a1j.length = n /\ b1w H v D /\ InD n D /\ H sd = some (.lst yv) /\ Paired (a2o H) yv ss /\ (∀ s ∈ ss, s.1 < 2 * n /\ s.2.1 < 2 * n) /\ b7x a1j ss = true /\ H pr = some (.lst (fV [f, g])) /\ f < 2 * n /\ g < 2 * n /\ n <= 6 /\ d3f a1j num D = some ys /\ ys.length = n /\ ∀ H', a1i H H' -> Q (.int (wN ys f + wN ys g)) H'
def b9n (K : PySem.W.Frag) (Z_Go Z_Keep Z_Put Z_Ask : Addr) : Sp := fun vs H Q _ => ∃ (tb sd pr : Addr) (d v dr : V) (bs : List Addr) (n f g : Nat) (D : Dd) (far : Int) (c : Tb) (yv : List V) (ss : List Sdn), vs = [d, .ref tb, v, dr, .ref sd, .ref pr, .int far] /\ b7k Z_Go Z_Keep Z_Put Z_Ask H d D /\ b1w H dr D /\ InD n D /\ a2e H tb bs (Oct.toT (2 * n) c) /\ a6l n ss = some c /\ a1x H v (2 * n) (e4w n (some c) D) /\ (∀ s ∈ ss, s.1 < 2 * n /\ s.2.1 < 2 * n) /\ H sd = some (.lst yv) /\ Paired (a2o H) yv ss /\ H pr = some (.lst (fV [f, g])) /\ f < 2 * n /\ g < 2 * n /\ n <= 6 /\ ∀ H', a1i H H' -> Q (.bl true) H'
theorem e5t {n : Nat} (h1 : 1 <= n) (h6 : n <= 6) : ∃ d : Int, atI ([.int 1, .int 3, .int 9, .int 20, .int 32, .int 48] : List V) ((n : Int) - 1) = some (.int d) /\ 0 < d := by
 have : n = 1 \/ n = 2 \/ n = 3 \/ n = 4 \/ n = 5 \/ n = 6 := by omega
 rcases this with h | h | h | h | h | h <;> subst h
 · exact ⟨1, rfl, by decide⟩
 · exact ⟨3, rfl, by decide⟩
 · exact ⟨9, rfl, by decide⟩
 · exact ⟨20, rfl, by decide⟩
 · exact ⟨32, rfl, by decide⟩
 · exact ⟨48, rfl, by decide⟩
theorem us1 {α : Type} : ∀ {us : List α}, us.length = 1 -> ∃ b0, us = [b0]
 | [b0], _ => ⟨b0, rfl⟩
theorem us2 {α : Type} : ∀ {us : List α}, us.length = 2 -> ∃ b0 b1, us = [b0, b1]
 | [b0, b1], _ => ⟨b0, b1, rfl⟩
theorem us3 {α : Type} : ∀ {us : List α}, us.length = 3 -> ∃ b0 b1 b2, us = [b0, b1, b2]
 | [b0, b1, b2], _ => ⟨b0, b1, b2, rfl⟩
theorem us4 {α : Type} : ∀ {us : List α}, us.length = 4 -> ∃ b0 b1 b2 b3, us = [b0, b1, b2, b3]
 | [b0, b1, b2, b3], _ => ⟨b0, b1, b2, b3, rfl⟩
theorem us5 {α : Type} : ∀ {us : List α}, us.length = 5 -> ∃ b0 b1 b2 b3 b4, us = [b0, b1, b2, b3, b4]
 | [b0, b1, b2, b3, b4], _ => ⟨b0, b1, b2, b3, b4, rfl⟩
theorem us6 {α : Type} : ∀ {us : List α}, us.length = 6 -> ∃ b0 b1 b2 b3 b4 b5, us = [b0, b1, b2, b3, b4, b5]
 | [b0, b1, b2, b3, b4, b5], _ => ⟨b0, b1, b2, b3, b4, b5, rfl⟩
theorem us7 {α : Type} : ∀ {us : List α}, us.length = 7 -> ∃ b0 b1 b2 b3 b4 b5 b6, us = [b0, b1, b2, b3, b4, b5, b6]
 | [b0, b1, b2, b3, b4, b5, b6], _ => ⟨b0, b1, b2, b3, b4, b5, b6, rfl⟩
section
variable {P : Program} {w : World} {K : PySem.W.Frag} {mg : Str -> Option Value} {base : Heap}
theorem e0f : a0r ["entry", "number"] ["entry", "number"] (a0k c3r) := ⟨rfl, rfl, rfl, by decide +kernel, rfl, by decide +kernel, by decide +kernel⟩
theorem d6k : a0r ["one", "other"] ["one", "other"] (a0k b8w) := ⟨rfl, rfl, rfl, by decide +kernel, rfl, by decide +kernel, by decide +kernel⟩
theorem d3y : a0r ["one", "other"] ["one", "other"] (a0k b5u) := ⟨rfl, rfl, rfl, by decide +kernel, rfl, by decide +kernel, by decide +kernel⟩
theorem d2p : a0r ["entries"] ["entries"] (a0k c4w) := ⟨rfl, rfl, rfl, by decide +kernel, rfl, by decide +kernel, by decide +kernel⟩
theorem d7v : a0r ["one", "other"] ["one", "other"] (a0k b9a) := ⟨rfl, rfl, rfl, by decide +kernel, rfl, by decide +kernel, by decide +kernel⟩
theorem e3n : a0r ["entry"] ["entry"] (a0k d1y) := ⟨rfl, rfl, rfl, by decide +kernel, rfl, by decide +kernel, by decide +kernel⟩
theorem d4m : a0r ["f"] ["f"] (a0k b5j) := ⟨rfl, rfl, rfl, by decide +kernel, rfl, by decide +kernel, by decide +kernel⟩
theorem d5d : a0r ["count"] ["count"] (a0k d2v) := ⟨rfl, rfl, rfl, by decide +kernel, rfl, by decide +kernel, by decide +kernel⟩
theorem b9v : a0r ["f", "length"] ["f", "length"] (a0k b3d) := ⟨rfl, rfl, rfl, by decide +kernel, rfl, by decide +kernel, by decide +kernel⟩
theorem a4i : a0r ["table", "told", "f", "row", "g", "entry"] ["table"] (a0k a8h) := ⟨rfl, rfl, rfl, by decide +kernel, rfl, by decide +kernel, by decide +kernel⟩
theorem d5w : a0r ["count", "sides"] ["count", "sides"] (a0k b8t) := ⟨rfl, rfl, rfl, by decide +kernel, rfl, by decide +kernel, by decide +kernel⟩
theorem e2p : a0r ["shape", "side"] ["shape", "side"] (a0k d1q) := ⟨rfl, rfl, rfl, by decide +kernel, rfl, by decide +kernel, by decide +kernel⟩
theorem c1h : a0r ["shape", "sides"] ["shape", "sides"] (a0k a6y) := ⟨rfl, rfl, rfl, by decide +kernel, rfl, by decide +kernel, by decide +kernel⟩
theorem a7l : a0r ["table", "sides", "new", "side", "f", "g"] ["table", "sides"] (a0k b5n) := ⟨rfl, rfl, rfl, by decide +kernel, rfl, by decide +kernel, by decide +kernel⟩
theorem a8v : a0r ["table", "whole", "halves", "f"] ["table"] (a0k b0p) := ⟨rfl, rfl, rfl, by decide +kernel, rfl, by decide +kernel, by decide +kernel⟩
theorem a6v : a0r ["row", "own_half", "halves"] ["row", "own_half", "halves"] (a0k a3p) := ⟨rfl, rfl, rfl, by decide +kernel, rfl, by decide +kernel, by decide +kernel⟩
theorem a3a : a0r ["table", "whole", "m"] ["table"] (a0k a3i) := ⟨rfl, rfl, rfl, by decide +kernel, rfl, by decide +kernel, by decide +kernel⟩
theorem a9s : a0r ["table", "m"] ["table", "m"] (a0k a4u) := ⟨rfl, rfl, rfl, by decide +kernel, rfl, by decide +kernel, by decide +kernel⟩
theorem b4v : a0r ["row", "ahead", "onward"] ["row", "ahead", "onward"] (a0k a9f) := ⟨rfl, rfl, rfl, by decide +kernel, rfl, by decide +kernel, by decide +kernel⟩
theorem a4l : a0r ["shape", "left", "numbers", "k", "number"] ["shape"] (a0k a8m) := ⟨rfl, rfl, rfl, by decide +kernel, rfl, by decide +kernel, by decide +kernel⟩
theorem b0v : a0r ["shape", "f", "most", "turned_most"] ["shape", "f"] (a0k a8c) := ⟨rfl, rfl, rfl, by decide +kernel, rfl, by decide +kernel, by decide +kernel⟩
theorem e1b : a0r ["shape", "f", "number"] ["shape", "f", "number"] (a0k c5g) := ⟨rfl, rfl, rfl, by decide +kernel, rfl, by decide +kernel, by decide +kernel⟩
theorem c9g : a0r ["shape", "forms"] ["shape", "forms"] (a0k b2v) := ⟨rfl, rfl, rfl, by decide +kernel, rfl, by decide +kernel, by decide +kernel⟩
theorem a6q : a0r ["shape", "f", "g", "h", "all_pairs"] ["shape", "f", "g", "h"] (a0k a3q) := ⟨rfl, rfl, rfl, by decide +kernel, rfl, by decide +kernel, by decide +kernel⟩
theorem c0p : a0r ["shape", "forms", "number", "left"] ["shape", "forms", "number"] (a0k b2y) := ⟨rfl, rfl, rfl, by decide +kernel, rfl, by decide +kernel, by decide +kernel⟩
theorem a6n : a0r ["forms", "left", "f"] ["forms"] (a0k a5i) := ⟨rfl, rfl, rfl, by decide +kernel, rfl, by decide +kernel, by decide +kernel⟩
theorem b3g : a0r ["shape", "f", "g", "number"] ["shape", "f", "g", "number"] (a0k a3r) := ⟨rfl, rfl, rfl, by decide +kernel, rfl, by decide +kernel, by decide +kernel⟩
theorem a1m : a0r ["shape", "forms", "number", "lone", "h", "others", "z"] ["shape", "forms", "number"] (a0k a3e) := ⟨rfl, rfl, rfl, by decide +kernel, rfl, by decide +kernel, by decide +kernel⟩
theorem a4e : a0r ["shape", "f", "g", "h", "number", "highest", "turn", "needed"] ["shape", "f", "g", "h", "number"] (a0k a5z) := ⟨rfl, rfl, rfl, by decide +kernel, rfl, by decide +kernel, by decide +kernel⟩
theorem c0j : a0r ["times", "entry", "number"] ["times", "entry", "number"] (a0k a5x) := ⟨rfl, rfl, rfl, by decide +kernel, rfl, by decide +kernel, by decide +kernel⟩
theorem c4v : a0r ["shape", "k", "low", "high", "others"] ["shape", "k", "low", "high"] (a0k c3n) := ⟨rfl, rfl, rfl, by decide +kernel, rfl, by decide +kernel, by decide +kernel⟩
theorem b8a : a0r ["k", "low", "high", "sides"] ["k", "low", "high"] (a0k b0d) := ⟨rfl, rfl, rfl, by decide +kernel, rfl, by decide +kernel, by decide +kernel⟩
theorem b2e : a0r ["shape", "point", "k", "left", "name", "number"] ["shape", "point", "k"] (a0k b8s) := ⟨rfl, rfl, rfl, by decide +kernel, rfl, by decide +kernel, by decide +kernel⟩
theorem c1q : a0r ["point", "k", "number"] ["point", "k", "number"] (a0k a6z) := ⟨rfl, rfl, rfl, by decide +kernel, rfl, by decide +kernel, by decide +kernel⟩
theorem b1v : a0r ["amount"] ["amount"] (a0k a5y) := ⟨rfl, rfl, rfl, by decide +kernel, rfl, by decide +kernel, by decide +kernel⟩
theorem e1p : a0r ["shape", "k", "amount"] ["shape", "k", "amount"] (a0k d9s) := ⟨rfl, rfl, rfl, by decide +kernel, rfl, by decide +kernel, by decide +kernel⟩
theorem c2o : a0r ["shape", "k", "amount", "f"] ["shape", "k", "amount", "f"] (a0k b6h) := ⟨rfl, rfl, rfl, by decide +kernel, rfl, by decide +kernel, by decide +kernel⟩
theorem b7t : a0r ["shape", "ahead", "most"] ["shape", "ahead"] (a0k b0k) := ⟨rfl, rfl, rfl, by decide +kernel, rfl, by decide +kernel, by decide +kernel⟩
theorem a8s : a0r ["shape", "k", "amount", "f", "g", "number", "ahead"] ["shape", "k", "amount", "f", "g", "number"] (a0k a4m) := ⟨rfl, rfl, rfl, by decide +kernel, rfl, by decide +kernel, by decide +kernel⟩
theorem b2c : a0r ["k", "amount", "f", "g", "one", "other"] ["k", "amount", "f", "g"] (a0k b0b) := ⟨rfl, rfl, rfl, by decide +kernel, rfl, by decide +kernel, by decide +kernel⟩
theorem b4z : a0r ["k", "amount", "f"] ["k", "amount", "f"] (a0k a8f) := ⟨rfl, rfl, rfl, by decide +kernel, rfl, by decide +kernel, by decide +kernel⟩
theorem d6c : a0r ["one", "other"] ["one", "other"] (a0k d2l) := ⟨rfl, rfl, rfl, by decide +kernel, rfl, by decide +kernel, by decide +kernel⟩
theorem c8q : a0r ["shape"] ["shape"] (a0k b9c) := ⟨rfl, rfl, rfl, by decide +kernel, rfl, by decide +kernel, by decide +kernel⟩
theorem b4t : a0r ["row", "other_row"] ["row", "other_row"] (a0k a8o) := ⟨rfl, rfl, rfl, by decide +kernel, rfl, by decide +kernel, by decide +kernel⟩
theorem c3j : a0r ["question", "word", "c"] ["question"] (a0k c4m) := ⟨rfl, rfl, rfl, by decide +kernel, rfl, by decide +kernel, by decide +kernel⟩
theorem c8d : a0r ["question", "number"] ["question", "number"] (a0k a9x) := ⟨rfl, rfl, rfl, by decide +kernel, rfl, by decide +kernel, by decide +kernel⟩
theorem b5s : a0r ["question", "number", "most"] ["question", "number"] (a0k a8n) := ⟨rfl, rfl, rfl, by decide +kernel, rfl, by decide +kernel, by decide +kernel⟩
theorem c9l : a0r ["self", "shape"] ["self", "shape"] (a0k b2m) := ⟨rfl, rfl, rfl, by decide +kernel, rfl, by decide +kernel, by decide +kernel⟩
theorem c7x : a0r ["self", "shape", "f", "g", "number"] ["self", "shape", "f", "g", "number"] (a0k b0i) := ⟨rfl, rfl, rfl, by decide +kernel, rfl, by decide +kernel, by decide +kernel⟩
theorem c7y : a0r ["self", "question"] ["self", "question"] (a0k b0a) := ⟨rfl, rfl, rfl, by decide +kernel, rfl, by decide +kernel, by decide +kernel⟩
theorem a7b : a0r ["self", "shape", "whole", "case"] ["self", "shape"] (a0k a8d) := ⟨rfl, rfl, rfl, by decide +kernel, rfl, by decide +kernel, by decide +kernel⟩
theorem a9j : a0r ["self", "shape", "f", "g", "number", "case", "point"] ["self", "shape", "f", "g", "number"] (a0k a7h) := ⟨rfl, rfl, rfl, by decide +kernel, rfl, by decide +kernel, by decide +kernel⟩
theorem d1g : a0r ["self", "k", "amount"] ["self", "k", "amount"] (a0k b2n) := ⟨rfl, rfl, rfl, by decide +kernel, rfl, by decide +kernel, by decide +kernel⟩
theorem c6j : a0r ["self", "shape"] ["self", "shape"] (a0k b0y) := ⟨rfl, rfl, rfl, by decide +kernel, rfl, by decide +kernel, by decide +kernel⟩
theorem c4s : a0r ["self", "shape", "f", "g", "number"] ["self", "shape", "f", "g", "number"] (a0k a8i) := ⟨rfl, rfl, rfl, by decide +kernel, rfl, by decide +kernel, by decide +kernel⟩
theorem d0o : a0r ["self", "k", "low", "high"] ["self", "k", "low", "high"] (a0k b3b) := ⟨rfl, rfl, rfl, by decide +kernel, rfl, by decide +kernel, by decide +kernel⟩
theorem c8j : a0r ["self", "shape"] ["self", "shape"] (a0k b0l) := ⟨rfl, rfl, rfl, by decide +kernel, rfl, by decide +kernel, by decide +kernel⟩
theorem b5c : a0r ["self", "shape", "f", "g", "number", "made"] ["self", "shape", "f", "g", "number"] (a0k a8g) := ⟨rfl, rfl, rfl, by decide +kernel, rfl, by decide +kernel, by decide +kernel⟩
theorem b4x : a0r ["point"] ["point"] (a0k a4f) := ⟨rfl, rfl, rfl, by decide +kernel, rfl, by decide +kernel, by decide +kernel⟩
theorem c5k : a0r ["_law_cell_here"] ["_law_cell_here"] (a0k a8q) := ⟨rfl, rfl, rfl, by decide +kernel, rfl, by decide +kernel, by decide +kernel⟩
theorem a8l : a0r ["_law_script", "_law_k", "_law_seed", "_law_some"] ["_law_script", "_law_k"] (a0k b0w) := ⟨rfl, rfl, rfl, by decide +kernel, rfl, by decide +kernel, by decide +kernel⟩
theorem c4f : a0r ["_law_found"] ["_law_found"] (a0k a8w) := ⟨rfl, rfl, rfl, by decide +kernel, rfl, by decide +kernel, by decide +kernel⟩
theorem d0k : a0r ["_law_cell_here"] ["_law_cell_here"] (a0k b2r) := ⟨rfl, rfl, rfl, by decide +kernel, rfl, by decide +kernel, by decide +kernel⟩
theorem b5b : a0r ["_law_script", "_law_at", "_law_count_here"] ["_law_script", "_law_at", "_law_count_here"] (a0k a8t) := ⟨rfl, rfl, rfl, by decide +kernel, rfl, by decide +kernel, by decide +kernel⟩
theorem c4k : a0r ["_law_point_here", "_law_f"] ["_law_point_here", "_law_f"] (a0k a9e) := ⟨rfl, rfl, rfl, by decide +kernel, rfl, by decide +kernel, by decide +kernel⟩
theorem a7k : a0r ["_law_script", "_law_at", "_law_room", "_law_cells_here"] ["_law_script", "_law_at", "_law_room"] (a0k a8u) := ⟨rfl, rfl, rfl, by decide +kernel, rfl, by decide +kernel, by decide +kernel⟩
theorem a3d : a0r ["_law_cells_here", "_law_count_here", "_law_point_here", "_law_loose", "_law_sides_here", "_law_cell_here", "_law_f", "_law_g", "_law_rest", "_law_slack"] ["_law_cells_here", "_law_count_here", "_law_point_here", "_law_loose"] (a0k a8r) := ⟨rfl, rfl, rfl, by decide +kernel, rfl, by decide +kernel, by decide +kernel⟩
theorem b0u : a0r ["_law_point_here", "_law_forms", "_law_some", "_law_f"] ["_law_point_here", "_law_forms"] (a0k b2q) := ⟨rfl, rfl, rfl, by decide +kernel, rfl, by decide +kernel, by decide +kernel⟩
theorem b6d : a0r ["_law_point_here", "_law_sides_here", "_law_side"] ["_law_point_here", "_law_sides_here"] (a0k a8b) := ⟨rfl, rfl, rfl, by decide +kernel, rfl, by decide +kernel, by decide +kernel⟩
theorem a8p : a0r ["_law_found", "_law_count_here", "_law_part"] ["_law_found", "_law_count_here"] (a0k a4g) := ⟨rfl, rfl, rfl, by decide +kernel, rfl, by decide +kernel, by decide +kernel⟩
theorem b7j : a0r ["_law_shape"] ["_law_shape"] (a0k b0j) := ⟨rfl, rfl, rfl, by decide +kernel, rfl, by decide +kernel, by decide +kernel⟩
theorem b0o : a0r ["_law_found", "_law_count_here", "_law_line", "_law_entry"] ["_law_found", "_law_count_here"] (a0k a9i) := ⟨rfl, rfl, rfl, by decide +kernel, rfl, by decide +kernel, by decide +kernel⟩
theorem c0c : a0r ["_law_cell_here", "_law_far_here"] ["_law_cell_here"] (a0k b2s) := ⟨rfl, rfl, rfl, by decide +kernel, rfl, by decide +kernel, by decide +kernel⟩
theorem a9y : a0r ["_law_point_here", "_law_question_here", "_law_some"] ["_law_point_here", "_law_question_here"] (a0k a8y) := ⟨rfl, rfl, rfl, by decide +kernel, rfl, by decide +kernel, by decide +kernel⟩
theorem a2h : a0r ["_law_cell_here", "_law_other", "_law_word", "_law_point_here", "_law_f", "_law_g", "_law_number"] ["_law_cell_here", "_law_other", "_law_word", "_law_point_here"] (a0k a5g) := ⟨rfl, rfl, rfl, by decide +kernel, rfl, by decide +kernel, by decide +kernel⟩
theorem b3n : a0r ["_law_cell_here", "_law_count_here", "_law_f"] ["_law_cell_here", "_law_count_here"] (a0k a7f) := ⟨rfl, rfl, rfl, by decide +kernel, rfl, by decide +kernel, by decide +kernel⟩
theorem a7q : a0r ["_law_k", "_law_cell_here", "_law_other", "_law_low", "_law_high"] ["_law_k", "_law_cell_here", "_law_other"] (a0k b3c) := ⟨rfl, rfl, rfl, by decide +kernel, rfl, by decide +kernel, by decide +kernel⟩
theorem b8f : a0r ["_law_kind", "_law_cell_here", "_law_other", "_law_point_here", "_law_k"] ["_law_kind", "_law_cell_here", "_law_other", "_law_point_here"] (a0k b0q) := ⟨rfl, rfl, rfl, by decide +kernel, rfl, by decide +kernel, by decide +kernel⟩
theorem c8i : a0r ["_law_drawn"] ["_law_drawn"] (a0k a9z) := ⟨rfl, rfl, rfl, by decide +kernel, rfl, by decide +kernel, by decide +kernel⟩
theorem a4y : a0r ["_law_drawn", "_law_point_here", "_law_number", "_law_k"] ["_law_drawn", "_law_point_here", "_law_number"] (a0k b0g) := ⟨rfl, rfl, rfl, by decide +kernel, rfl, by decide +kernel, by decide +kernel⟩
theorem a8k : a0r ["_law_found", "_law_drawn", "_law_sides_here", "_law_count_here", "_law_pair", "_law_come"] ["_law_found", "_law_drawn", "_law_sides_here", "_law_count_here", "_law_pair"] (a0k a4h) := ⟨rfl, rfl, rfl, by decide +kernel, rfl, by decide +kernel, by decide +kernel⟩
theorem a5s : a0r ["_law_deed_here", "_law_shape", "_law_come", "_law_drawn", "_law_sides_here", "_law_pair", "_law_far_here", "_law_entry", "_law_number", "_law_found", "_law_some"] ["_law_deed_here", "_law_shape", "_law_come", "_law_drawn", "_law_sides_here", "_law_pair", "_law_far_here"] (a0k b2z) := ⟨rfl, rfl, rfl, by decide +kernel, rfl, by decide +kernel, by decide +kernel⟩
variable {Z_Go Z_Keep Z_Put Z_Ask y8 y9 y11 y10 y12 y14 y13 y15 y4 y3 y7 : Addr} (T : Kl K mg Z_Go Z_Keep Z_Put Z_Ask y8 y9 y11 y10 y12 y14 y13 y15 y4 y3 y7)
include T
theorem e0y {f : Addr} {fd : FuncData} (F : Fun K "below" "below" c3r f fd) (m : mg "below" = some (.ref f)) (B : Bl mg)  : Def P w K mg base CX0 "below" 1 ["entry", "number"] (c3d K) := by
 refine ⟨f, fd, F.ok e0f (fun vs H Q E h => ?_) (fun cdv A outer s H vs Q E hr h => ?_), F.binds (ps := ["entry", "number"]) fun _ _ _ _ _ _ us hl => (by obtain ⟨b0, b1, rfl⟩ := us2 hl; rfl), F.kp, m⟩
 · obtain ⟨e, z, rfl, _⟩ := h
   rfl
 obtain ⟨e, z, rfl, q⟩ := h
 refine ⟨_, (a0h (a0l (d4v (a7w a3l (pv 0) a0w (a0s _)) (d6h (a7w c4n (pv 0) (pv 1) (a0s _)))))), ?_⟩
 cases e with
 | none =>
  refine ⟨_, rfl, rfl, _, rfl, ?_⟩
  refine a2c ?_
  exact q
 | some x =>
  refine ⟨_, rfl, rfl, _, rfl, ?_⟩
  refine a3h ?_
  exact ⟨_, rfl, _, rfl, _, _, rfl, rfl, q⟩
theorem d6s {f : Addr} {fd : FuncData} (F : Fun K "lesser" "lesser" b8w f fd) (m : mg "lesser" = some (.ref f)) (B : Bl mg)  : Def P w K mg base CX0 "lesser" 1 ["one", "other"] (b5y K) := by
 refine ⟨f, fd, F.ok d6k (fun vs H Q E h => ?_) (fun cdv A outer s H vs Q E hr h => ?_), F.binds (ps := ["one", "other"]) fun _ _ _ _ _ _ us hl => (by obtain ⟨b0, b1, rfl⟩ := us2 hl; rfl), F.kp, m⟩
 · obtain ⟨a, b, rfl, _⟩ := h
   rfl
 obtain ⟨a, b, rfl, q⟩ := h
 refine ⟨_, (@a0f _ _ _ _ _ (a1d (a0m a3c (pv 0) a0w (a0s _)) (a0h (a0l (pv 1))) a0o)
  (@a0f _ _ _ _ _ (a1d (b8k (a0m a3c (pv 1) a0w (a0s _)) (b2j (a0m e3g (pv 0) (pv 1) (a0s _)))).pt (a0h (a0l (pv 0))) a0o)
  (a0h (a0l (pv 1))))), ?_⟩
 refine a0c fun U hU => ?_
 refine ⟨_, rfl, rfl, _, rfl, ?_⟩
 cases a with
 | none =>
  refine a3h ?_
  exact ⟨_, rfl, q⟩
 | some x =>
  refine a2c ?_
  show U _ _
  subst hU
  refine a0c fun U hU => ?_
  refine ⟨_, rfl, rfl, _, rfl, ?_⟩
  cases b with
  | none =>
   refine a3h ?_
   refine a3h ?_
   exact ⟨_, rfl, q⟩
  | some y =>
   refine a2c ?_
   refine ⟨_, rfl, _, rfl, x, y, rfl, rfl, _, rfl, ?_⟩
   by_cases h : x <= y
   · have e : Oct.a3z (some x) (some y) = some x := by simp [Oct.a3z]; omega
     rw [e] at q
     rw [decide_eq_true h]
     refine a3h ?_
     exact ⟨_, rfl, q⟩
   · have e : Oct.a3z (some x) (some y) = some y := by simp [Oct.a3z]; omega
     rw [e] at q
     rw [decide_eq_false h]
     refine a2c ?_
     show U _ _
     subst hU
     exact ⟨_, rfl, q⟩
theorem d3g {f : Addr} {fd : FuncData} (F : Fun K "greater" "greater" b5u f fd) (m : mg "greater" = some (.ref f)) (B : Bl mg)  : Def P w K mg base CX0 "greater" 1 ["one", "other"] (c2k K) := by
 refine ⟨f, fd, F.ok d3y (fun vs H Q E h => ?_) (fun cdv A outer s H vs Q E hr h => ?_), F.binds (ps := ["one", "other"]) fun _ _ _ _ _ _ us hl => (by obtain ⟨b0, b1, rfl⟩ := us2 hl; rfl), F.kp, m⟩
 · obtain ⟨a, b, rfl, _⟩ := h
   rfl
 obtain ⟨a, b, rfl, q⟩ := h
 refine ⟨_, (@a0f _ _ _ _ _ (a1d (b8k (a0m a3c (pv 0) a0w (a0s _)) (b2j (a0m a3c (pv 1) a0w (a0s _)))).pt (a0h (a0l a0w)) a0o)
  (a0h (a0l (a1f (d5u rfl) (by rfl) B.max (by decide +kernel) (a0a (pv 0) (a0a (pv 1) a0b)))))), ?_⟩
 refine a0c fun U hU => ?_
 refine ⟨_, rfl, rfl, _, rfl, ?_⟩
 cases a with
 | none =>
  refine a3h ?_
  refine a3h ?_
  exact q
 | some x =>
  refine a2c ?_
  refine ⟨_, rfl, rfl, _, rfl, ?_⟩
  cases b with
  | none =>
   refine a3h ?_
   exact q
  | some y =>
   refine a2c ?_
   show U _ _
   subst hU
   exact ⟨_, rfl, _, rfl, x, y, rfl, q⟩
theorem d9l {f : Addr} {fd : FuncData} (F : Fun K "least" "least" c4w f fd) (m : mg "least" = some (.ref f)) (B : Bl mg)  : Def P w K mg base CX0 "least" 1 ["entries"] (c2x K) := by
 refine ⟨f, fd, F.ok d2p (fun vs H Q E h => ?_) (fun cdv A outer s H vs Q E hr h => ?_), F.binds (ps := ["entries"]) fun _ _ _ _ _ _ us hl => (by obtain ⟨b0, rfl⟩ := us1 hl; rfl), F.kp, m⟩
 · obtain ⟨b, es, rfl, _⟩ := h
   rfl
 obtain ⟨b, es, rfl, hB, hz, q⟩ := h
 refine ⟨_, (a0h (a0l (e2l (K := K) rfl rfl (by rfl) B.min (a2i (a5w (a1c.of d2p.nd (by rfl)) rfl (a2k (K := K) rfl (pv 0)) (fun _ _ _ => b2a (a0m a3l (pv 0) a0w (a0s _))) (fun _ _ _ => (pv 0))) a0b) (d5g a0w e2e)))), ?_⟩
 refine ⟨_, rfl, b, rfl, ⟨_, hB⟩, fun p hp => a3v (K := K) (a := b) (xs := es.map eV) (fun i ys H' => ys = (a1j (es.take i)).map V.int /\ H' p = some (.lst ys) /\ a1i H H') ⟨rfl, a0g, a0i hp _⟩ (fun i ys H' _ ⟨_, _, sm⟩ => sm.seq hB) ?_ ?_⟩
 · rintro i x ys H' hx ⟨rfl, hp', sm⟩
   rw [List.getElem?_map] at hx
   cases ei : es[i]? with
   | none => rw [ei] at hx; cases hx
   | some e1 =>
    rw [ei] at hx
    have ex : eV e1 = x := Option.some.inj hx
    subst ex
    have hi : i < (es.map eV).length := by rw [List.length_map]; exact (List.getElem?_eq_some_iff.mp ei).1
    have es' := c6q es i e1 ei
    refine ⟨_, rfl, rfl, _, rfl, ?_⟩
    cases e1 with
    | none =>
     refine a2c ?_
     exact a2j hi ⟨by rw [es']; simp, hp', sm⟩
    | some z =>
     refine a3h ?_
     have ll : (a1j (es.take i)).length <= i := Nat.le_trans (List.length_filterMap_le _ _) (by rw [List.length_take]; omega)
     rw [List.length_map] at hi
     refine ⟨_, rfl, hp', by rw [List.length_map]; exact a0y (by omega), a2j (by rw [List.length_map]; exact hi) ⟨by rw [es']; simp [eV], a0g, a0z hp sm⟩⟩
 · rintro ys H' ⟨rfl, hp', sm⟩
   rw [List.length_map, List.take_length] at hp'
   have q1 := q H' sm
   rw [c0m] at q1
   refine ⟨p, a1j es, .non, rfl, rfl, SqL.of hp', fun e => ?_, fun b1 r1 e => ?_⟩
   · rw [e] at q1; exact q1
   · rw [e] at q1; exact q1
theorem d8l {f : Addr} {fd : FuncData} (F : Fun K "summed" "summed" b9a f fd) (m : mg "summed" = some (.ref f)) (B : Bl mg)  : Def P w K mg base CX0 "summed" 1 ["one", "other"] (a9u K) := by
 refine ⟨f, fd, F.ok d7v (fun vs H Q E h => ?_) (fun cdv A outer s H vs Q E hr h => ?_), F.binds (ps := ["one", "other"]) fun _ _ _ _ _ _ us hl => (by obtain ⟨b0, b1, rfl⟩ := us2 hl; rfl), F.kp, m⟩
 · obtain ⟨a, b, rfl, _⟩ := h
   rfl
 obtain ⟨a, b, rfl, q⟩ := h
 refine ⟨_, (@a0f _ _ _ _ _ (a1d (b8k (a0m a3c (pv 0) a0w (a0s _)) (b2j (a0m a3c (pv 1) a0w (a0s _)))).pt (a0h (a0l a0w)) a0o)
  (a0h (a0l (a0p a2d (pv 0) (pv 1))))), ?_⟩
 refine a0c fun U hU => ?_
 refine ⟨_, rfl, rfl, _, rfl, ?_⟩
 cases a with
 | none =>
  refine a3h ?_
  refine a3h ?_
  exact q
 | some x =>
  refine a2c ?_
  refine ⟨_, rfl, rfl, _, rfl, ?_⟩
  cases b with
  | none =>
   refine a3h ?_
   exact q
  | some y =>
   refine a2c ?_
   show U _ _
   subst hU
   exact ⟨_, rfl, _, rfl, x, y, rfl, rfl, q⟩
theorem e2i {f : Addr} {fd : FuncData} (F : Fun K "half" "half" d1y f fd) (m : mg "half" = some (.ref f)) (B : Bl mg)  : Def P w K mg base CX0 "half" 1 ["entry"] (b6u K) := by
 refine ⟨f, fd, F.ok e3n (fun vs H Q E h => ?_) (fun cdv A outer s H vs Q E hr h => ?_), F.binds (ps := ["entry"]) fun _ _ _ _ _ _ us hl => (by obtain ⟨b0, rfl⟩ := us1 hl; rfl), F.kp, m⟩
 · obtain ⟨a, rfl, _⟩ := h
   rfl
 obtain ⟨a, rfl, q⟩ := h
 refine ⟨_, (@a0f _ _ _ _ _ (a1d (a0m a3c (pv 0) a0w (a0s _)) (a0h (a0l a0w)) a0o)
  (a0h (a0l (a0p a1t (pv 0) a0d)))), ?_⟩
 refine a0c fun U hU => ?_
 refine ⟨_, rfl, rfl, _, rfl, ?_⟩
 cases a with
 | none =>
  refine a3h ?_
  exact q
 | some x =>
  refine a2c ?_
  show U _ _
  subst hU
  exact ⟨_, rfl, x, 2, rfl, rfl, ⟨by decide, by decide⟩, q⟩
theorem d3u {f : Addr} {fd : FuncData} (F : Fun K "flipped" "flipped" b5j f fd) (m : mg "flipped" = some (.ref f)) (B : Bl mg)  : Def P w K mg base CX0 "flipped" 1 ["f"] (a2r K) := by
 refine ⟨f, fd, F.ok d4m (fun vs H Q E h => ?_) (fun cdv A outer s H vs Q E hr h => ?_), F.binds (ps := ["f"]) fun _ _ _ _ _ _ us hl => (by obtain ⟨b0, rfl⟩ := us1 hl; rfl), F.kp, m⟩
 · obtain ⟨f, rfl, _⟩ := h
   rfl
 obtain ⟨f, rfl, q⟩ := h
 refine ⟨_, (@a0f _ _ _ _ _ (a1d (a0m a3n (a0p a1y (pv 0) a0d) a0d (a0s _)) (a0h (a0l (a0p a2d (pv 0) a0d))) a0o)
  (a0h (a0l (a0p b1b (pv 0) a0d)))), ?_⟩
 refine a0c fun U hU => ?_
 refine ⟨_, rfl, _, _, rfl, rfl, (by show (0 : Int) < 2; decide), rfl, _, rfl, ?_⟩
 unfold a7g at q
 refine b2x (fun h => ?_) (fun h => ?_)
 · rw [if_pos (V.int.inj (of_decide_eq_true h))] at q
   exact ⟨_, rfl, _, _, rfl, rfl, q⟩
 · show U _ _
   subst hU
   rw [if_neg (fun e => h (decide_eq_true (congrArg V.int e)))] at q
   exact ⟨_, rfl, _, _, rfl, rfl, q⟩
theorem e3w {f : Addr} {fd : FuncData} (F : Fun K "wide" "wide" d2v f fd) (m : mg "wide" = some (.ref f)) (B : Bl mg) (d3h : Def P w K mg base CX0 "wide_row" 2 ["f", "length"] (b9j K)) : Def P w K mg base CX0 "wide" 3 ["count"] (d6a K) := by
 refine ⟨f, fd, F.ok d5d (fun vs H Q E h => ?_) (fun cdv A outer s H vs Q E hr h => ?_), F.binds (ps := ["count"]) fun _ _ _ _ _ _ us hl => (by obtain ⟨b0, rfl⟩ := us1 hl; rfl), F.kp, m⟩
 · obtain ⟨n, rfl, _⟩ := h
   rfl
 obtain ⟨n, rfl, hn, q⟩ := h
 refine ⟨_, (a0h (a0l (a5w (a1c.of d5d.nd (by rfl)) rfl (a3t (by rfl) B.range (a0x (a0p a1w a0d (pv 0)) a0b)) (fun _ _ _ => a7x) (fun _ _ _ => (a0q d3h hr (a0a (pv 0) (a0x (a0p a1w a0d (pv 1)) a0b))))))), ?_⟩
 refine ⟨_, rfl, _, _, rfl, rfl, .inl ⟨by decide, by decide⟩, (2 * (n : Int)), rfl, by omega, by omega, fun p hp => a5t (lo := 0) (n := (2 * (n : Int)).toNat) (fun i ys H' => b8j H H' p ys (Oct.c2z i (2 * n) Oct.a5c)) (b8j.start hp) ?_ ?_⟩
 · rintro i ys H' hi G
   simp only [d4s, ↓reduceIte]
   refine ⟨_, rfl, _, rfl, _, _, rfl, rfl, .inl ⟨by decide, by decide⟩, i, 2 * n, by simp, by omega, fun b H2 hb sm eb => ?_⟩
   have st := G.step hb sm eb
   refine ⟨st.1, by rw [G.len, Oct.a4k]; exact a0y (by omega), a2j hi ?_⟩
   rw [Oct.a6d]
   exact st.2
 · rintro ys H' ⟨bs, rfl, T, sm⟩
   have en : (2 * (n : Int)).toNat = 2 * n := by omega
   rw [en] at T
   exact q p bs H' sm T
theorem d0a {f : Addr} {fd : FuncData} (F : Fun K "wide_row" "wide_row" b3d f fd) (m : mg "wide_row" = some (.ref f)) (B : Bl mg) (a1e : Def P w K mg base CX0 "flipped" 1 ["f"] (a2r K)) : Def P w K mg base CX0 "wide_row" 2 ["f", "length"] (b9j K) := by
 refine ⟨f, fd, F.ok b9v (fun vs H Q E h => ?_) (fun cdv A outer s H vs Q E hr h => ?_), F.binds (ps := ["f", "length"]) fun _ _ _ _ _ _ us hl => (by obtain ⟨b0, b1, rfl⟩ := us2 hl; rfl), F.kp, m⟩
 · obtain ⟨f, N, rfl, _⟩ := h
   rfl
 obtain ⟨f, N, rfl, hN, q⟩ := h
 refine ⟨_, (a0h (a0l (a5w (a1c.of b9v.nd (by rfl)) rfl (a3t (by rfl) B.range (a0a (pv 1) a0b)) (fun _ _ _ => a7x) (fun _ _ _ => (e0o (a0m a3n (pv 0) (a0q a1e hr (a0a (pv 1) a0b)) (a0s _)) a0d a0w))))), ?_⟩
 refine ⟨_, rfl, (N : Int), rfl, by omega, by omega, fun p hp => a5t (lo := 0) (n := (N : Int).toNat) (fun i ys H' => ys = (Oct.ln i (Oct.a5c f)).map eV /\ H' p = some (.lst ys) /\ a1i H H') ⟨rfl, a0g, a0i hp _⟩ ?_ ?_⟩
 · rintro i ys H' hi ⟨rfl, hp', sm⟩
   have fin : H' p = some (.lst ((Oct.ln i (Oct.a5c f)).map eV)) /\ ((Oct.ln i (Oct.a5c f)).map eV).length < sizeLine /\ ∃ m', m' < (N : Int).toNat - i /\ m' = (N : Int).toNat - (i + 1) /\ i + 1 <= (N : Int).toNat /\ ((Oct.ln i (Oct.a5c f)).map eV ++ [eV (Oct.a5c f i)] = (Oct.ln (i + 1) (Oct.a5c f)).map eV /\ upd H' p (.lst ((Oct.ln i (Oct.a5c f)).map eV ++ [eV (Oct.a5c f i)])) p = some (.lst ((Oct.ln i (Oct.a5c f)).map eV ++ [eV (Oct.a5c f i)])) /\ a1i H (upd H' p (.lst ((Oct.ln i (Oct.a5c f)).map eV ++ [eV (Oct.a5c f i)])))) :=
    ⟨hp', by rw [a2y]; exact a0y (by omega), a2j hi ⟨b2w i _, a0g, a0z hp sm⟩⟩
   simp only [d4s, ↓reduceIte]
   refine ⟨_, rfl, _, rfl, (f : Int), rfl, rfl, _, rfl, ?_⟩
   refine b2x (fun h => ?_) (fun h => ?_)
   · have e : i = Oct.fl f := by have := V.int.inj (of_decide_eq_true h); rw [a2w] at this; omega
     have ew : eV (Oct.a5c f i) = V.int 0 := by unfold Oct.a5c; rw [if_pos e]; rfl
     rw [ew] at fin
     exact fin
   · have e : i ≠ Oct.fl f := fun e => h (decide_eq_true (by rw [a2w, ← e, Int.zero_add]))
     have ew : eV (Oct.a5c f i) = V.non := by unfold Oct.a5c; rw [if_neg e]; rfl
     rw [ew] at fin
     exact fin
 · rintro ys H' ⟨rfl, hp', sm⟩
   have en : (N : Int).toNat = N := Int.toNat_natCast N
   rw [en] at hp'
   exact q p H' hp sm hp'
theorem c3e {f : Addr} {fd : FuncData} (F : Fun K "told_sides" "told_sides" a8h f fd) (m : mg "told_sides" = some (.ref f)) (B : Bl mg) (a1e : Def P w K mg base CX0 "flipped" 1 ["f"] (a2r K)) : Def P w K mg base CX0 "told_sides" 2 ["table"] (b6c K) := by
 refine ⟨f, fd, F.ok a4i (fun vs H Q E h => ?_) (fun cdv A outer s H vs Q E hr h => ?_), F.binds (ps := ["table"]) fun _ _ _ _ _ _ us hl => (by obtain ⟨b0, rfl⟩ := us1 hl; rfl), F.kp, m⟩
 · obtain ⟨a, bs, N, c, rfl, _⟩ := h
   rfl
 obtain ⟨a, bs, N, c, rfl, T, hN, q⟩ := h
 refine ⟨_, (@a0f _ _ _ _ _ (a1h 1 a4i.nd (a2n a0b))
  (@a0f _ _ _ _ _ (a5n PassesOwn.never rfl (c5h (K := K) rfl (by rfl) B.enumerate (a0a (pv 0) a0b)) (c3t (K := K) rfl rfl (a9k 2 a4i.nd) (a9k 3 a4i.nd)) (a0h (a5n PassesOwn.never rfl (c5h (K := K) rfl (by rfl) B.enumerate (a0a (pv 3) a0b)) (c3t (K := K) rfl rfl (a9k 4 a4i.nd) (a9k 5 a4i.nd)) (a0h (a1d (c1w (a0m e3g (pv 2) (pv 4) (a0s _)) (c1w (a0m d1a (pv 4) (a0q a1e hr (a0a (pv 2) a0b)) (a0s _)) (c0e (a0m a3l (pv 5) a0w (a0s _))))).pt (a0h (b4e (c7u PySem.F.plainAttrs_list PySem.F.slot_list_append PySem.F.type_list_append a4t (pv 1) (b0m (a2x (a0a (pv 2) (a0a (pv 4) (a0a (pv 5) a0b)))) a0b)))) a0o)))))
  (a0h (a0l (pv 1))))), ?_⟩
 refine a0c fun U hU => ?_
 refine ⟨sz 0, fun p hp => ?_⟩
 show U _ _
 subst hU
 have hL : (bs.map V.ref).length = N := by rw [List.length_map, T.lenN]
 refine a0c fun U hU => ?_
 refine ⟨_, rfl, a, rfl, ⟨_, (a0i hp _).seq (SqL.of T.at_)⟩, d2y (K := K) (a := a) (xs := bs.map V.ref) (fun i σ H' => ∃ x y z w ys, σ = [some (.ref a), some (.ref p), x, y, z, w] /\ a1i H H' /\ H' p = some (.lst ys) /\ Paired (a2o H') ys (b4y N c i)) ⟨none, none, none, none, [], rfl, a0i hp _, a0g, .nil⟩ (fun i σ H' _ ⟨_, _, _, _, _, _, sm, _⟩ => sm.seq (SqL.of T.at_)) ?_ ?_⟩
 · rintro i v σ H1 H2 hv ⟨x, y, z, w, ys, rfl, sm1, hp1, hP1⟩ sm12
   have sm2 := sm1.trans sm12
   have T2 := T.same sm2
   obtain ⟨hi, b, rfl, eb, hb⟩ := T2.rowN hv
   have hb0 : H b = some (.lst ((Oct.ln N (c i)).map eV)) := by
    obtain ⟨_, b', e', eb', hb'⟩ := T.rowN hv
    cases e'
    exact hb'
   refine ⟨_, rfl, b, rfl, ⟨_, SqL.of hb⟩, d2y (K := K) (a := b) (xs := (Oct.ln N (c i)).map eV) (fun j σ H' => ∃ z w ys, σ = [some (.ref a), some (.ref p), some (.int i), some (.ref b), z, w] /\ a1i H H' /\ H' p = some (.lst ys) /\ Paired (a2o H') ys (b4y N c i ++ a5p c i j)) ⟨z, w, ys, rfl, sm2, sm12 _ _ hp1, by rw [show a5p c i 0 = [] from rfl, List.append_nil]; exact a1v sm12 hP1⟩ (fun j σ H' _ ⟨_, _, _, _, sm, _⟩ => sm.seq (SqL.of hb0)) ?_ ?_⟩
   · rintro j u σ H3 H4 hu ⟨z, w, ys, rfl, sm3, hp3, hP3⟩ sm34
     obtain ⟨hj, rfl⟩ := b2i hu
     have hp4 := sm34 _ _ hp3
     have hP4 := a1v sm34 hP3
     have sm4 := sm3.trans sm34
     have lz : ys.length < sizeLine := by
      rw [a2q hP3, List.length_append]
      have e1 := c0f N c i
      have e2 := b9i c i j
      have e3 : N * i <= 12 * 12 := Nat.mul_le_mul hN (by omega)
      exact a0y (by omega)
     have skip : (a5p c i (j + 1) = a5p c i j) -> ∃ z w ys, [some (V.ref a), some (.ref p), some (.int i), some (.ref b), some (.int j), some (eV (c i j))] = [some (.ref a), some (.ref p), some (.int i), some (.ref b), z, w] /\ a1i H H4 /\ H4 p = some (.lst ys) /\ Paired (a2o H4) ys (b4y N c i ++ a5p c i (j + 1)) := fun e => ⟨_, _, ys, rfl, sm4, hp4, by rw [e]; exact hP4⟩
     have tr := c8b c i j
     refine ⟨_, rfl, _, rfl, _, _, rfl, rfl, _, rfl, ?_⟩
     refine b2x (fun h => ?_) (fun h => ?_)
     · have hij : i <= j := by simpa using h
       refine ⟨_, rfl, _, rfl, (i : Int), rfl, ?_⟩
       rw [a2w]
       refine ⟨rfl, _, rfl, ?_⟩
       by_cases hfl : j = Oct.fl i
       · have e0 : decide (V.int (j : Int) = V.int ((Oct.fl i : Nat) : Int)) = true := by simp [hfl]
         rw [e0]
         refine a2c ?_
         refine a2c ?_
         refine skip ?_
         rw [tr, if_neg (fun q => q.2 hfl), List.append_nil]
       · have e0 : decide (V.int (j : Int) = V.int ((Oct.fl i : Nat) : Int)) = false := by simp; omega
         rw [e0]
         refine a3h ?_
         rw [if_pos ⟨hij, hfl⟩] at tr
         refine ⟨_, rfl, rfl, _, rfl, ?_⟩
         cases ec : c i j with
         | none =>
          rw [ec] at tr
          refine a2c ?_
          have := skip (by rw [tr]; simp)
          rw [ec] at this
          exact this
         | some zz =>
          rw [ec] at tr
          refine a3h ?_
          refine ⟨_, rfl, .inl ⟨rfl, _, SqL.of hp4⟩, _, rfl, _, rfl, _, rfl, sz 3, fun t ht => ⟨p, _, _, rfl, rfl, a0i ht _ _ _ hp4, lz, ?_⟩⟩
          have smt := a0i ht (.tup [.int i, .int j, eV (some zz)])
          refine ⟨_, _, _, rfl, a0z hp (sm4.trans smt), a0g, ?_⟩
          rw [tr, ← List.append_assoc]
          exact a7s (b9u (smt _ _ hp4) (a1v smt hP4)) (a2o.put (smt _ _ hp4) ⟨t, rfl, a0g⟩)
     · refine a2c ?_
       refine skip ?_
       rw [tr, if_neg (fun q => h (by simpa using q.1)), List.append_nil]
   · rintro σ H3 ⟨z, w, ys, rfl, sm3, hp3, hP3⟩
     rw [a2y] at hP3
     refine ⟨_, _, _, _, ys, rfl, sm3, hp3, ?_⟩
     rw [c2h]
     exact hP3
 · rintro σ H1 ⟨x, y, z, w, ys, rfl, sm1, hp1, hP1⟩
   show U _ _
   subst hU
   rw [hL] at hP1
   exact ⟨_, rfl, q p ys H1 sm1 hp hp1 hP1⟩
theorem d5r {f : Addr} {fd : FuncData} (F : Fun K "closed" "closed" b8t f fd) (m : mg "closed" = some (.ref f)) (B : Bl mg) (a2l : Def P w K mg base CX0 "held_by_all" 6 ["shape", "sides"] (a3w K)) (e6y : Def P w K mg base CX0 "wide" 3 ["count"] (d6a K)) : Def P w K mg base CX0 "closed" 7 ["count", "sides"] (c0l K) := by
 refine ⟨f, fd, F.ok d5w (fun vs H Q E h => ?_) (fun cdv A outer s H vs Q E hr h => ?_), F.binds (ps := ["count", "sides"]) fun _ _ _ _ _ _ us hl => (by obtain ⟨b0, b1, rfl⟩ := us2 hl; rfl), F.kp, m⟩
 · obtain ⟨b, n, ys, ss, rfl, _⟩ := h
   rfl
 obtain ⟨b, n, ys, ss, rfl, hS, hP, hin, hn, q⟩ := h
 refine ⟨_, (a0h (a0l (a0q a2l hr (a0u (a0q e6y hr (a0a (pv 0) a0b)) (a0a (pv 1) a0b))))), ?_⟩
 refine ⟨_, rfl, n, rfl, hn, fun p bs H1 sm1 N1 => ?_⟩
 refine ⟨_, rfl, .ref p, b, n, some Oct.a5c, ys, ss, rfl, ⟨p, bs, rfl, N1.tab⟩, fun f _ => ?_, sm1.seq hS, a1v sm1 hP, hin, hn, fun u H2 sm2 N2 => q u H2 (sm1.trans sm2) (N2.of sm1)⟩
 unfold Oct.a5c
 rw [if_pos rfl]
 exact Oct.a1r _
theorem e2o {f : Addr} {fd : FuncData} (F : Fun K "held" "held" d1q f fd) (m : mg "held" = some (.ref f)) (B : Bl mg) (a2l : Def P w K mg base CX0 "held_by_all" 6 ["shape", "sides"] (a3w K)) : Def P w K mg base CX0 "held" 7 ["shape", "side"] (d7u K) := by
 refine ⟨f, fd, F.ok e2p (fun vs H Q E h => ?_) (fun cdv A outer s H vs Q E hr h => ?_), F.binds (ps := ["shape", "side"]) fun _ _ _ _ _ _ us hl => (by obtain ⟨b0, b1, rfl⟩ := us2 hl; rfl), F.kp, m⟩
 · obtain ⟨v, w1, n, o, s1, rfl, _⟩ := h
   rfl
 obtain ⟨v, w1, n, o, s1, rfl, hV, hD, hS, hf, hg, hn, q⟩ := h
 refine ⟨_, (a0h (a0l (a0q a2l hr (a0a (pv 0) (a4d (a2n (a0a (pv 1) a0b)) a0b))))), ?_⟩
 refine ⟨_, rfl, _, rfl, sz 1, fun p hp => ?_⟩
 have sm := a0i hp (.lst [w1])
 refine ⟨v, p, n, o, [w1], [s1], rfl, hV.same sm, hD, SqL.of a0g, .cons (hS.same sm) .nil, fun s hs => ?_, hn, fun u H2 sm2 N2 => q u H2 (sm.trans sm2) (N2.of sm)⟩
 rw [List.mem_singleton.mp hs]
 exact ⟨hf, hg⟩
theorem c1n {f : Addr} {fd : FuncData} (F : Fun K "held_by_all" "held_by_all" a6y f fd) (m : mg "held_by_all" = some (.ref f)) (B : Bl mg) (d0h : Def P w K mg base CX0 "tightened" 5 ["table"] (b7u K)) (d7g : Def P w K mg base CX0 "lowered" 2 ["table", "sides"] (c1v K)) : Def P w K mg base CX0 "held_by_all" 6 ["shape", "sides"] (a3w K) := by
 refine ⟨f, fd, F.ok c1h (fun vs H Q E h => ?_) (fun cdv A outer s H vs Q E hr h => ?_), F.binds (ps := ["shape", "sides"]) fun _ _ _ _ _ _ us hl => (by obtain ⟨b0, b1, rfl⟩ := us2 hl; rfl), F.kp, m⟩
 · obtain ⟨v, b, n, o, ys, ss, rfl, _⟩ := h
   rfl
 obtain ⟨v, b, n, o, ys, ss, rfl, hV, hD, hS, hP, hin, hn, q⟩ := h
 refine ⟨_, (@a0f _ _ _ _ _ (a1d (a0m a3c (pv 0) a0w (a0s _)) (a0h (a0l a0w)) a0o)
  (a0h (a0l (a0q d0h hr (a0u (a0q d7g hr (a0a (pv 0) (a0a (pv 1) a0b))) a0b))))), ?_⟩
 refine a0c fun U hU => ?_
 cases o with
 | none =>
  cases hV
  refine ⟨_, rfl, rfl, _, rfl, ?_⟩
  refine a3h ?_
  exact q _ _ (a1i.refl H) rfl
 | some c =>
  obtain ⟨a, bs, rfl, T⟩ := hV
  refine ⟨_, rfl, rfl, _, rfl, ?_⟩
  refine a2c ?_
  show U _ _
  subst hU
  refine ⟨_, rfl, _, rfl, a, b, bs, n, c, ys, ss, rfl, T, hS, hP, hin, hn, fun p bs' H1 sm1 T1 => ?_⟩
  refine ⟨p, bs', n, Oct.b7p c ss, rfl, T1.tab, hn, fun f hf => Oct.a0j (Oct.b4l ss c f _) (hD f hf), fun u H2 sm2 N2 => ?_⟩
  exact q u H2 (sm1.trans sm2) (N2.of sm1)
theorem d3d {f : Addr} {fd : FuncData} (F : Fun K "lowered" "lowered" b5n f fd) (m : mg "lowered" = some (.ref f)) (B : Bl mg) (b3a : Def P w K mg base CX0 "lesser" 1 ["one", "other"] (b5y K)) : Def P w K mg base CX0 "lowered" 2 ["table", "sides"] (c1v K) := by
 refine ⟨f, fd, F.ok a7l (fun vs H Q E h => ?_) (fun cdv A outer s H vs Q E hr h => ?_), F.binds (ps := ["table", "sides"]) fun _ _ _ _ _ _ us hl => (by obtain ⟨b0, b1, rfl⟩ := us2 hl; rfl), F.kp, m⟩
 · obtain ⟨a, b, bs, n, c, ys, ss, rfl, _⟩ := h
   rfl
 obtain ⟨a, b, bs, n, c, ys, ss, rfl, T, hS, hP, hin, hn, q⟩ := h
 refine ⟨_, (@a0f _ _ _ _ _ (b9l (i := 2) (a1c.of a7l.nd (by rfl)) rfl (a2k (K := K) rfl (pv 0)) (fun _ _ _ => a7x) (fun _ _ _ => (a9v (a7j (K := K) rfl) (by rfl) B.list (by decide +kernel) (a0a (pv 0) a0b))) a7l.nd rfl (by first | exact Or.inl rfl | exact Or.inr rfl) rfl)
  (@a0f _ _ _ _ _ (a5n PassesOwn.never rfl (a2k (K := K) rfl (pv 1)) (a9k 3 a7l.nd) (@a0f _ _ _ _ _ (a1h 4 a7l.nd (a1n (K := K) (pv 3) a0d))
  (@a0f _ _ _ _ _ (a1h 5 a7l.nd (a1n (K := K) (pv 3) a0d))
  (@a0f _ _ _ _ _ (e2d (a0q b3a hr (a0e (a1b (K := K) (a1b (K := K) (pv 2) (pv 4)) (pv 5)) (a0e (a1n (K := K) (pv 3) a0d) a0b))) (e1q (a1b (K := K) (pv 2) (pv 4)) (pv 5) d2u))
  (a0h (e2d (a0q b3a hr (a0e (a1b (K := K) (a1b (K := K) (pv 2) (pv 5)) (pv 4)) (a0e (a1n (K := K) (pv 3) a0d) a0b))) (e1q (a1b (K := K) (pv 2) (pv 5)) (pv 4) d2u)))))))
  (a0h (a0l (pv 2))))), ?_⟩
 refine a0c fun U hU => ?_
 have hL : (bs.map V.ref).length = 2 * n := by rw [List.length_map, T.lenN]
 refine ⟨_, rfl, a, rfl, ⟨_, SqL.of T.at_⟩, fun p hp => a3v (K := K) (a := a) (xs := bs.map V.ref) (fun i zs H' => b8j H H' p zs (Oct.c2z i (2 * n) c)) (b8j.start hp) (fun i ys H' _ G => G.same.seq (SqL.of T.at_)) ?_ ?_⟩
 · rintro i x zs H' hx G
   have T' := T.same G.same
   obtain ⟨hi, d, rfl, ed, hd⟩ := T'.rowN hx
   simp only [d4s, ↓reduceIte]
   refine ⟨_, rfl, d, _, rfl, .inl (SqL.of hd), fun l hl => ?_⟩
   have st := G.step hl (a0i hl (.lst ((Oct.ln (2 * n) (c i)).map eV))) a0g
   have hlt : i < (bs.map V.ref).length := (List.getElem?_eq_some_iff.mp hx).1
   refine ⟨st.1, by rw [G.len, Oct.a4k]; exact a0y (by omega), a2j hlt ?_⟩
   rw [Oct.a6d]
   exact st.2
 · rintro zs H1 ⟨bs1, rfl, T1, sm1⟩
   rw [hL] at T1
   show U _ _
   subst hU
   have lx := a2q hP
   refine a0c fun U hU => ?_
   refine ⟨_, rfl, b, rfl, ⟨_, sm1.seq hS⟩, a7i (K := K) (a := b) (xs := ys) (fun i σ H' => ∃ x y z, σ = [some (.ref a), some (.ref b), some (.ref p), x, y, z] /\ a1i H H' /\ a2e H' p bs1 (Oct.toT (2 * n) (Oct.b7p c (ss.take i)))) ⟨none, none, none, rfl, sm1, T1.tab⟩ (fun i σ H' _ ⟨_, _, _, _, sm, _⟩ => sm.seq hS) ?_ ?_⟩
   · rintro i v σ H' hv ⟨x, y, z, rfl, sm, T2⟩
     obtain ⟨s1, es, sa, rfl, hsa⟩ := a2s hP hv
     have hsa' : SqT K H' sa [.int (s1.1 : Nat), .int (s1.2.1 : Nat), .int s1.2.2] := SqT.of (sm _ _ hsa)
     obtain ⟨hf, hg⟩ := hin s1 (List.mem_of_getElem? es)
     refine a0c fun U hU => ?_
     refine ⟨_, rfl, sa, _, 0, _, rfl, rfl, hsa', rfl, ?_⟩
     show U _ _
     subst hU
     refine a0c fun U hU => ?_
     refine ⟨_, rfl, sa, _, 1, _, rfl, rfl, hsa', rfl, ?_⟩
     show U _ _
     subst hU
     generalize hcc : Oct.b7p c (ss.take i) = cc at *
     obtain ⟨b1, e1, h1, a1⟩ := T2.rd hf
     obtain ⟨b2, r2, e2, h2, TT, Tm⟩ := e0b (z := s1.2.2) T2 hf hg e1
     have nb1 : H b1 = none := T1.newL b1 (List.mem_of_getElem? e1)
     have nb2 : H b2 = none := T1.newL b2 (List.mem_of_getElem? e2)
     refine a0c fun U hU => ?_
     refine ⟨_, rfl, _, rfl, p, _, _, _, rfl, rfl, SqL.of T2.at_, a1, _, rfl, b1, _, _, _, rfl, rfl, SqL.of h1, a4p hg, _, rfl, sa, _, 2, _, rfl, rfl, hsa', rfl, cc s1.1 s1.2.1, some s1.2.2, rfl, _, rfl, _, rfl, p, _, _, _, rfl, rfl, SqL.of T2.at_, a1, _, rfl, b1, _, _, s1.2.1, rfl, rfl, h1, by rw [a2y]; exact d6w hg, ?_⟩
     rw [c2g, Oct.e2g]
     show U _ _
     subst hU
     have sm2 : a1i H (upd H' b1 (.lst ((Oct.ln (2 * n) fun y => if y = s1.2.1 then Oct.a3z (cc s1.1 s1.2.1) (some s1.2.2) else cc s1.1 y).map eV))) := a0z nb1 sm
     have hsa2 := sm2 _ _ hsa
     generalize upd H' b1 (.lst ((Oct.ln (2 * n) fun y => if y = s1.2.1 then Oct.a3z (cc s1.1 s1.2.1) (some s1.2.2) else cc s1.1 y).map eV)) = H2 at *
     have hsa2' : SqT K H2 sa [.int (s1.1 : Nat), .int (s1.2.1 : Nat), .int s1.2.2] := SqT.of hsa2
     have a2 : atI (bs1.map V.ref) (s1.2.1 : Int) = some (.ref b2) := c0d (by rw [List.getElem?_map, e2]; rfl)
     refine ⟨_, rfl, _, rfl, p, _, _, _, rfl, rfl, SqL.of Tm.at_, a2, _, rfl, b2, _, _, _, rfl, rfl, SqL.of h2, a4p hf, _, rfl, sa, _, 2, _, rfl, rfl, hsa2', rfl, r2 s1.1, some s1.2.2, rfl, _, rfl, _, rfl, p, _, _, _, rfl, rfl, SqL.of Tm.at_, a2, _, rfl, b2, _, _, s1.1, rfl, rfl, h2, by rw [a2y]; exact d6w hf, ?_⟩
     rw [c2g, Oct.e2g]
     refine ⟨_, _, _, rfl, a0z nb2 sm2, ?_⟩
     rw [a2g es, c7t, hcc]
     exact TT
   · rintro σ H' ⟨x, y, z, rfl, sm, T2⟩
     show U _ _
     subst hU
     rw [lx, List.take_length] at T2
     exact ⟨_, rfl, q p bs1 H' sm ⟨T2, T1.newT, T1.newL⟩⟩
theorem c7p {f : Addr} {fd : FuncData} (F : Fun K "tightened" "tightened" b0p f fd) (m : mg "tightened" = some (.ref f)) (B : Bl mg) (b3e : Def P w K mg base CX0 "linked_through_all" 4 ["table"] (a6j K)) (a6r : Def P w K mg base CX0 "half" 1 ["entry"] (b6u K)) (b4j : Def P w K mg base CX0 "row_within_halves" 2 ["row", "own_half", "halves"] (a6w K)) (d1d : Def P w K mg base CX0 "below" 1 ["entry", "number"] (c3d K)) (a2z : Def P w K mg base CX0 "summed" 1 ["one", "other"] (a9u K)) (a1e : Def P w K mg base CX0 "flipped" 1 ["f"] (a2r K)) : Def P w K mg base CX0 "tightened" 5 ["table"] (b7u K) := by
 refine ⟨f, fd, F.ok a8v (fun vs H Q E h => ?_) (fun cdv A outer s H vs Q E hr h => ?_), F.binds (ps := ["table"]) fun _ _ _ _ _ _ us hl => (by obtain ⟨b0, rfl⟩ := us1 hl; rfl), F.kp, m⟩
 · obtain ⟨a, bs, n, c, rfl, _⟩ := h
   rfl
 obtain ⟨a, bs, n, c, rfl, T, hn, hd, q⟩ := h
 refine ⟨_, (@a0f _ _ _ _ _ (a1h 1 a8v.nd (a0q b3e hr (a0a (pv 0) a0b)))
  (@a0f _ _ _ _ _ (a1h 2 a8v.nd (e1c (a1q.of (M := ["table", "whole", "halves", "?f"]) (by decide +kernel) (by rfl)) rfl (a3t (by rfl) B.range (a0u (a1f (a1g (K := K) rfl) (by rfl) B.len (by decide +kernel) (a0a (pv 1) a0b)) a0b)) (fun _ _ _ => (a0q a6r hr (a0e (a1b (K := K) (a1b (K := K) (pv 2) (pv 0)) (pv 0)) a0b)))))
  (@a0f _ _ _ _ _ (a5n PassesOwn.never rfl (a3t (by rfl) B.range (a0u (a1f (a1g (K := K) rfl) (by rfl) B.len (by decide +kernel) (a0a (pv 1) a0b)) a0b)) (a9k 3 a8v.nd) (a0h (a1d (b8k (a0m c4n (a1b (K := K) (a1b (K := K) (pv 1) (pv 3)) (a0q a1e hr (a0a (pv 3) a0b))) a0d (a0s _)) (b2j (a7r (a0q d1d hr (a0u (a0q a2z hr (a0e (a1b (K := K) (pv 2) (pv 3)) (a0e (a1b (K := K) (pv 2) (a0q a1e hr (a0a (pv 3) a0b))) a0b))) (a0n a0d a0b)))))).pt (a0h (a0l a0w)) a0o)))
  (a0h (a0l (b1x (K := K) rfl (a1o.of (M := ["table", "whole", "halves", "?f"]) (by decide +kernel) (by rfl)) rfl (c5h (K := K) rfl (by rfl) B.enumerate (a0a (pv 1) a0b)) (fun _ _ _ => (a0q b4j hr (a0a (pv 1) (a0e (a1b (K := K) (pv 4) (pv 0)) (a0a (pv 4) a0b))))))))))), ?_⟩
 refine a0c fun U hU => ?_
 refine ⟨_, rfl, a, bs, n, c, rfl, T, hn, fun p bs1 H1 sm1 T1 => ?_⟩
 show U _ _
 subst hU
 have hd1 : ∀ f, f < 2 * n -> ∃ z : Int, Oct.a4v c (Oct.c2q (2 * n)) f (Oct.fl f) = some z := fun f hf => by
  have l := Oct.a0j (Oct.b5v (Oct.c2q (2 * n)) c f (Oct.fl f)) (hd f hf)
  revert l
  cases Oct.a4v c (Oct.c2q (2 * n)) f (Oct.fl f) with
  | none => intro l; exact l.elim
  | some z => intro _; exact ⟨z, rfl⟩
 have hsh : Oct.a6b (2 * n) c = if (List.range (2 * n)).any (Oct.b5a (Oct.a4v c (Oct.c2q (2 * n)))) then none else some (Oct.a4s (Oct.a4v c (Oct.c2q (2 * n)))) := rfl
 rw [hsh] at q
 generalize Oct.a4v c (Oct.c2q (2 * n)) = u at *
 have hL : (bs1.map V.ref).length = 2 * n := by rw [List.length_map, T1.lenN]
 refine a0c fun U hU => ?_
 refine ⟨_, rfl, p, _, rfl, .inl (SqL.of T1.at_), ((bs1.map V.ref).length : Int), rfl, by omega, by omega, fun q1 hq1 => c9t (lo := 0) (n := ((bs1.map V.ref).length : Int).toNat) (fun i ys H' => ys = (Oct.ln i (Oct.hv u)).map eV /\ H' q1 = some (.lst ys) /\ a1i H1 H') ⟨rfl, a0g, a0i hq1 _⟩ ?_ ?_⟩
 · rintro i ys H' hi ⟨rfl, hp', sm⟩
   have hi' : i < 2 * n := by omega
   have T2 := T1.same sm
   obtain ⟨b, eb, hb, ab⟩ := T2.rd hi'
   rw [Int.zero_add]
   refine ⟨_, rfl, _, rfl, p, _, _, _, rfl, rfl, SqL.of T2.at_, ab, _, rfl, b, _, _, _, rfl, rfl, SqL.of hb, a4p hi', u i i, rfl, hp', by rw [a2y]; exact a0y (by omega), a2j hi ⟨b2w i (Oct.hv u), a0g, a0z hq1 sm⟩⟩
 · rintro ys H2 ⟨rfl, hq2, sm2⟩
   show U _ _
   subst hU
   have en : ((bs1.map V.ref).length : Int).toNat = 2 * n := by omega
   rw [en] at hq2
   have T2 := T1.same sm2
   have sm := sm1.trans sm2
   have sqh : SqL K H2 q1 ((Oct.ln (2 * n) (Oct.hv u)).map eV) := SqL.of hq2
   refine a0c fun U hU => ?_
   refine ⟨_, rfl, p, _, rfl, .inl (SqL.of T2.at_), ((bs1.map V.ref).length : Int), rfl, by omega, by omega, b1u (lo := 0) (n := ((bs1.map V.ref).length : Int).toNat) (fun i σ H' => ∃ v, σ = [some (.ref a), some (.ref p), some (.ref q1), v] /\ H' = H2 /\ ∀ f, f < i -> Oct.b5a u f = false) ⟨none, rfl, rfl, fun f hf => absurd hf (Nat.not_lt_zero f)⟩ ?_ ?_⟩
   · rintro i σ H' hi ⟨v, rfl, rfl, hb0⟩
     have hi' : i < 2 * n := by omega
     have hfi : Oct.fl i < 2 * n := Oct.a3k hi'
     obtain ⟨z, ez⟩ := hd1 i hi'
     obtain ⟨b, eb, hb, ab⟩ := T2.rd hi'
     have bad : Oct.b5a u i = true -> a2b H H' .non (2 * n) (if (List.range (2 * n)).any (Oct.b5a u) then none else some (Oct.a4s u)) := fun h => by
      rw [if_pos (List.any_eq_true.mpr ⟨i, List.mem_range.mpr hi', h⟩)]
      rfl
     rw [Int.zero_add]
     refine ⟨_, rfl, _, rfl, p, _, _, _, rfl, rfl, SqL.of T2.at_, ab, _, rfl, (i : Int), rfl, b, _, _, eV (u i (Oct.fl i)), rfl, rfl, SqL.of hb, by rw [a2w]; exact a4p hfi, z, 0, by rw [ez]; rfl, rfl, _, rfl, ?_⟩
     refine b2x (fun h => ?_) (fun h => ?_)
     · refine a3h ?_
       refine q _ _ sm (bad ?_)
       unfold Oct.b5a
       rw [ez]
       simp only [Oct.e4n, h, Bool.true_or]
     · refine ⟨_, rfl, _, rfl, q1, _, _, _, rfl, rfl, sqh, a4p hi', _, rfl, _, rfl, (i : Int), rfl, q1, _, _, _, rfl, rfl, sqh, by rw [a2w]; exact a4p hfi, Oct.hv u i, Oct.hv u (Oct.fl i), rfl, Oct.a0t (Oct.hv u i) (Oct.hv u (Oct.fl i)), 0, rfl, _, rfl, ?_⟩
       have eb2 : Oct.b5a u i = a6k (Oct.a0t (Oct.hv u i) (Oct.hv u (Oct.fl i))) 0 := by
        unfold Oct.b5a
        rw [ez, c9h]
        have : decide (z < 0) = false := by simpa using h
        simp only [Oct.e4n, this, Bool.false_or]
       cases hbb : a6k (Oct.a0t (Oct.hv u i) (Oct.hv u (Oct.fl i))) 0 with
       | true =>
        refine a3h ?_
        exact q _ _ sm (bad (eb2.trans hbb))
       | false =>
        refine a2c ?_
        refine ⟨_, rfl, rfl, fun f hf => ?_⟩
        by_cases hfi : f = i
        · subst hfi; exact eb2.trans hbb
        · exact hb0 f (by omega)
   · rintro σ H' ⟨v, rfl, rfl, hb0⟩
     show U _ _
     subst hU
     have nb : (List.range (2 * n)).any (Oct.b5a u) = false := by
      rw [List.any_eq_false]
      intro f hf
      have := hb0 f (by have := List.mem_range.mp hf; omega)
      simp [this]
     rw [nb] at q
     refine ⟨_, rfl, p, rfl, ⟨_, SqL.of T2.at_⟩, fun l hl => d4e (K := K) (a := p) (xs := bs1.map V.ref) (fun i ys H3 => b8j H' H3 l ys (Oct.c2z i (2 * n) (Oct.a4s u))) (b8j.start hl) (fun i ys H3 _ G => G.same.seq (SqL.of T2.at_)) ?_ ?_⟩
     · rintro i x ys H3 H4 hx G sm4
       have s4 := G.same.trans sm4
       have T4 := T2.same s4
       obtain ⟨hi, b, rfl, eb, hb⟩ := T4.rowN hx
       have sqh4 := s4.seq sqh
       refine ⟨_, rfl, _, rfl, _, rfl, q1, _, _, _, rfl, rfl, sqh4, a4p hi, _, rfl, b, Oct.hv u i, q1, 2 * n, u i, Oct.hv u, rfl, SqL.of hb, sqh4, by omega, fun l2 H5 hl2 sm5 el => ?_⟩
       have e1 : (fun g => Oct.a3z (u i g) (Oct.a0t (Oct.hv u i) (Oct.hv u g))) = Oct.a4s u i := by
        funext g; exact Oct.d6l u i g
       rw [e1] at el
       have st := G.step (sm4.free hl2) (sm4.trans sm5) el
       have hlt : i < (bs1.map V.ref).length := (List.getElem?_eq_some_iff.mp hx).1
       refine ⟨st.1, by rw [G.len, Oct.a4k]; exact a0y (by omega), a2j hlt ?_⟩
       rw [Oct.a6d]
       exact st.2
     · rintro ys H3 ⟨bs', rfl, T3, sm3⟩
       rw [hL] at T3
       exact q _ _ (sm.trans sm3) ⟨l, bs', rfl, T3.of sm⟩
theorem b3j {f : Addr} {fd : FuncData} (F : Fun K "row_within_halves" "row_within_halves" a3p f fd) (m : mg "row_within_halves" = some (.ref f)) (B : Bl mg) (b3a : Def P w K mg base CX0 "lesser" 1 ["one", "other"] (b5y K)) (a2z : Def P w K mg base CX0 "summed" 1 ["one", "other"] (a9u K)) : Def P w K mg base CX0 "row_within_halves" 2 ["row", "own_half", "halves"] (a6w K) := by
 refine ⟨f, fd, F.ok a6v (fun vs H Q E h => ?_) (fun cdv A outer s H vs Q E hr h => ?_), F.binds (ps := ["row", "own_half", "halves"]) fun _ _ _ _ _ _ us hl => (by obtain ⟨b0, b1, b2, rfl⟩ := us3 hl; rfl), F.kp, m⟩
 · obtain ⟨a, e, b, N, r, o, rfl, _⟩ := h
   rfl
 obtain ⟨a, e, b, N, r, o, rfl, hA, hB, hN, q⟩ := h
 refine ⟨_, (a0h (a0l (b1x (K := K) rfl (a1o.of (M := ["row", "own_half", "halves"]) a6v.nd (by rfl)) rfl (c3a (K := K) rfl (by rfl) B.zip (a0a (pv 0) (a0a (pv 2) a0b))) (fun _ _ _ => (a0q b3a hr (a0a (pv 0) (a0u (a0q a2z hr (a0a (pv 3) (a0a (pv 1) a0b))) a0b))))))), ?_⟩
 refine ⟨_, rfl, _, rfl, a, b, rfl, ⟨_, hA⟩, ⟨_, hB⟩, fun p hp => b5p (K := K) (a := a) (b := b) (xs := (Oct.ln N r).map eV) (zs := (Oct.ln N o).map eV) (by rw [a2y, a2y]) (fun i ys H' => ys = (Oct.ln i fun g => Oct.a3z (r g) (Oct.a0t e (o g))).map eV /\ H' p = some (.lst ys) /\ a1i H H') ⟨rfl, a0g, a0i hp _⟩ (fun i ys H' _ ⟨_, _, sm⟩ => ⟨sm.seq hA, sm.seq hB⟩) ?_ ?_⟩
 · rintro i x z ys H' H1 hx hz ⟨rfl, hp', sm⟩ sm1
   obtain ⟨hi, rfl⟩ := b2i hx
   obtain ⟨_, rfl⟩ := b2i hz
   refine ⟨_, rfl, _, rfl, _, rfl, e, o i, rfl, r i, Oct.a0t e (o i), rfl, sm1 _ _ hp', by rw [a2y]; exact a0y (by omega), ?_⟩
   rw [a2y]
   exact a2j hi ⟨b2w i (fun g => Oct.a3z (r g) (Oct.a0t e (o g))), a0g, a0z hp (sm.trans sm1)⟩
 · rintro ys H' ⟨rfl, hp', sm⟩
   rw [a2y] at hp'
   exact q p H' hp sm hp'
theorem b1q {f : Addr} {fd : FuncData} (F : Fun K "linked_through_all" "linked_through_all" a3i f fd) (m : mg "linked_through_all" = some (.ref f)) (B : Bl mg) (b8r : Def P w K mg base CX0 "linked_through" 3 ["table", "m"] (a9t K)) : Def P w K mg base CX0 "linked_through_all" 4 ["table"] (a6j K) := by
 refine ⟨f, fd, F.ok a3a (fun vs H Q E h => ?_) (fun cdv A outer s H vs Q E hr h => ?_), F.binds (ps := ["table"]) fun _ _ _ _ _ _ us hl => (by obtain ⟨b0, rfl⟩ := us1 hl; rfl), F.kp, m⟩
 · obtain ⟨a, bs, n, c, rfl, _⟩ := h
   rfl
 obtain ⟨a, bs, n, c, rfl, T, hn, q⟩ := h
 refine ⟨_, (@a0f _ _ _ _ _ (a1h 1 a3a.nd (pv 0))
  (@a0f _ _ _ _ _ (a5n PassesOwn.never rfl (a3t (by rfl) B.range (a0u (a1f (a1g (K := K) rfl) (by rfl) B.len (by decide +kernel) (a0a (pv 0) a0b)) a0b)) (a9k 2 a3a.nd) (a0h (a1h 1 a3a.nd (a0q b8r hr (a0a (pv 1) (a0a (pv 2) a0b))))))
  (a0h (a0l (pv 1))))), ?_⟩
 refine a0c fun U hU => ?_
 refine ⟨_, rfl, ?_⟩
 show U _ _
 subst hU
 have hL : (bs.map V.ref).length = 2 * n := by rw [List.length_map, T.lenN]
 refine a0c fun U hU => ?_
 refine ⟨_, rfl, a, _, rfl, .inl (SqL.of T.at_), ((bs.map V.ref).length : Int), rfl, by omega, by omega, b1u (lo := 0) (n := ((bs.map V.ref).length : Int).toNat) (fun i σ H' => ∃ v p bs', σ = [some (.ref a), some (.ref p), v] /\ a1i H H' /\ a2e H' p bs' (Oct.toT (2 * n) (Oct.a4v c (Oct.c2q i)))) ⟨none, a, bs, rfl, a1i.refl _, T⟩ ?_ ?_⟩
 · rintro i σ H' hi ⟨v, p, bs', rfl, sm, T'⟩
   have hi' : i < 2 * n := by omega
   refine ⟨_, rfl, _, rfl, p, bs', 2 * n, Oct.a4v c (Oct.c2q i), i, by simp, T', by omega, hi', Oct.a3k hi', fun p2 bs2 H2 sm2 N2 => ?_⟩
   refine ⟨_, p2, bs2, rfl, sm.trans sm2, ?_⟩
   rw [d7a, c2i]
   exact N2.tab
 · rintro σ H' ⟨v, p, bs', rfl, sm, T'⟩
   show U _ _
   subst hU
   have e : ((bs.map V.ref).length : Int).toNat = 2 * n := by omega
   rw [e] at T'
   exact ⟨_, rfl, q p bs' H' sm T'⟩
theorem b6s {f : Addr} {fd : FuncData} (F : Fun K "linked_through" "linked_through" a4u f fd) (m : mg "linked_through" = some (.ref f)) (B : Bl mg) (c7j : Def P w K mg base CX0 "linked_row" 2 ["row", "ahead", "onward"] (b0c K)) (a1e : Def P w K mg base CX0 "flipped" 1 ["f"] (a2r K)) : Def P w K mg base CX0 "linked_through" 3 ["table", "m"] (a9t K) := by
 refine ⟨f, fd, F.ok a9s (fun vs H Q E h => ?_) (fun cdv A outer s H vs Q E hr h => ?_), F.binds (ps := ["table", "m"]) fun _ _ _ _ _ _ us hl => (by obtain ⟨b0, b1, rfl⟩ := us2 hl; rfl), F.kp, m⟩
 · obtain ⟨a, bs, N, c, m1, rfl, _⟩ := h
   rfl
 obtain ⟨a, bs, N, c, m1, rfl, T, hN, hm, hfm, q⟩ := h
 refine ⟨_, (a0h (a0l (a5w (a1c.of a9s.nd (by rfl)) rfl (a2k (K := K) rfl (pv 0)) (fun _ _ _ => a7x) (fun _ _ _ => (a0q c7j hr (a0a (pv 0) (a0e (a1b (K := K) (pv 0) (a0q a1e hr (a0a (pv 2) a0b))) (a0e (a1b (K := K) (pv 1) (pv 2)) a0b)))))))), ?_⟩
 refine ⟨_, rfl, a, rfl, ⟨_, SqL.of T.at_⟩, fun p hp => a3v (K := K) (a := a) (xs := bs.map V.ref) (fun i ys H' => b8j H H' p ys (Oct.c2z i N (Oct.lnk c (Oct.fl m1)))) (b8j.start hp) (fun i ys H' _ G => G.same.seq (SqL.of T.at_)) ?_ ?_⟩
 · rintro i x ys H' hx G
   have T' := T.same G.same
   obtain ⟨hi, b, rfl, eb, hb⟩ := T'.rowN hx
   obtain ⟨d, ed, hd, ad⟩ := T'.rd hm
   simp only [d4s, ↓reduceIte]
   refine ⟨_, rfl, _, rfl, _, rfl, (m1 : Int), rfl, b, _, _, _, rfl, rfl, SqL.of hb, by rw [a2w]; exact a4p hfm, _, rfl, _, rfl, a, _, _, _, rfl, rfl, SqL.of T'.at_, ad, b, c i (Oct.fl m1), d, N, c i, c m1, rfl, SqL.of hb, SqL.of hd, hN, fun l H2 hl sm el => ?_⟩
   have e1 : (fun g => Oct.a3z (c i g) (Oct.a0t (c i (Oct.fl m1)) (c m1 g))) = Oct.lnk c (Oct.fl m1) i := by
    funext g; unfold Oct.lnk; rw [Oct.a5b]
   rw [e1] at el
   have st := G.step hl sm el
   have hlt : i < (bs.map V.ref).length := (List.getElem?_eq_some_iff.mp hx).1
   refine ⟨st.1, by rw [G.len, Oct.a4k]; exact a0y (by omega), a2j hlt ?_⟩
   rw [Oct.a6d]
   exact st.2
 · rintro ys H' ⟨bs', rfl, T', sm⟩
   rw [List.length_map, T.lenN] at T'
   exact q p bs' H' sm T'
theorem c4z {f : Addr} {fd : FuncData} (F : Fun K "linked_row" "linked_row" a9f f fd) (m : mg "linked_row" = some (.ref f)) (B : Bl mg) (b3a : Def P w K mg base CX0 "lesser" 1 ["one", "other"] (b5y K)) (a2z : Def P w K mg base CX0 "summed" 1 ["one", "other"] (a9u K)) : Def P w K mg base CX0 "linked_row" 2 ["row", "ahead", "onward"] (b0c K) := by
 refine ⟨f, fd, F.ok b4v (fun vs H Q E h => ?_) (fun cdv A outer s H vs Q E hr h => ?_), F.binds (ps := ["row", "ahead", "onward"]) fun _ _ _ _ _ _ us hl => (by obtain ⟨b0, b1, b2, rfl⟩ := us3 hl; rfl), F.kp, m⟩
 · obtain ⟨a, e, b, N, r, o, rfl, _⟩ := h
   rfl
 obtain ⟨a, e, b, N, r, o, rfl, hA, hB, hN, q⟩ := h
 refine ⟨_, (a0h (a0l (b1x (K := K) rfl (a1o.of (M := ["row", "ahead", "onward"]) b4v.nd (by rfl)) rfl (c3a (K := K) rfl (by rfl) B.zip (a0a (pv 0) (a0a (pv 2) a0b))) (fun _ _ _ => (a0q b3a hr (a0a (pv 0) (a0u (a0q a2z hr (a0a (pv 3) (a0a (pv 1) a0b))) a0b))))))), ?_⟩
 refine ⟨_, rfl, _, rfl, a, b, rfl, ⟨_, hA⟩, ⟨_, hB⟩, fun p hp => b5p (K := K) (a := a) (b := b) (xs := (Oct.ln N r).map eV) (zs := (Oct.ln N o).map eV) (by rw [a2y, a2y]) (fun i ys H' => ys = (Oct.ln i fun g => Oct.a3z (r g) (Oct.a0t e (o g))).map eV /\ H' p = some (.lst ys) /\ a1i H H') ⟨rfl, a0g, a0i hp _⟩ (fun i ys H' _ ⟨_, _, sm⟩ => ⟨sm.seq hA, sm.seq hB⟩) ?_ ?_⟩
 · rintro i x z ys H' H1 hx hz ⟨rfl, hp', sm⟩ sm1
   obtain ⟨hi, rfl⟩ := b2i hx
   obtain ⟨_, rfl⟩ := b2i hz
   refine ⟨_, rfl, _, rfl, _, rfl, e, o i, rfl, r i, Oct.a0t e (o i), rfl, sm1 _ _ hp', by rw [a2y]; exact a0y (by omega), ?_⟩
   rw [a2y]
   exact a2j hi ⟨b2w i (fun g => Oct.a3z (r g) (Oct.a0t e (o g))), a0g, a0z hp (sm.trans sm1)⟩
 · rintro ys H' ⟨rfl, hp', sm⟩
   rw [a2y] at hp'
   exact q p H' hp sm hp'
theorem c4h {f : Addr} {fd : FuncData} (F : Fun K "some_point" "some_point" a8m f fd) (m : mg "some_point" = some (.ref f)) (B : Bl mg) (b1z : Def P w K mg base CX0 "some_worth" 2 ["shape", "f"] (b0n K)) (b9p : Def P w K mg base CX0 "fixed" 7 ["shape", "f", "number"] (b8u K)) : Def P w K mg base CX0 "some_point" 8 ["shape"] (b0t K) := by
 refine ⟨f, fd, F.ok a4l (fun vs H Q E h => ?_) (fun cdv A outer s H vs Q E hr h => ?_), F.binds (ps := ["shape"]) fun _ _ _ _ _ _ us hl => (by obtain ⟨b0, rfl⟩ := us1 hl; rfl), F.kp, m⟩
 · obtain ⟨v, n, o, rfl, _⟩ := h
   rfl
 obtain ⟨v, n, o, rfl, hV, hSh, hn, q0, q⟩ := h
 refine ⟨_, (@a0f _ _ _ _ _ (a1d (a0m a3c (pv 0) a0w (a0s _)) (a0h (a0l a0w)) a0o)
  (@a0f _ _ _ _ _ (a1h 1 a4l.nd (pv 0))
  (@a0f _ _ _ _ _ (a1h 2 a4l.nd (a2n a0b))
  (@a0f _ _ _ _ _ (a5n PassesOwn.never rfl (a3t (by rfl) B.range (a0x (a0p a1t (a1f (a1g (K := K) rfl) (by rfl) B.len (by decide +kernel) (a0a (pv 0) a0b)) a0d) a0b)) (a9k 3 a4l.nd) (@a0f _ _ _ _ _ (a1h 4 a4l.nd (a0q b1z hr (a0a (pv 1) (a0x (a0p a1w a0d (pv 3)) a0b))))
  (@a0f _ _ _ _ _ (a1h 1 a4l.nd (a0q b9p hr (a0a (pv 1) (a0x (a0p a1w a0d (pv 3)) (a0a (pv 4) a0b)))))
  (a0h (b4e (c7u PySem.F.plainAttrs_list PySem.F.slot_list_append PySem.F.type_list_append a4t (pv 2) (a0a (pv 4) a0b)))))))
  (a0h (a0l (a9v (b3p (K := K) rfl) (by rfl) B.tuple (by decide +kernel) (a0a (pv 2) a0b)))))))), ?_⟩
 refine a0c fun U hU => ?_
 cases o with
 | none =>
  cases hV
  refine ⟨_, rfl, rfl, _, rfl, ?_⟩
  refine a3h ?_
  exact q0 rfl _ (a1i.refl H)
 | some c =>
  obtain ⟨a, bs, rfl, T⟩ := hV
  refine ⟨_, rfl, rfl, _, rfl, ?_⟩
  refine a2c ?_
  show U _ _
  subst hU
  refine a0c fun U hU => ?_
  refine ⟨_, rfl, ?_⟩
  show U _ _
  subst hU
  refine a0c fun U hU => ?_
  refine ⟨sz 0, fun p hp => ?_⟩
  show U _ _
  subst hU
  have s0 := a0i hp (.lst [])
  have hL : (bs.map V.ref).length = 2 * n := by rw [List.length_map, T.lenN]
  refine a0c fun U hU => ?_
  refine ⟨_, rfl, a, _, rfl, .inl (s0.seq (SqL.of T.at_)), _, _, rfl, rfl, ⟨by decide, by decide⟩, (((bs.map V.ref).length : Int) / 2), rfl, by omega, by omega, b1u (lo := 0) (n := (((bs.map V.ref).length : Int) / 2).toNat) (fun k σ H' => ∃ (x y : Option V) (la : Addr) (lbs : List Addr) (lc : Tb) (a1j : List Int), σ = [some (.ref a), some (.ref la), some (.ref p), x, y] /\ a1i H H' /\ H' p = some (.lst (a1j.map V.int)) /\ a1j.length = k /\ a2e H' la lbs (Oct.toT (2 * n) lc) /\ Oct.Shp lc (2 * n) /\ Oct.Le lc c (2 * n) /\ ∀ j, j < k -> Oct.leE (lc (2 * j) (2 * j)) (some (2 * a1j.getD j 0)) /\ Oct.leE (lc (2 * j + 1) (2 * j + 1)) (some (-2 * a1j.getD j 0)))
   ⟨none, none, a, bs, c, [], rfl, s0, a0g, rfl, T.same s0, hSh, Oct.Le.refl _ _, fun j hj => absurd hj (Nat.not_lt_zero j)⟩ ?_ ?_⟩
  · rintro k σ H1 hk ⟨x, y, la, lbs, lc, a1j, rfl, sm1, hp1, ln1, T1, S1, L1, hj1⟩
    have hk' : k < n := by omega
    have h2k : 2 * k < 2 * n := by omega
    rw [Int.zero_add]
    refine a0c fun U hU => ?_
    refine ⟨_, rfl, _, rfl, _, _, rfl, rfl, .inl ⟨by decide, by decide⟩, la, lbs, n, lc, 2 * k, by simp, T1, h2k, ?_⟩
    show U _ _
    subst hU
    obtain ⟨z1, z2⟩ := Oct.c6p S1 h2k
    obtain ⟨s, es, Ss, Ls, l1, l2⟩ := Oct.c5e S1 h2k z1 z2
    generalize Oct.b6g lc (2 * k) = z at *
    refine a0c fun U hU => ?_
    refine ⟨_, rfl, _, rfl, _, _, rfl, rfl, .inl ⟨by decide, by decide⟩, _, rfl, .ref la, n, some lc, 2 * k, z, by simp, ⟨la, lbs, rfl, T1⟩, b2l S1, h2k, hn, fun u H2 sm2 N2 => ?_⟩
    have es' : a8a (2 * n) (some lc) (Oct.b6m (2 * k) z) = some s := es
    rw [es'] at N2
    obtain ⟨lb, lbs2, rfl, N2⟩ := N2
    show U _ _
    subst hU
    refine ⟨_, rfl, .inl ⟨rfl, _, SqL.of (sm2 _ _ hp1)⟩, _, rfl, p, _, _, rfl, rfl, sm2 _ _ hp1, by rw [List.length_map, ln1]; exact a0y (by omega), ?_⟩
    have np : p ≠ lb /\ p ∉ lbs2 := N2.off hp1
    refine ⟨_, _, lb, lbs2, s, a1j ++ [z], rfl, a0z hp (sm1.trans sm2), by rw [a0g]; simp, by simp [ln1], N2.tab.other np.1 np.2, Ss, Ls.trans L1, fun j hj => ?_⟩
    by_cases hjk : j = k
    · subst hjk
      rw [show (a1j ++ [z]).getD j 0 = z by rw [List.getD_eq_getElem?_getD, List.getElem?_append_right (by omega), ln1]; simp]
      have e1 : Oct.fl (2 * j) = 2 * j + 1 := by unfold Oct.fl; rw [if_pos (by omega)]
      rw [e1] at l2
      exact ⟨l1, l2⟩
    · rw [show (a1j ++ [z]).getD j 0 = a1j.getD j 0 by rw [List.getD_eq_getElem?_getD, List.getD_eq_getElem?_getD, List.getElem?_append_left (by omega)]]
      obtain ⟨b1, b2⟩ := hj1 j (by omega)
      exact ⟨Oct.a0j (Ls _ _ (by omega) (by omega)) b1, Oct.a0j (Ls _ _ (by omega) (by omega)) b2⟩
  · rintro σ H1 ⟨x, y, la, lbs, lc, a1j, rfl, sm1, hp1, ln1, T1, S1, L1, hj1⟩
    show U _ _
    subst hU
    have en : (((bs.map V.ref).length : Int) / 2).toNat = n := by omega
    rw [en] at ln1 hj1
    refine ⟨_, rfl, p, _, rfl, .inl ⟨SqL.of hp1, fun l hl => ?_⟩⟩
    have li : Oct.a6u (wN a1j) lc (2 * n) := Oct.c1y S1 (b4f a1j _) fun k hk => by rw [c5c]; exact hj1 k hk
    exact q c rfl a1j l _ ln1 (li.trans L1) (sm1.trans (a0i hl _)) (sm1.free hl) a0g
theorem c2w {f : Addr} {fd : FuncData} (F : Fun K "some_worth" "some_worth" a8c f fd) (m : mg "some_worth" = some (.ref f)) (B : Bl mg) (a6r : Def P w K mg base CX0 "half" 1 ["entry"] (b6u K)) (a1e : Def P w K mg base CX0 "flipped" 1 ["f"] (a2r K)) : Def P w K mg base CX0 "some_worth" 2 ["shape", "f"] (b0n K) := by
 refine ⟨f, fd, F.ok b0v (fun vs H Q E h => ?_) (fun cdv A outer s H vs Q E hr h => ?_), F.binds (ps := ["shape", "f"]) fun _ _ _ _ _ _ us hl => (by obtain ⟨b0, b1, rfl⟩ := us2 hl; rfl), F.kp, m⟩
 · obtain ⟨a, bs, n, c, f1, rfl, _⟩ := h
   rfl
 obtain ⟨a, bs, n, c, f1, rfl, T, hf, q⟩ := h
 refine ⟨_, (@a0f _ _ _ _ _ (a1h 2 b0v.nd (a0q a6r hr (a0e (a1b (K := K) (a1b (K := K) (pv 0) (pv 1)) (pv 1)) a0b)))
  (@a0f _ _ _ _ _ (a1d (a0m a3l (pv 2) a0w (a0s _)) (a0h (a0l (pv 2))) a0o)
  (@a0f _ _ _ _ _ (a1h 3 b0v.nd (a0q a6r hr (a0e (a1b (K := K) (a1b (K := K) (pv 0) (a0q a1e hr (a0a (pv 1) a0b))) (a0q a1e hr (a0a (pv 1) a0b))) a0b)))
  (@a0f _ _ _ _ _ (a1d (a0m a3l (pv 3) a0w (a0s _)) (a0h (a0l (c2y b5t (pv 3)))) a0o)
  (a0h (a0l a0d)))))), ?_⟩
 obtain ⟨d, ed, hd, ad⟩ := T.rd hf
 have hff : Oct.fl f1 < 2 * n := Oct.a3k hf
 obtain ⟨d2, ed2, hd2, ad2⟩ := T.rd hff
 have sq := SqL.of (K := K) T.at_
 refine a0c fun U hU => ?_
 refine ⟨_, rfl, _, rfl, a, _, _, _, rfl, rfl, sq, ad, _, rfl, d, _, _, _, rfl, rfl, SqL.of hd, a4p hf, c f1 f1, rfl, ?_⟩
 show U _ _
 subst hU
 refine a0c fun U hU => ?_
 refine ⟨_, rfl, rfl, _, rfl, ?_⟩
 unfold Oct.b6g Oct.hv at q
 cases e1 : Oct.hlf (c f1 f1) with
 | some m =>
  rw [e1] at q
  refine a3h ?_
  exact ⟨_, rfl, q⟩
 | none =>
  rw [e1] at q
  refine a2c ?_
  show U _ _
  subst hU
  refine a0c fun U hU => ?_
  refine ⟨_, rfl, _, rfl, (f1 : Int), rfl, a, _, _, _, rfl, rfl, sq, by rw [a2w]; exact ad2, _, rfl, (f1 : Int), rfl, d2, _, _, _, rfl, rfl, SqL.of hd2, by rw [a2w]; exact a4p hff, c (Oct.fl f1) (Oct.fl f1), rfl, ?_⟩
  show U _ _
  subst hU
  refine a0c fun U hU => ?_
  refine ⟨_, rfl, rfl, _, rfl, ?_⟩
  cases e2 : Oct.hlf (c (Oct.fl f1) (Oct.fl f1)) with
  | some m =>
   rw [e2] at q
   refine a3h ?_
   exact ⟨_, rfl, _, rfl, q⟩
  | none =>
   rw [e2] at q
   refine a2c ?_
   show U _ _
   subst hU
   exact q
theorem e0e {f : Addr} {fd : FuncData} (F : Fun K "fixed" "fixed" c5g f fd) (m : mg "fixed" = some (.ref f)) (B : Bl mg) (a2l : Def P w K mg base CX0 "held_by_all" 6 ["shape", "sides"] (a3w K)) (a1e : Def P w K mg base CX0 "flipped" 1 ["f"] (a2r K)) : Def P w K mg base CX0 "fixed" 7 ["shape", "f", "number"] (b8u K) := by
 refine ⟨f, fd, F.ok e1b (fun vs H Q E h => ?_) (fun cdv A outer s H vs Q E hr h => ?_), F.binds (ps := ["shape", "f", "number"]) fun _ _ _ _ _ _ us hl => (by obtain ⟨b0, b1, b2, rfl⟩ := us3 hl; rfl), F.kp, m⟩
 · obtain ⟨v, n, o, f1, z, rfl, _⟩ := h
   rfl
 obtain ⟨v, n, o, f1, z, rfl, hV, hD, hf, hn, q⟩ := h
 refine ⟨_, (a0h (a0l (a0q a2l hr (a0a (pv 0) (a4d (a2n (b0m (a2x (a0a (pv 1) (a0a (pv 1) (a0x (a0p a1w a0d (pv 2)) a0b)))) (b0m (a2x (a0u (a0q a1e hr (a0a (pv 1) a0b)) (a0u (a0q a1e hr (a0a (pv 1) a0b)) (a0x (a0p a1w (c2y b5t a0d) (pv 2)) a0b)))) a0b))) a0b))))), ?_⟩
 refine ⟨_, rfl, _, rfl, _, rfl, _, rfl, _, _, rfl, rfl, .inl ⟨by decide, by decide⟩, sz 3, fun t1 ht1 => ?_⟩
 have s1 := a0i ht1 (.tup [.int f1, .int f1, .int (2 * z)])
 refine ⟨_, rfl, (f1 : Int), rfl, _, rfl, (f1 : Int), rfl, _, rfl, _, rfl, _, _, rfl, rfl, .inl ⟨by decide, by decide⟩, sz 3, fun t2 ht2 => ?_⟩
 have s2 := a0i ht2 (.tup [.int (a7g f1), .int (a7g f1), .int (-2 * z)])
 refine ⟨sz 2, fun l hl => ?_⟩
 have s3 := a0i hl (.lst [.ref t1, .ref t2])
 have s := (s1.trans s2).trans s3
 refine ⟨v, l, n, o, [.ref t1, .ref t2], Oct.b6m f1 z, rfl, hV.same s, hD, SqL.of a0g, .cons ⟨t1, rfl, s3 _ _ (s2 _ _ a0g)⟩ (.cons ⟨t2, rfl, s3 _ _ (by rw [a0g, a2w]; rfl)⟩ .nil), e1y hf, hn, fun u H' sm N' => q u H' (s.trans sm) (N'.of s)⟩
theorem d0y {f : Addr} {fd : FuncData} (F : Fun K "greatest" "greatest" b2v f fd) (m : mg "greatest" = some (.ref f)) (B : Bl mg) (b3z : Def P w K mg base CX0 "greatest_of_three" 2 ["shape", "f", "g", "h"] (a6s K)) (a6r : Def P w K mg base CX0 "half" 1 ["entry"] (b6u K)) : Def P w K mg base CX0 "greatest" 3 ["shape", "forms"] (b4b K) := by
 refine ⟨f, fd, F.ok c9g (fun vs H Q E h => ?_) (fun cdv A outer s H vs Q E hr h => ?_), F.binds (ps := ["shape", "forms"]) fun _ _ _ _ _ _ us hl => (by obtain ⟨b0, b1, rfl⟩ := us2 hl; rfl), F.kp, m⟩
 · obtain ⟨a, b, bs, n, c, fs, rfl, _⟩ := h
   rfl
 obtain ⟨a, b, bs, n, c, fs, rfl, T, hB, hin, h3, q0⟩ := h
 refine ⟨_, (@a0f _ _ _ _ _ (a1d (a0m a3n (a1f (a1g (K := K) rfl) (by rfl) B.len (by decide +kernel) (a0a (pv 1) a0b)) a0d (a0s _)) (a0h (a0l a0d)) a0o)
  (@a0f _ _ _ _ _ (a1d (a0m a3n (a1f (a1g (K := K) rfl) (by rfl) B.len (by decide +kernel) (a0a (pv 1) a0b)) a0d (a0s _)) (a0h (a0l (a0q a6r hr (a0e (a1b (K := K) (a1b (K := K) (pv 0) (a1b (K := K) (pv 1) a0d)) (a1b (K := K) (pv 1) a0d)) a0b)))) a0o)
  (@a0f _ _ _ _ _ (a1d (a0m a3n (a1f (a1g (K := K) rfl) (by rfl) B.len (by decide +kernel) (a0a (pv 1) a0b)) a0d (a0s _)) (a0h (a0l (a1b (K := K) (a1b (K := K) (pv 0) (a1b (K := K) (pv 1) a0d)) (a1b (K := K) (pv 1) a0d)))) a0o)
  (a0h (a0l (a0q b3z hr (a0a (pv 0) (a0e (a1b (K := K) (pv 1) a0d) (a0e (a1b (K := K) (pv 1) a0d) (a0e (a1b (K := K) (pv 1) a0d) a0b)))))))))), ?_⟩
 rcases c4y h3 with h2 | ⟨f1, g1, h1, rfl⟩
 · have q := q0 H (a1i.refl H)
   have sq := SqL.of (K := K) T.at_
   have hl := c8k fs
   refine a0c fun U hU => ?_
   refine ⟨_, rfl, b, _, rfl, .inl hB, rfl, _, rfl, ?_⟩
   rw [hl]
   refine b2x (fun h => ?_) (fun h => ?_)
   · have h0 : fs.length = 0 := by have := V.int.inj (of_decide_eq_true h); omega
     have : fs = [] := List.eq_nil_of_length_eq_zero h0
     subst this
     exact q
   show U _ _
   subst hU
   refine a0c fun U hU => ?_
   refine ⟨_, rfl, b, _, rfl, .inl hB, rfl, _, rfl, ?_⟩
   rw [hl]
   refine b2x (fun h1 => ?_) (fun h1 => ?_)
   · match fs, hin, hB, q, h1 with
     | [f1], hin, hB, q, _ =>
      have hf := hin f1 (by simp)
      obtain ⟨d, ed, hd, ad⟩ := T.rd hf
      exact ⟨_, rfl, _, rfl, b, _, 0, _, rfl, rfl, hB, rfl, a, _, _, _, rfl, rfl, sq, ad, _, rfl, b, _, 0, _, rfl, rfl, hB, rfl, d, _, _, _, rfl, rfl, SqL.of hd, a4p hf, c f1 f1, rfl, q⟩
     | [], _, _, _, h1 => exact absurd h1 (by simp)
     | _ :: _ :: _, _, _, _, h1 => exact absurd h1 (by simp; omega)
   show U _ _
   subst hU
   refine a0c fun U hU => ?_
   refine ⟨_, rfl, b, _, rfl, .inl hB, rfl, _, rfl, ?_⟩
   rw [hl]
   refine b2x (fun h1 => ?_) (fun h3 => ?_)
   · match fs, hin, hB, q, h1 with
     | [f1, f2], hin, hB, q, _ =>
      have hf := hin f1 (by simp)
      have hg := hin f2 (by simp)
      obtain ⟨d, ed, hd, ad⟩ := T.rd hf
      exact ⟨_, rfl, _, rfl, b, _, 0, _, rfl, rfl, hB, rfl, a, _, _, _, rfl, rfl, sq, ad, _, rfl, b, _, 1, _, rfl, rfl, hB, rfl, d, _, _, _, rfl, rfl, SqL.of hd, a4p hg, q⟩
     | [], _, _, _, h1 => exact absurd h1 (by simp)
     | [_], _, _, _, h1 => exact absurd h1 (by simp)
     | _ :: _ :: _ :: _, _, _, _, h1 => exact absurd h1 (by simp; omega)
   · exfalso
     have a0 : fs.length ≠ 0 := fun e => h (by rw [e]; simp)
     have a1 : fs.length ≠ 1 := fun e => h1 (by rw [e]; simp)
     have a2 : fs.length ≠ 2 := fun e => h3 (by rw [e]; simp)
     omega
 · have hf := hin f1 (by simp)
   have hg := hin g1 (by simp)
   have hh := hin h1 (by simp)
   have q : ∀ H', a1i H H' -> Q (eV (Oct.gr3 c f1 g1 h1)) H' := q0
   refine a0c fun U hU => ?_
   refine ⟨_, rfl, b, _, rfl, .inl hB, rfl, _, rfl, ?_⟩
   refine a2c ?_
   show U _ _
   subst hU
   refine a0c fun U hU => ?_
   refine ⟨_, rfl, b, _, rfl, .inl hB, rfl, _, rfl, ?_⟩
   refine a2c ?_
   show U _ _
   subst hU
   refine a0c fun U hU => ?_
   refine ⟨_, rfl, b, _, rfl, .inl hB, rfl, _, rfl, ?_⟩
   refine a2c ?_
   show U _ _
   subst hU
   exact ⟨_, rfl, _, rfl, b, _, 0, _, rfl, rfl, hB, rfl, _, rfl, b, _, 1, _, rfl, rfl, hB, rfl, _, rfl, b, _, 2, _, rfl, rfl, hB, rfl, a, bs, n, c, f1, g1, h1, rfl, T, hf, hg, hh, q⟩
theorem b3m {f : Addr} {fd : FuncData} (F : Fun K "greatest_of_three" "greatest_of_three" a3q f fd) (m : mg "greatest_of_three" = some (.ref f)) (B : Bl mg) (a2z : Def P w K mg base CX0 "summed" 1 ["one", "other"] (a9u K)) (d0t : Def P w K mg base CX0 "least" 1 ["entries"] (c2x K)) (a6r : Def P w K mg base CX0 "half" 1 ["entry"] (b6u K)) : Def P w K mg base CX0 "greatest_of_three" 2 ["shape", "f", "g", "h"] (a6s K) := by
 refine ⟨f, fd, F.ok a6q (fun vs H Q E h => ?_) (fun cdv A outer s H vs Q E hr h => ?_), F.binds (ps := ["shape", "f", "g", "h"]) fun _ _ _ _ _ _ us hl => (by obtain ⟨b0, b1, b2, b3, rfl⟩ := us4 hl; rfl), F.kp, m⟩
 · obtain ⟨a, bs, n, c, f1, g1, h1, rfl, _⟩ := h
   rfl
 obtain ⟨a, bs, n, c, f1, g1, h1, rfl, T, hf, hg, hh, q⟩ := h
 refine ⟨_, (@a0f _ _ _ _ _ (a1h 4 a6q.nd (a0q a2z hr (a0u (a0q a2z hr (a0e (a1b (K := K) (a1b (K := K) (pv 0) (pv 1)) (pv 2)) (a0e (a1b (K := K) (a1b (K := K) (pv 0) (pv 2)) (pv 3)) a0b))) (a0e (a1b (K := K) (a1b (K := K) (pv 0) (pv 1)) (pv 3)) a0b))))
  (a0h (a0l (a0q d0t hr (a4d (a2n (a0u (a0q a2z hr (a0e (a1b (K := K) (a1b (K := K) (pv 0) (pv 1)) (pv 2)) (a0u (a0q a6r hr (a0e (a1b (K := K) (a1b (K := K) (pv 0) (pv 3)) (pv 3)) a0b)) a0b))) (a0u (a0q a2z hr (a0e (a1b (K := K) (a1b (K := K) (pv 0) (pv 1)) (pv 3)) (a0u (a0q a6r hr (a0e (a1b (K := K) (a1b (K := K) (pv 0) (pv 2)) (pv 2)) a0b)) a0b))) (a0u (a0q a2z hr (a0e (a1b (K := K) (a1b (K := K) (pv 0) (pv 2)) (pv 3)) (a0u (a0q a6r hr (a0e (a1b (K := K) (a1b (K := K) (pv 0) (pv 1)) (pv 1)) a0b)) a0b))) (a0u (a0q a6r hr (a0a (pv 4) a0b)) a0b))))) a0b))))), ?_⟩
 have sq := SqL.of (K := K) T.at_
 obtain ⟨df, edf, hdf, adf⟩ := T.rd hf
 obtain ⟨dg, edg, hdg, adg⟩ := T.rd hg
 obtain ⟨dh, edh, hdh, adh⟩ := T.rd hh
 refine a0c fun U hU => ?_
 refine ⟨_, rfl, _, rfl, a, _, _, _, rfl, rfl, sq, adf, _, rfl, df, _, _, _, rfl, rfl, SqL.of hdf, a4p hg, _, rfl, _, rfl, a, _, _, _, rfl, rfl, sq, adg, _, rfl, dg, _, _, _, rfl, rfl, SqL.of hdg, a4p hh, c f1 g1, c g1 h1, rfl, _, rfl, _, rfl, a, _, _, _, rfl, rfl, sq, adf, _, rfl, df, _, _, _, rfl, rfl, SqL.of hdf, a4p hh, Oct.a0t (c f1 g1) (c g1 h1), c f1 h1, rfl, ?_⟩
 show U _ _
 subst hU
 refine ⟨_, rfl, _, rfl, a, _, _, _, rfl, rfl, sq, adf, _, rfl, df, _, _, _, rfl, rfl, SqL.of hdf, a4p hg, _, rfl, _, rfl, a, _, _, _, rfl, rfl, sq, adh, _, rfl, dh, _, _, _, rfl, rfl, SqL.of hdh, a4p hh, c h1 h1, rfl, c f1 g1, Oct.hv c h1, rfl, _, rfl, _, rfl, a, _, _, _, rfl, rfl, sq, adf, _, rfl, df, _, _, _, rfl, rfl, SqL.of hdf, a4p hh, _, rfl, _, rfl, a, _, _, _, rfl, rfl, sq, adg, _, rfl, dg, _, _, _, rfl, rfl, SqL.of hdg, a4p hg, c g1 g1, rfl, c f1 h1, Oct.hv c g1, rfl, _, rfl, _, rfl, a, _, _, _, rfl, rfl, sq, adg, _, rfl, dg, _, _, _, rfl, rfl, SqL.of hdg, a4p hh, _, rfl, _, rfl, a, _, _, _, rfl, rfl, sq, adf, _, rfl, df, _, _, _, rfl, rfl, SqL.of hdf, a4p hf, c f1 f1, rfl, c g1 h1, Oct.hv c f1, rfl, _, rfl, Oct.a0t (Oct.a0t (c f1 g1) (c g1 h1)) (c f1 h1), rfl, sz 4, fun l hl => ?_⟩
 refine ⟨l, [Oct.a0t (c f1 g1) (Oct.hv c h1), Oct.a0t (c f1 h1) (Oct.hv c g1), Oct.a0t (c g1 h1) (Oct.hv c f1), Oct.hlf (Oct.a0t (Oct.a0t (c f1 g1) (c g1 h1)) (c f1 h1))], rfl, SqL.of a0g, by simp, fun H' sm => ?_⟩
 exact q H' ((a0i hl _).trans sm)
theorem d0p {f : Addr} {fd : FuncData} (F : Fun K "reaching" "reaching" b2y f fd) (m : mg "reaching" = some (.ref f)) (B : Bl mg) (c0t : Def P w K mg base CX0 "without_flips" 2 ["forms"] (b1e K)) (b1r : Def P w K mg base CX0 "reaching_with_three" 10 ["shape", "forms", "number"] (a5m K)) (d1d : Def P w K mg base CX0 "below" 1 ["entry", "number"] (c3d K)) (b2h : Def P w K mg base CX0 "some_point" 8 ["shape"] (b0t K)) (a2v : Def P w K mg base CX0 "reaching_with_two" 9 ["shape", "f", "g", "number"] (a4o K)) (b7d : Def P w K mg base CX0 "greatest" 3 ["shape", "forms"] (b4b K)) : Def P w K mg base CX0 "reaching" 11 ["shape", "forms", "number"] (a7t K) := by
 refine ⟨f, fd, F.ok c0p (fun vs H Q E h => ?_) (fun cdv A outer s H vs Q E hr h => ?_), F.binds (ps := ["shape", "forms", "number"]) fun _ _ _ _ _ _ us hl => (by obtain ⟨b0, b1, b2, rfl⟩ := us3 hl; rfl), F.kp, m⟩
 · obtain ⟨v, b, n, o, fs, m1, rfl, _⟩ := h
   rfl
 obtain ⟨v, b, n, o, fs, m1, rfl, hV, hSh, hB, hin, h3, hn, q0, q1, q2⟩ := h
 refine ⟨_, (@a0f _ _ _ _ _ (a1d (b8k (a0m a3c (pv 0) a0w (a0s _)) (b2j (a7r (a0q d1d hr (a0u (a0q b7d hr (a0a (pv 0) (a0a (pv 1) a0b))) (a0a (pv 2) a0b)))))).pt (a0h (a0l a0w)) a0o)
  (@a0f _ _ _ _ _ (a1h 3 c0p.nd (a0q c0t hr (a0a (pv 1) a0b)))
  (@a0f _ _ _ _ _ (a1d (a0m a3n (a1f (a1g (K := K) rfl) (by rfl) B.len (by decide +kernel) (a0a (pv 3) a0b)) a0d (a0s _)) (a0h (a0l (a0q b2h hr (a0a (pv 0) a0b)))) a0o)
  (@a0f _ _ _ _ _ (a1d (a0m a3n (a1f (a1g (K := K) rfl) (by rfl) B.len (by decide +kernel) (a0a (pv 3) a0b)) a0d (a0s _)) (a0h (a0l (a0q a2v hr (a0a (pv 0) (a0e (a1b (K := K) (pv 3) a0d) (a0e (a1b (K := K) (pv 3) a0d) (a0x (a0p a1w a0d (pv 2)) a0b))))))) a0o)
  (@a0f _ _ _ _ _ (a1d (a0m a3n (a1f (a1g (K := K) rfl) (by rfl) B.len (by decide +kernel) (a0a (pv 3) a0b)) a0d (a0s _)) (a0h (a0l (a0q a2v hr (a0a (pv 0) (a0e (a1b (K := K) (pv 3) a0d) (a0e (a1b (K := K) (pv 3) a0d) (a0a (pv 2) a0b))))))) a0o)
  (a0h (a0l (a0q b1r hr (a0a (pv 0) (a0a (pv 3) (a0a (pv 2) a0b))))))))))), ?_⟩
 rcases c4y h3 with h2 | ⟨f1, g1, h1, rfl⟩
 · refine a0c fun U hU => ?_
   cases o with
   | none =>
    cases hV
    refine ⟨_, rfl, rfl, _, rfl, ?_⟩
    refine a3h ?_
    refine a3h ?_
    exact q0 rfl _ (a1i.refl H)
   | some c =>
    obtain ⟨a, bs, rfl, T⟩ := hV
    have S : Oct.Shp c (2 * n) := hSh
    refine ⟨_, rfl, rfl, _, rfl, ?_⟩
    refine a2c ?_
    refine ⟨_, rfl, _, rfl, a, b, bs, n, c, fs, rfl, T, hB, hin, by omega, fun H0 sm0 => ?_⟩
    refine ⟨_, rfl, gr4 c fs, m1, rfl, _, rfl, ?_⟩
    cases hb : a6k (gr4 c fs) m1 with
    | true =>
     refine a3h ?_
     exact q1 c rfl hb _ sm0
    | false =>
     refine a2c ?_
     show U _ _
     subst hU
     have q := q2 c rfl hb
     have hle := d2g hb
     refine a0c fun U hU => ?_
     refine ⟨_, rfl, b, fI fs, rfl, sm0.seq hB, by simp [fI]; omega, fun p H1 sm1' hp ep => ?_⟩
     have sm1 := sm0.trans sm1'
     show U _ _
     subst hU
     have T1 := T.same sm1
     have zero : ∀ (hw : b8i (fI fs) = []), (∀ w : Nat -> Int, Oct.Pt w (2 * n) -> m1 <= a5d w fs) -> ∃ v, some (some (V.ref p)) = some (some v) /\ ∃ p1 ys, [v] = [V.ref p1] /\ (SqL K H1 p1 ys \/ SqT K H1 p1 ys) /\ ys.length = 0 := fun hw _ => ⟨_, rfl, p, _, rfl, .inl (SqL.of ep), by rw [hw]; rfl⟩
     have done0 : b8i (fI fs) = [] -> (∀ w : Nat -> Int, Oct.Pt w (2 * n) -> m1 <= a5d w fs) -> ∃ (v1 : V) (n1 : Nat) (o1 : Option Tb), [V.ref a] = [v1] /\ a1x H1 v1 (2 * n1) o1 /\ b6n (2 * n1) o1 /\ n1 <= 100 /\ (o1 = none -> ∀ H', a1i H1 H' -> Q .non H') /\ (∀ c, o1 = some c -> ∀ (a1j : List Int) p H', a1j.length = n1 -> Oct.a6u (wN a1j) c (2 * n1) -> a1i H1 H' -> H1 p = none -> H' p = some (.tup (a1j.map V.int)) -> Q (.ref p) H') := fun _ hw =>
      ⟨.ref a, n, some c, rfl, ⟨a, bs, rfl, T1⟩, S, hn, fun e => (by cases e), fun c' e a1j p2 H' ln li sm hp2 ep2 => (by cases e; exact q a1j p2 H' ln li (hw _ (b4f a1j _)) (sm1.trans sm) (sm1.free hp2) ep2)⟩
     refine a0c fun U hU => ?_
     refine ⟨_, rfl, p, _, rfl, .inl (SqL.of ep), rfl, _, rfl, ?_⟩
     match fs, hin, h2, hle, ep, q, done0 with
     | [], hin, h2, hle, ep, q, done0 =>
      refine a3h ?_
      exact ⟨_, rfl, done0 rfl fun w _ => hle⟩
     | [f1], hin, h2, hle, ep, q, _ =>
      rw [e4r] at ep ⊢
      refine a2c ?_
      show U _ _
      subst hU
      refine a0c fun U hU => ?_
      refine ⟨_, rfl, p, _, rfl, .inl (SqL.of ep), rfl, _, rfl, ?_⟩
      refine a3h ?_
      have hf := hin f1 (by simp)
      refine ⟨_, rfl, _, rfl, p, _, 0, _, rfl, rfl, SqL.of ep, rfl, _, rfl, p, _, 0, _, rfl, rfl, SqL.of ep, rfl, _, rfl, _, _, rfl, rfl, .inl ⟨by decide, by decide⟩, a, bs, n, c, f1, f1, 2 * m1, rfl, T1, S, hf, hf, Ne.symm (Oct.d7n f1), ?_, hn, fun a1j p2 H' ln li hk sm hp2 ep2 => ?_⟩
      · have ev := S.good.tight.even f1 hf
        have hle' : Oct.leE (some m1) (Oct.hlf (c f1 f1)) := hle
        revert hle' ev
        generalize c f1 f1 = x
        cases x <;> simp [Oct.leE, Oct.hlf] <;> omega
      · exact q a1j p2 H' ln li (by simp [a5d]; omega) (sm1.trans sm) (sm1.free hp2) ep2
     | [f1, f2], hin, h2, hle, ep, q, done0 =>
      have hf := hin f1 (by simp)
      have hg := hin f2 (by simp)
      rw [d6r] at ep ⊢
      by_cases hfl : f1 = Oct.fl f2
      · rw [if_pos hfl] at ep ⊢
        refine a3h ?_
        refine ⟨_, rfl, done0 (by rw [d6r, if_pos hfl]) fun w pw => ?_⟩
        have z := S.zero' (fun f hf => Oct.a3k hf) hg
        rw [← hfl] at z
        have hle' : Oct.leE (some m1) (c f1 f2) := hle
        rw [z] at hle'
        have p2 := pw f2 hg
        rw [← hfl] at p2
        have : m1 <= 0 := hle'
        simp [a5d]
        omega
      · rw [if_neg hfl] at ep ⊢
        refine a2c ?_
        show U _ _
        subst hU
        refine a0c fun U hU => ?_
        refine ⟨_, rfl, p, _, rfl, .inl (SqL.of ep), rfl, _, rfl, ?_⟩
        refine a2c ?_
        show U _ _
        subst hU
        refine a0c fun U hU => ?_
        refine ⟨_, rfl, p, _, rfl, .inl (SqL.of ep), rfl, _, rfl, ?_⟩
        refine a3h ?_
        refine ⟨_, rfl, _, rfl, p, _, 0, _, rfl, rfl, SqL.of ep, rfl, _, rfl, p, _, 1, _, rfl, rfl, SqL.of ep, rfl, _, rfl, a, bs, n, c, f1, f2, m1, rfl, T1, S, hf, hg, fun e => hfl (by rw [e, Oct.a5b]), hle, hn, fun a1j p2 H' ln li hk sm hp2 ep2 => ?_⟩
        exact q a1j p2 H' ln li (by simp [a5d]; omega) (sm1.trans sm) (sm1.free hp2) ep2
     | _ :: _ :: _ :: _, _, h2, _, _, _, _ => exact absurd h2 (by simp)
 · have hf := hin f1 (by simp)
   have hg := hin g1 (by simp)
   have hh := hin h1 (by simp)
   have q2 : ∀ c, o = some c -> a6k (Oct.gr3 c f1 g1 h1) m1 = false -> ∀ (a1j : List Int) p H', a1j.length = n -> Oct.a6u (wN a1j) c (2 * n) -> m1 <= wN a1j f1 + wN a1j g1 + wN a1j h1 -> a1i H H' -> H p = none -> H' p = some (.tup (a1j.map V.int)) -> Q (.ref p) H' := fun c e hb a1j p H' ln li ht => q2 c e hb a1j p H' ln li (by rw [e8p]; exact ht)
   refine a0c fun U hU => ?_
   cases o with
   | none =>
    cases hV
    refine ⟨_, rfl, rfl, _, rfl, ?_⟩
    refine a3h ?_
    refine a3h ?_
    exact q0 rfl _ (a1i.refl H)
   | some c =>
    obtain ⟨a, bs, rfl, T⟩ := hV
    have S : Oct.Shp c (2 * n) := hSh
    refine ⟨_, rfl, rfl, _, rfl, ?_⟩
    refine a2c ?_
    refine ⟨_, rfl, _, rfl, a, b, bs, n, c, [f1, g1, h1], rfl, T, hB, hin, Nat.le_refl _, fun H0 sm0 => ?_⟩
    refine ⟨_, rfl, Oct.gr3 c f1 g1 h1, m1, rfl, _, rfl, ?_⟩
    cases hb : a6k (Oct.gr3 c f1 g1 h1) m1 with
    | true =>
     refine a3h ?_
     exact q1 c rfl hb _ sm0
    | false =>
     refine a2c ?_
     show U _ _
     subst hU
     have q := q2 c rfl hb
     have hle := d2g hb
     obtain ⟨b1, b2, b3, b4⟩ := Oct.c2m hle
     have even : ∀ f, f < 2 * n -> Oct.fl f < 2 * n := fun f hf => Oct.a3k hf
     refine a0c fun U hU => ?_
     refine ⟨_, rfl, b, fI [f1, g1, h1], rfl, sm0.seq hB, by simp [fI], fun p H1 sm1 hp ep => ?_⟩
     show U _ _
     subst hU
     have s1 := sm0.trans sm1
     have T1 := T.same s1
     rw [d6i] at ep
     have one : ∀ x : Nat, x < 2 * n -> Oct.leE (some m1) (Oct.hv c x) -> (∀ w : Nat -> Int, Oct.Pt w (2 * n) -> w x = w f1 + w g1 + w h1) -> ∀ U : St -> Hp -> Prop, (∃ (a1 : Addr) (bs1 : List Addr) (n1 : Nat) (c1 : Tb) (f g : Nat) (m : Int), [V.ref a, V.int (x : Int), V.int (x : Int), V.int (2 * m1)] = [.ref a1, .int f, .int g, .int m] /\ a2e H1 a1 bs1 (Oct.toT (2 * n1) c1) /\ Oct.Shp c1 (2 * n1) /\ f < 2 * n1 /\ g < 2 * n1 /\ g ≠ Oct.fl f /\ Oct.leE (some m) (c1 f g) /\ n1 <= 100 /\ ∀ (a1j : List Int) p H', a1j.length = n1 -> Oct.a6u (wN a1j) c1 (2 * n1) -> m <= wN a1j f + wN a1j g -> a1i H1 H' -> H1 p = none -> H' p = some (.tup (a1j.map V.int)) -> Q (.ref p) H') := fun x hx hle tot _ =>
      ⟨a, bs, n, c, x, x, 2 * m1, rfl, T1, S, hx, hx, Ne.symm (Oct.d7n x), (by
       have ev := S.good.tight.even x hx
       unfold Oct.hv at hle
       revert hle ev
       generalize c x x = y
       cases y <;> simp [Oct.leE, Oct.hlf] <;> omega), hn, fun a1j p2 H' ln li hk sm hp2 ep2 => q a1j p2 H' ln li (by have := tot _ (b4f a1j (2 * n)); omega) (s1.trans sm) (s1.free hp2) ep2⟩
     by_cases c1 : f1 = Oct.fl g1
     · rw [if_pos c1] at ep
       have z : c f1 g1 = some 0 := by rw [c1]; exact S.zero' even hg
       have hl1 : Oct.leE (some m1) (Oct.hv c h1) := by rw [z] at b1; revert b1; generalize Oct.hv c h1 = y; cases y <;> simp [Oct.leE, Oct.a0t]
       have ONE := one h1 hh hl1 (fun w pw => by have := pw g1 hg; rw [← c1] at this; omega) (fun _ _ => True)
       refine a0c fun U hU => ?_
       refine ⟨_, rfl, p, _, rfl, .inl (SqL.of ep), rfl, _, rfl, ?_⟩
       refine a2c ?_
       show U _ _
       subst hU
       refine a0c fun U hU => ?_
       refine ⟨_, rfl, p, _, rfl, .inl (SqL.of ep), rfl, _, rfl, ?_⟩
       refine a3h ?_
       exact ⟨_, rfl, _, rfl, p, _, 0, _, rfl, rfl, SqL.of ep, rfl, _, rfl, p, _, 0, _, rfl, rfl, SqL.of ep, rfl, _, rfl, _, _, rfl, rfl, .inl ⟨by decide, by decide⟩, ONE⟩
     · rw [if_neg c1] at ep
       by_cases c2 : f1 = Oct.fl h1
       · rw [if_pos c2] at ep
         have z : c f1 h1 = some 0 := by rw [c2]; exact S.zero' even hh
         have hl1 : Oct.leE (some m1) (Oct.hv c g1) := by rw [z] at b2; revert b2; generalize Oct.hv c g1 = y; cases y <;> simp [Oct.leE, Oct.a0t]
         have ONE := one g1 hg hl1 (fun w pw => by have := pw h1 hh; rw [← c2] at this; omega) (fun _ _ => True)
         refine a0c fun U hU => ?_
         refine ⟨_, rfl, p, _, rfl, .inl (SqL.of ep), rfl, _, rfl, ?_⟩
         refine a2c ?_
         show U _ _
         subst hU
         refine a0c fun U hU => ?_
         refine ⟨_, rfl, p, _, rfl, .inl (SqL.of ep), rfl, _, rfl, ?_⟩
         refine a3h ?_
         exact ⟨_, rfl, _, rfl, p, _, 0, _, rfl, rfl, SqL.of ep, rfl, _, rfl, p, _, 0, _, rfl, rfl, SqL.of ep, rfl, _, rfl, _, _, rfl, rfl, .inl ⟨by decide, by decide⟩, ONE⟩
       · rw [if_neg c2] at ep
         by_cases c3 : g1 = Oct.fl h1
         · rw [if_pos c3] at ep
           have z : c g1 h1 = some 0 := by rw [c3]; exact S.zero' even hh
           have hl1 : Oct.leE (some m1) (Oct.hv c f1) := by rw [z] at b3; revert b3; generalize Oct.hv c f1 = y; cases y <;> simp [Oct.leE, Oct.a0t]
           have ONE := one f1 hf hl1 (fun w pw => by have := pw h1 hh; rw [← c3] at this; omega) (fun _ _ => True)
           refine a0c fun U hU => ?_
           refine ⟨_, rfl, p, _, rfl, .inl (SqL.of ep), rfl, _, rfl, ?_⟩
           refine a2c ?_
           show U _ _
           subst hU
           refine a0c fun U hU => ?_
           refine ⟨_, rfl, p, _, rfl, .inl (SqL.of ep), rfl, _, rfl, ?_⟩
           refine a3h ?_
           exact ⟨_, rfl, _, rfl, p, _, 0, _, rfl, rfl, SqL.of ep, rfl, _, rfl, p, _, 0, _, rfl, rfl, SqL.of ep, rfl, _, rfl, _, _, rfl, rfl, .inl ⟨by decide, by decide⟩, ONE⟩
         · rw [if_neg c3] at ep
           refine a0c fun U hU => ?_
           refine ⟨_, rfl, p, _, rfl, .inl (SqL.of ep), rfl, _, rfl, ?_⟩
           refine a2c ?_
           show U _ _
           subst hU
           refine a0c fun U hU => ?_
           refine ⟨_, rfl, p, _, rfl, .inl (SqL.of ep), rfl, _, rfl, ?_⟩
           refine a2c ?_
           show U _ _
           subst hU
           refine a0c fun U hU => ?_
           refine ⟨_, rfl, p, _, rfl, .inl (SqL.of ep), rfl, _, rfl, ?_⟩
           refine a2c ?_
           show U _ _
           subst hU
           refine ⟨_, rfl, _, rfl, _, rfl, a, p, bs, n, c, f1, g1, h1, m1, rfl, T1, S, SqL.of ep, hf, hg, hh, c1, c2, c3, hle, hn, fun a1j p2 H' ln li hk sm hp2 ep2 => ?_⟩
           exact q a1j p2 H' ln li hk (s1.trans sm) (s1.free hp2) ep2
theorem b8q {f : Addr} {fd : FuncData} (F : Fun K "without_flips" "without_flips" a5i f fd) (m : mg "without_flips" = some (.ref f)) (B : Bl mg) (a1e : Def P w K mg base CX0 "flipped" 1 ["f"] (a2r K)) : Def P w K mg base CX0 "without_flips" 2 ["forms"] (b1e K) := by
 refine ⟨f, fd, F.ok a6n (fun vs H Q E h => ?_) (fun cdv A outer s H vs Q E hr h => ?_), F.binds (ps := ["forms"]) fun _ _ _ _ _ _ us hl => (by obtain ⟨b0, rfl⟩ := us1 hl; rfl), F.kp, m⟩
 · obtain ⟨b, ns, rfl, _⟩ := h
   rfl
 obtain ⟨b, ns, rfl, hB, hz, q⟩ := h
 refine ⟨_, (@a0f _ _ _ _ _ (a1h 1 a6n.nd (a2n a0b))
  (@a0f _ _ _ _ _ (a5n PassesOwn.never rfl (a2k (K := K) rfl (pv 0)) (a9k 2 a6n.nd) (a0h (a1d (a0m (e3q (K := K) rfl) (a0q a1e hr (a0a (pv 2) a0b)) (pv 1) (by rfl)) (a0h (b4e (c7u PySem.F.plainAttrs_list PySem.F.slot_list_remove PySem.F.type_list_remove d5b (pv 1) (a0u (a0q a1e hr (a0a (pv 2) a0b)) a0b)))) (a0h (b4e (c7u PySem.F.plainAttrs_list PySem.F.slot_list_append PySem.F.type_list_append a4t (pv 1) (a0a (pv 2) a0b)))))))
  (a0h (a0l (pv 1))))), ?_⟩
 refine a0c fun U hU => ?_
 refine ⟨sz 0, fun p hp => ?_⟩
 show U _ _
 subst hU
 refine a0c fun U hU => ?_
 refine ⟨_, rfl, b, rfl, ⟨_, (a0i hp _).seq hB⟩, a7i (K := K) (a := b) (xs := ns.map V.int) (fun i σ H' => ∃ x, σ = [some (.ref b), some (.ref p), x] /\ a1i H H' /\ H' p = some (.lst ((b8i (ns.take i)).map V.int))) ⟨none, rfl, a0i hp _, a0g⟩ (fun i σ H' _ ⟨_, _, sm, _⟩ => sm.seq hB) ?_ ?_⟩
 · rintro i v σ H' hv ⟨x, rfl, sm, hp'⟩
   obtain ⟨hi, rfl⟩ := c7h hv
   have ei : ns[i]? = some ns[i] := List.getElem?_eq_getElem hi
   have es := a2g ei
   have ew : b8i (ns.take (i + 1)) = d3n (b8i (ns.take i)) ns[i] := by rw [es, c6e]
   have lw := d9o ns i
   generalize ns[i] = f1 at *
   refine ⟨_, rfl, f1, rfl, _, rfl, p, b8i (ns.take i), a7g f1, rfl, rfl, SqL.of hp', _, rfl, ?_⟩
   unfold d3n at ew
   refine b2x (fun h => ?_) (fun h => ?_)
   · rw [if_pos h] at ew
     have hm : a7g f1 ∈ b8i (ns.take i) := by
      obtain ⟨y, hy, e⟩ := List.any_eq_true.mp h
      have : y = a7g f1 := by simpa using e
      rw [← this]; exact hy
     refine ⟨_, rfl, .inl ⟨rfl, _, SqL.of hp'⟩, _, rfl, f1, rfl, p, b8i (ns.take i), a7g f1, rfl, rfl, hp', hm, ?_⟩
     exact ⟨_, rfl, a0z hp sm, by rw [a0g, ew]⟩
   · rw [if_neg h] at ew
     refine ⟨_, rfl, .inl ⟨rfl, _, SqL.of hp'⟩, _, rfl, p, _, _, rfl, rfl, hp', by rw [List.length_map]; exact a0y (by omega), ?_⟩
     exact ⟨_, rfl, a0z hp sm, by rw [a0g, ew]; simp⟩
 · rintro σ H' ⟨x, rfl, sm, hp'⟩
   show U _ _
   subst hU
   rw [List.length_map, List.take_length] at hp'
   exact ⟨_, rfl, q p H' sm hp hp'⟩
theorem b3l {f : Addr} {fd : FuncData} (F : Fun K "reaching_with_two" "reaching_with_two" a3r f fd) (m : mg "reaching_with_two" = some (.ref f)) (B : Bl mg) (b2h : Def P w K mg base CX0 "some_point" 8 ["shape"] (b0t K)) (e6s : Def P w K mg base CX0 "held" 7 ["shape", "side"] (d7u K)) (a1e : Def P w K mg base CX0 "flipped" 1 ["f"] (a2r K)) : Def P w K mg base CX0 "reaching_with_two" 9 ["shape", "f", "g", "number"] (a4o K) := by
 refine ⟨f, fd, F.ok b3g (fun vs H Q E h => ?_) (fun cdv A outer s H vs Q E hr h => ?_), F.binds (ps := ["shape", "f", "g", "number"]) fun _ _ _ _ _ _ us hl => (by obtain ⟨b0, b1, b2, b3, rfl⟩ := us4 hl; rfl), F.kp, m⟩
 · obtain ⟨a, bs, n, c, f1, g1, m1, rfl, _⟩ := h
   rfl
 obtain ⟨a, bs, n, c, f1, g1, m1, rfl, T, S, hf, hg, ne, hm, hn, q⟩ := h
 refine ⟨_, (a0h (a0l (a0q b2h hr (a0u (a0q e6s hr (a0a (pv 0) (b0m (a2x (a0u (a0q a1e hr (a0a (pv 1) a0b)) (a0u (a0q a1e hr (a0a (pv 2) a0b)) (b2t (c2y b5t (pv 3)) a0b)))) a0b))) a0b)))), ?_⟩
 obtain ⟨s1, es, Ss, Ls, lk⟩ := Oct.d1i S hf hg ne hm
 refine ⟨_, rfl, _, rfl, (f1 : Int), rfl, _, rfl, (g1 : Int), rfl, _, rfl, _, rfl, sz 3, fun t ht => ?_⟩
 rw [a2w, a2w]
 have st := a0i ht (.tup [.int ((Oct.fl f1 : Nat) : Int), .int ((Oct.fl g1 : Nat) : Int), .int (-m1)])
 refine ⟨.ref a, .ref t, n, some c, (Oct.fl f1, Oct.fl g1, -m1), rfl, ⟨a, bs, rfl, T.same st⟩, b2l S, ⟨t, rfl, a0g⟩, Oct.a3k hf, Oct.a3k hg, hn, fun u H2 sm2 N2 => ?_⟩
 have e2 : a8a (2 * n) (some c) [(Oct.fl f1, Oct.fl g1, -m1)] = some s1 := es
 rw [e2] at N2
 have A2 := N2.at
 refine ⟨u, n, some s1, rfl, A2, Ss, hn, fun e => (by cases e), fun c' e a1j p H' ln li sm hp ep => ?_⟩
 cases e
 have k1 := Oct.a0j (li _ _ (Oct.a3k hf) (Oct.a3k hg)) lk
 have p1 := b4f a1j (2 * n) f1 hf
 have p2 := b4f a1j (2 * n) g1 hg
 have k2 : wN a1j (Oct.fl f1) + wN a1j (Oct.fl g1) <= -m1 := k1
 exact q a1j p H' ln (li.trans Ls) (by omega) ((st.trans sm2).trans sm) ((st.trans sm2).free hp) ep
theorem b1h {f : Addr} {fd : FuncData} (F : Fun K "reaching_with_three" "reaching_with_three" a3e f fd) (m : mg "reaching_with_three" = some (.ref f)) (B : Bl mg) (c1o : Def P w K mg base CX0 "worth_to_fix" 2 ["shape", "f", "g", "h", "number"] (b1m K)) (a2v : Def P w K mg base CX0 "reaching_with_two" 9 ["shape", "f", "g", "number"] (a4o K)) (b9p : Def P w K mg base CX0 "fixed" 7 ["shape", "f", "number"] (b8u K)) (a2f : Def P w K mg base CX0 "least_factor" 1 ["times", "entry", "number"] (a5k K)) : Def P w K mg base CX0 "reaching_with_three" 10 ["shape", "forms", "number"] (a5m K) := by
 refine ⟨f, fd, F.ok a1m (fun vs H Q E h => ?_) (fun cdv A outer s H vs Q E hr h => ?_), F.binds (ps := ["shape", "forms", "number"]) fun _ _ _ _ _ _ us hl => (by obtain ⟨b0, b1, b2, rfl⟩ := us3 hl; rfl), F.kp, m⟩
 · obtain ⟨a, b, bs, n, c, f1, g1, h1, m1, rfl, _⟩ := h
   rfl
 obtain ⟨a, b, bs, n, c, f1, g1, h1, m1, rfl, T, S, hB, hf, hg, hh, nfg, nfh, ngh, hm, hn, q⟩ := h
 refine ⟨_, (@a0f _ _ _ _ _ (b9l (i := 3) (a1c.of a1m.nd (by rfl)) rfl (a2k (K := K) rfl (pv 1)) (fun _ _ _ => b2a (a0m a3n (e8i (K := K) rfl (c7u PySem.F.plainAttrs_list PySem.F.slot_list_count PySem.F.type_list_count (e0k (K := K) rfl) (pv 2) (a0a (pv 0) a0b))) a0d (a0s _))) (fun _ _ _ => (pv 0)) a1m.nd rfl (by first | exact Or.inl rfl | exact Or.inr rfl) rfl)
  (@a0f _ _ _ _ _ (a1d (a0m a3n (a1f (a1g (K := K) rfl) (by rfl) B.len (by decide +kernel) (a0a (pv 3) a0b)) a0d (a0s _)) (a0h (a0l (a0q a2v hr (a0a (pv 0) (a0e (a1b (K := K) (pv 1) a0d) (a0e (a1b (K := K) (pv 1) a0d) (a0x (a0p a1w a0d (a0q a2f hr (a0n a0d (a0n a0d (a0a (pv 2) a0b))))) a0b))))))) a0o)
  (@a0f _ _ _ _ _ (a1h 4 a1m.nd (a1b (K := K) (pv 3) a0d))
  (@a0f _ _ _ _ _ (b9l (i := 5) (a1c.of a1m.nd (by rfl)) rfl (a2k (K := K) rfl (pv 1)) (fun _ _ _ => b2a (a0m d1a (pv 0) (pv 5) (a0s _))) (fun _ _ _ => (pv 0)) a1m.nd rfl (by first | exact Or.inl rfl | exact Or.inr rfl) rfl)
  (@a0f _ _ _ _ _ (a1h 6 a1m.nd (a0q c1o hr (a0a (pv 0) (a0e (a1b (K := K) (pv 5) a0d) (a0e (a1b (K := K) (pv 5) a0d) (a0a (pv 4) (a0a (pv 2) a0b)))))))
  (a0h (a0l (a0q a2v hr (a0u (a0q b9p hr (a0a (pv 0) (a0a (pv 4) (a0a (pv 6) a0b)))) (a0e (a1b (K := K) (pv 5) a0d) (a0e (a1b (K := K) (pv 5) a0d) (a0x (a0p b1b (pv 2) (pv 6)) a0b)))))))))))), ?_⟩
 have fl_ne2 : ∀ x y : Nat, x ≠ Oct.fl y -> y ≠ Oct.fl x := fun x y h e => h (by rw [e, Oct.a5b])
 obtain ⟨ga, gb⟩ := d0m S.good.tight.sym hf hg hh hm
 obtain ⟨gc, gd⟩ := d0m S.good.tight.sym hg hh hf ga
 refine a0c fun U hU => ?_
 generalize ens : fI [f1, g1, h1] = ns at *
 have lns : ns.length = 3 := by rw [← ens]; rfl
 have hBn : SqL K H b (ns.map V.int) := by rw [← ens]; exact hB
 refine ⟨_, rfl, b, rfl, ⟨_, hB⟩, fun p hp => a3v (K := K) (a := b) (xs := ns.map V.int) (fun i ys H' => ys = ((ns.take i).filter fun x => decide (V.int (ns.count x : Nat) = V.int 1)).map V.int /\ H' p = some (.lst ys) /\ a1i H H') ⟨rfl, a0g, a0i hp _⟩ (fun i ys H' _ ⟨_, _, sm⟩ => sm.seq hBn) ?_ ?_⟩
 · rintro i x ys H' hx ⟨rfl, hp', sm⟩
   obtain ⟨hi, rfl⟩ := c7h hx
   have ei : ns[i]? = some ns[i] := List.getElem?_eq_getElem hi
   have fs := c5z (p := fun x => decide (V.int (ns.count x : Nat) = V.int 1)) ei
   have hi' : i < (ns.map V.int).length := by rw [List.length_map]; exact hi
   have ll : ((ns.take i).filter fun x => decide (V.int (ns.count x : Nat) = V.int 1)).length <= i := Nat.le_trans (List.length_filter_le _ _) (by rw [List.length_take]; omega)
   generalize ns[i] = y at *
   refine ⟨_, rfl, .inl ⟨rfl, _, sm.seq hB⟩, _, rfl, b, ns, y, rfl, rfl, sm.seq hBn, rfl, _, rfl, ?_⟩
   refine b2x (fun h => ?_) (fun h => ?_)
   · rw [if_pos h] at fs
     exact ⟨_, rfl, hp', by rw [List.length_map]; exact a0y (by omega), a2j hi' ⟨by rw [fs]; simp, a0g, a0z hp sm⟩⟩
   · rw [if_neg h] at fs
     exact a2j hi' ⟨by rw [fs]; simp, hp', sm⟩
 · rintro ys H1 ⟨rfl, hp1, sm1⟩
   rw [List.length_map, List.take_length] at hp1
   show U _ _
   subst hU
   have T1 := T.same sm1
   have hB1 := sm1.seq hB
   have hB1n := sm1.seq hBn
   have sq1 := SqL.of (K := K) hp1
   by_cases c0 : ns.filter (fun x => decide (V.int (ns.count x : Nat) = V.int 1)) = []
   · rw [c0] at sq1
     have alike : f1 = g1 /\ f1 = h1 := by
      rw [← ens] at c0
      simp only [fI, List.map_cons, List.map_nil, List.filter_cons, List.count_cons, List.count_nil] at c0
      by_cases x1 : f1 = g1
      · subst x1
        by_cases x2 : f1 = h1
        · exact ⟨rfl, x2⟩
        · have i2 : ¬ ((f1 : Int) = (h1 : Int)) := by omega
          have i3 : ¬ ((h1 : Int) = (f1 : Int)) := by omega
          simp [i2, i3] at c0
      · have i1 : ¬ ((f1 : Int) = (g1 : Int)) := by omega
        have i1' : ¬ ((g1 : Int) = (f1 : Int)) := by omega
        by_cases x2 : f1 = h1
        · subst x2
          simp [i1, i1'] at c0
        · have i2 : ¬ ((f1 : Int) = (h1 : Int)) := by omega
          have i2' : ¬ ((h1 : Int) = (f1 : Int)) := by omega
          simp [i1, i1', i2, i2'] at c0
     obtain ⟨rfl, rfl⟩ := alike
     refine a0c fun U hU => ?_
     refine ⟨_, rfl, p, _, rfl, .inl sq1, rfl, _, rfl, ?_⟩
     refine a3h ?_
     have at0 : atI (fV [f1, f1, f1]) 0 = some (.int (f1 : Int)) := rfl
     obtain ⟨a1, _, _, _⟩ := Oct.c2m hm
     refine ⟨_, rfl, _, rfl, b, _, 0, _, rfl, rfl, hB1, at0, _, rfl, b, _, 0, _, rfl, rfl, hB1, at0, _, rfl, 3, some 0, m1, rfl, by decide, by decide, 2, -((0 - m1) / 3), rfl, rfl, .inl ⟨by decide, by decide⟩, a, bs, n, c, f1, f1, 2 * -((0 - m1) / 3), rfl, T1, S, hf, hf, nfg, ?_, hn, fun a1j p2 H' ln li hk sm hp2 ep2 => ?_⟩
     · have ev := S.good.tight.even f1 hf
       unfold Oct.hv at a1
       revert a1 ev
       generalize c f1 f1 = x
       cases x <;> simp [Oct.leE, Oct.a0t, Oct.hlf] <;> omega
     · exact q a1j p2 H' ln li (by omega) (sm1.trans sm) (sm1.free hp2) ep2
   · have pickd : ∃ (x y1 y2 : Nat) (lst : List Int), ns.filter (fun x => decide (V.int (ns.count x : Nat) = V.int 1)) = (x : Int) :: lst /\ ns.filter (fun y => !decide (V.int y = V.int (x : Int))) = [(y1 : Int), (y2 : Int)] /\ x < 2 * n /\ y1 < 2 * n /\ y2 < 2 * n /\ y2 ≠ Oct.fl y1 /\ Oct.leE (some m1) (Oct.gr3 c y1 y2 x) /\ (∀ w : Nat -> Int, w f1 + w g1 + w h1 = w y1 + w y2 + w x) := by
      rw [← ens] at c0 ⊢
      simp only [fI, List.map_cons, List.map_nil, List.filter_cons, List.filter_nil, List.count_cons, List.count_nil] at c0 ⊢
      by_cases x1 : f1 = g1
      · subst x1
        by_cases x2 : f1 = h1
        · subst x2; simp_all
        · have i2 : ¬ ((f1 : Int) = (h1 : Int)) := by omega
          have i3 : ¬ ((h1 : Int) = (f1 : Int)) := by omega
          exact ⟨h1, f1, f1, [], by simp [i2, i3], by simp [i2, i3], hh, hf, hf, nfg, hm, fun w => rfl⟩
      · have i1 : ¬ ((f1 : Int) = (g1 : Int)) := by omega
        have i1' : ¬ ((g1 : Int) = (f1 : Int)) := by omega
        by_cases x2 : f1 = h1
        · subst x2
          exact ⟨g1, f1, f1, [], by simp [i1, i1'], by simp [i1, i1'], hg, hf, hf, nfh, gb, fun w => by omega⟩
        · have i2 : ¬ ((f1 : Int) = (h1 : Int)) := by omega
          have i2' : ¬ ((h1 : Int) = (f1 : Int)) := by omega
          refine ⟨f1, g1, h1, _, by simp [i1, i1', i2, i2']; rfl, by simp [i1, i1', i2, i2'], hf, hg, hh, fl_ne2 _ _ ngh, ga, fun w => by omega⟩
     obtain ⟨x, y1, y2, lst, ex, ey, hx, hy1, hy2, ny, hgr, tot⟩ := pickd
     rw [ex] at sq1
     obtain ⟨n1, n2, n3, n4⟩ := Oct.c2m hgr
     have Z := Oct.e2q S hy1 hy2 hx n1 n2 n3 n4
     obtain ⟨s1, es, Ss, Ls, l1, l2, l3⟩ := Oct.g0h S hy1 hy2 hx n2 n3 Z
     refine a0c fun U hU => ?_
     refine ⟨_, rfl, p, _, rfl, .inl sq1, rfl, _, rfl, ?_⟩
     refine a2c ?_
     show U _ _
     subst hU
     refine a0c fun U hU => ?_
     refine ⟨_, rfl, p, _, 0, _, rfl, rfl, sq1, e7i (j := 0) rfl, ?_⟩
     show U _ _
     subst hU
     refine a0c fun U hU => ?_
     refine ⟨_, rfl, b, rfl, ⟨_, hB1n⟩, fun o ho => a3v (K := K) (a := b) (xs := ns.map V.int) (fun i ys H' => ys = ((ns.take i).filter fun y => !decide (V.int y = V.int (x : Int))).map V.int /\ H' o = some (.lst ys) /\ a1i H1 H') ⟨rfl, a0g, a0i ho _⟩ (fun i ys H' _ ⟨_, _, sm⟩ => sm.seq hB1n) ?_ ?_⟩
     · rintro i xx ys H' hxx ⟨rfl, hp', sm⟩
       obtain ⟨hi, rfl⟩ := c7h hxx
       have ei : ns[i]? = some ns[i] := List.getElem?_eq_getElem hi
       have fs := c5z (p := fun y => !decide (V.int y = V.int (x : Int))) ei
       have hi' : i < (ns.map V.int).length := by rw [List.length_map]; exact hi
       have ll : ((ns.take i).filter fun y => !decide (V.int y = V.int (x : Int))).length <= i := Nat.le_trans (List.length_filter_le _ _) (by rw [List.length_take]; omega)
       generalize ns[i] = y at *
       refine ⟨_, rfl, _, rfl, rfl, _, rfl, ?_⟩
       refine b2x (fun h => ?_) (fun h => ?_)
       · rw [if_pos h] at fs
         exact ⟨_, rfl, hp', by rw [List.length_map]; exact a0y (by omega), a2j hi' ⟨by rw [fs]; simp, a0g, a0z ho sm⟩⟩
       · rw [if_neg h] at fs
         exact a2j hi' ⟨by rw [fs]; simp, hp', sm⟩
     · rintro ys H2 ⟨rfl, ho2, sm2⟩
       rw [List.length_map, List.take_length, ey] at ho2
       show U _ _
       subst hU
       have sqo := SqL.of (K := K) ho2
       have s2 := sm1.trans sm2
       refine a0c fun U hU => ?_
       refine ⟨_, rfl, _, rfl, o, _, 0, _, rfl, rfl, sqo, rfl, _, rfl, o, _, 1, _, rfl, rfl, sqo, rfl, _, rfl, _, rfl, a, bs, n, c, y1, y2, x, m1, rfl, T.same s2, hy1, hy2, hx, fun H3 sm3 => ?_⟩
       show U _ _
       subst hU
       generalize Oct.e7m c y1 y2 x m1 = z at *
       have s3 := s2.trans sm3
       have sqo3 := sm3.seq sqo
       refine ⟨_, rfl, _, rfl, _, rfl, .ref a, n, some c, x, z, rfl, ⟨a, bs, rfl, T.same s3⟩, b2l S, hx, hn, fun u H4 sm4 N4 => ?_⟩
       have es' : a8a (2 * n) (some c) (Oct.b6m x z) = some s1 := es
       rw [es'] at N4
       obtain ⟨t4, bs4, rfl, N4⟩ := N4
       have sqo4 := sm4.seq sqo3
       refine ⟨_, rfl, o, _, 0, _, rfl, rfl, sqo4, rfl, _, rfl, o, _, 1, _, rfl, rfl, sqo4, rfl, _, rfl, _, rfl, _, _, rfl, rfl, t4, bs4, n, s1, y1, y2, m1 - z, rfl, N4.tab, Ss, hy1, hy2, ny, l3, hn, fun a1j p2 H' ln li hk sm hp2 ep2 => ?_⟩
       have wx := Oct.d4g hx (b4f a1j _) li l1 l2
       have := tot (wN a1j)
       exact q a1j p2 H' ln (li.trans Ls) (by omega) ((s3.trans sm4).trans sm) ((s3.trans sm4).free hp2) ep2
theorem c1b {f : Addr} {fd : FuncData} (F : Fun K "worth_to_fix" "worth_to_fix" a5z f fd) (m : mg "worth_to_fix" = some (.ref f)) (B : Bl mg) (d0t : Def P w K mg base CX0 "least" 1 ["entries"] (c2x K)) (a1e : Def P w K mg base CX0 "flipped" 1 ["f"] (a2r K)) (a2f : Def P w K mg base CX0 "least_factor" 1 ["times", "entry", "number"] (a5k K)) (a6r : Def P w K mg base CX0 "half" 1 ["entry"] (b6u K)) (a2z : Def P w K mg base CX0 "summed" 1 ["one", "other"] (a9u K)) : Def P w K mg base CX0 "worth_to_fix" 2 ["shape", "f", "g", "h", "number"] (b1m K) := by
 refine ⟨f, fd, F.ok a4e (fun vs H Q E h => ?_) (fun cdv A outer s H vs Q E hr h => ?_), F.binds (ps := ["shape", "f", "g", "h", "number"]) fun _ _ _ _ _ _ us hl => (by obtain ⟨b0, b1, b2, b3, b4, rfl⟩ := us5 hl; rfl), F.kp, m⟩
 · obtain ⟨a, bs, n, c, f1, g1, h1, m1, rfl, _⟩ := h
   rfl
 obtain ⟨a, bs, n, c, f1, g1, h1, m1, rfl, T, hf, hg, hh, q⟩ := h
 refine ⟨_, (@a0f _ _ _ _ _ (a1h 5 a4e.nd (a0q d0t hr (a4d (a2n (a0u (a0q a6r hr (a0e (a1b (K := K) (a1b (K := K) (pv 0) (pv 3)) (pv 3)) a0b)) (a0u (a0q a2z hr (a0u (a0q a2z hr (a0e (a1b (K := K) (a1b (K := K) (pv 0) (pv 1)) (pv 3)) (a0e (a1b (K := K) (a1b (K := K) (pv 0) (pv 2)) (pv 3)) a0b))) (b2t (c2y b5t (pv 4)) a0b))) a0b))) a0b)))
  (@a0f _ _ _ _ _ (a1d (a0m a3l (pv 5) a0w (a0s _)) (a0h (a0l (pv 5))) a0o)
  (@a0f _ _ _ _ _ (a1h 6 a4e.nd (a0q a1e hr (a0a (pv 3) a0b)))
  (@a0f _ _ _ _ _ (a1h 7 a4e.nd (a2n (a0u (a0q a2f hr (a0n a0d (a0u (a0q a6r hr (a0e (a1b (K := K) (a1b (K := K) (pv 0) (pv 6)) (pv 6)) a0b)) (a0n a0d a0b)))) (a0u (a0q a2f hr (a0n a0d (a0e (a1b (K := K) (a1b (K := K) (pv 0) (pv 1)) (pv 2)) (a0a (pv 4) a0b)))) (a0u (a0q a2f hr (a0n a0d (a0u (a0q a2z hr (a0u (a0q a6r hr (a0e (a1b (K := K) (a1b (K := K) (pv 0) (pv 1)) (pv 1)) a0b)) (a0e (a1b (K := K) (a1b (K := K) (pv 0) (pv 2)) (pv 6)) a0b))) (a0a (pv 4) a0b)))) (a0u (a0q a2f hr (a0n a0d (a0u (a0q a2z hr (a0u (a0q a6r hr (a0e (a1b (K := K) (a1b (K := K) (pv 0) (pv 2)) (pv 2)) a0b)) (a0e (a1b (K := K) (a1b (K := K) (pv 0) (pv 1)) (pv 6)) a0b))) (a0a (pv 4) a0b)))) (a0u (a0q a2f hr (a0n a0d (a0u (a0q a2z hr (a0e (a1b (K := K) (a1b (K := K) (pv 0) (pv 1)) (pv 6)) (a0e (a1b (K := K) (a1b (K := K) (pv 0) (pv 2)) (pv 6)) a0b))) (a0a (pv 4) a0b)))) a0b)))))))
  (a0h (a0l (e2h (K := K) rfl rfl (by rfl) B.max (a2i (a5w (a1c.of a4e.nd (by rfl)) rfl (a2k (K := K) rfl (pv 7)) (fun _ _ _ => b2a (a0m a3l (pv 0) a0w (a0s _))) (fun _ _ _ => (pv 0))) a0b) (d5g a0d e2e)))))))), ?_⟩
 have sq := SqL.of (K := K) T.at_
 have hk := Oct.a3k hh
 obtain ⟨df, edf, hdf, adf⟩ := T.rd hf
 obtain ⟨dg, edg, hdg, adg⟩ := T.rd hg
 obtain ⟨dh, edh, hdh, adh⟩ := T.rd hh
 refine a0c fun U hU => ?_
 refine ⟨_, rfl, _, rfl, a, _, _, _, rfl, rfl, sq, adh, _, rfl, dh, _, _, _, rfl, rfl, SqL.of hdh, a4p hh, c h1 h1, rfl, _, rfl, _, rfl, a, _, _, _, rfl, rfl, sq, adf, _, rfl, df, _, _, _, rfl, rfl, SqL.of hdf, a4p hh, _, rfl, _, rfl, a, _, _, _, rfl, rfl, sq, adg, _, rfl, dg, _, _, _, rfl, rfl, SqL.of hdg, a4p hh, c f1 h1, c g1 h1, rfl, _, rfl, _, rfl, Oct.a0t (c f1 h1) (c g1 h1), some (-m1), rfl, sz 2, fun l hl => ?_⟩
 refine ⟨l, [Oct.hv c h1, Oct.a0t (Oct.a0t (c f1 h1) (c g1 h1)) (some (-m1))], rfl, SqL.of a0g, by simp, fun H1 sm1 => ?_⟩
 have s1 := (a0i hl (.lst [eV (Oct.hv c h1), eV (Oct.a0t (Oct.a0t (c f1 h1) (c g1 h1)) (some (-m1)))])).trans sm1
 show U _ _
 subst hU
 have e1 : Oct.c1f [Oct.hv c h1, Oct.a0t (Oct.a0t (c f1 h1) (c g1 h1)) (some (-m1))] = Oct.e4x c f1 g1 h1 m1 := by
  show Oct.a3z _ (Oct.a3z _ none) = _
  rw [d6x]
  rfl
 rw [e1]
 refine a0c fun U hU => ?_
 refine ⟨_, rfl, rfl, _, rfl, ?_⟩
 have q' := q
 unfold Oct.e7m at q'
 cases ez : Oct.e4x c f1 g1 h1 m1 with
 | some z =>
  rw [ez] at q'
  refine a3h ?_
  exact ⟨_, rfl, q' H1 s1⟩
 | none =>
  rw [ez] at q'
  refine a2c ?_
  show U _ _
  subst hU
  have T := T.same s1
  have sq := SqL.of (K := K) T.at_
  obtain ⟨df, edf, hdf, adf⟩ := T.rd hf
  obtain ⟨dg, edg, hdg, adg⟩ := T.rd hg
  obtain ⟨dk, edk, hdk, adk⟩ := T.rd hk
  refine a0c fun U hU => ?_
  refine ⟨_, rfl, (h1 : Int), rfl, ?_⟩
  show U _ _
  rw [a2w]
  subst hU
  refine a0c fun U hU => ?_
  refine ⟨_, rfl, _, rfl, a, _, _, _, rfl, rfl, sq, adk, _, rfl, dk, _, _, _, rfl, rfl, SqL.of hdk, a4p hk, c (Oct.fl h1) (Oct.fl h1), rfl, 1, Oct.hv c (Oct.fl h1), 0, rfl, by decide, by decide, _, rfl, _, rfl, a, _, _, _, rfl, rfl, sq, adf, _, rfl, df, _, _, _, rfl, rfl, SqL.of hdf, a4p hg, _, rfl, 1, c f1 g1, m1, rfl, by decide, by decide, _, rfl, _, rfl, a, _, _, _, rfl, rfl, sq, adf, _, rfl, df, _, _, _, rfl, rfl, SqL.of hdf, a4p hf, c f1 f1, rfl, _, rfl, _, rfl, a, _, _, _, rfl, rfl, sq, adg, _, rfl, dg, _, _, _, rfl, rfl, SqL.of hdg, a4p hk, Oct.hv c f1, c g1 (Oct.fl h1), rfl, _, rfl, 2, _, m1, rfl, by decide, by decide, _, rfl, _, rfl, a, _, _, _, rfl, rfl, sq, adg, _, rfl, dg, _, _, _, rfl, rfl, SqL.of hdg, a4p hg, c g1 g1, rfl, _, rfl, _, rfl, a, _, _, _, rfl, rfl, sq, adf, _, rfl, df, _, _, _, rfl, rfl, SqL.of hdf, a4p hk, Oct.hv c g1, c f1 (Oct.fl h1), rfl, _, rfl, 2, _, m1, rfl, by decide, by decide, _, rfl, _, rfl, a, _, _, _, rfl, rfl, sq, adf, _, rfl, df, _, _, _, rfl, rfl, SqL.of hdf, a4p hk, _, rfl, _, rfl, a, _, _, _, rfl, rfl, sq, adg, _, rfl, dg, _, _, _, rfl, rfl, SqL.of hdg, a4p hk, c f1 (Oct.fl h1), c g1 (Oct.fl h1), rfl, _, rfl, 3, _, m1, rfl, by decide, by decide, sz 5, fun l2 hl2 => ?_⟩
  show U _ _
  subst hU
  have s2 := a0i hl2 (.lst ((Oct.b3y c f1 g1 h1 m1).map eV))
  have e2 : upd H1 l2 (.lst ((Oct.b3y c f1 g1 h1 m1).map eV)) l2 = some (.lst ((Oct.b3y c f1 g1 h1 m1).map eV)) := a0g
  have lz : (Oct.b3y c f1 g1 h1 m1).length = 5 := rfl
  show e5i _ _ _ (upd H1 l2 (.lst ((Oct.b3y c f1 g1 h1 m1).map eV)))
  rw [b9s] at q'
  generalize Oct.b3y c f1 g1 h1 m1 = es at *
  generalize upd H1 l2 (.lst (es.map eV)) = H2 at *
  refine ⟨_, rfl, l2, rfl, ⟨_, SqL.of e2⟩, fun p hp => a3v (K := K) (a := l2) (xs := es.map eV) (fun i ys H' => ys = (a1j (es.take i)).map V.int /\ H' p = some (.lst ys) /\ a1i H2 H') ⟨rfl, a0g, a0i hp _⟩ (fun i ys H' _ ⟨_, _, sm⟩ => sm.seq (SqL.of e2)) ?_ ?_⟩
  · rintro i x ys H' hx ⟨rfl, hp', sm⟩
    rw [List.getElem?_map] at hx
    cases ei : es[i]? with
    | none => rw [ei] at hx; cases hx
    | some e1 =>
     rw [ei] at hx
     have ex : eV e1 = x := Option.some.inj hx
     subst ex
     have hi0 : i < es.length := (List.getElem?_eq_some_iff.mp ei).1
     have hi : i < (es.map eV).length := by rw [List.length_map]; exact hi0
     have es' := c6q es i e1 ei
     refine ⟨_, rfl, rfl, _, rfl, ?_⟩
     cases e1 with
     | none =>
      refine a2c ?_
      exact a2j hi ⟨by rw [es']; simp, hp', sm⟩
     | some z =>
      refine a3h ?_
      have ll : (a1j (es.take i)).length <= i := Nat.le_trans (List.length_filterMap_le _ _) (by rw [List.length_take]; omega)
      exact ⟨_, rfl, hp', by rw [List.length_map]; exact a0y (by omega), a2j hi ⟨by rw [es']; simp [eV], a0g, a0z hp sm⟩⟩
  · rintro ys H' ⟨rfl, hp', sm⟩
    rw [List.length_map, List.take_length] at hp'
    have q1 := q' H' ((s1.trans s2).trans sm)
    refine ⟨p, a1j es, .int 0, rfl, rfl, SqL.of hp', fun e => ?_, fun b1 r1 e => ?_⟩
    · rw [e] at q1; exact q1
    · rw [e] at q1; exact q1
theorem c0s {f : Addr} {fd : FuncData} (F : Fun K "least_factor" "least_factor" a5x f fd) (m : mg "least_factor" = some (.ref f)) (B : Bl mg)  : Def P w K mg base CX0 "least_factor" 1 ["times", "entry", "number"] (a5k K) := by
 refine ⟨f, fd, F.ok c0j (fun vs H Q E h => ?_) (fun cdv A outer s H vs Q E hr h => ?_), F.binds (ps := ["times", "entry", "number"]) fun _ _ _ _ _ _ us hl => (by obtain ⟨b0, b1, b2, rfl⟩ := us3 hl; rfl), F.kp, m⟩
 · obtain ⟨k, e, m1, rfl, _⟩ := h
   rfl
 obtain ⟨k, e, m1, rfl, h0, h1, q⟩ := h
 refine ⟨_, (@a0f _ _ _ _ _ (a1d (a0m a3c (pv 1) a0w (a0s _)) (a0h (a0l a0w)) a0o)
  (a0h (a0l (c2y b5t (a0p a1t (a0p b1b (pv 1) (pv 2)) (pv 0)))))), ?_⟩
 refine a0c fun U hU => ?_
 refine ⟨_, rfl, rfl, _, rfl, ?_⟩
 cases e with
 | none =>
  refine a3h ?_
  exact q
 | some x =>
  refine a2c ?_
  show U _ _
  subst hU
  exact ⟨_, rfl, _, rfl, x, m1, rfl, rfl, _, rfl, _, _, rfl, rfl, ⟨h0, h1⟩, _, rfl, q⟩
theorem e0t {f : Addr} {fd : FuncData} (F : Fun K "asked" "asked" c3n f fd) (m : mg "asked" = some (.ref f)) (B : Bl mg) (c3y : Def P w K mg base CX0 "closed" 7 ["count", "sides"] (c0l K)) (c6l : Def P w K mg base CX0 "told_sides" 2 ["table"] (b6c K)) (c9f : Def P w K mg base CX0 "end_sides" 1 ["k", "low", "high"] (b8b K)) : Def P w K mg base CX0 "asked" 8 ["shape", "k", "low", "high"] (d2t K) := by
 refine ⟨f, fd, F.ok c4v (fun vs H Q E h => ?_) (fun cdv A outer s H vs Q E hr h => ?_), F.binds (ps := ["shape", "k", "low", "high"]) fun _ _ _ _ _ _ us hl => (by obtain ⟨b0, b1, b2, b3, rfl⟩ := us4 hl; rfl), F.kp, m⟩
 · obtain ⟨v, n, k, lo, hi, o, rfl, _⟩ := h
   rfl
 obtain ⟨v, n, k, lo, hi, o, rfl, hV, hk, hn, q⟩ := h
 refine ⟨_, (@a0f _ _ _ _ _ (a1d (a0m a3c (pv 0) a0w (a0s _)) (a0h (a0l a0w)) a0o)
  (@a0f _ _ _ _ _ (b9l (i := 4) (a1c.of c4v.nd (by rfl)) rfl (a2k (K := K) rfl (a0q c6l hr (a0a (pv 0) a0b))) (fun _ _ _ => b2a (a0m (c4e (K := K) rfl) (pv 2) (a2x (a0x (a0p a1t (a1n (K := K) (pv 0) a0d) a0d) (a0x (a0p a1t (a1n (K := K) (pv 0) a0d) a0d) a0b))) (by rfl))) (fun _ _ _ => (pv 0)) c4v.nd rfl (by first | exact Or.inl rfl | exact Or.inr rfl) rfl)
  (a0h (a0l (a0q c3y hr (a0x (a0p a1t (a1f (a1g (K := K) rfl) (by rfl) B.len (by decide +kernel) (a0a (pv 0) a0b)) a0d) (a0x (a0p e1r (pv 4) (a0q c9f hr (a0a (pv 1) (a0a (pv 2) (a0a (pv 3) a0b))))) a0b))))))), ?_⟩
 refine a0c fun U hU => ?_
 cases o with
 | none =>
  cases hV
  refine ⟨_, rfl, rfl, _, rfl, ?_⟩
  refine a3h ?_
  exact q _ _ (a1i.refl H) rfl
 | some c =>
  obtain ⟨a, bs, rfl, T⟩ := hV
  refine ⟨_, rfl, rfl, _, rfl, ?_⟩
  refine a2c ?_
  show U _ _
  subst hU
  have hL : (bs.map V.ref).length = 2 * n := by rw [List.length_map, T.lenN]
  have small : ∀ {m : Nat}, m <= 1000 -> m <= sizeLine := fun h => Nat.le_of_lt (a0y h)
  have lt := c0f (2 * n) c (2 * n)
  have l144 : 2 * n * (2 * n) <= 12 * 12 := Nat.mul_le_mul (by omega) (by omega)
  refine a0c fun U hU => ?_
  refine ⟨_, rfl, a, bs, 2 * n, c, rfl, T, by omega, fun tl ys H1 sm1 htl etl ptl => ?_⟩
  have ly := a2q ptl
  refine ⟨tl, rfl, ⟨_, SqL.of etl⟩, fun p hp => a3v (K := K) (a := tl) (xs := ys) (fun i zs H' => Paired (a2o H1) zs (((b4y (2 * n) c (2 * n)).take i).filter (e1j k)) /\ H' p = some (.lst zs) /\ a1i H1 H') ⟨.nil, a0g, a0i hp _⟩ (fun i zs H' _ ⟨_, _, sm⟩ => SqL.of (sm _ _ etl)) ?_ ?_⟩
  · rintro i x zs H' hx ⟨hz, hp', sm⟩
    have hlt : i < ys.length := (List.getElem?_eq_some_iff.mp hx).1
    obtain ⟨s1, es, sa, rfl, hsa⟩ := a2s ptl hx
    have ha : SqT K H' sa [.int (s1.1 : Nat), .int (s1.2.1 : Nat), .int s1.2.2] := SqT.of (sm _ _ hsa)
    have fs := d6o (p := e1j k) es
    have lz := a2q hz
    have lz2 : (((b4y (2 * n) c (2 * n)).take i).filter (e1j k)).length <= i := Nat.le_trans (List.length_filter_le _ _) (by rw [List.length_take]; omega)
    refine ⟨_, rfl, _, rfl, sa, _, 0, _, rfl, rfl, ha, rfl, _, _, rfl, rfl, ⟨by decide, by decide⟩, _, rfl, sa, _, 1, _, rfl, rfl, ha, rfl, _, _, rfl, rfl, ⟨by decide, by decide⟩, sz 2, fun t ht => ?_⟩
    have st := a0i ht (.tup [.int ((s1.1 : Nat) / 2 : Int), .int ((s1.2.1 : Nat) / 2 : Int)])
    refine ⟨t, _, rfl, .inr (SqT.of a0g), rfl, rfl, _, rfl, ?_⟩
    refine b2x (fun h => ?_) (fun h => ?_)
    · have h' : e1j k s1 = true := h
      rw [if_pos h'] at fs
      refine ⟨_, rfl, st _ _ hp', by rw [lz]; exact a0y (by omega), a2j hlt ⟨?_, a0g, a0z hp (sm.trans st)⟩⟩
      rw [fs]
      exact a7s hz ⟨sa, rfl, hsa⟩
    · have h' : ¬ e1j k s1 = true := h
      rw [if_neg h', List.append_nil] at fs
      exact a2j hlt ⟨by rw [fs]; exact hz, st _ _ hp', sm.trans st⟩
  · rintro zs H2 ⟨hz, hp2, sm2⟩
    rw [ly, List.take_length] at hz
    show U _ _
    subst hU
    have s12 := sm1.trans sm2
    have T2 := T.same s12
    have lz : zs.length <= 144 := by rw [a2q hz]; exact Nat.le_trans (List.length_filter_le _ _) (by omega)
    refine ⟨_, rfl, a, _, rfl, .inl (SqL.of T2.at_), _, _, rfl, rfl, ⟨by decide, by decide⟩, _, rfl, _, rfl, _, rfl, _, rfl, k, lo, hi, rfl, fun e ye H3 sm3 he ee pe => ?_⟩
    have le := a2q pe
    have le2 := e3c k lo hi
    refine ⟨p, e, _, _, rfl, rfl, sm3 _ _ hp2, ee, small (by omega), fun r hr => ?_⟩
    have sr := a0i hr (.lst (zs ++ ye))
    have s3 := (s12.trans sm3).trans sr
    refine ⟨r, n, zs ++ ye, e0x n k lo hi c, ?_, SqL.of a0g, c2u (a1v ((sm2.trans sm3).trans sr) hz) (a1v sr pe), c8l hk, by omega, fun u H5 sm5 N5 => q u H5 (s3.trans sm5) (N5.of s3)⟩
    show [V.int (((bs.map V.ref).length : Int) / 2), V.ref r] = _
    rw [hL, show (((2 * n : Nat) : Int) / 2) = (n : Int) by omega]
theorem c6s {f : Addr} {fd : FuncData} (F : Fun K "end_sides" "end_sides" b0d f fd) (m : mg "end_sides" = some (.ref f)) (B : Bl mg)  : Def P w K mg base CX0 "end_sides" 1 ["k", "low", "high"] (b8b K) := by
 refine ⟨f, fd, F.ok b8a (fun vs H Q E h => ?_) (fun cdv A outer s H vs Q E hr h => ?_), F.binds (ps := ["k", "low", "high"]) fun _ _ _ _ _ _ us hl => (by obtain ⟨b0, b1, b2, rfl⟩ := us3 hl; rfl), F.kp, m⟩
 · obtain ⟨k, lo, hi, rfl, _⟩ := h
   rfl
 obtain ⟨k, lo, hi, rfl, q⟩ := h
 refine ⟨_, (@a0f _ _ _ _ _ (a1h 3 b8a.nd (a2n a0b))
  (@a0f _ _ _ _ _ (a1d (a0m a3l (pv 1) a0w (a0s _)) (a0h (b4e (c7u PySem.F.plainAttrs_list PySem.F.slot_list_append PySem.F.type_list_append a4t (pv 3) (b0m (a2x (a0x (a0p a2d (a0p a1w a0d (pv 0)) a0d) (a0x (a0p a2d (a0p a1w a0d (pv 0)) a0d) (a0x (a0p a1w (c2y b5t a0d) (pv 1)) a0b)))) a0b)))) a0o)
  (@a0f _ _ _ _ _ (a1d (a0m a3l (pv 2) a0w (a0s _)) (a0h (b4e (c7u PySem.F.plainAttrs_list PySem.F.slot_list_append PySem.F.type_list_append a4t (pv 3) (b0m (a2x (a0x (a0p a1w a0d (pv 0)) (a0x (a0p a1w a0d (pv 0)) (a0x (a0p a1w a0d (pv 2)) a0b)))) a0b)))) a0o)
  (a0h (a0l (pv 3)))))), ?_⟩
 refine a0c fun U hU => ?_
 refine ⟨sz 0, fun p hp => ?_⟩
 show U _ _
 subst hU
 have s0 := a0i hp (.lst [])
 have e0 : upd H p (.lst []) p = some (.lst []) := a0g
 generalize upd H p (.lst []) = H0 at *
 refine a0c fun U hU => ?_
 have key : ∀ (H1 : Hp) (ys : List V) (l1 : List Sdn), a1i H H1 -> H1 p = some (.lst ys) -> Paired (a2o H1) ys l1 -> l1.length <= 1 -> l1 ++ hiL k hi = d7c k lo hi -> U [some (.int k), some (eV lo), some (eV hi), some (.ref p)] H1 := by
  intro H1 ys l1 s1 e1 p1 len1 ee
  subst hU
  refine a0c fun U hU => ?_
  refine ⟨_, rfl, rfl, _, rfl, ?_⟩
  cases hi with
  | none =>
   refine a2c ?_
   show U _ _
   subst hU
   have ee : l1 = d7c k lo none := by rw [← ee]; exact (List.append_nil _).symm
   exact ⟨_, rfl, q p ys H1 s1 hp e1 (by rw [← ee]; exact p1)⟩
  | some y =>
   refine a3h ?_
   refine ⟨_, rfl, .inl ⟨rfl, _, SqL.of e1⟩, _, rfl, _, _, rfl, rfl, .inl ⟨by decide, by decide⟩, _, rfl, _, _, rfl, rfl, .inl ⟨by decide, by decide⟩, _, rfl, _, _, rfl, rfl, .inl ⟨by decide, by decide⟩, sz 3, fun t ht => ⟨p, _, _, rfl, rfl, a0i ht _ _ _ e1, by rw [a2q p1]; exact a0y (by omega), ?_⟩⟩
   have st := a0i ht (.tup [.int (2 * (k : Int)), .int (2 * (k : Int)), .int (2 * y)])
   show U _ _
   subst hU
   refine ⟨_, rfl, q p (ys ++ [.ref t]) _ (a0z hp (s1.trans st)) hp a0g ?_⟩
   rw [← ee]
   exact a7s (b9u (st _ _ e1) (a1v st p1)) (a2o.put (st _ _ e1) ⟨t, rfl, a0g⟩)
 refine ⟨_, rfl, rfl, _, rfl, ?_⟩
 cases lo with
 | none =>
  refine a2c ?_
  exact key H0 [] [] s0 e0 .nil (by simp) rfl
 | some x =>
  refine a3h ?_
  refine ⟨_, rfl, .inl ⟨rfl, _, SqL.of e0⟩, _, rfl, _, _, rfl, rfl, .inl ⟨by decide, by decide⟩, _, _, rfl, rfl, _, rfl, _, _, rfl, rfl, .inl ⟨by decide, by decide⟩, _, _, rfl, rfl, _, rfl, _, rfl, _, _, rfl, rfl, .inl ⟨by decide, by decide⟩, sz 3, fun t ht => ⟨p, _, _, rfl, rfl, a0i ht _ _ _ e0, a0y (by simp), ?_⟩⟩
  have st := a0i ht (.tup [.int (2 * (k : Int) + 1), .int (2 * (k : Int) + 1), .int (-2 * x)])
  exact key _ [.ref t] [(2 * k + 1, 2 * k + 1, -2 * x)] (a0z hp (s0.trans st)) a0g (.cons (a2o.put (st _ _ e0) ⟨t, rfl, a0g⟩) .nil) (by simp) rfl
theorem d8h {f : Addr} {fd : FuncData} (F : Fun K "filled" "filled" b8s f fd) (m : mg "filled" = some (.ref f)) (B : Bl mg) (b1z : Def P w K mg base CX0 "some_worth" 2 ["shape", "f"] (b0n K)) (b9p : Def P w K mg base CX0 "fixed" 7 ["shape", "f", "number"] (b8u K)) : Def P w K mg base CX0 "filled" 8 ["shape", "point", "k"] (c7z K) := by
 refine ⟨f, fd, F.ok b2e (fun vs H Q E h => ?_) (fun cdv A outer s H vs Q E hr h => ?_), F.binds (ps := ["shape", "point", "k"]) fun _ _ _ _ _ _ us hl => (by obtain ⟨b0, b1, b2, rfl⟩ := us3 hl; rfl), F.kp, m⟩
 · obtain ⟨v, a, n, k, o, xs, rfl, _⟩ := h
   rfl
 obtain ⟨v, a, n, k, o, xs, rfl, hV, hSh, hA, lx, hk, hn, q⟩ := h
 refine ⟨_, (@a0f _ _ _ _ _ (a1h 3 b2e.nd (pv 0))
  (@a0f _ _ _ _ _ (a5n PassesOwn.never rfl (d8o (K := K) rfl (by rfl) B.enumerate (a0a (pv 1) a0b)) (c3t (K := K) rfl rfl (a9k 4 b2e.nd) (a9k 5 b2e.nd)) (a0h (a1d (a0m d1a (pv 4) (pv 2) (a0s _)) (a0h (a1h 3 b2e.nd (a0q b9p hr (a0a (pv 3) (a0x (a0p a1w a0d (pv 4)) (a0a (pv 5) a0b)))))) a0o)))
  (@a0f _ _ _ _ _ (a1d (a0m a3c (pv 3) a0w (a0s _)) (a0h (a0l a0w)) a0o)
  (a0h (a0l (a0q b1z hr (a0a (pv 3) (a0x (a0p a1w a0d (pv 2)) a0b)))))))), ?_⟩
 refine a0c fun U hU => ?_
 refine ⟨_, rfl, ?_⟩
 show U _ _
 subst hU
 refine a0c fun U hU => ?_
 refine ⟨_, rfl, a, rfl, ⟨_, hA⟩, d4x (K := K) (a := a) (xs := xs.map V.int) (fun i σ H' => ∃ x y u o', σ = [some v, some (.ref a), some (.int k), some u, x, y] /\ a1i H H' /\ a1x H' u (2 * n) o' /\ Fil n k o xs i o') ⟨none, none, v, o, rfl, a1i.refl _, hV, Fil.start hSh⟩ (fun i σ H' _ ⟨_, _, _, _, _, sm, _⟩ => sm.sqT hA) ?_ ?_⟩
 · rintro i y σ H1 H2 hy ⟨x1, x2, u, o', rfl, sm, hu, F⟩ sm2
   obtain ⟨hi, rfl⟩ := c7h hy
   have s2 := sm.trans sm2
   refine ⟨_, rfl, _, rfl, rfl, _, rfl, ?_⟩
   by_cases hik : i = k
   · rw [decide_eq_true (show V.int (i : Int) = V.int (k : Int) by rw [hik])]
     refine a2c ?_
     exact ⟨_, _, u, o', rfl, s2, hu.same sm2, F.skip hik⟩
   · rw [decide_eq_false (show ¬ V.int (i : Int) = V.int (k : Int) from fun z => hik (by injection z with z; omega))]
     refine a3h ?_
     have ei : xs[i] = xs.getD i 0 := by rw [List.getD_eq_getElem?_getD, List.getElem?_eq_getElem hi]; rfl
     rw [ei]
     refine ⟨_, rfl, _, rfl, _, _, rfl, rfl, .inl ⟨by decide, by decide⟩, _, rfl, u, n, o', 2 * i, xs.getD i 0, by simp, hu.same sm2, b6n.diag F.1, by omega, hn, fun u2 H3 sm3 N3 => ?_⟩
     exact ⟨_, _, u2, _, rfl, s2.trans sm3, N3.at, F.step (by omega) hik⟩
 · rintro σ H1 ⟨x1, x2, u, o', rfl, sm, hu, F⟩
   show U _ _
   subst hU
   rw [List.length_map, lx] at F
   refine a0c fun U hU => ?_
   refine ⟨_, rfl, rfl, _, rfl, ?_⟩
   cases o' with
   | none =>
    cases hu
    refine a3h ?_
    exact q none H1 sm (F.none' lx hk)
   | some d =>
    obtain ⟨ta, bs, rfl, T⟩ := hu
    refine a2c ?_
    show U _ _
    subst hU
    refine ⟨_, rfl, _, rfl, _, _, rfl, rfl, .inl ⟨by decide, by decide⟩, ta, bs, n, d, 2 * k, by simp, T, by omega, ?_⟩
    exact q (some (Oct.b6g d (2 * k))) H1 sm (F.some' lx hk)
theorem c1i {f : Addr} {fd : FuncData} (F : Fun K "with_number" "with_number" a6z f fd) (m : mg "with_number" = some (.ref f)) (B : Bl mg)  : Def P w K mg base CX0 "with_number" 1 ["point", "k", "number"] (b3q K) := by
 refine ⟨f, fd, F.ok c1q (fun vs H Q E h => ?_) (fun cdv A outer s H vs Q E hr h => ?_), F.binds (ps := ["point", "k", "number"]) fun _ _ _ _ _ _ us hl => (by obtain ⟨b0, b1, b2, rfl⟩ := us3 hl; rfl), F.kp, m⟩
 · obtain ⟨a, xs, k, z, rfl, _⟩ := h
   rfl
 obtain ⟨a, xs, k, z, rfl, hA, hk, l100, q⟩ := h
 refine ⟨_, (a0h (a0l (a0p (b5g (K := K) rfl) (a0p (b5g (K := K) rfl) (a9a (b3v (K := K) rfl) (pv 0) b4c (b0f (pv 1))) (a2x (a0a (pv 2) a0b))) (a9a (b3v (K := K) rfl) (pv 0) (b0f (a0p a2d (pv 1) a0d)) b4c)))), ?_⟩
 have small : ∀ {m : Nat}, m <= 1000 -> m <= sizeLine := fun h => Nat.le_of_lt (a0y h)
 refine ⟨_, rfl, _, rfl, (k : Int), rfl, a, _, rfl, hA, ?_, fun p1 hp1 => ?_⟩
 · rw [List.length_map, a5h (by omega)]
   omega
 have s1 := a0i hp1 (.tup (b3k (xs.map V.int) none (some (k : Int))))
 have e1 : upd H p1 (.tup (b3k (xs.map V.int) none (some (k : Int)))) p1 = some (.tup ((xs.take k).map V.int)) := by rw [a0g, c3o (by omega)]
 refine ⟨_, rfl, sz 1, fun p2 hp2 => ?_⟩
 have s2 := a0i hp2 (.tup [.int z])
 have s12 := s1.trans s2
 by_cases h0 : k = 0
 · have e0 : (xs.take k).map V.int = [] := by rw [h0]; rfl
   rw [e0] at e1
   refine .inr ⟨p1, p2, _, rfl, rfl, SqT.of (s2 _ _ e1), SqT.of a0g, ?_⟩
   have e2 : upd (upd H p1 (.tup (b3k (xs.map V.int) none (some (k : Int))))) p2 (.tup [.int z]) p2 = some (.tup ((xs.take k).map V.int ++ [.int z])) := by rw [a0g, e0]; rfl
   have ez : b3k (xs.map V.int) (some ((k : Int) + 1)) none = (xs.drop (k + 1)).map V.int := b2o (k := k + 1) (by omega)
   refine ⟨_, rfl, _, rfl, _, _, rfl, rfl, _, rfl, a, _, rfl, s12.sqT hA, ?_, fun p3 hp3 => ?_⟩
   · rw [List.length_map, show ((k : Int) + 1) = ((k + 1 : Nat) : Int) from rfl, a5h (by omega)]
     omega
   rw [ez]
   have s3 := a0i hp3 (.tup ((xs.drop (k + 1)).map V.int))
   refine .inl ⟨_, p3, _, _, rfl, rfl, SqT.of (s3 _ _ e2), SqT.of a0g, by simp, small (by simp; omega), fun e => ?_, fun _ p4 hp4 => ?_⟩
   · have es : (xs.set k z).map V.int = (xs.take k).map V.int ++ [V.int z] := by rw [a3u hk, e, List.append_nil]
     refine q _ _ (s12.trans s3) ?_
     rw [es]
     exact s3 _ _ e2
   · refine q _ _ ((s12.trans s3).trans (a0i hp4 _)) ?_
     rw [a0g, a3u hk]
 · refine .inl ⟨p1, p2, _, _, rfl, rfl, SqT.of (s2 _ _ e1), SqT.of a0g, (by intro z; have := congrArg List.length z; rw [List.length_map, List.length_take, List.length_nil] at this; omega), small (by simp; omega), fun e => (by cases e), fun _ pp hpp => ?_⟩
   have s13 := s12.trans (a0i hpp (.tup ((xs.take k).map V.int ++ [.int z])))
   have e2 : upd (upd (upd H p1 (.tup (b3k (xs.map V.int) none (some (k : Int))))) p2 (.tup [.int z])) pp (.tup ((xs.take k).map V.int ++ [.int z])) pp = some (.tup ((xs.take k).map V.int ++ [.int z])) := a0g
   have ez : b3k (xs.map V.int) (some ((k : Int) + 1)) none = (xs.drop (k + 1)).map V.int := b2o (k := k + 1) (by omega)
   refine ⟨_, rfl, _, rfl, _, _, rfl, rfl, _, rfl, a, _, rfl, s13.sqT hA, ?_, fun p3 hp3 => ?_⟩
   · rw [List.length_map, show ((k : Int) + 1) = ((k + 1 : Nat) : Int) from rfl, a5h (by omega)]
     omega
   rw [ez]
   have s3 := a0i hp3 (.tup ((xs.drop (k + 1)).map V.int))
   refine .inl ⟨_, p3, _, _, rfl, rfl, SqT.of (s3 _ _ e2), SqT.of a0g, by simp, small (by simp; omega), fun e => ?_, fun _ p4 hp4 => ?_⟩
   · have es : (xs.set k z).map V.int = (xs.take k).map V.int ++ [V.int z] := by rw [a3u hk, e, List.append_nil]
     refine q _ _ (s13.trans s3) ?_
     rw [es]
     exact s3 _ _ e2
   · refine q _ _ ((s13.trans s3).trans (a0i hp4 _)) ?_
     rw [a0g, a3u hk]
theorem c1e {f : Addr} {fd : FuncData} (F : Fun K "amount_forms" "amount_forms" a5y f fd) (m : mg "amount_forms" = some (.ref f)) (B : Bl mg)  : Def P w K mg base CX0 "amount_forms" 1 ["amount"] (b2g K) := by
 refine ⟨f, fd, F.ok b1v (fun vs H Q E h => ?_) (fun cdv A outer s H vs Q E hr h => ?_), F.binds (ps := ["amount"]) fun _ _ _ _ _ _ us hl => (by obtain ⟨b0, rfl⟩ := us1 hl; rfl), F.kp, m⟩
 · obtain ⟨b, f, g, c, rfl, _⟩ := h
   rfl
 obtain ⟨b, f, g, c, rfl, hA, q⟩ := h
 refine ⟨_, (a0h (a0l (a5w (a1c.of b1v.nd (by rfl)) rfl (c3q (K := K) rfl (a9a (b3v (K := K) rfl) (pv 0) b4c (b0f a0d))) (fun _ _ _ => b2a (a0m a3l (pv 0) a0w (a0s _))) (fun _ _ _ => (pv 0))))), ?_⟩
 have hB : SqT K H b [gN f, gN g, .int c] := SqT.of hA
 have e0 : b3k [gN f, gN g, V.int c] none (some 2) = [gN f, gN g] := rfl
 refine ⟨_, rfl, (2 : Int), rfl, b, _, rfl, hB, (by rintro ⟨_, h⟩; cases h), fun t ht => ?_⟩
 rw [e0]
 have st := a0i ht (.tup [gN f, gN g])
 refine ⟨t, rfl, ⟨_, SqT.of a0g⟩, fun p hp => c1d (K := K) (a := t) (xs := [gN f, gN g]) (fun i ys H' => ys = (fV (match i with | 0 => [] | 1 => d6e f | _ => fsN f g)) /\ H' p = some (.lst ys) /\ a1i (upd H t (.tup [gN f, gN g])) H') ⟨rfl, a0g, a0i hp _⟩ (fun i ys H' _ ⟨_, _, sm⟩ => SqT.of (sm _ _ a0g)) ?_ ?_⟩
 · rintro i x ys H' hx ⟨rfl, hp', sm⟩
   match i, hx, hp' with
   | 0, hx, hp' =>
    cases hx
    refine ⟨_, rfl, rfl, _, rfl, ?_⟩
    cases f with
    | none =>
     refine a2c ?_
     exact a2j (by show 0 < 2; decide) ⟨rfl, hp', sm⟩
    | some z =>
     refine a3h ?_
     exact ⟨_, rfl, hp', a0y (by simp [fV, fI]), a2j (by show 0 < 2; decide) ⟨rfl, a0g, a0z hp sm⟩⟩
   | 1, hx, hp' =>
    cases hx
    refine ⟨_, rfl, rfl, _, rfl, ?_⟩
    cases g with
    | none =>
     refine a2c ?_
     exact a2j (by show 1 < 2; decide) ⟨by simp [fsN, d6e, fV, fI], hp', sm⟩
    | some z =>
     refine a3h ?_
     exact ⟨_, rfl, hp', a0y (by cases f <;> simp [d6e, fV, fI]), a2j (by show 1 < 2; decide) ⟨by simp [fsN, d6e, gN, fV, fI], a0g, a0z hp sm⟩⟩
   | i + 2, hx, _ => cases hx
 · rintro ys H' ⟨rfl, hp', sm⟩
   exact q p H' (st.trans sm) hp'
theorem e5y {f : Addr} {fd : FuncData} (F : Fun K "put" "put" d9s f fd) (m : mg "put" = some (.ref f)) (B : Bl mg) (d7d : Def P w K mg base CX0 "put_row" 5 ["shape", "k", "amount", "f"] (c2j K)) : Def P w K mg base CX0 "put" 6 ["shape", "k", "amount"] (e2f K) := by
 refine ⟨f, fd, F.ok e1p (fun vs H Q E h => ?_) (fun cdv A outer s H vs Q E hr h => ?_), F.binds (ps := ["shape", "k", "amount"]) fun _ _ _ _ _ _ us hl => (by obtain ⟨b0, b1, b2, rfl⟩ := us3 hl; rfl), F.kp, m⟩
 · obtain ⟨v, b, n, k, o, f1, g1, z1, rfl, _⟩ := h
   rfl
 obtain ⟨v, b, n, k, o, f1, g1, z1, rfl, hV, hA, hf, hg, hn, q⟩ := h
 refine ⟨_, (@a0f _ _ _ _ _ (a1d (a0m a3c (pv 0) a0w (a0s _)) (a0h (a0l a0w)) a0o)
  (a0h (a0l (a5w (a1c.of e1p.nd (by rfl)) rfl (a3t (by rfl) B.range (a0u (a1f (a1g (K := K) rfl) (by rfl) B.len (by decide +kernel) (a0a (pv 0) a0b)) a0b)) (fun _ _ _ => a7x) (fun _ _ _ => (a0q d7d hr (a0a (pv 1) (a0a (pv 2) (a0a (pv 3) (a0a (pv 0) a0b)))))))))), ?_⟩
 refine a0c fun U hU => ?_
 cases o with
 | none =>
  cases hV
  refine ⟨_, rfl, rfl, _, rfl, ?_⟩
  refine a3h ?_
  exact q .non H (a1i.refl H) rfl
 | some c =>
  obtain ⟨a, bs, rfl, T⟩ := hV
  refine ⟨_, rfl, rfl, _, rfl, ?_⟩
  refine a2c ?_
  show U _ _
  subst hU
  have lb : (bs.map V.ref).length = 2 * n := by rw [List.length_map, T.lenN]
  refine ⟨_, rfl, a, _, rfl, .inl (SqL.of T.at_), ((bs.map V.ref).length : Int), rfl, by omega, by omega, fun p hp => a5t (lo := 0) (n := ((bs.map V.ref).length : Int).toNat) (fun i ys H' => b8j H H' p ys (Oct.c2z i (2 * n) (d8a c k (fsN f1 g1) z1))) (b8j.start hp) ?_ ?_⟩
  · rintro i ys H' hi G
    have hi' : i < 2 * n := by omega
    simp only [d4s, ↓reduceIte]
    rw [Int.zero_add]
    refine ⟨_, rfl, _, rfl, _, rfl, _, rfl, a, b, bs, n, k, i, c, f1, g1, z1, rfl, T.same G.same, G.same _ _ hA, hf, hg, hi', hn, fun l H1 hl sm1 el => ?_⟩
    have st := G.step hl sm1 el
    refine ⟨st.1, by rw [G.len, Oct.a4k]; exact a0y (by omega), a2j hi ?_⟩
    rw [Oct.a6d]
    exact st.2
  · rintro ys H' ⟨bs', rfl, T', sm⟩
    have en : ((bs.map V.ref).length : Int).toNat = 2 * n := by omega
    rw [en] at T'
    exact q _ H' sm ⟨p, bs', rfl, T'⟩
theorem d3k {f : Addr} {fd : FuncData} (F : Fun K "put_row" "put_row" b6h f fd) (m : mg "put_row" = some (.ref f)) (B : Bl mg) (d0f : Def P w K mg base CX0 "put_entry" 4 ["shape", "ahead"] (b8c K)) (b4g : Def P w K mg base CX0 "sum_ahead" 3 ["k", "amount", "f", "g"] (b2f K)) : Def P w K mg base CX0 "put_row" 5 ["shape", "k", "amount", "f"] (c2j K) := by
 refine ⟨f, fd, F.ok c2o (fun vs H Q E h => ?_) (fun cdv A outer s H vs Q E hr h => ?_), F.binds (ps := ["shape", "k", "amount", "f"]) fun _ _ _ _ _ _ us hl => (by obtain ⟨b0, b1, b2, b3, rfl⟩ := us4 hl; rfl), F.kp, m⟩
 · obtain ⟨a, b, bs, n, k, h, c, f1, g1, z1, rfl, _⟩ := h
   rfl
 obtain ⟨a, b, bs, n, k, h, c, f1, g1, z1, rfl, T, hA, hf, hg, hh, hn, q⟩ := h
 refine ⟨_, (a0h (a0l (a5w (a1c.of c2o.nd (by rfl)) rfl (a3t (by rfl) B.range (a0u (a1f (a1g (K := K) rfl) (by rfl) B.len (by decide +kernel) (a0a (pv 0) a0b)) a0b)) (fun _ _ _ => a7x) (fun _ _ _ => (a0q d0f hr (a0a (pv 1) (a0u (a0q b4g hr (a0a (pv 2) (a0a (pv 3) (a0a (pv 4) (a0a (pv 0) a0b))))) a0b))))))), ?_⟩
 have lb : (bs.map V.ref).length = 2 * n := by rw [List.length_map, T.lenN]
 refine ⟨_, rfl, a, _, rfl, .inl (SqL.of T.at_), ((bs.map V.ref).length : Int), rfl, by omega, by omega, fun p hp => a5t (lo := 0) (n := ((bs.map V.ref).length : Int).toNat) (fun i ys H' => ys = (Oct.ln i (d8a c k (fsN f1 g1) z1 h)).map eV /\ H' p = some (.lst ys) /\ a1i H H') ⟨rfl, a0g, a0i hp _⟩ ?_ ?_⟩
 · rintro i ys H' hi ⟨rfl, hp', sm⟩
   have hi' : i < 2 * n := by omega
   simp only [d4s, ↓reduceIte]
   rw [Int.zero_add]
   refine ⟨_, rfl, _, rfl, _, rfl, _, rfl, _, rfl, b, k, h, i, f1, g1, z1, rfl, sm _ _ hA, fun p1 l1 H1 sm1 ep1 el1 => ?_⟩
   refine ⟨a, p1, l1, bs, n, c, _, _, _, rfl, T.same (sm.trans sm1), ep1, el1, c4g (d2b hf hg) hh hi', b9g (b7c _ _), c1u _ _ _ _ _, fun H2 sm2 => ?_⟩
   have s2 := sm1.trans sm2
   refine ⟨s2 _ _ hp', by rw [a2y]; exact a0y (by omega), a2j hi ⟨b2w i (d8a c k (fsN f1 g1) z1 h), a0g, a0z hp (sm.trans s2)⟩⟩
 · rintro ys H' ⟨rfl, hp', sm⟩
   have en : ((bs.map V.ref).length : Int).toNat = 2 * n := by omega
   rw [en] at hp'
   exact q p H' hp sm hp'
theorem c6u {f : Addr} {fd : FuncData} (F : Fun K "put_entry" "put_entry" b0k f fd) (m : mg "put_entry" = some (.ref f)) (B : Bl mg) (b7d : Def P w K mg base CX0 "greatest" 3 ["shape", "forms"] (b4b K)) : Def P w K mg base CX0 "put_entry" 4 ["shape", "ahead"] (b8c K) := by
 refine ⟨f, fd, F.ok b7t (fun vs H Q E h => ?_) (fun cdv A outer s H vs Q E hr h => ?_), F.binds (ps := ["shape", "ahead"]) fun _ _ _ _ _ _ us hl => (by obtain ⟨b0, b1, rfl⟩ := us2 hl; rfl), F.kp, m⟩
 · obtain ⟨a, p, l, bs, n, c, t1, m1, fs, rfl, _⟩ := h
   rfl
 obtain ⟨a, p, l, bs, n, c, t1, m1, fs, rfl, T, ep, el, hin, h3, ht, q⟩ := h
 refine ⟨_, (@a0f _ _ _ _ _ (a1h 2 b7t.nd (a0q b7d hr (a0a (pv 0) (a0e (a1n (K := K) (pv 1) a0d) a0b))))
  (@a0f _ _ _ _ _ (a1d (a0m a3c (pv 2) a0w (a0s _)) (a0h (a0l a0w)) a0o)
  (a0h (a0l (a0p a1w (a1n (K := K) (pv 1) a0d) (a0p a2d (pv 2) (a1n (K := K) (pv 1) a0d))))))), ?_⟩
 have hp : SqT K H p [.int t1, .ref l, .int m1] := SqT.of ep
 refine a0c fun U hU => ?_
 refine ⟨_, rfl, _, rfl, p, _, 1, _, rfl, rfl, hp, rfl, a, l, bs, n, c, fs, rfl, T, SqL.of el, hin, h3, fun H1 sm1 => ?_⟩
 show U _ _
 subst hU
 have q1 := q H1 sm1
 have hp1 := sm1.sqT hp
 generalize gr4 c fs = e at *
 refine a0c fun U hU => ?_
 refine ⟨_, rfl, rfl, _, rfl, ?_⟩
 cases e with
 | none =>
  refine a3h ?_
  exact q1
 | some x =>
  refine a2c ?_
  show U _ _
  subst hU
  exact ⟨_, rfl, p, _, 0, _, rfl, rfl, hp1, rfl, _, rfl, _, rfl, p, _, 2, _, rfl, rfl, hp1, rfl, x, m1, rfl, rfl, _, _, rfl, rfl, .inl (by rcases ht with e | e <;> rw [e] <;> exact ⟨by decide, by decide⟩), q1⟩
theorem b6j {f : Addr} {fd : FuncData} (F : Fun K "reaching_by_put" "reaching_by_put" a4m f fd) (m : mg "reaching_by_put" = some (.ref f)) (B : Bl mg) (b4g : Def P w K mg base CX0 "sum_ahead" 3 ["k", "amount", "f", "g"] (b2f K)) (a5q : Def P w K mg base CX0 "reaching" 11 ["shape", "forms", "number"] (a7t K)) (a2f : Def P w K mg base CX0 "least_factor" 1 ["times", "entry", "number"] (a5k K)) : Def P w K mg base CX0 "reaching_by_put" 12 ["shape", "k", "amount", "f", "g", "number"] (a9g K) := by
 refine ⟨f, fd, F.ok a8s (fun vs H Q E h => ?_) (fun cdv A outer s H vs Q E hr h => ?_), F.binds (ps := ["shape", "k", "amount", "f", "g", "number"]) fun _ _ _ _ _ _ us hl => (by obtain ⟨b0, b1, b2, b3, b4, b5, rfl⟩ := us6 hl; rfl), F.kp, m⟩
 · obtain ⟨v, b, n, k, o, f1, g1, c1, f, g, m1, rfl, _⟩ := h
   rfl
 obtain ⟨v, b, n, k, o, f1, g1, c1, f, g, m1, rfl, hV, hS, hA, hf1, hg1, hf, hg, n6, q1, q2⟩ := h
 refine ⟨_, (@a0f _ _ _ _ _ (a1h 6 a8s.nd (a0q b4g hr (a0a (pv 1) (a0a (pv 2) (a0a (pv 3) (a0a (pv 4) a0b))))))
  (a0h (a0l (a0q a5q hr (a0a (pv 0) (a0e (a1n (K := K) (pv 6) a0d) (a0x (a0p b1b (a0q a2f hr (a0e (a1n (K := K) (pv 6) a0d) (a0n a0d (a0a (pv 5) a0b)))) (a1n (K := K) (pv 6) a0d)) a0b))))))), ?_⟩
 have fin := d2b hf1 hg1
 have fl2 := b7c f1 g1
 refine a0c fun U hU => ?_
 refine ⟨_, rfl, _, rfl, _, rfl, _, rfl, b, k, f, g, f1, g1, c1, rfl, hA, fun p l H1 sm1 ep el => ?_⟩
 show U _ _
 subst hU
 have ht := c1u k (fsN f1 g1) c1 f g
 have hin := c4g (k := k) (z := c1) fin hf hg
 have h3 := b9g (k := k) (f := f) (g := g) (z := c1) fl2
 have hw := fun (a1j : List Int) => e6a (k := k) (g := g) (z := c1) (b4f a1j (2 * n)) fin hf
 have hp : ∀ c, d8a c k (fsN f1 g1) c1 f g = peE (b1i k (fsN f1 g1) c1 f g).1 (b1i k (fsN f1 g1) c1 f g).2.2 (gr4 c (b1i k (fsN f1 g1) c1 f g).2.1) := fun c => rfl
 generalize b1i k (fsN f1 g1) c1 f g = S at *
 obtain ⟨t, fs, z⟩ := S
 have hT : SqT K H1 p [.int t, .ref l, .int z] := SqT.of ep
 have ht' : t = 1 \/ t = 2 := ht
 refine ⟨_, rfl, _, rfl, p, _, 1, _, rfl, rfl, hT, rfl, _, rfl, p, _, 0, _, rfl, rfl, hT, rfl, _, rfl, t, some 0, m1, rfl, by omega, by omega, _, rfl, p, _, 2, _, rfl, rfl, hT, rfl, _, _, rfl, rfl, v, l, n, o, fs, -((0 - m1) / t) - z, rfl, hV.same sm1, hS, SqL.of el, hin, h3, by omega, fun e H' sm => ?_, fun c e hb H' sm => ?_, fun c e hb a1j p2 H' ln li ht2 sm hp2 ep2 => ?_⟩
 · subst e
   exact q1 H' (sm1.trans sm) fun t e => by cases e
 · subst e
   refine q1 H' (sm1.trans sm) fun t2 e => ?_
   cases e
   rw [hp c]
   show a6k (peE t z (gr4 c fs)) m1 = true
   rw [← e3p ht']
   exact hb
 · subst e
   refine q2 a1j p2 H' ln li ?_ (sm1.trans sm) ep2
   rw [hw a1j]
   exact e6g ht' ht2
theorem c7s {f : Addr} {fd : FuncData} (F : Fun K "sum_ahead" "sum_ahead" b0b f fd) (m : mg "sum_ahead" = some (.ref f)) (B : Bl mg) (b7h : Def P w K mg base CX0 "form_ahead" 2 ["k", "amount", "f"] (b5f K)) (a1e : Def P w K mg base CX0 "flipped" 1 ["f"] (a2r K)) : Def P w K mg base CX0 "sum_ahead" 3 ["k", "amount", "f", "g"] (b2f K) := by
 refine ⟨f, fd, F.ok b2c (fun vs H Q E h => ?_) (fun cdv A outer s H vs Q E hr h => ?_), F.binds (ps := ["k", "amount", "f", "g"]) fun _ _ _ _ _ _ us hl => (by obtain ⟨b0, b1, b2, b3, rfl⟩ := us4 hl; rfl), F.kp, m⟩
 · obtain ⟨b, k, h, j, f1, g1, c1, rfl, _⟩ := h
   rfl
 obtain ⟨b, k, h, j, f1, g1, c1, rfl, hA, q⟩ := h
 refine ⟨_, (@a0f _ _ _ _ _ (a1d (a0m a3n (pv 3) (a0q a1e hr (a0a (pv 2) a0b)) (a0s _)) (a0h (a0l (a2x (a0n a0d (a4d (a2n a0b) (a0n a0d a0b)))))) a0o)
  (@a0f _ _ _ _ _ (a1h 4 b2c.nd (a0q b7h hr (a0a (pv 0) (a0a (pv 1) (a0a (pv 2) a0b)))))
  (@a0f _ _ _ _ _ (a1d (a0m a3n (pv 3) (pv 2) (a0s _)) (a0h (a0l (a2x (a0n a0d (a0e (a1n (K := K) (pv 4) a0d) (a0e (a1n (K := K) (pv 4) a0d) a0b)))))) a0o)
  (@a0f _ _ _ _ _ (a1h 5 b2c.nd (a0q b7h hr (a0a (pv 0) (a0a (pv 1) (a0a (pv 3) a0b)))))
  (a0h (a0l (a2x (a0n a0d (a0x (a0p e1r (a1n (K := K) (pv 4) a0d) (a1n (K := K) (pv 5) a0d)) (a0x (a0p a2d (a1n (K := K) (pv 4) a0d) (a1n (K := K) (pv 5) a0d)) a0b)))))))))), ?_⟩
 refine a0c fun U hU => ?_
 refine ⟨_, rfl, _, rfl, (h : Int), rfl, rfl, _, rfl, ?_⟩
 rw [a2w]
 refine b2x (fun h1 => ?_) (fun h1 => ?_)
 · have e1 : j = Oct.fl h := by have := V.int.inj (of_decide_eq_true h1); omega
   refine ⟨sz 0, fun l hl => ⟨sz 3, fun p hp => ?_⟩⟩
   have sl := a0i hl (.lst [])
   have sp := a0i hp (.tup [.int 1, .ref l, .int 0])
   refine q p l _ (sl.trans sp) ?_ ?_
   · rw [a0g, b1i, if_pos e1]
   · rw [b1i, if_pos e1]; exact sp _ _ a0g
 have n1 : j ≠ Oct.fl h := fun e => h1 (decide_eq_true (by rw [e]))
 show U _ _
 subst hU
 refine a0c fun U hU => ?_
 refine ⟨_, rfl, _, rfl, _, rfl, b, k, h, f1, g1, c1, rfl, hA, fun p1 l1 H1 sm1 ep1 el1 => ?_⟩
 show U _ _
 subst hU
 have hp1 : SqT K H1 p1 [.ref l1, .int (a1a k (fsN f1 g1) c1 h).2] := SqT.of ep1
 refine a0c fun U hU => ?_
 refine ⟨_, rfl, _, rfl, rfl, _, rfl, ?_⟩
 refine b2x (fun h2 => ?_) (fun h2 => ?_)
 · have e2 : j = h := by have := V.int.inj (of_decide_eq_true h2); omega
   refine ⟨_, rfl, p1, _, 0, _, rfl, rfl, hp1, rfl, _, rfl, p1, _, 1, _, rfl, rfl, hp1, rfl, sz 3, fun p hp => ?_⟩
   have sp := a0i hp (.tup [.int 2, .ref l1, .int (a1a k (fsN f1 g1) c1 h).2])
   refine q p l1 _ (sm1.trans sp) ?_ ?_
   · rw [a0g, b1i, if_neg n1, if_pos e2]
   · rw [b1i, if_neg n1, if_pos e2]; exact sp _ _ el1
 have n2 : j ≠ h := fun e => h2 (decide_eq_true (by rw [e]))
 show U _ _
 subst hU
 refine a0c fun U hU => ?_
 refine ⟨_, rfl, _, rfl, _, rfl, b, k, j, f1, g1, c1, rfl, sm1 _ _ hA, fun p2 l2 H2 sm2 ep2 el2 => ?_⟩
 show U _ _
 subst hU
 have hp2 : SqT K H2 p2 [.ref l2, .int (a1a k (fsN f1 g1) c1 j).2] := SqT.of ep2
 have hp1' := sm2.sqT hp1
 have lf := b7c f1 g1
 have la := b1n k (fsN f1 g1) c1 h lf
 have lb := b1n k (fsN f1 g1) c1 j lf
 refine ⟨_, rfl, p1, _, 0, _, rfl, rfl, hp1', rfl, _, rfl, p2, _, 0, _, rfl, rfl, hp2, rfl, l1, l2, _, _, rfl, rfl, sm2 _ _ el1, el2, Nat.le_of_lt (a0y (by rw [c8k, c8k]; omega)), fun l hl => ?_⟩
 have sl := a0i hl (.lst (fV (a1a k (fsN f1 g1) c1 h).1 ++ fV (a1a k (fsN f1 g1) c1 j).1))
 refine ⟨_, rfl, p1, _, 1, _, rfl, rfl, sl.sqT hp1', rfl, _, rfl, p2, _, 1, _, rfl, rfl, sl.sqT hp2, rfl, _, _, rfl, rfl, sz 3, fun p hp => ?_⟩
 have sp := a0i hp (.tup [.int 1, .ref l, .int ((a1a k (fsN f1 g1) c1 h).2 + (a1a k (fsN f1 g1) c1 j).2)])
 refine q p l _ ((sm1.trans sm2).trans (sl.trans sp)) ?_ ?_
 · rw [a0g, b1i, if_neg n1, if_neg n2]
 · rw [b1i, if_neg n1, if_neg n2, ← e1k]; exact sp _ _ a0g
theorem c3u {f : Addr} {fd : FuncData} (F : Fun K "form_ahead" "form_ahead" a8f f fd) (m : mg "form_ahead" = some (.ref f)) (B : Bl mg) (b3r : Def P w K mg base CX0 "amount_forms" 1 ["amount"] (b2g K)) (a1e : Def P w K mg base CX0 "flipped" 1 ["f"] (a2r K)) : Def P w K mg base CX0 "form_ahead" 2 ["k", "amount", "f"] (b5f K) := by
 refine ⟨f, fd, F.ok b4z (fun vs H Q E h => ?_) (fun cdv A outer s H vs Q E hr h => ?_), F.binds (ps := ["k", "amount", "f"]) fun _ _ _ _ _ _ us hl => (by obtain ⟨b0, b1, b2, rfl⟩ := us3 hl; rfl), F.kp, m⟩
 · obtain ⟨b, k, h, f1, g1, c1, rfl, _⟩ := h
   rfl
 obtain ⟨b, k, h, f1, g1, c1, rfl, hA, q⟩ := h
 refine ⟨_, (@a0f _ _ _ _ _ (a1d (a0m a3n (pv 2) (a0p a1w a0d (pv 0)) (a0s _)) (a0h (a0l (a2x (a0u (a0q b3r hr (a0a (pv 1) a0b)) (a0e (a1n (K := K) (pv 1) a0d) a0b))))) a0o)
  (@a0f _ _ _ _ _ (a1d (a0m a3n (pv 2) (a0p a2d (a0p a1w a0d (pv 0)) a0d) (a0s _)) (a0h (a0l (a2x (a2i (a5w (a1c.of b4z.nd (by rfl)) rfl (a2k (K := K) rfl (a0q b3r hr (a0a (pv 1) a0b))) (fun _ _ _ => a7x) (fun _ _ _ => (a0q a1e hr (a0a (pv 0) a0b)))) (b2t (c2y b5t (a1n (K := K) (pv 1) a0d)) a0b))))) a0o)
  (a0h (a0l (a2x (a4d (a2n (a0a (pv 2) a0b)) (a0n a0d a0b))))))), ?_⟩
 refine a0c fun U hU => ?_
 refine ⟨_, rfl, _, rfl, _, _, rfl, rfl, .inl ⟨by decide, by decide⟩, rfl, _, rfl, ?_⟩
 refine b2x (fun h1 => ?_) (fun h1 => ?_)
 · have e1 : h = 2 * k := by have := V.int.inj (of_decide_eq_true h1); omega
   refine ⟨_, rfl, b, f1, g1, c1, rfl, hA, fun l H1 sm1 el => ?_⟩
   refine ⟨_, rfl, b, _, 2, _, rfl, rfl, SqT.of (sm1 _ _ hA), rfl, sz 2, fun p hp => ?_⟩
   have sp := a0i hp (.tup [.ref l, .int c1])
   refine q p l _ (sm1.trans sp) ?_ ?_
   · rw [a0g, a1a, if_pos e1]
   · rw [a1a, if_pos e1]; exact sp _ _ el
 have n1 : h ≠ 2 * k := fun e => h1 (decide_eq_true (by rw [e]; rfl))
 show U _ _
 subst hU
 refine a0c fun U hU => ?_
 refine ⟨_, rfl, _, rfl, _, _, rfl, rfl, .inl ⟨by decide, by decide⟩, _, _, rfl, rfl, rfl, _, rfl, ?_⟩
 refine b2x (fun h2 => ?_) (fun h2 => ?_)
 · have e2 : h = 2 * k + 1 := by have := V.int.inj (of_decide_eq_true h2); omega
   refine ⟨_, rfl, b, f1, g1, c1, rfl, hA, fun l0 H1 sm1 el => ?_⟩
   have l2 := b7c f1 g1
   refine ⟨l0, rfl, ⟨_, SqL.of el⟩, fun l hl => a3v (K := K) (a := l0) (xs := fV (fsN f1 g1)) (fun i ys H' => ys = fV (((fsN f1 g1).take i).map Oct.fl) /\ H' l = some (.lst ys) /\ a1i H1 H') ⟨rfl, a0g, a0i hl _⟩ (fun i ys H' _ ⟨_, _, sm⟩ => SqL.of (sm _ _ el)) ?_ ?_⟩
   · rintro i y ys H' hy ⟨rfl, hl', sm⟩
     obtain ⟨hi, rfl⟩ := c7h hy
     have hi' : i < (fsN f1 g1).length := by simpa [fI] using hi
     have ei : (fsN f1 g1)[i]? = some (fsN f1 g1)[i] := List.getElem?_eq_getElem hi'
     have e1 : (fI (fsN f1 g1))[i] = ((fsN f1 g1)[i] : Int) := by simp [fI]
     rw [e1]
     simp only [d4s, ↓reduceIte]
     refine ⟨_, rfl, _, rfl, hl', by simp [fV, fI]; exact a0y (by omega), a2j (by rw [c8k]; exact hi') ⟨?_, a0g, a0z hl sm⟩⟩
     rw [a2g ei, a2w, List.map_append, ← e1k]
     rfl
   · rintro ys H2 ⟨rfl, hl', sm2⟩
     rw [c8k, List.take_length] at hl'
     refine ⟨_, rfl, b, _, 2, _, rfl, rfl, SqT.of ((sm1.trans sm2) _ _ hA), rfl, _, rfl, sz 2, fun p hp => ?_⟩
     have sp := a0i hp (.tup [.ref l, .int (-c1)])
     refine q p l _ ((sm1.trans sm2).trans sp) ?_ ?_
     · rw [a0g, a1a, if_neg n1, if_pos e2]
     · rw [a1a, if_neg n1, if_pos e2]; exact sp _ _ hl'
 have n2 : h ≠ 2 * k + 1 := fun e => h2 (decide_eq_true (by rw [e]; rfl))
 show U _ _
 subst hU
 refine ⟨_, rfl, sz 1, fun l hl => ?_⟩
 refine ⟨sz 2, fun p hp => ?_⟩
 have sl := a0i hl (.lst [.int (h : Nat)])
 have sp := a0i hp (.tup [.ref l, .int 0])
 refine q p l _ (sl.trans sp) ?_ ?_
 · rw [a0g, a1a, if_neg n1, if_neg n2]
 · rw [a1a, if_neg n1, if_neg n2]; exact sp _ _ a0g
theorem e4k {f : Addr} {fd : FuncData} (F : Fun K "join" "join" d2l f fd) (m : mg "join" = some (.ref f)) (B : Bl mg) (b9f : Def P w K mg base CX0 "copied" 1 ["shape"] (b9t K)) (c5v : Def P w K mg base CX0 "joined_row" 2 ["row", "other_row"] (b4r K)) : Def P w K mg base CX0 "join" 3 ["one", "other"] (d8x K) := by
 refine ⟨f, fd, F.ok d6c (fun vs H Q E h => ?_) (fun cdv A outer s H vs Q E hr h => ?_), F.binds (ps := ["one", "other"]) fun _ _ _ _ _ _ us hl => (by obtain ⟨b0, b1, rfl⟩ := us2 hl; rfl), F.kp, m⟩
 · obtain ⟨v, u, n, o1, o2, rfl, _⟩ := h
   rfl
 obtain ⟨v, u, n, o1, o2, rfl, hV, hW, hn, q⟩ := h
 refine ⟨_, (@a0f _ _ _ _ _ (a1d (a0m a3c (pv 0) a0w (a0s _)) (a0h (a0l (a0q b9f hr (a0a (pv 1) a0b)))) a0o)
  (@a0f _ _ _ _ _ (a1d (a0m a3c (pv 1) a0w (a0s _)) (a0h (a0l (a0q b9f hr (a0a (pv 0) a0b)))) a0o)
  (a0h (a0l (b1x (K := K) rfl (a1o.of (M := ["one", "other"]) d6c.nd (by rfl)) rfl (c3a (K := K) rfl (by rfl) B.zip (a0a (pv 0) (a0a (pv 1) a0b))) (fun _ _ _ => (a0q c5v hr (a0a (pv 0) (a0a (pv 1) a0b))))))))), ?_⟩
 refine a0c fun U hU => ?_
 cases o1 with
 | none =>
  cases hV
  refine ⟨_, rfl, rfl, _, rfl, ?_⟩
  refine a3h ?_
  refine ⟨_, rfl, u, n, o2, rfl, hW, hn, fun w H' sm N' => ?_⟩
  exact q w H' sm (by cases o2 <;> exact N')
 | some c =>
  obtain ⟨a, bs, rfl, T⟩ := hV
  refine ⟨_, rfl, rfl, _, rfl, ?_⟩
  refine a2c ?_
  show U _ _
  subst hU
  refine a0c fun U hU => ?_
  cases o2 with
  | none =>
   cases hW
   refine ⟨_, rfl, rfl, _, rfl, ?_⟩
   refine a3h ?_
   refine ⟨_, rfl, .ref a, n, some c, rfl, ⟨a, bs, rfl, T⟩, hn, fun w H' sm N' => ?_⟩
   exact q w H' sm N'
  | some d =>
   obtain ⟨b, bt, rfl, T2⟩ := hW
   refine ⟨_, rfl, rfl, _, rfl, ?_⟩
   refine a2c ?_
   show U _ _
   subst hU
   have hL : (bs.map V.ref).length = 2 * n := by rw [List.length_map, T.lenN]
   have hL2 : (bt.map V.ref).length = 2 * n := by rw [List.length_map, T2.lenN]
   refine ⟨_, rfl, _, rfl, a, b, rfl, ⟨_, SqL.of T.at_⟩, ⟨_, SqL.of T2.at_⟩, fun p hp => b5p (K := K) (a := a) (b := b) (xs := bs.map V.ref) (zs := bt.map V.ref) (by rw [hL, hL2]) (fun i ys H' => b8j H H' p ys (Oct.c2z i (2 * n) (e6j c d))) (b8j.start hp) (fun i ys H' _ G => ⟨G.same.seq (SqL.of T.at_), G.same.seq (SqL.of T2.at_)⟩) ?_ ?_⟩
   · rintro i x z ys H' H1 hx hz G sm1
     have s1 := G.same.trans sm1
     obtain ⟨hi, b1, rfl, eb1, hb1⟩ := (T.same s1).rowN hx
     obtain ⟨_, b2, rfl, eb2, hb2⟩ := (T2.same s1).rowN hz
     refine ⟨_, rfl, _, rfl, b1, b2, 2 * n, c i, d i, rfl, SqL.of hb1, SqL.of hb2, by omega, fun l H2 hl sm2 el => ?_⟩
     have st := G.step (sm1.free hl) (sm1.trans sm2) el
     have hlt : i < (bs.map V.ref).length := (List.getElem?_eq_some_iff.mp hx).1
     refine ⟨st.1, by rw [G.len, Oct.a4k]; exact a0y (by omega), a2j hlt ?_⟩
     rw [Oct.a6d]
     exact st.2
   · rintro ys H' ⟨bs', rfl, T', sm⟩
     rw [hL] at T'
     exact q _ H' sm ⟨p, bs', rfl, T'⟩
theorem d8k {f : Addr} {fd : FuncData} (F : Fun K "copied" "copied" b9c f fd) (m : mg "copied" = some (.ref f)) (B : Bl mg)  : Def P w K mg base CX0 "copied" 1 ["shape"] (b9t K) := by
 refine ⟨f, fd, F.ok c8q (fun vs H Q E h => ?_) (fun cdv A outer s H vs Q E hr h => ?_), F.binds (ps := ["shape"]) fun _ _ _ _ _ _ us hl => (by obtain ⟨b0, rfl⟩ := us1 hl; rfl), F.kp, m⟩
 · obtain ⟨v, n, o, rfl, _⟩ := h
   rfl
 obtain ⟨v, n, o, rfl, hV, hn, q⟩ := h
 refine ⟨_, (@a0f _ _ _ _ _ (a1d (a0m a3c (pv 0) a0w (a0s _)) (a0h (a0l a0w)) a0o)
  (a0h (a0l (a5w (a1c.of c8q.nd (by rfl)) rfl (a2k (K := K) rfl (pv 0)) (fun _ _ _ => a7x) (fun _ _ _ => (a9v (a7j (K := K) rfl) (by rfl) B.list (by decide +kernel) (a0a (pv 0) a0b))))))), ?_⟩
 refine a0c fun U hU => ?_
 cases o with
 | none =>
  cases hV
  refine ⟨_, rfl, rfl, _, rfl, ?_⟩
  refine a3h ?_
  exact q _ _ (a1i.refl H) rfl
 | some c =>
  obtain ⟨tb, bs, rfl, T⟩ := hV
  refine ⟨_, rfl, rfl, _, rfl, ?_⟩
  refine a2c ?_
  show U _ _
  subst hU
  have hL : (bs.map V.ref).length = 2 * n := by rw [List.length_map, T.lenN]
  refine ⟨_, rfl, tb, rfl, ⟨_, SqL.of T.at_⟩, fun kp hkp => a3v (K := K) (a := tb) (xs := bs.map V.ref) (fun i zs H' => b8j H H' kp zs (Oct.c2z i (2 * n) c)) (b8j.start hkp) (fun i ys H' _ G => G.same.seq (SqL.of T.at_)) ?_ ?_⟩
  · rintro i x zs H' hx G
    have T' := T.same G.same
    obtain ⟨hi, d, rfl, ed, hd⟩ := T'.rowN hx
    simp only [d4s, ↓reduceIte]
    refine ⟨_, rfl, d, _, rfl, .inl (SqL.of hd), fun l hl => ?_⟩
    have st := G.step hl (a0i hl (.lst ((Oct.ln (2 * n) (c i)).map eV))) a0g
    have hlt : i < (bs.map V.ref).length := (List.getElem?_eq_some_iff.mp hx).1
    refine ⟨st.1, by rw [G.len, Oct.a4k]; exact a0y (by omega), a2j hlt ?_⟩
    rw [Oct.a6d]
    exact st.2
  · rintro zs H1 ⟨bs1, rfl, T1, sm1⟩
    rw [hL] at T1
    exact q _ _ sm1 ⟨kp, bs1, rfl, T1⟩
theorem c4p {f : Addr} {fd : FuncData} (F : Fun K "joined_row" "joined_row" a8o f fd) (m : mg "joined_row" = some (.ref f)) (B : Bl mg) (d6f : Def P w K mg base CX0 "greater" 1 ["one", "other"] (c2k K)) : Def P w K mg base CX0 "joined_row" 2 ["row", "other_row"] (b4r K) := by
 refine ⟨f, fd, F.ok b4t (fun vs H Q E h => ?_) (fun cdv A outer s H vs Q E hr h => ?_), F.binds (ps := ["row", "other_row"]) fun _ _ _ _ _ _ us hl => (by obtain ⟨b0, b1, rfl⟩ := us2 hl; rfl), F.kp, m⟩
 · obtain ⟨a, b, N, r, o, rfl, _⟩ := h
   rfl
 obtain ⟨a, b, N, r, o, rfl, hA, hB, hN, q⟩ := h
 refine ⟨_, (a0h (a0l (b1x (K := K) rfl (a1o.of (M := ["row", "other_row"]) b4t.nd (by rfl)) rfl (c3a (K := K) rfl (by rfl) B.zip (a0a (pv 0) (a0a (pv 1) a0b))) (fun _ _ _ => (a0q d6f hr (a0a (pv 0) (a0a (pv 1) a0b))))))), ?_⟩
 refine ⟨_, rfl, _, rfl, a, b, rfl, ⟨_, hA⟩, ⟨_, hB⟩, fun p hp => b5p (K := K) (a := a) (b := b) (xs := (Oct.ln N r).map eV) (zs := (Oct.ln N o).map eV) (by rw [a2y, a2y]) (fun i ys H' => ys = (Oct.ln i fun g => d1l (r g) (o g)).map eV /\ H' p = some (.lst ys) /\ a1i H H') ⟨rfl, a0g, a0i hp _⟩ (fun i ys H' _ ⟨_, _, sm⟩ => ⟨sm.seq hA, sm.seq hB⟩) ?_ ?_⟩
 · rintro i x z ys H' H1 hx hz ⟨rfl, hp', sm⟩ sm1
   obtain ⟨hi, rfl⟩ := b2i hx
   obtain ⟨_, rfl⟩ := b2i hz
   refine ⟨_, rfl, _, rfl, r i, o i, rfl, sm1 _ _ hp', by rw [a2y]; exact a0y (by omega), ?_⟩
   rw [a2y]
   exact a2j hi ⟨b2w i (fun g => d1l (r g) (o g)), a0g, a0z hp (sm.trans sm1)⟩
 · rintro ys H' ⟨rfl, hp', sm⟩
   rw [a2y] at hp'
   exact q p H' hp sm hp'
theorem d9y {f : Addr} {fd : FuncData} (F : Fun K "cases" "cases" c4m f fd) (m : mg "cases" = some (.ref f)) (B : Bl mg) (a7p : Def P w K mg base CX0 "most_side" 1 ["question", "number"] (b1l K)) (b1p : Def P w K mg base CX0 "least_side" 2 ["question", "number"] (b6i K)) : Def P w K mg base CX0 "cases" 3 ["question"] (c4l K) := by
 refine ⟨f, fd, F.ok c3j (fun vs H Q E h => ?_) (fun cdv A outer s H vs Q E hr h => ?_), F.binds (ps := ["question"]) fun _ _ _ _ _ _ us hl => (by obtain ⟨b0, rfl⟩ := us1 hl; rfl), F.kp, m⟩
 · obtain ⟨b, f1, g1, w1, c1, rfl, _⟩ := h
   rfl
 obtain ⟨b, f1, g1, w1, c1, rfl, hQ, q⟩ := h
 refine ⟨_, (@a0f _ _ _ _ _ (a1h 1 c3j.nd (a1n (K := K) (pv 0) a0d))
  (@a0f _ _ _ _ _ (a1h 2 c3j.nd (a1n (K := K) (pv 0) a0d))
  (@a0f _ _ _ _ _ (a1d (a0m a3n (pv 1) a4r (a0s _)) (a0h (a0l (a2n (a4d (a2n (a0u (a0q a7p hr (a0a (pv 0) (a0a (pv 2) a0b))) a0b)) a0b)))) a0o)
  (@a0f _ _ _ _ _ (a1d (a0m a3n (pv 1) a4r (a0s _)) (a0h (a0l (a2n (a4d (a2n (a0u (a0q b1p hr (a0a (pv 0) (a0a (pv 2) a0b))) a0b)) a0b)))) a0o)
  (@a0f _ _ _ _ _ (a1d (a0m a3n (pv 1) a4r (a0s _)) (a0h (a0l (a2n (a4d (a2n (a0u (a0q a7p hr (a0a (pv 0) (a0a (pv 2) a0b))) (a0u (a0q b1p hr (a0a (pv 0) (a0a (pv 2) a0b))) a0b))) a0b)))) a0o)
  (a0h (a0l (a2n (a4d (a2n (a0u (a0q a7p hr (a0a (pv 0) (a0x (a0p b1b (pv 2) a0d) a0b))) a0b)) (a4d (a2n (a0u (a0q b1p hr (a0a (pv 0) (a0x (a0p a2d (pv 2) a0d) a0b))) a0b)) a0b)))))))))), ?_⟩
 have hB : SqT K H b [.int (f1 : Nat), gN g1, .str w1, .int c1] := SqT.of hQ
 have one : ∀ (sa : Addr) (s : Sdn) (H1 : Hp), a1i H H1 -> H1 sa = some (.tup (e1f s)) -> ∀ q1, H1 q1 = none -> ∀ p, upd H1 q1 (.lst [.ref sa]) p = none -> a6t f1 g1 w1 c1 = [[s]] -> Q (.ref p) (upd (upd H1 q1 (.lst [.ref sa])) p (.lst [.ref q1])) := fun sa s H1 sm1 e1 q1 hq1 p hp ec => by
  have s1 := a0i hq1 (.lst [.ref sa])
  have s2 := a0i hp (.lst [.ref q1])
  refine q p _ _ (sm1.trans (s1.trans s2)) a0g ?_
  rw [ec]
  exact .cons ⟨q1, _, rfl, s2 _ _ a0g, .cons ⟨sa, rfl, (s1.trans s2) _ _ e1⟩ .nil⟩ .nil
 refine a0c fun U hU => ?_
 refine ⟨_, rfl, b, _, 2, _, rfl, rfl, hB, rfl, ?_⟩
 show U _ _
 subst hU
 refine a0c fun U hU => ?_
 refine ⟨_, rfl, b, _, 3, _, rfl, rfl, hB, rfl, ?_⟩
 show U _ _
 subst hU
 refine a0c fun U hU => ?_
 refine ⟨_, rfl, rfl, _, rfl, ?_⟩
 refine b2x (fun h1 => ?_) (fun h1 => ?_)
 · have e1 : w1 = wM := V.str.inj (of_decide_eq_true h1)
   exact ⟨_, rfl, _, rfl, b, f1, g1, w1, c1, c1, rfl, hQ, fun sa H1 sm1 e2 => ⟨sz 1, fun q1 hq1 => ⟨sz 1, fun p hp => one sa _ H1 sm1 e2 q1 hq1 p hp (by rw [a6t, if_pos e1])⟩⟩⟩
 have n1 : w1 ≠ wM := fun e => h1 (decide_eq_true (congrArg V.str e))
 show U _ _
 subst hU
 refine a0c fun U hU => ?_
 refine ⟨_, rfl, rfl, _, rfl, ?_⟩
 refine b2x (fun h2 => ?_) (fun h2 => ?_)
 · have e2 : w1 = wL := V.str.inj (of_decide_eq_true h2)
   exact ⟨_, rfl, _, rfl, b, f1, g1, w1, c1, c1, rfl, hQ, fun sa H1 sm1 e3 => ⟨sz 1, fun q1 hq1 => ⟨sz 1, fun p hp => one sa _ H1 sm1 e3 q1 hq1 p hp (by rw [a6t, if_neg n1, if_pos e2])⟩⟩⟩
 have n2 : w1 ≠ wL := fun e => h2 (decide_eq_true (congrArg V.str e))
 show U _ _
 subst hU
 refine a0c fun U hU => ?_
 refine ⟨_, rfl, rfl, _, rfl, ?_⟩
 refine b2x (fun h3 => ?_) (fun h3 => ?_)
 · have e3 : w1 = wS := V.str.inj (of_decide_eq_true h3)
   refine ⟨_, rfl, _, rfl, b, f1, g1, w1, c1, c1, rfl, hQ, fun sa H1 sm1 ea => ?_⟩
   refine ⟨_, rfl, _, rfl, b, f1, g1, w1, c1, c1, rfl, sm1 _ _ hQ, fun sb H2 sm2 eb => ⟨sz 2, fun q1 hq1 => ⟨sz 1, fun p hp => ?_⟩⟩⟩
   have s1 := a0i hq1 (.lst [.ref sa, .ref sb])
   have s2 := a0i hp (.lst [.ref q1])
   refine q p _ _ ((sm1.trans sm2).trans (s1.trans s2)) a0g ?_
   rw [a6t, if_neg n1, if_neg n2, if_pos e3]
   exact .cons ⟨q1, _, rfl, s2 _ _ a0g, .cons ⟨sa, rfl, (s1.trans s2) _ _ (sm2 _ _ ea)⟩ (.cons ⟨sb, rfl, (s1.trans s2) _ _ eb⟩ .nil)⟩ .nil
 have n3 : w1 ≠ wS := fun e => h3 (decide_eq_true (congrArg V.str e))
 show U _ _
 subst hU
 refine ⟨_, rfl, _, rfl, _, _, rfl, rfl, b, f1, g1, w1, c1, c1 - 1, rfl, hQ, fun sa H1 sm1 ea => ⟨sz 1, fun q1 hq1 => ?_⟩⟩
 have s1 := a0i hq1 (.lst [.ref sa])
 have eq1 : upd H1 q1 (.lst [.ref sa]) q1 = some (.lst [.ref sa]) := a0g
 generalize upd H1 q1 (.lst [.ref sa]) = H1' at *
 refine ⟨_, rfl, _, rfl, _, _, rfl, rfl, b, f1, g1, w1, c1, c1 + 1, rfl, (sm1.trans s1) _ _ hQ, fun sb H2 sm2 eb => ⟨sz 1, fun q2 hq2 => ⟨sz 2, fun p hp => ?_⟩⟩⟩
 have s2 := a0i hq2 (.lst [.ref sb])
 have s3 := a0i hp (.lst [.ref q1, .ref q2])
 refine q p _ _ (((sm1.trans s1).trans sm2).trans (s2.trans s3)) a0g ?_
 rw [a6t, if_neg n1, if_neg n2, if_neg n3]
 exact .cons ⟨q1, _, rfl, (s2.trans s3) _ _ (sm2 _ _ eq1), .cons ⟨sa, rfl, (s2.trans s3) _ _ (sm2 _ _ (s1 _ _ ea))⟩ .nil⟩ (.cons ⟨q2, _, rfl, s3 _ _ a0g, .cons ⟨sb, rfl, (s2.trans s3) _ _ eb⟩ .nil⟩ .nil)
theorem c6a {f : Addr} {fd : FuncData} (F : Fun K "most_side" "most_side" a9x f fd) (m : mg "most_side" = some (.ref f)) (B : Bl mg)  : Def P w K mg base CX0 "most_side" 1 ["question", "number"] (b1l K) := by
 refine ⟨f, fd, F.ok c8d (fun vs H Q E h => ?_) (fun cdv A outer s H vs Q E hr h => ?_), F.binds (ps := ["question", "number"]) fun _ _ _ _ _ _ us hl => (by obtain ⟨b0, b1, rfl⟩ := us2 hl; rfl), F.kp, m⟩
 · obtain ⟨b, f1, g1, w1, c1, m1, rfl, _⟩ := h
   rfl
 obtain ⟨b, f1, g1, w1, c1, m1, rfl, hQ, q⟩ := h
 refine ⟨_, (@a0f _ _ _ _ _ (a1d (a0m a3c (a1n (K := K) (pv 0) a0d) a0w (a0s _)) (a0h (a0l (a2x (a0e (a1n (K := K) (pv 0) a0d) (a0e (a1n (K := K) (pv 0) a0d) (a0x (a0p a1w a0d (pv 1)) a0b)))))) a0o)
  (a0h (a0l (a2x (a0e (a1n (K := K) (pv 0) a0d) (a0e (a1n (K := K) (pv 0) a0d) (a0a (pv 1) a0b))))))), ?_⟩
 have hB : SqT K H b [.int (f1 : Nat), gN g1, .str w1, .int c1] := SqT.of hQ
 refine a0c fun U hU => ?_
 refine ⟨_, rfl, b, _, 1, _, rfl, rfl, hB, rfl, rfl, _, rfl, ?_⟩
 cases g1 with
 | none =>
  refine a3h ?_
  exact ⟨_, rfl, b, _, 0, _, rfl, rfl, hB, rfl, _, rfl, b, _, 0, _, rfl, rfl, hB, rfl, _, rfl, _, _, rfl, rfl, .inl ⟨by decide, by decide⟩, sz 3, fun p hp => q p _ (a0i hp _) a0g⟩
 | some g =>
  refine a2c ?_
  show U _ _
  subst hU
  exact ⟨_, rfl, b, _, 0, _, rfl, rfl, hB, rfl, _, rfl, b, _, 1, _, rfl, rfl, hB, rfl, _, rfl, sz 3, fun p hp => q p _ (a0i hp _) a0g⟩
theorem c4o {f : Addr} {fd : FuncData} (F : Fun K "least_side" "least_side" a8n f fd) (m : mg "least_side" = some (.ref f)) (B : Bl mg) (a7p : Def P w K mg base CX0 "most_side" 1 ["question", "number"] (b1l K)) (a1e : Def P w K mg base CX0 "flipped" 1 ["f"] (a2r K)) : Def P w K mg base CX0 "least_side" 2 ["question", "number"] (b6i K) := by
 refine ⟨f, fd, F.ok b5s (fun vs H Q E h => ?_) (fun cdv A outer s H vs Q E hr h => ?_), F.binds (ps := ["question", "number"]) fun _ _ _ _ _ _ us hl => (by obtain ⟨b0, b1, rfl⟩ := us2 hl; rfl), F.kp, m⟩
 · obtain ⟨b, f1, g1, w1, c1, m1, rfl, _⟩ := h
   rfl
 obtain ⟨b, f1, g1, w1, c1, m1, rfl, hQ, q⟩ := h
 refine ⟨_, (@a0f _ _ _ _ _ (a1h 2 b5s.nd (a0q a7p hr (a0a (pv 0) (a0a (pv 1) a0b))))
  (a0h (a0l (a2x (a0u (a0q a1e hr (a0e (a1n (K := K) (pv 2) a0d) a0b)) (a0u (a0q a1e hr (a0e (a1n (K := K) (pv 2) a0d) a0b)) (b2t (c2y b5t (a1n (K := K) (pv 2) a0d)) a0b))))))), ?_⟩
 refine a0c fun U hU => ?_
 refine ⟨_, rfl, _, rfl, b, f1, g1, w1, c1, m1, rfl, hQ, fun m H1 sm1 e1 => ?_⟩
 show U _ _
 subst hU
 have hM : SqT K H1 m [.int ((b4d f1 g1 m1).1 : Nat), .int ((b4d f1 g1 m1).2.1 : Nat), .int (b4d f1 g1 m1).2.2] := SqT.of e1
 refine ⟨_, rfl, m, _, 0, _, rfl, rfl, hM, rfl, _, rfl, _, rfl, m, _, 1, _, rfl, rfl, hM, rfl, _, rfl, _, rfl, m, _, 2, _, rfl, rfl, hM, rfl, _, rfl, sz 3, fun p hp => q p _ (sm1.trans (a0i hp _)) ?_⟩
 rw [a0g, a2w, a2w]
 rfl
theorem d0e {f : Addr} {fd : FuncData} (F : Fun K "image" "Go.image" b2m f fd) (B : Bl mg) (b9f : Def P w K mg base CX0 "copied" 1 ["shape"] (b9t K)) : b3s P w K mg base CX0 2 ["self", "shape"] (b0s K) f := by
 refine ⟨fd, F.ok c9l (fun vs H Q E h => ?_) (fun cdv A outer s H vs Q E hr h => ?_), F.binds (ps := ["self", "shape"]) fun _ _ _ _ _ _ us hl => (by obtain ⟨b0, b1, rfl⟩ := us2 hl; rfl)⟩
 · obtain ⟨x, v, n, o, rfl, _⟩ := h
   rfl
 obtain ⟨x, v, n, o, rfl, hV, hn, q⟩ := h
 refine ⟨_, (a0h (a0l (a0q b9f hr (a0a (pv 1) a0b)))), ?_⟩
 exact ⟨_, rfl, v, n, o, rfl, hV, hn, q⟩
theorem c7i {f : Addr} {fd : FuncData} (F : Fun K "source" "Go.source" b0i f fd) (B : Bl mg) (a3j : Def P w K mg base CX0 "with_any_number" 1 ["point"] (a4a K)) (a5q : Def P w K mg base CX0 "reaching" 11 ["shape", "forms", "number"] (a7t K)) : b3s P w K mg base CX0 12 ["self", "shape", "f", "g", "number"] (a8e K Z_Go Z_Keep Z_Put Z_Ask) f := by
 refine ⟨fd, F.ok c7x (fun vs H Q E h => ?_) (fun cdv A outer s H vs Q E hr h => ?_), F.binds (ps := ["self", "shape", "f", "g", "number"]) fun _ _ _ _ _ _ us hl => (by obtain ⟨b0, b1, b2, b3, b4, rfl⟩ := us5 hl; rfl)⟩
 · obtain ⟨D, d, v, n, o, f, g, m1, rfl, _⟩ := h
   rfl
 obtain ⟨D, d, v, n, o, f, g, m1, rfl, hP, hD, hI, hV, hS, hf, hg, n6, q⟩ := h
 refine ⟨_, (a0h (a0l (a0q a3j hr (a0u (a0q a5q hr (a0a (pv 1) (a4d (a2n (a0a (pv 2) (a0a (pv 3) a0b))) (a0a (pv 4) a0b)))) a0b)))), ?_⟩
 subst hP
 refine ⟨_, rfl, _, rfl, _, rfl, sz 2, fun l hl => ?_⟩
 have sl := a0i hl (.lst [.int (f : Nat), .int (g : Nat)])
 refine ⟨_, rfl, v, l, n, o, [f, g], m1, rfl, hV.same sl, hS, SqL.of a0g, d6p hf hg, (by decide : 2 <= 3), by omega, fun e H' sm => ?_, fun c e hb H' sm => ?_, fun c e hb a1j p H' ln li ht sm hp ep => ?_⟩
 · subst e
   exact ⟨.non, rfl, .inl ⟨rfl, q.1 _ (sl.trans sm) fun t e => by cases e⟩⟩
 · subst e
   exact ⟨.non, rfl, .inl ⟨rfl, q.1 _ (sl.trans sm) fun t e => by cases e; exact hb⟩⟩
 · subst e
   refine ⟨.ref p, rfl, .inr ⟨p, rfl, fun r H2 sm2 er => ?_⟩⟩
   exact q.2 r p a1j a1j 0 H2 ((sl.trans sm).trans sm2) er (sm2 _ _ ep) ln li rfl (by rw [← c9j]; exact ht)
theorem c8s {f : Addr} {fd : FuncData} (F : Fun K "__init__" "Keep.__init__" b0a f fd) (B : Bl mg)  : b3s P w K mg base CX0 1 ["self", "question"] (b8d K Z_Keep) f := by
 refine ⟨fd, F.ok c7y (fun vs H Q E h => ?_) (fun cdv A outer s H vs Q E hr h => ?_), F.binds (ps := ["self", "question"]) fun _ _ _ _ _ _ us hl => (by obtain ⟨b0, b1, rfl⟩ := us2 hl; rfl)⟩
 · obtain ⟨x, dx, v, rfl, _⟩ := h
   rfl
 obtain ⟨x, dx, v, rfl, hx, q⟩ := h
 refine ⟨_, (a0h (b7b (K := K) rfl (pv 0) (pv 1))), ?_⟩
 exact ⟨_, rfl, _, rfl, x, Z_Keep, dx, [], rfl, hx, T.cl_Keep, T.n_Keep_question, (by decide), q⟩
theorem c3b {f : Addr} {fd : FuncData} (F : Fun K "image" "Keep.image" a8d f fd) (B : Bl mg) (c9v : Def P w K mg base CX0 "cases" 3 ["question"] (c4l K)) (e6b : Def P w K mg base CX0 "join" 3 ["one", "other"] (d8x K)) (a2l : Def P w K mg base CX0 "held_by_all" 6 ["shape", "sides"] (a3w K)) : b3s P w K mg base CX0 7 ["self", "shape"] (a7c K Z_Keep) f := by
 refine ⟨fd, F.ok a7b (fun vs H Q E h => ?_) (fun cdv A outer s H vs Q E hr h => ?_), F.binds (ps := ["self", "shape"]) fun _ _ _ _ _ _ us hl => (by obtain ⟨b0, b1, rfl⟩ := us2 hl; rfl)⟩
 · obtain ⟨x, dx, qa, v, n, o, f1, g1, w1, c1, rfl, _⟩ := h
   rfl
 obtain ⟨x, dx, qa, v, n, o, f1, g1, w1, c1, rfl, hx, hq, hV, hS, hin, hn, q⟩ := h
 refine ⟨_, (@a0f _ _ _ _ _ (a1h 2 a7b.nd a0w)
  (@a0f _ _ _ _ _ (a5n PassesOwn.never rfl (a2k (K := K) rfl (a0q c9v hr (a2i (a6o (K := K) rfl (pv 0)) a0b))) (a9k 3 a7b.nd) (a0h (a1h 2 a7b.nd (a0q e6b hr (a0a (pv 2) (a0u (a0q a2l hr (a0a (pv 1) (a0a (pv 3) a0b))) a0b))))))
  (a0h (a0l (pv 2))))), ?_⟩
 have ci := b5o (w := w1) (c := c1) hin
 refine a0c fun U hU => ?_
 show U _ _
 subst hU
 refine a0c fun U hU => ?_
 refine ⟨_, rfl, x, Z_Keep, dx, _, _, rfl, hx, T.cl_Keep, T.n_Keep_question, lkK _, qa, f1, g1, w1, c1, rfl, hq, fun cp ys H1 sm1 ecp PC => ?_⟩
 refine ⟨cp, rfl, ⟨_, SqL.of ecp⟩, a7i (K := K) (a := cp) (xs := ys) (fun i σ H' => ∃ u y, σ = [some (.ref x), some v, some u, y] /\ a1i H1 H' /\ a2b H H' u (2 * n) (e1s n o none ((a6t f1 g1 w1 c1).take i))) ⟨.non, none, rfl, a1i.refl _, rfl⟩ (fun i σ H' _ ⟨_, _, _, sm, _⟩ => SqL.of (sm _ _ ecp)) ?_ ?_⟩
 · rintro i y σ H2 hy ⟨u, y0, rfl, sm2, hu⟩
   obtain ⟨ss, es, ca, yc, rfl, hca, Pc⟩ := a2s PC hy
   have s12 := sm1.trans sm2
   refine ⟨_, rfl, _, rfl, _, rfl, v, ca, n, o, yc, ss, rfl, hV.same s12, ?_, SqL.of (sm2 _ _ hca), a1v sm2 Pc, ci ss (List.mem_of_getElem? es), hn, fun w3 H3 sm3 N3 => ?_⟩
   · cases o with
     | none => trivial
     | some c => exact b2l hS
   refine ⟨u, w3, n, _, _, rfl, hu.at.same sm3, N3.at, hn, fun w4 H4 sm4 N4 => ?_⟩
   refine ⟨_, _, rfl, (sm2.trans sm3).trans sm4, ?_⟩
   rw [a2g es, d8n]
   exact a2b.of ((s12).trans sm3) N4
 · rintro σ H2 ⟨u, y0, rfl, sm2, hu⟩
   show U _ _
   subst hU
   rw [a2q PC, List.take_length] at hu
   exact ⟨_, rfl, q u H2 (sm1.trans sm2) hu⟩
theorem c1m {f : Addr} {fd : FuncData} (F : Fun K "source" "Keep.source" a7h f fd) (B : Bl mg) (c9v : Def P w K mg base CX0 "cases" 3 ["question"] (c4l K)) (a5q : Def P w K mg base CX0 "reaching" 11 ["shape", "forms", "number"] (a7t K)) (a2l : Def P w K mg base CX0 "held_by_all" 6 ["shape", "sides"] (a3w K)) (a3j : Def P w K mg base CX0 "with_any_number" 1 ["point"] (a4a K)) : b3s P w K mg base CX0 12 ["self", "shape", "f", "g", "number"] (a6a K Z_Go Z_Keep Z_Put Z_Ask) f := by
 refine ⟨fd, F.ok a9j (fun vs H Q E h => ?_) (fun cdv A outer s H vs Q E hr h => ?_), F.binds (ps := ["self", "shape", "f", "g", "number"]) fun _ _ _ _ _ _ us hl => (by obtain ⟨b0, b1, b2, b3, b4, rfl⟩ := us5 hl; rfl)⟩
 · obtain ⟨D, d, v, n, o, f, g, m1, rfl, _⟩ := h
   rfl
 obtain ⟨D, d, v, n, o, f, g, m1, rfl, hP, hD, hI, hV, hS, hf, hg, n6, q⟩ := h
 refine ⟨_, (@a0f _ _ _ _ _ (a5n PassesOwn.never rfl (a2k (K := K) rfl (a0q c9v hr (a2i (a6o (K := K) rfl (pv 0)) a0b))) (a9k 5 a9j.nd) (@a0f _ _ _ _ _ (a1h 6 a9j.nd (a0q a5q hr (a0u (a0q a2l hr (a0a (pv 1) (a0a (pv 5) a0b))) (a4d (a2n (a0a (pv 2) (a0a (pv 3) a0b))) (a0a (pv 4) a0b)))))
  (a0h (a1d (a0m a3l (pv 6) a0w (a0s _)) (a0h (a0l (a0q a3j hr (a0a (pv 6) a0b)))) a0o))))
  (a0h (a0l a0w))), ?_⟩
 obtain ⟨f1, g1, w1, c1, rfl⟩ := hP
 obtain ⟨x, dx, qa, rfl, hx, hqa⟩ := hD
 have hin := d2e hI.1 hI.2.1
 have hq := d7s hqa hI.1 hI.2.1
 have ci := b5o (w := w1) (c := c1) hin
 refine a0c fun U hU => ?_
 refine ⟨_, rfl, x, Z_Keep, dx, _, _, rfl, hx, T.cl_Keep, T.n_Keep_question, lkK _, qa, _, _, w1, c1, rfl, hq, fun cp ys H1 sm1 ecp PC => ?_⟩
 refine ⟨cp, rfl, ⟨_, SqL.of ecp⟩, a7i (K := K) (a := cp) (xs := ys) (fun i σ H' => ∃ y z, σ = [some (.ref x), some v, some (.int f), some (.int g), some (.int m1), y, z] /\ a1i H1 H' /\ ∀ l ∈ (a6t f1.toNat (g1.map Int.toNat) w1 c1).take i, d8b (a8a (2 * n) o l) f g m1) ⟨none, none, rfl, a1i.refl _, fun l hl => by simp at hl⟩ (fun i σ H' _ ⟨_, _, _, sm, _⟩ => SqL.of (sm _ _ ecp)) ?_ ?_⟩
 · rintro i y σ H2 hy ⟨y0, z0, rfl, sm2, hB⟩
   obtain ⟨ss, es, ca, yc, rfl, hca, Pc⟩ := a2s PC hy
   have s12 := sm1.trans sm2
   have iss := ci ss (List.mem_of_getElem? es)
   have S3 := c7w hS iss
   refine a0c fun U2 hU2 => ?_
   refine ⟨_, rfl, _, rfl, v, ca, n, o, yc, ss, rfl, hV.same s12, ?_, SqL.of (sm2 _ _ hca), a1v sm2 Pc, iss, by omega, fun w3 H3 sm3 N3 => ?_⟩
   · cases o with
     | none => trivial
     | some c => exact b2l hS
   refine ⟨_, rfl, _, rfl, sz 2, fun l hl => ?_⟩
   have sl := a0i hl (.lst [.int (f : Nat), .int (g : Nat)])
   have A3 := N3.at.same sl
   have s24 := sm3.trans sl
   have none' : ∀ H4, a1i (upd H3 l (.lst [.int (f : Nat), .int (g : Nat)])) H4 -> d8b (a8a (2 * n) o ss) f g m1 -> U2 [some (.ref x), some v, some (.int f), some (.int g), some (.int m1), some (.ref ca), some .non] H4 := by
    intro H4 sm4 hb
    subst hU2
    refine ⟨_, rfl, rfl, _, rfl, ?_⟩
    refine a2c ?_
    refine ⟨_, _, rfl, (sm2.trans s24).trans sm4, fun l2 hl2 => ?_⟩
    rw [a2g es] at hl2
    rcases List.mem_append.mp hl2 with z | z
    · exact hB l2 z
    · rw [List.mem_singleton.mp z]; exact hb
   refine ⟨_, rfl, w3, l, n, a8a (2 * n) o ss, [f, g], m1, rfl, A3, S3, SqL.of a0g, d6p hf hg, (by decide : 2 <= 3), by omega, fun e H' sm => ?_, fun c e hb H' sm => ?_, fun c e hb a1j p H' ln li ht sm hp ep => ?_⟩
   · exact none' H' sm fun t e2 => by rw [e] at e2; cases e2
   · exact none' H' sm fun t e2 => by rw [e] at e2; cases e2; exact hb
   · show U2 _ _
     subst hU2
     refine ⟨_, rfl, rfl, _, rfl, ?_⟩
     refine a3h ?_
     refine ⟨_, rfl, .ref p, rfl, .inr ⟨p, rfl, fun r H5 sm5 er => ?_⟩⟩
     have pw := b4f a1j (2 * n)
     have l1 : b0h n (wN a1j) (a8a (2 * n) o ss) := by rw [e]; exact li
     cases o with
     | none => exact l1.elim
     | some c0 =>
      obtain ⟨l2, kp⟩ := (c7l hS iss pw).mp l1
      have hh := (c1a pw c1 hin hI.2.2).mp ⟨ss, List.mem_of_getElem? es, kp⟩
      rw [d8s hI.1 hI.2.1] at hh
      have hst : d3f a1j 0 (.keep f1 g1 w1 c1) = some a1j := by
       show (if a9d w1 (d9a a1j f1 g1) c1 = true then some a1j else none) = some a1j
       rw [if_pos hh]
      exact q.2 r p a1j a1j 0 H5 (((s12.trans s24).trans sm).trans sm5) er (sm5 _ _ ep) ln l2 hst (by rw [← c9j]; exact ht)
 · rintro σ H2 ⟨y0, z0, rfl, sm2, hB⟩
   show U _ _
   subst hU
   rw [a2q PC, List.take_length] at hB
   exact q.1 H2 (sm1.trans sm2) (d2w _ none (fun t e => by cases e) hB)
theorem c9s {f : Addr} {fd : FuncData} (F : Fun K "__init__" "Put.__init__" b2n f fd) (B : Bl mg)  : b3s P w K mg base CX0 1 ["self", "k", "amount"] (b9m K Z_Put) f := by
 refine ⟨fd, F.ok d1g (fun vs H Q E h => ?_) (fun cdv A outer s H vs Q E hr h => ?_), F.binds (ps := ["self", "k", "amount"]) fun _ _ _ _ _ _ us hl => (by obtain ⟨b0, b1, b2, rfl⟩ := us3 hl; rfl)⟩
 · obtain ⟨x, dx, v, u, rfl, _⟩ := h
   rfl
 obtain ⟨x, dx, v, u, rfl, hx, q⟩ := h
 refine ⟨_, (@a0f _ _ _ _ _ (b7b (K := K) rfl (pv 0) (pv 1))
  (a0h (b7b (K := K) rfl (pv 0) (pv 2)))), ?_⟩
 exact ⟨_, rfl, _, rfl, x, Z_Put, dx, [], rfl, hx, T.cl_Put, T.n_Put_k, (by decide), _, rfl, _, rfl, x, Z_Put, dx, _, rfl, a0g, T.cl_Put, T.n_Put_amount, (by show 1 < 1000; decide), q⟩
theorem c5u {f : Addr} {fd : FuncData} (F : Fun K "image" "Put.image" b0y f fd) (B : Bl mg) (e8j : Def P w K mg base CX0 "put" 6 ["shape", "k", "amount"] (e2f K)) : b3s P w K mg base CX0 7 ["self", "shape"] (a9b K Z_Put) f := by
 refine ⟨fd, F.ok c6j (fun vs H Q E h => ?_) (fun cdv A outer s H vs Q E hr h => ?_), F.binds (ps := ["self", "shape"]) fun _ _ _ _ _ _ us hl => (by obtain ⟨b0, b1, rfl⟩ := us2 hl; rfl)⟩
 · obtain ⟨x, dx, aa, v, n, k, o, f1, g1, c1, rfl, _⟩ := h
   rfl
 obtain ⟨x, dx, aa, v, n, k, o, f1, g1, c1, rfl, hx, hA, hV, hf, hg, hn, q⟩ := h
 refine ⟨_, (a0h (a0l (a0q e8j hr (a0a (pv 1) (a2i (a6o (K := K) rfl (pv 0)) (a2i (a6o (K := K) rfl (pv 0)) a0b)))))), ?_⟩
 exact ⟨_, rfl, _, rfl, x, Z_Put, dx, _, _, rfl, hx, T.cl_Put, T.n_Put_k, e9q _ _, _, rfl, x, Z_Put, dx, _, _, rfl, hx, T.cl_Put, T.n_Put_amount, e9t _ _, v, aa, n, k, o, f1, g1, c1, rfl, hV, hA, hf, hg, hn, q⟩
theorem c4x {f : Addr} {fd : FuncData} (F : Fun K "source" "Put.source" a8i f fd) (B : Bl mg) (a3j : Def P w K mg base CX0 "with_any_number" 1 ["point"] (a4a K)) (b6x : Def P w K mg base CX0 "reaching_by_put" 12 ["shape", "k", "amount", "f", "g", "number"] (a9g K)) : b3s P w K mg base CX0 13 ["self", "shape", "f", "g", "number"] (a7e K Z_Go Z_Keep Z_Put Z_Ask) f := by
 refine ⟨fd, F.ok c4s (fun vs H Q E h => ?_) (fun cdv A outer s H vs Q E hr h => ?_), F.binds (ps := ["self", "shape", "f", "g", "number"]) fun _ _ _ _ _ _ us hl => (by obtain ⟨b0, b1, b2, b3, b4, rfl⟩ := us5 hl; rfl)⟩
 · obtain ⟨D, d, v, n, o, f, g, m1, rfl, _⟩ := h
   rfl
 obtain ⟨D, d, v, n, o, f, g, m1, rfl, hP, hD, hI, hV, hS, hf, hg, n6, q⟩ := h
 refine ⟨_, (a0h (a0l (a0q a3j hr (a0u (a0q b6x hr (a0a (pv 1) (a2i (a6o (K := K) rfl (pv 0)) (a2i (a6o (K := K) rfl (pv 0)) (a0a (pv 2) (a0a (pv 3) (a0a (pv 4) a0b))))))) a0b)))), ?_⟩
 obtain ⟨k, f1, g1, c1, rfl⟩ := hP
 obtain ⟨x, dx, aa, rfl, hx, haa⟩ := hD
 refine ⟨_, rfl, _, rfl, x, Z_Put, dx, _, _, rfl, hx, T.cl_Put, T.n_Put_k, e9q _ _, _, rfl, x, Z_Put, dx, _, _, rfl, hx, T.cl_Put, T.n_Put_amount, e9t _ _, _, rfl, _, rfl, _, rfl, v, aa, n, k, o, f1.map Int.toNat, g1.map Int.toNat, c1, f, g, m1, rfl, hV, hS, e1t haa hI.2.1 hI.2.2, b6f hI.2.1, b6f hI.2.2, hf, hg, n6, fun H' sm hb => ?_, fun a1j p H' ln li hm sm ep => ?_⟩
 · exact ⟨.non, rfl, .inl ⟨rfl, q.1 H' sm hb⟩⟩
 · refine ⟨.ref p, rfl, .inr ⟨p, rfl, fun r H2 sm2 er => ?_⟩⟩
   refine q.2 r p a1j (a1j.set k (e4z a1j f1 g1 c1)) 0 H2 (sm.trans sm2) er (sm2 _ _ ep) ln li rfl ?_
   rw [d3b ln hI.1, e4z, ← e1w hI.2.1 hI.2.2]
   exact hm
theorem d0i {f : Addr} {fd : FuncData} (F : Fun K "__init__" "Ask.__init__" b3b f fd) (B : Bl mg)  : b3s P w K mg base CX0 1 ["self", "k", "low", "high"] (b9r K Z_Ask) f := by
 refine ⟨fd, F.ok d0o (fun vs H Q E h => ?_) (fun cdv A outer s H vs Q E hr h => ?_), F.binds (ps := ["self", "k", "low", "high"]) fun _ _ _ _ _ _ us hl => (by obtain ⟨b0, b1, b2, b3, rfl⟩ := us4 hl; rfl)⟩
 · obtain ⟨x, dx, v, u, t, rfl, _⟩ := h
   rfl
 obtain ⟨x, dx, v, u, t, rfl, hx, q⟩ := h
 refine ⟨_, (@a0f _ _ _ _ _ (b7b (K := K) rfl (pv 0) (pv 1))
  (@a0f _ _ _ _ _ (b7b (K := K) rfl (pv 0) (pv 2))
  (a0h (b7b (K := K) rfl (pv 0) (pv 3))))), ?_⟩
 exact ⟨_, rfl, _, rfl, x, Z_Ask, dx, [], rfl, hx, T.cl_Ask, T.n_Ask_k, (by decide), _, rfl, _, rfl, x, Z_Ask, dx, _, rfl, a0g, T.cl_Ask, T.n_Ask_low, (by show 1 < 1000; decide), _, rfl, _, rfl, x, Z_Ask, dx, _, rfl, a0g, T.cl_Ask, T.n_Ask_high, (by rw [e3l]; decide), q⟩
theorem c6x {f : Addr} {fd : FuncData} (F : Fun K "image" "Ask.image" b0l f fd) (B : Bl mg) (e3v : Def P w K mg base CX0 "asked" 8 ["shape", "k", "low", "high"] (d2t K)) : b3s P w K mg base CX0 9 ["self", "shape"] (a9h K Z_Ask) f := by
 refine ⟨fd, F.ok c8j (fun vs H Q E h => ?_) (fun cdv A outer s H vs Q E hr h => ?_), F.binds (ps := ["self", "shape"]) fun _ _ _ _ _ _ us hl => (by obtain ⟨b0, b1, rfl⟩ := us2 hl; rfl)⟩
 · obtain ⟨x, dx, v, n, k, lo, hi, o, rfl, _⟩ := h
   rfl
 obtain ⟨x, dx, v, n, k, lo, hi, o, rfl, hx, hV, hk, hn, q⟩ := h
 refine ⟨_, (a0h (a0l (a0q e3v hr (a0a (pv 1) (a2i (a6o (K := K) rfl (pv 0)) (a2i (a6o (K := K) rfl (pv 0)) (a2i (a6o (K := K) rfl (pv 0)) a0b))))))), ?_⟩
 exact ⟨_, rfl, _, rfl, x, Z_Ask, dx, _, _, rfl, hx, T.cl_Ask, T.n_Ask_k, e7u _ _ _, _, rfl, x, Z_Ask, dx, _, _, rfl, hx, T.cl_Ask, T.n_Ask_low, g0p _ _ _, _, rfl, x, Z_Ask, dx, _, _, rfl, hx, T.cl_Ask, T.n_Ask_high, g0l _ _ _, v, n, k, lo, hi, o, rfl, hV, hk, hn, q⟩
theorem c3h {f : Addr} {fd : FuncData} (F : Fun K "source" "Ask.source" a8g f fd) (B : Bl mg) (a5q : Def P w K mg base CX0 "reaching" 11 ["shape", "forms", "number"] (a7t K)) (c2f : b3s P w K mg base CX0 2 ["self", "shape"] (b0s K) y8) (b7z : b3s P w K mg base CX0 7 ["self", "shape"] (a7c K Z_Keep) y10) (b9q : b3s P w K mg base CX0 7 ["self", "shape"] (a9b K Z_Put) y13) (b4h : b3s P w K mg base CX0 9 ["self", "shape"] (a9h K Z_Ask) y3) (c5i : Def P w K mg base CX0 "with_number" 1 ["point", "k", "number"] (b3q K)) (d9i : Def P w K mg base CX0 "filled" 8 ["shape", "point", "k"] (c7z K)) : b3s P w K mg base CX0 12 ["self", "shape", "f", "g", "number"] (a7d K Z_Go Z_Keep Z_Put Z_Ask) f := by
 refine ⟨fd, F.ok b5c (fun vs H Q E h => ?_) (fun cdv A outer s H vs Q E hr h => ?_), F.binds (ps := ["self", "shape", "f", "g", "number"]) fun _ _ _ _ _ _ us hl => (by obtain ⟨b0, b1, b2, b3, b4, rfl⟩ := us5 hl; rfl)⟩
 · obtain ⟨D, d, v, n, o, f, g, m1, rfl, _⟩ := h
   rfl
 obtain ⟨D, d, v, n, o, f, g, m1, rfl, hP, hD, hI, hV, hS, hf, hg, n6, q⟩ := h
 refine ⟨_, (@a0f _ _ _ _ _ (a1h 5 b5c.nd (a0q a5q hr (a0u (a3g b4h T.cl_Ask T.me_Ask_image (pv 0) (hr.mono (by decide)) a6p (a0a (pv 1) a0b)) (a4d (a2n (a0a (pv 2) (a0a (pv 3) a0b))) (a0a (pv 4) a0b)))))
  (@a0f _ _ _ _ _ (a1d (a0m a3c (pv 5) a0w (a0s _)) (a0h (a0l a0w)) a0o)
  (a0h (a0l (a2x (a0u (a0q c5i hr (a0a (pv 5) (a2i (a6o (K := K) rfl (pv 0)) (a0u (a0q d9i hr (a0a (pv 1) (a0a (pv 5) (a2i (a6o (K := K) rfl (pv 0)) a0b)))) a0b)))) (a0e (a1n (K := K) (pv 5) (a6o (K := K) rfl (pv 0))) a0b))))))), ?_⟩
 obtain ⟨k, lo, hi, rfl⟩ := hP
 obtain ⟨x, dx, rfl, hx⟩ := hD
 have hk : k < n := hI.1
 have Si : b6n (2 * n) (e5a n k lo hi o) := d9d (D := .ask k lo hi) hS hI
 refine a0c fun U hU => ?_
 refine ⟨_, rfl, x, dx, _, rfl, hx, noA b6b _ _ _, _, rfl, x, dx, v, n, k, lo, hi, o, rfl, hx, hV, hk, n6, fun u H1 sm1 N1 => ?_⟩
 refine ⟨_, rfl, _, rfl, sz 2, fun l hl => ?_⟩
 have sl := a0i hl (.lst [.int (f : Nat), .int (g : Nat)])
 have s12 := sm1.trans sl
 have none' : ∀ H4, a1i (upd H1 l (.lst [.int (f : Nat), .int (g : Nat)])) H4 -> d8b (e5a n k lo hi o) f g m1 -> U [some (.ref x), some v, some (.int f), some (.int g), some (.int m1), some .non] H4 := by
  intro H4 sm4 hb
  subst hU
  refine a0c fun U hU => ?_
  refine ⟨_, rfl, rfl, _, rfl, ?_⟩
  refine a3h ?_
  exact q.1 H4 (s12.trans sm4) hb
 refine ⟨_, rfl, u, l, n, e5a n k lo hi o, [f, g], m1, rfl, N1.at.same sl, Si, SqL.of a0g, d6p hf hg, (by decide : 2 <= 3), by omega, fun e H' sm => ?_, fun c e hb H' sm => ?_, fun d e hb a1j p H' ln li ht sm hp ep => ?_⟩
 · exact none' H' sm fun t e2 => by rw [e] at e2; cases e2
 · exact none' H' sm fun t e2 => by rw [e] at e2; cases e2; exact hb
 · show U _ _
   subst hU
   have s13 := s12.trans sm
   cases o with
   | none => cases e
   | some c =>
    have S : Oct.Shp c (2 * n) := hS
    obtain ⟨b1, b2, z, lz⟩ := e1a S hk (b4f a1j _) e li
    rw [c5c] at b1 b2
    have lz' := (d2o ln hk).mpr lz
    have hkn : k < a1j.length := by omega
    refine a0c fun U hU => ?_
    refine ⟨_, rfl, rfl, _, rfl, ?_⟩
    refine a2c ?_
    show U _ _
    subst hU
    have hx3 := s13 _ _ hx
    refine ⟨_, rfl, _, rfl, x, Z_Ask, dx, _, _, rfl, hx3, T.cl_Ask, T.n_Ask_k, e7u _ _ _, _, rfl, _, rfl, _, rfl, x, Z_Ask, dx, _, _, rfl, hx3, T.cl_Ask, T.n_Ask_k, e7u _ _ _, v, p, n, k, some c, a1j, rfl, hV.same s13, hS, SqT.of ep, ln, hk, by omega, fun r H3 sm3 F3 => ?_⟩
    cases r with
    | none => exact absurd lz' (F3.2 rfl c rfl z)
    | some y =>
     obtain ⟨c', e', li2⟩ := F3.1 y rfl
     cases e'
     refine ⟨p, a1j, k, y, rfl, SqT.of (sm3 _ _ ep), hkn, by omega, fun pw H4 sm4 e4 => ?_⟩
     have s34 := sm3.trans sm4
     have ep4 := s34 _ _ ep
     refine ⟨_, rfl, _, rfl, x, Z_Ask, dx, _, _, rfl, s34 _ _ hx3, T.cl_Ask, T.n_Ask_k, e7u _ _ _, p, _, _, _, rfl, rfl, SqT.of ep4, e7f hkn, sz 2, fun t ht2 => ?_⟩
     have st := a0i ht2 (.tup [.ref pw, .int (a1j.getD k 0)])
     have hst : d3f (a1j.set k y) (a1j.getD k 0) (.ask k lo hi) = some a1j := by
      show some ((a1j.set k y).set k (b3t lo hi (a1j.getD k 0))) = some a1j
      rw [d9j b1 b2, c7g hkn]
     exact q.2 t pw (a1j.set k y) a1j (a1j.getD k 0) _ ((s13.trans s34).trans st) a0g (st _ _ e4) (by rw [List.length_set, ln]) li2 hst (by rw [← c9j]; exact ht)
theorem b5z {f : Addr} {fd : FuncData} (F : Fun K "with_any_number" "with_any_number" a4f f fd) (m : mg "with_any_number" = some (.ref f)) (B : Bl mg)  : Def P w K mg base CX0 "with_any_number" 1 ["point"] (a4a K) := by
 refine ⟨f, fd, F.ok b4x (fun vs H Q E h => ?_) (fun cdv A outer s H vs Q E hr h => ?_), F.binds (ps := ["point"]) fun _ _ _ _ _ _ us hl => (by obtain ⟨b0, rfl⟩ := us1 hl; rfl), F.kp, m⟩
 · obtain ⟨v, rfl, _⟩ := h
   rfl
 obtain ⟨v, rfl, q⟩ := h
 refine ⟨_, (@a0f _ _ _ _ _ (a1d (a0m a3c (pv 0) a0w (a0s _)) (a0h (a0l a0w)) a0o)
  (a0h (a0l (a2x (a0a (pv 0) (a0n a0d a0b)))))), ?_⟩
 rcases q with ⟨rfl, q⟩ | ⟨a, rfl, q⟩
 · refine a0c fun U hU => ?_
   refine ⟨_, rfl, rfl, _, rfl, ?_⟩
   refine a3h ?_
   exact q
 · refine a0c fun U hU => ?_
   refine ⟨_, rfl, rfl, _, rfl, ?_⟩
   refine a2c ?_
   show U _ _
   subst hU
   refine ⟨_, rfl, sz 2, fun p hp => ?_⟩
   exact q p _ (a0i hp _) a0g
theorem c3k {f : Addr} {fd : FuncData} (F : Fun K "_law_count" "_law_count" a8q f fd) (m : mg "_law_count" = some (.ref f)) (B : Bl mg)  : Def P w K mg base CX0 "_law_count" 1 ["_law_cell_here"] (b5l K) := by
 refine ⟨f, fd, F.ok c5k (fun vs H Q E h => ?_) (fun cdv A outer s H vs Q E hr h => ?_), F.binds (ps := ["_law_cell_here"]) fun _ _ _ _ _ _ us hl => (by obtain ⟨b0, rfl⟩ := us1 hl; rfl), F.kp, m⟩
 · obtain ⟨c, rfl, _⟩ := h
   rfl
 obtain ⟨c, rfl, q⟩ := h
 refine ⟨_, (@a0h _ _ _ (@d3r _ K _ [2, 1, 3, 2, 3, 2, 1] _ _ _ _ _ _ _ rfl (by rfl) (a0x (a0p a2d a0d (a0p a1y (a0p a1t (pv 0) a0d) a0d)) a0b) (a0p a1y (pv 0) a0d) (fun _ _ => rfl))), ?_⟩
 have m1 := Int.emod_nonneg (c / 8) (b := 3) (by omega)
 have m2 := Int.emod_lt_of_pos (c / 8) (b := 3) (by omega)
 obtain ⟨n, en, n1, n6⟩ := e6d c (z := 4 + c / 8 % 3) (by omega) (by omega)
 refine ⟨_, rfl, _, _, rfl, rfl, ⟨by decide, by decide⟩, _, _, rfl, rfl, (by show (0 : Int) < 3; decide), _, _, rfl, rfl, sz 8, fun l hl => ?_⟩
 refine ⟨_, rfl, _, _, rfl, rfl, (by show (0 : Int) < 8; decide), l, _, _, _, rfl, rfl, SqL.of a0g, en, ?_⟩
 exact q n _ (a0i hl _) n1 n6
theorem c7d {f : Addr} {fd : FuncData} (F : Fun K "_law_cell" "_law_cell" b0w f fd) (m : mg "_law_cell" = some (.ref f)) (B : Bl mg)  : Def P w K mg base CX0 "_law_cell" 1 ["_law_script", "_law_k"] (a4x K) := by
 refine ⟨f, fd, F.ok a8l (fun vs H Q E h => ?_) (fun cdv A outer s H vs Q E hr h => ?_), F.binds (ps := ["_law_script", "_law_k"]) fun _ _ _ _ _ _ us hl => (by obtain ⟨b0, b1, rfl⟩ := us2 hl; rfl), F.kp, m⟩
 · obtain ⟨a, ns, k, rfl, _⟩ := h
   rfl
 obtain ⟨a, ns, k, rfl, hS, h0, q⟩ := h
 refine ⟨_, (@a0f _ _ _ _ _ (a1d (a0m c4n (pv 1) (a1f (a1g (K := K) rfl) (by rfl) B.len (by decide +kernel) (a0a (pv 0) a0b)) (a0s _)) (a0h (a0l (a1b (K := K) (pv 0) (pv 1)))) a0o)
  (@a0f _ _ _ _ _ (a1h 2 a8l.nd (a0p a1w (pv 1) a0d))
  (@a0f _ _ _ _ _ (a1d (a0m e0l (a1f (a1g (K := K) rfl) (by rfl) B.len (by decide +kernel) (a0a (pv 0) a0b)) a0d (a0s _)) (a0h (a1h 2 a8l.nd (a0p a2d (pv 2) (a0p a1y (a1b (K := K) (pv 0) (a0p a1y (pv 1) (a1f (a1g (K := K) rfl) (by rfl) B.len (by decide +kernel) (a0a (pv 0) a0b)))) a0d)))) a0o)
  (@a0f _ _ _ _ _ (a1h 3 a8l.nd (a0p a1y (a0p a1w (pv 2) a0d) a0d))
  (a0h (a0l (a0p a1y (a0p a1t (a0p a1w (pv 3) (a0p a2d (a0p a2d (pv 3) (a0p a1w a0d (pv 1))) a0d)) a0d) a0d))))))), ?_⟩
 have hl : (ns.map V.int).length = ns.length := List.length_map _
 refine a0c fun U hU => ?_
 refine ⟨_, rfl, _, rfl, a, _, rfl, .inl hS, _, _, rfl, rfl, _, rfl, ?_⟩
 rw [hl]
 unfold c1p at q
 refine b2x (fun h => ?_) (fun h => ?_)
 · have c := of_decide_eq_true h
   rw [if_pos c] at q
   exact ⟨_, rfl, _, rfl, a, _, k, _, rfl, rfl, hS, c3x h0 c, q⟩
 have c := fun z => h (decide_eq_true z)
 rw [if_neg c] at q
 show U _ _
 subst hU
 refine a0c fun U hU => ?_
 refine ⟨_, rfl, _, _, rfl, rfl, .inr ⟨by decide, by decide⟩, ?_⟩
 show U _ _
 subst hU
 refine a0c fun U hU => ?_
 have last : ∀ sd : Int, Q (.int (e3s k sd)) H -> U [some (V.ref a), some (.int k), some (.int sd), none] H := fun sd q => by
  subst hU
  refine a0c fun U hU => ?_
  refine ⟨_, rfl, _, _, rfl, rfl, .inr ⟨by decide, by decide⟩, _, _, rfl, rfl, (by show (0 : Int) < 65537; decide), ?_⟩
  show U _ _
  dsimp only
  subst hU
  have m1 := Int.emod_nonneg (sd * 48271) (b := 65537) (by decide)
  have m2 := Int.emod_lt_of_pos (sd * 48271) (b := 65537) (by decide)
  unfold e3s at q
  generalize sd * 48271 % 65537 = t at *
  exact ⟨_, rfl, _, rfl, _, rfl, _, _, rfl, rfl, .inl ⟨by decide, by decide⟩, _, _, rfl, rfl, _, _, rfl, rfl, _, _, rfl, rfl, .inl ⟨by show -(2 ^ 64) < t; omega, by show t < 2 ^ 64; omega⟩, _, _, rfl, rfl, ⟨by decide, by decide⟩, _, _, rfl, rfl, (by show (0 : Int) < 65521; decide), q⟩
 refine ⟨_, rfl, a, _, rfl, .inl hS, _, _, rfl, rfl, _, rfl, ?_⟩
 rw [hl]
 refine b2x (fun d => ?_) (fun d => ?_)
 · have d' : 0 < ns.length := by have := of_decide_eq_true d; omega
   rw [if_pos d'] at q
   have m1 := Int.emod_nonneg k (b := (ns.length : Int)) (by omega)
   have m2 := Int.emod_lt_of_pos k (b := (ns.length : Int)) (by omega)
   refine ⟨_, rfl, _, rfl, _, rfl, _, rfl, a, _, rfl, .inl hS, _, _, rfl, rfl, (by show (0 : Int) < ((ns.map V.int).length : Int); rw [hl]; omega), a, _, _, _, rfl, rfl, hS, (by show atI _ (k % ((ns.map V.int).length : Int)) = _; rw [hl]; exact c3x m1 m2), _, _, rfl, rfl, (by show (0 : Int) < 65537; decide), _, _, rfl, rfl, ?_⟩
   exact last _ q
 · have d' : ¬ 0 < ns.length := fun z => d (decide_eq_true (by omega))
   rw [if_neg d'] at q
   exact last _ q
theorem c3s {f : Addr} {fd : FuncData} (F : Fun K "_law_whole" "_law_whole" a8w f fd) (m : mg "_law_whole" = some (.ref f)) (B : Bl mg)  : Def P w K mg base CX0 "_law_whole" 1 ["_law_found"] (a7a K) := by
 refine ⟨f, fd, F.ok c4f (fun vs H Q E h => ?_) (fun cdv A outer s H vs Q E hr h => ?_), F.binds (ps := ["_law_found"]) fun _ _ _ _ _ _ us hl => (by obtain ⟨b0, rfl⟩ := us1 hl; rfl), F.kp, m⟩
 · obtain ⟨i, rfl, _⟩ := h
   rfl
 obtain ⟨i, rfl, q⟩ := h
 refine ⟨_, (a0h (a0l (d4v (a1f (a7n (K := K) rfl) (by rfl) B.isinstance (by decide +kernel) (a0a (pv 0) (a0a (b6t (v := .ty "int") (u := .type "int") (by rfl) B.int (by decide +kernel) rfl) a0b))) (d6h (e6w (a1f (a7n (K := K) rfl) (by rfl) B.isinstance (by decide +kernel) (a0a (pv 0) (a0a (b6t (v := .ty "bool") (u := .type "bool") (by rfl) B.bool (by decide +kernel) rfl) a0b)))))))), ?_⟩
 refine ⟨_, rfl, true, c9c, true, rfl, ?_⟩
 refine a3h ?_
 exact ⟨_, rfl, false, c5s, false, rfl, q⟩
theorem c9q {f : Addr} {fd : FuncData} (F : Fun K "_law_big" "_law_big" b2r f fd) (m : mg "_law_big" = some (.ref f)) (B : Bl mg)  : Def P w K mg base CX0 "_law_big" 1 ["_law_cell_here"] (a5v K) := by
 refine ⟨f, fd, F.ok d0k (fun vs H Q E h => ?_) (fun cdv A outer s H vs Q E hr h => ?_), F.binds (ps := ["_law_cell_here"]) fun _ _ _ _ _ _ us hl => (by obtain ⟨b0, rfl⟩ := us1 hl; rfl), F.kp, m⟩
 · obtain ⟨c, rfl, _⟩ := h
   rfl
 obtain ⟨c, rfl, q⟩ := h
 refine ⟨_, (@a0f _ _ _ _ _ (a1d (a0m a3n (a0p a1y (pv 0) a0d) a0d (a0s _)) (a0h (a0l (a0p b1b (a0p a1y (a0p a1t (pv 0) a0d) (a0p a2d (a0p a1w a0d (a0p b7f a0d a0d)) a0d)) (a0p b7f a0d a0d)))) a0o)
  (a0h (a0l (a0p b1b (a0p a1y (a0p a1t (pv 0) a0d) a0d) a0d)))), ?_⟩
 simp [e7x, e3x, e8r, e5i, e2n, b5r, e3e, tOp, tUn, d4t, tC, rI, rI0, rU, rEq, rNe, e7t, L2.start, d6z, tCB, e7s, b8n, e9l, e7r, e9o, e9k, tOr, e3h, e9w, e4l, tIf, e3d, e8b, tB, e6f, e4y, tSl, e3r, d0n, d4s, e8l, e7z]
 unfold e2c at q
 split
 · rename_i d
   rw [if_pos d] at q
   exact q
 · rename_i d
   rw [if_neg d] at q
   exact q
theorem c2v {f : Addr} {fd : FuncData} (F : Fun K "_law_point" "_law_point" a8t f fd) (m : mg "_law_point" = some (.ref f)) (B : Bl mg) (a5o : Def P w K mg base CX0 "_law_big" 1 ["_law_cell_here"] (a5v K)) (a1u : Def P w K mg base CX0 "_law_cell" 1 ["_law_script", "_law_k"] (a4x K)) : Def P w K mg base CX0 "_law_point" 2 ["_law_script", "_law_at", "_law_count_here"] (b4q K) := by
 refine ⟨f, fd, F.ok b5b (fun vs H Q E h => ?_) (fun cdv A outer s H vs Q E hr h => ?_), F.binds (ps := ["_law_script", "_law_at", "_law_count_here"]) fun _ _ _ _ _ _ us hl => (by obtain ⟨b0, b1, b2, rfl⟩ := us3 hl; rfl), F.kp, m⟩
 · obtain ⟨a, ns, k, n, rfl, _⟩ := h
   rfl
 obtain ⟨a, ns, k, n, rfl, hS, h0, hn, q⟩ := h
 refine ⟨_, (a0h (a0l (a9v (b3p (K := K) rfl) (by rfl) B.tuple (by decide +kernel) (a2i (a5w (a1c.of b5b.nd (by rfl)) rfl (a3t (by rfl) B.range (a0a (pv 2) a0b)) (fun _ _ _ => a7x) (fun _ _ _ => (a0q a5o hr (a0u (a0q a1u hr (a0a (pv 1) (a0x (a0p a2d (pv 2) (pv 0)) a0b))) a0b)))) a0b)))), ?_⟩
 refine ⟨_, rfl, (n : Int), rfl, by omega, by omega, fun p hp => a5t (lo := 0) (n := (n : Int).toNat) (fun i ys H' => ys = (b7m ns k i).map V.int /\ H' p = some (.lst ys) /\ a1i H H') ⟨rfl, a0g, a0i hp _⟩ ?_ ?_⟩
 · rintro i ys H' hi ⟨rfl, hp', sm⟩
   simp [e7x, e3x, e8r, e5i, e2n, b5r, e3e, tOp, tUn, d4t, tC, rI, rI0, rU, rEq, rNe, e7t, L2.start, d6z, tCB, e7s, b8n, e9l, e7r, e9o, e9k, tOr, e3h, e9w, e4l, tIf, e3d, e8b, tB, e6f, e4y, tSl, e3r, d0n, d4s, e8l, a5v, a4x]
   refine ⟨_, _, _, ⟨rfl, rfl⟩, sm.seq hS, by omega, hp', ?_, a2j hi ⟨?_, ?_, fun b o e => ?_⟩⟩
   · rw [b6l]; exact Nat.lt_of_le_of_lt (Nat.le_of_lt hi) (a0y (by omega))
   · rw [c9w]; simp
   · rw [a0g]
   · rw [a1z (fun z => by subst z; rw [hp] at e; cases e)]
     exact sm b o e
 · rintro ys H' ⟨rfl, hp', sm⟩
   have en : (n : Int).toNat = n := Int.toNat_natCast n
   rw [en] at hp'
   refine ⟨p, _, rfl, .inl ⟨SqL.of hp', fun l hl => q l _ (sm.free hl) (sm.trans (a0i hl _)) a0g⟩⟩
theorem c3g {f : Addr} {fd : FuncData} (F : Fun K "_law_worth" "_law_worth" a9e f fd) (m : mg "_law_worth" = some (.ref f)) (B : Bl mg)  : Def P w K mg base CX0 "_law_worth" 1 ["_law_point_here", "_law_f"] (a4j K) := by
 refine ⟨f, fd, F.ok c4k (fun vs H Q E h => ?_) (fun cdv A outer s H vs Q E hr h => ?_), F.binds (ps := ["_law_point_here", "_law_f"]) fun _ _ _ _ _ _ us hl => (by obtain ⟨b0, b1, rfl⟩ := us2 hl; rfl), F.kp, m⟩
 · obtain ⟨a, ns, f, rfl, _⟩ := h
   rfl
 obtain ⟨a, ns, f, rfl, hS, h0, h1, q⟩ := h
 refine ⟨_, (a0h (a0l (a0p a1w (a1n (K := K) (pv 0) (a0p a1t (pv 1) a0d)) (a0p b1b a0d (a0p a1w (a0p a1y (pv 1) a0d) a0d))))), ?_⟩
 refine ⟨_, rfl, _, rfl, _, _, rfl, rfl, ⟨by decide, by decide⟩, a, _, _, _, rfl, rfl, hS, c3x (by omega) (by omega), _, rfl, _, _, rfl, rfl, (by show (0 : Int) < 2; decide), _, _, rfl, rfl, .inr ⟨by decide, by decide⟩, _, _, rfl, rfl, _, _, rfl, rfl, .inr ⟨by show -(2 ^ 64) < 1 - f % 2 * 2; omega, by show 1 - f % 2 * 2 < 2 ^ 64; omega⟩, ?_⟩
 show Q (.int (ns.getD (f / 2).toNat 0 * (1 - f % 2 * 2))) H
 rw [d6b]
 exact q
theorem c4b {f : Addr} {fd : FuncData} (F : Fun K "_law_cells" "_law_cells" a8u f fd) (m : mg "_law_cells" = some (.ref f)) (B : Bl mg) (a1u : Def P w K mg base CX0 "_law_cell" 1 ["_law_script", "_law_k"] (a4x K)) : Def P w K mg base CX0 "_law_cells" 2 ["_law_script", "_law_at", "_law_room"] (b5w K) := by
 refine ⟨f, fd, F.ok a7k (fun vs H Q E h => ?_) (fun cdv A outer s H vs Q E hr h => ?_), F.binds (ps := ["_law_script", "_law_at", "_law_room"]) fun _ _ _ _ _ _ us hl => (by obtain ⟨b0, b1, b2, rfl⟩ := us3 hl; rfl), F.kp, m⟩
 · obtain ⟨a, ns, k, room, rfl, _⟩ := h
   rfl
 obtain ⟨a, ns, k, room, rfl, hS, hlen, q⟩ := h
 have a1u := a1u.imp (c7n (a := a) (ns := ns))
 refine ⟨_, (@a0f _ _ _ _ _ (a1h 3 a7k.nd (a9a (d9p (K := K) rfl) (pv 0) (b0f (pv 1)) (b0f (a0p a2d (pv 1) (pv 2)))))
  (@a0f _ _ _ _ _ (a1d (a0m c4n (a1f (a1g (K := K) rfl) (by rfl) B.len (by decide +kernel) (a0a (pv 3) a0b)) a0d (a0s _)) (a0h (b9l (i := 3) (a1c.of a7k.nd (by rfl)) rfl (a3t (by rfl) B.range (a0x (a0p a2d a0d (a0p a1y (a0q a1u hr (a0a (pv 0) (a0n a0d a0b))) a0d)) a0b)) (fun _ _ _ => a7x) (fun _ _ _ => (a0q a1u hr (a0a (pv 1) (a0x (a0p a2d (pv 2) (pv 0)) a0b)))) a7k.nd rfl (by first | exact Or.inl rfl | exact Or.inr rfl) rfl)) a0o)
  (a0h (a0l (pv 3))))), ?_⟩
 refine a0c fun U hU => ?_
 refine ⟨_, rfl, _, rfl, (k : Int), rfl, _, rfl, _, rfl, _, _, rfl, rfl, ((k : Int) + (room : Int)), rfl, a, _, rfl, hS, fun ca hca => ?_⟩
 obtain ⟨cs, ecs, lcs⟩ := e0i ns (some (k : Int)) (some ((k : Int) + (room : Int)))
 rw [ecs]
 show U _ _
 subst hU
 have s1 := a0i hca (.lst (cs.map V.int))
 have e1 : upd H ca (.lst (cs.map V.int)) ca = some (.lst (cs.map V.int)) := a0g
 generalize upd H ca (.lst (cs.map V.int)) = H1 at *
 have hS1 := s1.seq hS
 refine a0c fun U hU => ?_
 refine ⟨_, rfl, ca, _, rfl, .inl (SqL.of e1), _, _, rfl, rfl, _, rfl, ?_⟩
 rw [List.length_map]
 refine b2x (fun h => ?_) (fun h => ?_)
 · have m1 := Int.emod_nonneg (c1p ns 1) (b := 5) (by omega)
   have m2 := Int.emod_lt_of_pos (c1p ns 1) (b := 5) (by omega)
   refine ⟨_, rfl, (1 : Int), rfl, by decide, hS1, _, _, rfl, rfl, (by show (0 : Int) < 5; decide), _, _, rfl, rfl, (4 + c1p ns 1 % 5), rfl, by omega, by omega, fun p hp => a5t (lo := 0) (n := (4 + c1p ns 1 % 5).toNat) (fun i ys H' => ∃ zs : List Int, ys = zs.map V.int /\ zs.length = i /\ H' p = some (.lst ys) /\ a1i H1 H') ⟨[], rfl, rfl, a0g, a0i hp _⟩ ?_ ?_⟩
   · rintro i ys H' hi ⟨zs, rfl, lz, hp', sm⟩
     simp only [d4s, ↓reduceIte]
     refine ⟨_, rfl, _, rfl, _, rfl, _, _, rfl, rfl, (k : Int) + (0 + (i : Int)), rfl, by omega, sm.seq hS1, hp', by rw [List.length_map, lz]; exact a0y (by omega), a2j hi ⟨zs ++ [c1p ns ((k : Int) + (0 + (i : Int)))], by simp, by simp [lz], a0g, a0z hp sm⟩⟩
   · rintro ys H' ⟨zs, rfl, lz, hp', sm⟩
     show U _ _
     subst hU
     exact ⟨_, rfl, q p H' zs (s1.trans sm) (s1.free hp) hp' (by omega) (by omega)⟩
 · show U _ _
   subst hU
   simp at h
   exact ⟨_, rfl, q ca H1 cs s1 hca e1 (by omega) (by omega)⟩
theorem c5j {f : Addr} {fd : FuncData} (F : Fun K "_law_sides" "_law_sides" a8r f fd) (m : mg "_law_sides" = some (.ref f)) (B : Bl mg) (a2a : Def P w K mg base CX0 "_law_worth" 1 ["_law_point_here", "_law_f"] (a4j K)) : Def P w K mg base CX0 "_law_sides" 2 ["_law_cells_here", "_law_count_here", "_law_point_here", "_law_loose"] (b5k K) := by
 refine ⟨f, fd, F.ok a3d (fun vs H Q E h => ?_) (fun cdv A outer s H vs Q E hr h => ?_), F.binds (ps := ["_law_cells_here", "_law_count_here", "_law_point_here", "_law_loose"]) fun _ _ _ _ _ _ us hl => (by obtain ⟨b0, b1, b2, b3, rfl⟩ := us4 hl; rfl), F.kp, m⟩
 · obtain ⟨a, pt, cs, xs, n, lo, rfl, _⟩ := h
   rfl
 obtain ⟨a, pt, cs, xs, n, lo, rfl, hS, hP, xl, n1, n6, lcs, q⟩ := h
 refine ⟨_, (@a0f _ _ _ _ _ (a1h 4 a3d.nd (a2n a0b))
  (@a0f _ _ _ _ _ (a5n PassesOwn.never rfl (a2k (K := K) rfl (pv 0)) (a9k 5 a3d.nd) (@a0f _ _ _ _ _ (a1h 6 a3d.nd (a0p a1y (pv 5) (a0p a1w a0d (pv 1))))
  (@a0f _ _ _ _ _ (a1h 7 a3d.nd (a0p a1y (a0p a1t (pv 5) (a0p a1w a0d (pv 1))) (a0p a1w a0d (pv 1))))
  (@a0f _ _ _ _ _ (a1h 8 a3d.nd (a0p a1t (pv 5) (a0p a1w (a0p a1w a0d (pv 1)) (pv 1))))
  (@a0f _ _ _ _ _ (a1h 9 a3d.nd (a0p a2d (a0p a1y (pv 8) a0d) (pv 3)))
  (@a0f _ _ _ _ _ (a1d (a0m a3n (a0p a1y (a0p a1t (pv 8) a0d) a0d) a0d (a0s _)) (a0h (a1h 9 a3d.nd (a0p a1y (a0p a1t (pv 8) a0d) (a0p b7f a0d a0d)))) a0o)
  (a0h (b4e (c7u PySem.F.plainAttrs_list PySem.F.slot_list_append PySem.F.type_list_append a4t (pv 4) (b0m (a2x (a0a (pv 6) (a0a (pv 7) (a0x (a0p a2d (a0p a2d (a0q a2a hr (a0a (pv 2) (a0a (pv 6) a0b))) (a0q a2a hr (a0a (pv 2) (a0a (pv 7) a0b)))) (pv 9)) a0b)))) a0b))))))))))
  (a0h (a0l (pv 4))))), ?_⟩
 refine a0c fun U hU => ?_
 refine ⟨sz 0, fun p hp => ?_⟩
 show U _ _
 subst hU
 refine a0c fun U hU => ?_
 refine ⟨_, rfl, a, rfl, ⟨_, (a0i hp _).seq hS⟩, a7i (K := K) (a := a) (xs := cs.map V.int) (fun i σ H' => ∃ (x1 x2 x3 x4 x5 : Option V) (ys : List V) (ss : List Sdn), σ = [some (.ref a), some (.int n), some (.ref pt), some (.int lo), some (.ref p), x1, x2, x3, x4, x5] /\ a1i H H' /\ H' p = some (.lst ys) /\ Paired (a2o H') ys ss /\ (∀ s ∈ ss, s.1 < 2 * n /\ s.2.1 < 2 * n) /\ (0 <= lo -> ∀ s ∈ ss, wN xs s.1 + wN xs s.2.1 <= s.2.2) /\ ss.length = i)
  ⟨none, none, none, none, none, [], [], rfl, a0i hp _, a0g, .nil, fun s h => by simp at h, fun _ s h => by simp at h, rfl⟩ (fun i σ H' _ ⟨_, _, _, _, _, _, _, _, sm, _⟩ => sm.seq hS) ?_ ?_⟩
 · rintro i y σ H' hy ⟨x1, x2, x3, x4, x5, ys, ss, rfl, sm, hp', hSd, hin, hk, hl⟩
   obtain ⟨hi, rfl⟩ := c7h hy
   generalize cs[i] = cc
   have hP' := sm.sqT hP
   obtain ⟨f, ef, hf⟩ := d5m cc n1
   obtain ⟨g, eg, hg⟩ := d5m (cc / (2 * (n : Int))) n1
   refine a0c fun U hU => ?_
   refine ⟨_, rfl, _, rfl, _, _, rfl, rfl, .inl ⟨by decide, by decide⟩, _, _, rfl, rfl, (by show (0 : Int) < 2 * (n : Int); omega), ?_⟩
   show U _ _
   dsimp only
   rw [ef]
   subst hU
   refine a0c fun U hU => ?_
   refine ⟨_, rfl, _, rfl, _, _, rfl, rfl, .inl ⟨by decide, by decide⟩, _, _, rfl, rfl, ⟨by show (0 : Int) < 2 * (n : Int); omega, by show 2 * (n : Int) < 1073741824; omega⟩, _, rfl, _, _, rfl, rfl, .inl ⟨by decide, by decide⟩, _, _, rfl, rfl, (by show (0 : Int) < 2 * (n : Int); omega), ?_⟩
   show U _ _
   dsimp only
   rw [eg]
   subst hU
   have n36 : 4 * (n : Int) * (n : Int) <= 4 * 6 * 6 := Int.mul_le_mul (by omega) (by omega) (by omega) (by omega)
   have n37 : 0 < 4 * (n : Int) * (n : Int) := Int.mul_pos (by omega) (by omega)
   refine a0c fun U hU => ?_
   refine ⟨_, rfl, _, rfl, _, _, rfl, rfl, .inl ⟨by decide, by decide⟩, _, rfl, _, _, rfl, rfl, .inr ⟨by show -(2 ^ 64) < (n : Int); omega, by show (n : Int) < 2 ^ 64; omega⟩, _, _, rfl, rfl, ⟨n37, by show 4 * (n : Int) * (n : Int) < 1073741824; omega⟩, ?_⟩
   show U _ _
   dsimp only
   generalize cc / (4 * (n : Int) * (n : Int)) = rest
   subst hU
   refine a0c fun U hU => ?_
   refine ⟨_, rfl, _, _, rfl, rfl, (by show (0 : Int) < 4; decide), _, rfl, _, _, rfl, rfl, ?_⟩
   show U _ _
   subst hU
   have key : ∀ sl : Int, (0 <= lo -> 0 <= sl) -> ∀ U : St -> Hp -> Prop, (∀ x1 x2 x3 x4 x5 H2 (ys2 : List V) (ss2 : List Sdn), a1i H H2 -> H2 p = some (.lst ys2) -> Paired (a2o H2) ys2 ss2 -> (∀ s ∈ ss2, s.1 < 2 * n /\ s.2.1 < 2 * n) -> (0 <= lo -> ∀ s ∈ ss2, wN xs s.1 + wN xs s.2.1 <= s.2.2) -> ss2.length = i + 1 -> U [some (V.ref a), some (.int n), some (.ref pt), some (.int lo), some (.ref p), x1, x2, x3, x4, x5] H2) ->
     ∀ t, H' t = none -> U [some (V.ref a), some (.int n), some (.ref pt), some (.int lo), some (.ref p), some (.int cc), some (.int f), some (.int g), some (.int rest), some (.int sl)] (upd (upd H' t (.tup [.int f, .int g, .int (a1k xs f + a1k xs g + sl)])) p (.lst (ys ++ [.ref t]))) := by
    intro sl hsl U hU t ht
    have smt := a0i ht (.tup [.int f, .int g, .int (a1k xs f + a1k xs g + sl)])
    refine hU _ _ _ _ _ _ (ys ++ [.ref t]) (ss ++ [(f, g, a1k xs f + a1k xs g + sl)]) (a0z hp (sm.trans smt)) a0g (a7s (b9u (smt _ _ hp') (a1v smt hSd)) (a2o.put (smt _ _ hp') ⟨t, rfl, a0g⟩)) ?_ ?_ (by simp [hl])
    · intro s hs
      rcases List.mem_append.mp hs with z | z
      · exact hin s z
      · rw [List.mem_singleton.mp z]; exact ⟨hf, hg⟩
    · intro h0 s hs
      rcases List.mem_append.mp hs with z | z
      · exact hk h0 s z
      · rw [List.mem_singleton.mp z]
        have := hsl h0
        show a1k xs (f : Int) + a1k xs (g : Int) <= a1k xs f + a1k xs g + sl
        omega
   have lz : ys.length < sizeLine := by rw [a2q hSd, hl]; exact a0y (by omega)
   have fr := Int.emod_nonneg rest (b := 4) (by decide)
   have fr2 := Int.emod_nonneg (rest / 20) (b := 10 ^ 30) (by decide)
   refine a0c fun U hU => ?_
   have last : ∀ sl : Int, (0 <= lo -> 0 <= sl) -> U [some (V.ref a), some (.int n), some (.ref pt), some (.int lo), some (.ref p), some (.int cc), some (.int f), some (.int g), some (.int rest), some (.int sl)] H' := fun sl hsl => by
    subst hU
    refine ⟨_, rfl, .inl ⟨rfl, _, SqL.of hp'⟩, _, rfl, _, rfl, _, rfl, _, rfl, pt, xs, (f : Int), rfl, hP', by omega, by omega, _, rfl, _, rfl, pt, xs, (g : Int), rfl, hP', by omega, by omega, _, _, rfl, rfl, _, rfl, _, _, rfl, rfl, sz 3, fun t ht => ⟨p, _, _, rfl, rfl, a0i ht _ _ _ hp', lz, ?_⟩⟩
    exact key sl hsl _ (fun x1 x2 x3 x4 x5 H2 ys2 ss2 a1 a2 a3 a4 a5 a6 => ⟨x1, x2, x3, x4, x5, ys2, ss2, rfl, a1, a2, a3, a4, a5, a6⟩) t ht
   refine ⟨_, rfl, _, _, rfl, rfl, ⟨by decide, by decide⟩, _, _, rfl, rfl, (by show (0 : Int) < 5; decide), rfl, _, rfl, ?_⟩
   refine b2x (fun h => ?_) (fun h => ?_)
   · refine ⟨_, rfl, _, _, rfl, rfl, ⟨by decide, by decide⟩, _, _, rfl, rfl, ⟨by decide, by decide, by decide⟩, _, _, rfl, rfl, (by show (0 : Int) < 10 ^ 30; decide), ?_⟩
     exact last _ (fun _ => fr2)
   · exact last _ (fun h0 => by omega)
 · rintro σ H' ⟨x1, x2, x3, x4, x5, ys, ss, rfl, sm, hp', hSd, hin, hk, hl⟩
   show U _ _
   subst hU
   rw [List.length_map] at hl
   exact ⟨_, rfl, q p H' ys ss sm hp hp' hSd hin hk hl⟩
theorem d0c {f : Addr} {fd : FuncData} (F : Fun K "_law_sum" "_law_sum" b2q f fd) (m : mg "_law_sum" = some (.ref f)) (B : Bl mg) (a2a : Def P w K mg base CX0 "_law_worth" 1 ["_law_point_here", "_law_f"] (a4j K)) : Def P w K mg base CX0 "_law_sum" 2 ["_law_point_here", "_law_forms"] (b0r K) := by
 refine ⟨f, fd, F.ok b0u (fun vs H Q E h => ?_) (fun cdv A outer s H vs Q E hr h => ?_), F.binds (ps := ["_law_point_here", "_law_forms"]) fun _ _ _ _ _ _ us hl => (by obtain ⟨b0, b1, rfl⟩ := us2 hl; rfl), F.kp, m⟩
 · obtain ⟨a, b, xs, fs, rfl, _⟩ := h
   rfl
 obtain ⟨a, b, xs, fs, rfl, hP, hB, hin, q⟩ := h
 refine ⟨_, (@a0f _ _ _ _ _ (a1h 2 b0u.nd a0d)
  (@a0f _ _ _ _ _ (a5n PassesOwn.never rfl (a2k (K := K) rfl (pv 1)) (a9k 3 b0u.nd) (a0h (a1h 2 b0u.nd (a0p a2d (pv 2) (a0q a2a hr (a0a (pv 0) (a0a (pv 3) a0b)))))))
  (a0h (a0l (pv 2))))), ?_⟩
 refine a0c fun U hU => ?_
 show U _ _
 subst hU
 refine a0c fun U hU => ?_
 refine ⟨_, rfl, b, rfl, ⟨_, hB⟩, a7i (K := K) (a := b) (xs := fs.map V.int) (fun i σ H' => ∃ x, σ = [some (.ref a), some (.ref b), some (.int ((fs.take i).map (a1k xs)).sum), x] /\ H' = H) ⟨none, rfl, rfl⟩ (fun i σ H' _ ⟨_, _, e⟩ => by subst e; exact hB) ?_ ?_⟩
 · rintro i v σ H' hv ⟨x, rfl, rfl⟩
   obtain ⟨hi, rfl⟩ := c7h hv
   have ei : fs[i]? = some fs[i] := List.getElem?_eq_getElem hi
   have hf := hin fs[i] (List.getElem_mem hi)
   refine ⟨_, rfl, _, rfl, _, rfl, a, xs, fs[i], rfl, hP, hf.1, hf.2, _, _, rfl, rfl, ?_⟩
   refine ⟨some (.int fs[i]), ?_, rfl⟩
   have et : ((fs.take (i + 1)).map (a1k xs)).sum = ((fs.take i).map (a1k xs)).sum + a1k xs fs[i] := by
    rw [a2g ei, List.map_append, List.sum_append]
    simp
   rw [et]
   rfl
 · rintro σ H' ⟨x, rfl, rfl⟩
   show U _ _
   subst hU
   rw [List.length_map, List.take_length]
   exact ⟨_, rfl, q⟩
theorem c3v {f : Addr} {fd : FuncData} (F : Fun K "_law_keeps" "_law_keeps" a8b f fd) (m : mg "_law_keeps" = some (.ref f)) (B : Bl mg) (a2a : Def P w K mg base CX0 "_law_worth" 1 ["_law_point_here", "_law_f"] (a4j K)) : Def P w K mg base CX0 "_law_keeps" 2 ["_law_point_here", "_law_sides_here"] (b6k K) := by
 refine ⟨f, fd, F.ok b6d (fun vs H Q E h => ?_) (fun cdv A outer s H vs Q E hr h => ?_), F.binds (ps := ["_law_point_here", "_law_sides_here"]) fun _ _ _ _ _ _ us hl => (by obtain ⟨b0, b1, rfl⟩ := us2 hl; rfl), F.kp, m⟩
 · obtain ⟨a, b, xs, ys, ss, rfl, _⟩ := h
   rfl
 obtain ⟨a, b, xs, ys, ss, rfl, hA, hB, hP, hin, q⟩ := h
 refine ⟨_, (@a0f _ _ _ _ _ (a5n PassesOwn.never rfl (a2k (K := K) rfl (pv 1)) (a9k 2 b6d.nd) (a0h (a1d (a0m e0l (a0p a2d (a0q a2a hr (a0a (pv 0) (a0e (a1n (K := K) (pv 2) a0d) a0b))) (a0q a2a hr (a0a (pv 0) (a0e (a1n (K := K) (pv 2) a0d) a0b)))) (a1n (K := K) (pv 2) a0d) (a0s _)) (a0h (a0l b3f)) a0o)))
  (a0h (a0l b3f))), ?_⟩
 refine a0c fun U hU => ?_
 have lx := a2q hP
 refine ⟨_, rfl, b, rfl, ⟨_, hB⟩, a7i (K := K) (a := b) (xs := ys) (fun i σ H' => ∃ x, σ = [some (.ref a), some (.ref b), x] /\ H' = H /\ b7x xs (ss.take i) = true) ⟨none, rfl, rfl, rfl⟩ (fun i σ H' _ ⟨_, _, e, _⟩ => by subst e; exact hB) ?_ ?_⟩
 · rintro i v σ H' hv ⟨x, rfl, rfl, hk⟩
   obtain ⟨s1, es, sa, rfl, hsa⟩ := a2s hP hv
   have hsa' : SqT K H' sa [.int (s1.1 : Nat), .int (s1.2.1 : Nat), .int s1.2.2] := SqT.of hsa
   obtain ⟨h1, h2⟩ := hin s1 (List.mem_of_getElem? es)
   refine ⟨_, rfl, _, rfl, sa, _, 0, _, rfl, rfl, hsa', rfl, a, xs, (s1.1 : Int), rfl, hA, by omega, by omega, _, rfl, _, rfl, sa, _, 1, _, rfl, rfl, hsa', rfl, a, xs, (s1.2.1 : Int), rfl, hA, by omega, by omega, _, _, rfl, rfl, _, rfl, sa, _, 2, _, rfl, rfl, hsa', rfl, _, _, rfl, rfl, _, rfl, ?_⟩
   by_cases h : s1.2.2 < a1k xs (s1.1 : Int) + a1k xs (s1.2.1 : Int)
   · rw [decide_eq_true h]
     refine a3h ?_
     have e : b7x xs ss = false := by
      rw [Bool.eq_false_iff]
      intro z
      have : a1k xs (s1.1 : Int) + a1k xs (s1.2.1 : Int) <= s1.2.2 := b2k.mp z s1 (List.mem_of_getElem? es)
      omega
     rw [e] at q
     exact q
   · rw [decide_eq_false h]
     refine a2c ?_
     refine ⟨_, rfl, rfl, ?_⟩
     rw [a2g es]
     refine b2k.mpr fun s hs => ?_
     rcases List.mem_append.mp hs with z | z
     · exact b2k.mp hk s z
     · rw [List.mem_singleton.mp z]
       show a1k xs (s1.1 : Int) + a1k xs (s1.2.1 : Int) <= s1.2.2
       omega
 · rintro σ H' ⟨x, rfl, rfl, hk⟩
   show U _ _
   subst hU
   rw [lx, List.take_length] at hk
   rw [hk] at q
   exact q
theorem b4w {f : Addr} {fd : FuncData} (F : Fun K "_law_point_like" "_law_point_like" a4g f fd) (m : mg "_law_point_like" = some (.ref f)) (B : Bl mg) (a6f : Def P w K mg base CX0 "_law_whole" 1 ["_law_found"] (a7a K)) : Def P w K mg base CX0 "_law_point_like" 2 ["_law_found", "_law_count_here"] (a8j K) := by
 refine ⟨f, fd, F.ok a8p (fun vs H Q E h => ?_) (fun cdv A outer s H vs Q E hr h => ?_), F.binds (ps := ["_law_found", "_law_count_here"]) fun _ _ _ _ _ _ us hl => (by obtain ⟨b0, b1, rfl⟩ := us2 hl; rfl), F.kp, m⟩
 · obtain ⟨a, xs, n, rfl, _⟩ := h
   rfl
 obtain ⟨a, xs, n, rfl, hA, hl, q⟩ := h
 refine ⟨_, (@a0f _ _ _ _ _ (a1d (b8k (b1f (a7r (a1f (a7n (K := K) rfl) (by rfl) B.isinstance (by decide +kernel) (a0a (pv 0) (a0a (b6t (v := .ty "tuple") (u := .type "tuple") (by rfl) B.tuple (by decide +kernel) rfl) a0b))))) (b2j (a0m d1a (a1f (a1g (K := K) rfl) (by rfl) B.len (by decide +kernel) (a0a (pv 0) a0b)) (pv 1) (a0s _)))).pt (a0h (a0l b3f)) a0o)
  (@a0f _ _ _ _ _ (a5n PassesOwn.never rfl (c3q (K := K) rfl (pv 0)) (a9k 2 a8p.nd) (a0h (a1d (b1f (a7r (a0q a6f hr (a0a (pv 2) a0b)))) (a0h (a0l b3f)) a0o)))
  (a0h (a0l b3f)))), ?_⟩
 have lx : (xs.map V.int).length = n := by rw [List.length_map, hl]
 refine a0c fun U hU => ?_
 refine ⟨_, rfl, true, d5q hA, true, rfl, ?_⟩
 refine a2c ?_
 refine ⟨_, rfl, a, _, rfl, .inr (SqT.of hA), _, rfl, rfl, _, rfl, ?_⟩
 refine e0z (by rw [lx]) ?_
 show U _ _
 subst hU
 refine a0c fun U hU => ?_
 refine ⟨_, rfl, a, rfl, ⟨_, SqT.of hA⟩, e4u (K := K) (a := a) (xs := xs.map V.int) (fun i σ H' => ∃ x, σ = [some (.ref a), some (.int n), x] /\ H' = H) ⟨none, rfl, rfl⟩ (fun i σ H' _ ⟨_, _, e⟩ => by subst e; exact SqT.of hA) ?_ ?_⟩
 · rintro i v σ H' hv ⟨x, rfl, rfl⟩
   obtain ⟨hi, rfl⟩ := c7h hv
   refine ⟨_, rfl, _, rfl, true, rfl, ?_⟩
   refine a2c ?_
   exact ⟨_, rfl, rfl⟩
 · rintro σ H' ⟨x, rfl, rfl⟩
   show U _ _
   subst hU
   exact q
theorem c6v {f : Addr} {fd : FuncData} (F : Fun K "_law_copy" "_law_copy" b0j f fd) (m : mg "_law_copy" = some (.ref f)) (B : Bl mg)  : Def P w K mg base CX0 "_law_copy" 1 ["_law_shape"] (b1y K) := by
 refine ⟨f, fd, F.ok b7j (fun vs H Q E h => ?_) (fun cdv A outer s H vs Q E hr h => ?_), F.binds (ps := ["_law_shape"]) fun _ _ _ _ _ _ us hl => (by obtain ⟨b0, rfl⟩ := us1 hl; rfl), F.kp, m⟩
 · obtain ⟨v, n, o, rfl, _⟩ := h
   rfl
 obtain ⟨v, n, o, rfl, hV, hn, q⟩ := h
 refine ⟨_, (@a0f _ _ _ _ _ (a1d (a0m a3c (pv 0) a0w (a0s _)) (a0h (a0l a0w)) a0o)
  (a0h (a0l (a5w (a1c.of b7j.nd (by rfl)) rfl (a2k (K := K) rfl (pv 0)) (fun _ _ _ => a7x) (fun _ _ _ => (a9v (a7j (K := K) rfl) (by rfl) B.list (by decide +kernel) (a0a (pv 0) a0b))))))), ?_⟩
 refine a0c fun U hU => ?_
 cases o with
 | none =>
  cases hV
  refine ⟨_, rfl, rfl, _, rfl, ?_⟩
  refine a3h ?_
  exact q _ _ (a1i.refl H) rfl
 | some c =>
  obtain ⟨tb, bs, rfl, T⟩ := hV
  refine ⟨_, rfl, rfl, _, rfl, ?_⟩
  refine a2c ?_
  show U _ _
  subst hU
  have hL : (bs.map V.ref).length = 2 * n := by rw [List.length_map, T.lenN]
  refine ⟨_, rfl, tb, rfl, ⟨_, SqL.of T.at_⟩, fun kp hkp => a3v (K := K) (a := tb) (xs := bs.map V.ref) (fun i zs H' => b8j H H' kp zs (Oct.c2z i (2 * n) c)) (b8j.start hkp) (fun i ys H' _ G => G.same.seq (SqL.of T.at_)) ?_ ?_⟩
  · rintro i x zs H' hx G
    have T' := T.same G.same
    obtain ⟨hi, d, rfl, ed, hd⟩ := T'.rowN hx
    simp only [d4s, ↓reduceIte]
    refine ⟨_, rfl, d, _, rfl, .inl (SqL.of hd), fun l hl => ?_⟩
    have st := G.step hl (a0i hl (.lst ((Oct.ln (2 * n) (c i)).map eV))) a0g
    have hlt : i < (bs.map V.ref).length := (List.getElem?_eq_some_iff.mp hx).1
    refine ⟨st.1, by rw [G.len, Oct.a4k]; exact a0y (by omega), a2j hlt ?_⟩
    rw [Oct.a6d]
    exact st.2
  · rintro zs H1 ⟨bs1, rfl, T1, sm1⟩
    rw [hL] at T1
    exact q _ _ sm1 ⟨kp, bs1, rfl, T1⟩
theorem c4a {f : Addr} {fd : FuncData} (F : Fun K "_law_table" "_law_table" a9i f fd) (m : mg "_law_table" = some (.ref f)) (B : Bl mg) (a6f : Def P w K mg base CX0 "_law_whole" 1 ["_law_found"] (a7a K)) : Def P w K mg base CX0 "_law_table" 2 ["_law_found", "_law_count_here"] (b5h K) := by
 refine ⟨f, fd, F.ok b0o (fun vs H Q E h => ?_) (fun cdv A outer s H vs Q E hr h => ?_), F.binds (ps := ["_law_found", "_law_count_here"]) fun _ _ _ _ _ _ us hl => (by obtain ⟨b0, b1, rfl⟩ := us2 hl; rfl), F.kp, m⟩
 · obtain ⟨a, bs, n, c, rfl, _⟩ := h
   rfl
 obtain ⟨a, bs, n, c, rfl, T, hn, q⟩ := h
 refine ⟨_, (@a0f _ _ _ _ _ (a1d (b8k (b1f (a7r (a1f (a7n (K := K) rfl) (by rfl) B.isinstance (by decide +kernel) (a0a (pv 0) (a0a (b6t (v := .ty "list") (u := .type "list") (by rfl) B.list (by decide +kernel) rfl) a0b))))) (b2j (a0m d1a (a1f (a1g (K := K) rfl) (by rfl) B.len (by decide +kernel) (a0a (pv 0) a0b)) (a0p a1w a0d (pv 1)) (a0s _)))).pt (a0h (a0l b3f)) a0o)
  (@a0f _ _ _ _ _ (a5n PassesOwn.never rfl (a2k (K := K) rfl (pv 0)) (a9k 2 b0o.nd) (@a0f _ _ _ _ _ (a1d (b8k (b1f (a7r (a1f (a7n (K := K) rfl) (by rfl) B.isinstance (by decide +kernel) (a0a (pv 2) (a0a (b6t (v := .ty "list") (u := .type "list") (by rfl) B.list (by decide +kernel) rfl) a0b))))) (b2j (a0m d1a (a1f (a1g (K := K) rfl) (by rfl) B.len (by decide +kernel) (a0a (pv 2) a0b)) (a0p a1w a0d (pv 1)) (a0s _)))).pt (a0h (a0l b3f)) a0o)
  (a0h (a5n PassesOwn.never rfl (a2k (K := K) rfl (pv 2)) (a9k 3 b0o.nd) (a0h (a1d (c1w (a0m a3l (pv 3) a0w (a0s _)) (c0e (b1f (a7r (a0q a6f hr (a0a (pv 3) a0b)))))).pt (a0h (a0l b3f)) a0o))))))
  (a0h (a0l b3f)))), ?_⟩
 have hL : (bs.map V.ref).length = 2 * n := by rw [List.length_map, T.lenN]
 have sq := SqL.of (K := K) T.at_
 refine a0c fun U hU => ?_
 refine ⟨_, rfl, true, d5z T.at_, true, rfl, ?_⟩
 refine a2c ?_
 refine ⟨_, rfl, a, _, rfl, .inl sq, _, rfl, _, _, rfl, rfl, .inl ⟨by decide, by decide⟩, rfl, _, rfl, ?_⟩
 refine e0z (by rw [hL]; simp) ?_
 show U _ _
 subst hU
 refine a0c fun U hU => ?_
 refine ⟨_, rfl, a, rfl, ⟨_, sq⟩, a7i (K := K) (a := a) (xs := bs.map V.ref) (fun i σ H' => ∃ x y, σ = [some (.ref a), some (.int n), x, y] /\ H' = H) ⟨none, none, rfl, rfl⟩ (fun i σ H' _ ⟨_, _, _, e⟩ => by subst e; exact sq) ?_ ?_⟩
 · rintro i v σ H' hv ⟨x, y, rfl, rfl⟩
   obtain ⟨hi, d, rfl, ed, hd⟩ := T.rowN hv
   refine a0c fun U hU => ?_
   refine ⟨_, rfl, true, d5z hd, true, rfl, ?_⟩
   refine a2c ?_
   refine ⟨_, rfl, d, _, rfl, .inl (SqL.of hd), _, rfl, _, _, rfl, rfl, .inl ⟨by decide, by decide⟩, rfl, _, rfl, ?_⟩
   refine e0z (by rw [a2y]; simp) ?_
   show U _ _
   subst hU
   refine ⟨_, rfl, d, rfl, ⟨_, SqL.of hd⟩, a7i (K := K) (a := d) (xs := (Oct.ln (2 * n) (c i)).map eV) (fun j σ H'' => ∃ y, σ = [some (.ref a), some (.int n), some (.ref d), y] /\ H'' = H') ⟨y, rfl, rfl⟩ (fun i σ H'' _ ⟨_, _, e⟩ => by subst e; exact SqL.of hd) ?_ ?_⟩
   · rintro j u σ H'' hu ⟨y, rfl, rfl⟩
     obtain ⟨hj, rfl⟩ := b2i hu
     refine ⟨_, rfl, rfl, _, rfl, ?_⟩
     cases ec : c i j with
     | none =>
      refine a2c ?_
      refine a2c ?_
      exact ⟨_, rfl, rfl⟩
     | some e =>
      refine a3h ?_
      refine ⟨_, rfl, e, rfl, true, rfl, ?_⟩
      refine a2c ?_
      exact ⟨_, rfl, rfl⟩
   · rintro σ H'' ⟨y, rfl, rfl⟩
     exact ⟨_, _, rfl, rfl⟩
 · rintro σ H' ⟨x, y, rfl, rfl⟩
   show U _ _
   subst hU
   exact q
theorem d1f {f : Addr} {fd : FuncData} (F : Fun K "_law_far" "_law_far" b2s f fd) (m : mg "_law_far" = some (.ref f)) (B : Bl mg)  : Def P w K mg base CX0 "_law_far" 1 ["_law_cell_here"] (c0k K) := by
 refine ⟨f, fd, F.ok c0c (fun vs H Q E h => ?_) (fun cdv A outer s H vs Q E hr h => ?_), F.binds (ps := ["_law_cell_here"]) fun _ _ _ _ _ _ us hl => (by obtain ⟨b0, rfl⟩ := us1 hl; rfl), F.kp, m⟩
 · obtain ⟨cc, rfl, _⟩ := h
   rfl
 obtain ⟨cc, rfl, q⟩ := h
 refine ⟨_, (@a0f _ _ _ _ _ (a1h 1 c0c.nd (a0p a2d (a1b (K := K) (a2n (a0n a0d (a0x (a0p b7f a0d a0d) (a0x (a0p b7f a0d a0d) (a0x (a0p b7f a0d a0d) a0b))))) (a0p a1y (pv 0) a0d)) (a0p a1y (a0p a1t (pv 0) a0d) (a0p b7f a0d a0d))))
  (@a0f _ _ _ _ _ (a1d (a0m a3n (a0p a1y (a0p a1t (pv 0) a0d) a0d) a0d (a0s _)) (a0h (a0l (c2y b5t (pv 1)))) a0o)
  (a0h (a0l (pv 1))))), ?_⟩
 refine a0c fun U hU => ?_
 refine ⟨_, _, rfl, rfl, ⟨by decide, by decide, by decide⟩, _, _, rfl, rfl, ⟨by decide, by decide, by decide⟩, _, _, rfl, rfl, ⟨by decide, by decide, by decide⟩, sz 4, fun l hl => ?_⟩
 obtain ⟨z0, e0⟩ := e9i cc (a := 1) (b := (10 : Int) ^ (20 : Int).toNat) (d := (10 : Int) ^ (40 : Int).toNat) (e := (10 : Int) ^ (62 : Int).toNat)
 have sl := a0i hl (.lst [.int 1, .int ((10 : Int) ^ (20 : Int).toNat), .int ((10 : Int) ^ (40 : Int).toNat), .int ((10 : Int) ^ (62 : Int).toNat)])
 refine ⟨_, rfl, _, _, rfl, rfl, (by show (0 : Int) < 4; decide), l, _, _, _, rfl, rfl, SqL.of a0g, e0, _, rfl, _, _, rfl, rfl, ⟨by decide, by decide⟩, _, _, rfl, rfl, ⟨by decide, by decide, by decide⟩, _, _, rfl, rfl, (by show (0 : Int) < 10 ^ 40; decide), _, _, rfl, rfl, ?_⟩
 show U _ _
 dsimp only
 generalize z0 + cc / 32 % 10 ^ (40 : Int).toNat = far0
 subst hU
 refine a0c fun U hU => ?_
 refine ⟨_, rfl, _, _, rfl, rfl, ⟨by decide, by decide⟩, _, _, rfl, rfl, (by show (0 : Int) < 8; decide), rfl, _, rfl, ?_⟩
 refine b2x (fun h => ?_) (fun h => ?_)
 · exact ⟨_, rfl, _, rfl, q _ _ sl⟩
 · show U _ _
   subst hU
   exact ⟨_, rfl, q _ _ sl⟩
theorem c5d {f : Addr} {fd : FuncData} (F : Fun K "_law_holds" "_law_holds" a8y f fd) (m : mg "_law_holds" = some (.ref f)) (B : Bl mg) (a2a : Def P w K mg base CX0 "_law_worth" 1 ["_law_point_here", "_law_f"] (a4j K)) : Def P w K mg base CX0 "_law_holds" 2 ["_law_point_here", "_law_question_here"] (b5q K) := by
 refine ⟨f, fd, F.ok a9y (fun vs H Q E h => ?_) (fun cdv A outer s H vs Q E hr h => ?_), F.binds (ps := ["_law_point_here", "_law_question_here"]) fun _ _ _ _ _ _ us hl => (by obtain ⟨b0, b1, rfl⟩ := us2 hl; rfl), F.kp, m⟩
 · obtain ⟨a, b, xs, f1, g1, w1, c1, rfl, _⟩ := h
   rfl
 obtain ⟨a, b, xs, f1, g1, w1, c1, rfl, hP, hS, hf, hg, q⟩ := h
 refine ⟨_, (@a0f _ _ _ _ _ (a1h 2 a9y.nd (a0q a2a hr (a0a (pv 0) (a0e (a1n (K := K) (pv 1) a0d) a0b))))
  (@a0f _ _ _ _ _ (a1d (a0m a3l (a1n (K := K) (pv 1) a0d) a0w (a0s _)) (a0h (a1h 2 a9y.nd (a0p a2d (pv 2) (a0q a2a hr (a0a (pv 0) (a0e (a1n (K := K) (pv 1) a0d) a0b)))))) a0o)
  (@a0f _ _ _ _ _ (a1d (a0m a3n (a1n (K := K) (pv 1) a0d) a4r (a0s _)) (a0h (a0l (a7w e3g (pv 2) (a1n (K := K) (pv 1) a0d) (a0s _)))) a0o)
  (@a0f _ _ _ _ _ (a1d (a0m a3n (a1n (K := K) (pv 1) a0d) a4r (a0s _)) (a0h (a0l (a7w e8z (pv 2) (a1n (K := K) (pv 1) a0d) (a0s _)))) a0o)
  (a0h (a0l (a7w a3n (a7w a3n (pv 2) (a1n (K := K) (pv 1) a0d) (a0s _)) (a7w a3n (a1n (K := K) (pv 1) a0d) a4r (a0s _)) (a0s _)))))))), ?_⟩
 refine a0c fun U hU => ?_
 refine ⟨_, rfl, _, rfl, b, _, 0, _, rfl, rfl, hS, rfl, a, xs, f1, rfl, hP, hf.1, hf.2, ?_⟩
 show U _ _
 subst hU
 refine a0c fun U hU => ?_
 have key : U [some (.ref a), some (.ref b), some (.int (d9a xs f1 g1))] H := by
  subst hU
  generalize d9a xs f1 g1 = s1 at *
  refine a0c fun U hU => ?_
  refine ⟨_, rfl, b, _, 2, _, rfl, rfl, hS, rfl, rfl, _, rfl, ?_⟩
  unfold a9d at q
  by_cases h1 : w1 = Str.ofString "most"
  · rw [if_pos h1] at q
    rw [show decide (V.str w1 = V.str "most") = true from decide_eq_true (by rw [h1])]
    refine a3h ?_
    exact ⟨_, rfl, _, rfl, b, _, 3, _, rfl, rfl, hS, rfl, _, _, rfl, rfl, q⟩
  rw [if_neg h1] at q
  rw [show decide (V.str w1 = V.str "most") = false from c5m h1]
  refine a2c ?_
  show U _ _
  subst hU
  refine a0c fun U hU => ?_
  refine ⟨_, rfl, b, _, 2, _, rfl, rfl, hS, rfl, rfl, _, rfl, ?_⟩
  by_cases h2 : w1 = Str.ofString "least"
  · rw [if_pos h2] at q
    rw [show decide (V.str w1 = V.str "least") = true from decide_eq_true (by rw [h2])]
    refine a3h ?_
    exact ⟨_, rfl, _, rfl, b, _, 3, _, rfl, rfl, hS, rfl, _, _, rfl, rfl, q⟩
  rw [if_neg h2] at q
  rw [show decide (V.str w1 = V.str "least") = false from c5m h2]
  refine a2c ?_
  show U _ _
  subst hU
  refine ⟨_, rfl, _, rfl, b, _, 3, _, rfl, rfl, hS, rfl, rfl, _, rfl, b, _, 2, _, rfl, rfl, hS, rfl, rfl, rfl, ?_⟩
  have e1 : decide (V.int s1 = V.int c1) = decide (s1 = c1) := by by_cases h : s1 = c1 <;> simp [h]
  rw [e1]
  by_cases h3 : w1 = Str.ofString "same"
  · rw [if_pos h3] at q
    rw [show decide (V.str w1 = V.str "same") = true from decide_eq_true (by rw [h3])]
    have e2 : decide (V.bl (decide (s1 = c1)) = V.bl true) = decide (s1 = c1) := by by_cases h : s1 = c1 <;> simp [h]
    rw [e2]
    exact q
  · rw [if_neg h3] at q
    rw [show decide (V.str w1 = V.str "same") = false from c5m h3]
    have e2 : decide (V.bl (decide (s1 = c1)) = V.bl false) = !decide (s1 = c1) := by by_cases h : s1 = c1 <;> simp [h]
    rw [e2]
    exact q
 refine ⟨_, rfl, b, _, 1, _, rfl, rfl, hS, rfl, rfl, _, rfl, ?_⟩
 cases g1 with
 | none =>
  refine a2c ?_
  exact key
 | some g2 =>
  refine a3h ?_
  exact ⟨_, rfl, _, rfl, _, rfl, b, _, 1, _, rfl, rfl, hS, rfl, a, xs, g2, rfl, hP, hg.1, hg.2, _, _, rfl, rfl, key⟩
theorem b8m {f : Addr} {fd : FuncData} (F : Fun K "_law_question" "_law_question" a5g f fd) (m : mg "_law_question" = some (.ref f)) (B : Bl mg) (a5o : Def P w K mg base CX0 "_law_big" 1 ["_law_cell_here"] (a5v K)) (a9r : Def P w K mg base CX0 "_law_sum" 2 ["_law_point_here", "_law_forms"] (b0r K)) (a2a : Def P w K mg base CX0 "_law_worth" 1 ["_law_point_here", "_law_f"] (a4j K)) : Def P w K mg base CX0 "_law_question" 3 ["_law_cell_here", "_law_other", "_law_word", "_law_point_here"] (b0z K) := by
 refine ⟨f, fd, F.ok a2h (fun vs H Q E h => ?_) (fun cdv A outer s H vs Q E hr h => ?_), F.binds (ps := ["_law_cell_here", "_law_other", "_law_word", "_law_point_here"]) fun _ _ _ _ _ _ us hl => (by obtain ⟨b0, b1, b2, b3, rfl⟩ := us4 hl; rfl), F.kp, m⟩
 · obtain ⟨c, o, w1, pt, xs, n, rfl, _⟩ := h
   rfl
 obtain ⟨c, o, w1, pt, xs, n, rfl, hP, lx, n1, n6, q⟩ := h
 refine ⟨_, (@a0f _ _ _ _ _ (a1h 4 a2h.nd (a0p a1y (pv 0) (a0p a1w a0d (a1f (a1g (K := K) rfl) (by rfl) B.len (by decide +kernel) (a0a (pv 3) a0b)))))
  (@a0f _ _ _ _ _ (a1h 5 a2h.nd (a0p a1y (a0p a1t (pv 0) a0d) (a0p a1w a0d (a1f (a1g (K := K) rfl) (by rfl) B.len (by decide +kernel) (a0a (pv 3) a0b)))))
  (@a0f _ _ _ _ _ (a1h 6 a2h.nd (a0p b1b (a0p a2d (a0q a9r hr (a0a (pv 3) (a4d (a2n (a0a (pv 4) (a0a (pv 5) a0b))) a0b))) (a0p a1y (a0p a1t (pv 1) a0d) a0d)) a0d))
  (@a0f _ _ _ _ _ (a1d (a0m a3n (a0p a1y (a0p a1t (pv 0) a0d) a0d) a0d (a0s _)) (@a0f _ _ _ _ _ (a1h 6 a2h.nd (a0p b1b (pv 6) (a0q a2a hr (a0a (pv 3) (a0a (pv 5) a0b)))))
  (a0h (a1h 5 a2h.nd a0w))) a0o)
  (@a0f _ _ _ _ _ (a1d (a0m a3n (a0p a1y (pv 1) a0d) a0d (a0s _)) (a0h (a1h 6 a2h.nd (a0q a5o hr (a0x (a0p a1t (pv 1) a0d) a0b)))) a0o)
  (a0h (a0l (a2x (a0a (pv 4) (a0a (pv 5) (a0e (a1b (K := K) (a2n (a0n a4r (a0n a4r (a0n a4r (a0n a4r a0b))))) (a0p a1y (pv 2) a0d)) (a0a (pv 6) a0b)))))))))))), ?_⟩
 have lx' : (xs.map V.int).length = n := by rw [List.length_map, lx]
 obtain ⟨f1, ef, hf⟩ := e7w c n1
 obtain ⟨g1, eg, hg⟩ := e7w (c / 8) n1
 refine a0c fun U hU => ?_
 refine ⟨_, rfl, _, rfl, pt, _, rfl, .inr hP, _, _, rfl, rfl, .inl ⟨by decide, by decide⟩, _, _, rfl, rfl, (by show (0 : Int) < 2 * ((xs.map V.int).length : Int); omega), ?_⟩
 show U _ _
 dsimp only
 rw [lx', ef]
 subst hU
 refine a0c fun U hU => ?_
 refine ⟨_, rfl, _, _, rfl, rfl, ⟨by decide, by decide⟩, _, rfl, pt, _, rfl, .inr hP, _, _, rfl, rfl, .inl ⟨by decide, by decide⟩, _, _, rfl, rfl, (by show (0 : Int) < 2 * ((xs.map V.int).length : Int); omega), ?_⟩
 show U _ _
 dsimp only
 rw [lx', eg]
 subst hU
 refine a0c fun U hU => ?_
 refine ⟨_, rfl, _, rfl, _, rfl, sz 2, fun l hl => ?_⟩
 have sl := a0i hl (.lst [.int f1, .int g1])
 have hP1 := sl.sqT hP
 refine ⟨pt, l, xs, [f1, g1], rfl, hP1, SqL.of a0g, (fun h hh => by rw [lx]; rcases List.mem_cons.mp hh with e | e; exact e ▸ hf; rw [List.mem_singleton.mp e]; exact hg), _, rfl, _, _, rfl, rfl, ⟨by decide, by decide⟩, _, _, rfl, rfl, (by show (0 : Int) < 7; decide), _, _, rfl, rfl, _, _, rfl, rfl, ?_⟩
 show U _ _
 dsimp only
 generalize (([f1, g1].map (a1k xs)).sum + o / 3 % 7 - 3) = z1
 generalize upd H l (.lst [.int f1, .int g1]) = H1 at *
 subst hU
 refine a0c fun U hU => ?_
 have key : ∀ (g : Option Int) (z : Int), InG n g -> U [some (.int c), some (.int o), some (.int w1), some (.ref pt), some (.int f1), some (gV g), some (.int z)] H1 := by
  intro g z hgg
  subst hU
  refine a0c fun U hU => ?_
  have key2 : ∀ z : Int, U [some (.int c), some (.int o), some (.int w1), some (.ref pt), some (.int f1), some (gV g), some (.int z)] H1 := by
   intro z
   subst hU
   obtain ⟨wd, hwd, ew⟩ := e9d w1
   refine ⟨_, rfl, _, rfl, sz 4, fun l2 hl2 => ?_⟩
   have sl2 := a0i hl2 (.lst [.str "most", .str "least", .str "same", .str "unlike"])
   refine ⟨_, rfl, _, _, rfl, rfl, (by show (0 : Int) < 4; decide), l2, _, _, _, rfl, rfl, SqL.of a0g, ew, _, rfl, sz 4, fun t ht => ?_⟩
   exact q t f1 g wd z _ ((sl.trans sl2).trans (a0i ht _)) a0g hf hgg hwd
  refine ⟨_, rfl, _, _, rfl, rfl, (by show (0 : Int) < 4; decide), rfl, _, rfl, ?_⟩
  refine b2x (fun h => ?_) (fun h => key2 _)
  exact ⟨_, rfl, _, _, rfl, rfl, ⟨by decide, by decide⟩, _, rfl, key2 _⟩
 refine ⟨_, rfl, _, _, rfl, rfl, ⟨by decide, by decide⟩, _, _, rfl, rfl, (by show (0 : Int) < 3; decide), rfl, _, rfl, ?_⟩
 refine b2x (fun h => ?_) (fun h => key (some g1) _ hg)
 refine a0c fun U2 hU2 => ?_
 refine ⟨_, rfl, _, rfl, _, rfl, pt, xs, g1, rfl, hP1, hg.1, by rw [lx]; exact hg.2, _, _, rfl, rfl, ?_⟩
 show U2 _ _
 subst hU2
 exact key none _ trivial
theorem c1k {f : Addr} {fd : FuncData} (F : Fun K "_law_change" "_law_change" a7f f fd) (m : mg "_law_change" = some (.ref f)) (B : Bl mg)  : Def P w K mg base CX0 "_law_change" 1 ["_law_cell_here", "_law_count_here"] (b3u K) := by
 refine ⟨f, fd, F.ok b3n (fun vs H Q E h => ?_) (fun cdv A outer s H vs Q E hr h => ?_), F.binds (ps := ["_law_cell_here", "_law_count_here"]) fun _ _ _ _ _ _ us hl => (by obtain ⟨b0, b1, rfl⟩ := us2 hl; rfl), F.kp, m⟩
 · obtain ⟨c, n, rfl, _⟩ := h
   rfl
 obtain ⟨c, n, rfl, n1, n6, q⟩ := h
 refine ⟨_, (@a0f _ _ _ _ _ (a1h 2 b3n.nd (a0p a1y (a0p a1t (pv 0) a0d) (a0p a1w a0d (pv 1))))
  (@a0f _ _ _ _ _ (a1d (a0m a3n (a0p a1y (pv 0) a0d) a0d (a0s _)) (a0h (a0l (a2x (a0n a0w (a0n a0w a0b))))) a0o)
  (@a0f _ _ _ _ _ (a1d (a0m c4n (a0p a1y (pv 0) a0d) a0d (a0s _)) (a0h (a0l (a2x (a0a (pv 2) (a0n a0w a0b))))) a0o)
  (a0h (a0l (a2x (a0a (pv 2) (a0x (a0p a1y (a0p a2d (a0p a1t (pv 0) a0d) (pv 0)) (a0p a1w a0d (pv 1))) a0b)))))))), ?_⟩
 obtain ⟨f1, ef, hf⟩ := e7w (c / 8) n1
 obtain ⟨g1, eg, hg⟩ := e7w (c / 48 + c) n1
 refine a0c fun U hU => ?_
 refine ⟨_, rfl, _, _, rfl, rfl, ⟨by decide, by decide⟩, _, rfl, _, _, rfl, rfl, .inl ⟨by decide, by decide⟩, _, _, rfl, rfl, (by show (0 : Int) < 2 * (n : Int); omega), ?_⟩
 show U _ _
 dsimp only
 rw [ef]
 subst hU
 refine a0c fun U hU => ?_
 refine ⟨_, rfl, _, _, rfl, rfl, (by show (0 : Int) < 8; decide), rfl, _, rfl, ?_⟩
 refine b2x (fun h => ?_) (fun h => ?_)
 · exact ⟨sz 2, fun t ht => q t none none _ (a0i ht _) a0g trivial trivial⟩
 show U _ _
 subst hU
 refine a0c fun U hU => ?_
 refine ⟨_, rfl, _, _, rfl, rfl, (by show (0 : Int) < 8; decide), _, _, rfl, rfl, _, rfl, ?_⟩
 refine b2x (fun h => ?_) (fun h => ?_)
 · exact ⟨_, rfl, sz 2, fun t ht => q t (some f1) none _ (a0i ht _) a0g hf trivial⟩
 show U _ _
 subst hU
 refine ⟨_, rfl, _, rfl, _, _, rfl, rfl, ⟨by decide, by decide⟩, _, rfl, _, _, rfl, rfl, _, rfl, _, _, rfl, rfl, .inl ⟨by decide, by decide⟩, _, _, rfl, rfl, (by show (0 : Int) < 2 * (n : Int); omega), sz 2, fun t ht => ?_⟩
 refine q t (some f1) (some g1) _ (a0i ht _) ?_ hf hg
 rw [a0g]
 show some (HO.tup [V.int f1, V.int ((c / 48 + c) % (2 * (n : Int)))]) = _
 rw [eg]
 rfl
theorem c9d {f : Addr} {fd : FuncData} (F : Fun K "_law_ask" "_law_ask" b3c f fd) (m : mg "_law_ask" = some (.ref f)) (B : Bl mg) (a5o : Def P w K mg base CX0 "_law_big" 1 ["_law_cell_here"] (a5v K)) : Def P w K mg base CX0 "_law_ask" 2 ["_law_k", "_law_cell_here", "_law_other"] (b9z K) := by
 refine ⟨f, fd, F.ok a7q (fun vs H Q E h => ?_) (fun cdv A outer s H vs Q E hr h => ?_), F.binds (ps := ["_law_k", "_law_cell_here", "_law_other"]) fun _ _ _ _ _ _ us hl => (by obtain ⟨b0, b1, b2, rfl⟩ := us3 hl; rfl), F.kp, m⟩
 · obtain ⟨k, c, o, rfl, _⟩ := h
   rfl
 obtain ⟨k, c, o, rfl, q⟩ := h
 refine ⟨_, (@a0f _ _ _ _ _ (a1h 3 a7q.nd (a0q a5o hr (a0a (pv 1) a0b)))
  (@a0f _ _ _ _ _ (a1h 4 a7q.nd (a0p a2d (pv 3) (a1b (K := K) (a2n (a0x (a0p a1y (a0p a1t (pv 2) a0d) a0d) (a0n a0d (a0x (a0p a1y (a0p a1t (pv 2) a0d) (a0p b7f a0d a0d)) a0b)))) (a0p a1y (a0p a1t (pv 1) a0d) a0d))))
  (@a0f _ _ _ _ _ (a1d (a0m a3n (a0p a1y (pv 2) a0d) a0d (a0s _)) (a0h (a1h 3 a7q.nd a0w)) a0o)
  (@a0f _ _ _ _ _ (a1d (a0m a3n (a0p a1y (a0p a1t (pv 2) a0d) a0d) a0d (a0s _)) (a0h (a1h 4 a7q.nd a0w)) a0o)
  (a0h (a0l (a2x (a0n a4r (a0a (pv 0) (a0a (pv 3) (a0a (pv 4) a0b))))))))))), ?_⟩
 refine a0c fun U hU => ?_
 refine ⟨_, rfl, _, rfl, ?_⟩
 show U _ _
 subst hU
 generalize e2c c = lw
 obtain ⟨z0, z0n, e0⟩ := e5p (c / 5) (a := o / 9 % 7) (b := 0) (d := o / 9 % (10 : Int) ^ (30 : Int).toNat) (Int.emod_nonneg _ (by decide)) (by decide) (Int.emod_nonneg _ (by decide))
 refine a0c fun U hU => ?_
 refine ⟨_, rfl, _, rfl, _, _, rfl, rfl, ⟨by decide, by decide⟩, _, _, rfl, rfl, (by show (0 : Int) < 7; decide), _, rfl, _, _, rfl, rfl, ⟨by decide, by decide⟩, _, _, rfl, rfl, ⟨by decide, by decide, by decide⟩, _, _, rfl, rfl, (by show (0 : Int) < 10 ^ 30; decide), sz 3, fun l hl => ?_⟩
 have sl := a0i hl (.lst [.int (o / 9 % 7), .int 0, .int (o / 9 % (10 : Int) ^ (30 : Int).toNat)])
 refine ⟨_, rfl, _, _, rfl, rfl, ⟨by decide, by decide⟩, _, _, rfl, rfl, (by show (0 : Int) < 3; decide), l, _, _, _, rfl, rfl, SqL.of a0g, e0, _, _, rfl, rfl, ?_⟩
 show U _ _
 dsimp only
 generalize ehg : lw + z0 = hg
 subst hU
 refine a0c fun U hU => ?_
 have key : ∀ lo : Ent, (∀ l, lo = some l -> l = lw) -> U [some (.int k), some (.int c), some (.int o), some (eV lo), some (.int hg)] (upd H l (.lst [.int (o / 9 % 7), .int 0, .int (o / 9 % (10 : Int) ^ (30 : Int).toNat)])) := by
  intro lo hlo
  subst hU
  refine a0c fun U hU => ?_
  have key2 : ∀ hi : Ent, (∀ h, hi = some h -> h = hg) -> U [some (.int k), some (.int c), some (.int o), some (eV lo), some (eV hi)] (upd H l (.lst [.int (o / 9 % 7), .int 0, .int (o / 9 % (10 : Int) ^ (30 : Int).toNat)])) := by
   intro hi hhi
   subst hU
   exact ⟨_, rfl, _, rfl, _, rfl, sz 4, fun t ht => q t lo hi _ (sl.trans (a0i ht _)) a0g (fun l h e1 e2 => by have := hlo l e1; have := hhi h e2; omega)⟩
  refine ⟨_, rfl, _, _, rfl, rfl, ⟨by decide, by decide⟩, _, _, rfl, rfl, (by show (0 : Int) < 3; decide), rfl, _, rfl, ?_⟩
  exact b2x (fun h => key2 none (fun _ e => by cases e)) (fun h => key2 (some hg) (fun _ e => by cases e; rfl))
 refine ⟨_, rfl, _, _, rfl, rfl, (by show (0 : Int) < 3; decide), rfl, _, rfl, ?_⟩
 exact b2x (fun h => key none (fun _ e => by cases e)) (fun h => key (some lw) (fun _ e => by cases e; rfl))
theorem c8m {f : Addr} {fd : FuncData} (F : Fun K "_law_deed" "_law_deed" b0q f fd) (m : mg "_law_deed" = some (.ref f)) (B : Bl mg) (d3o : Def P w K mg base CX0 "_law_ask" 2 ["_law_k", "_law_cell_here", "_law_other"] (b9z K)) (c0v : Def P w K mg base CX0 "_law_question" 3 ["_law_cell_here", "_law_other", "_law_word", "_law_point_here"] (b0z K)) (c4t : Def P w K mg base CX0 "_law_change" 1 ["_law_cell_here", "_law_count_here"] (b3u K)) (a5o : Def P w K mg base CX0 "_law_big" 1 ["_law_cell_here"] (a5v K)) : Def P w K mg base CX0 "_law_deed" 4 ["_law_kind", "_law_cell_here", "_law_other", "_law_point_here"] (b8e K) := by
 refine ⟨f, fd, F.ok b8f (fun vs H Q E h => ?_) (fun cdv A outer s H vs Q E hr h => ?_), F.binds (ps := ["_law_kind", "_law_cell_here", "_law_other", "_law_point_here"]) fun _ _ _ _ _ _ us hl => (by obtain ⟨b0, b1, b2, b3, rfl⟩ := us4 hl; rfl), F.kp, m⟩
 · obtain ⟨kd, c, o, pt, xs, n, rfl, _⟩ := h
   rfl
 obtain ⟨kd, c, o, pt, xs, n, rfl, hP, lx, n1, n6, q⟩ := h
 refine ⟨_, (@a0f _ _ _ _ _ (a1h 4 b8f.nd (a0p a1y (a0p a1t (pv 0) a0d) (a1f (a1g (K := K) rfl) (by rfl) B.len (by decide +kernel) (a0a (pv 3) a0b))))
  (@a0f _ _ _ _ _ (a1d (a0m a3n (a0p a1y (pv 0) a0d) a0d (a0s _)) (a0h (a0l (a2x (a0n a4r a0b)))) a0o)
  (@a0f _ _ _ _ _ (a1d (a0m c4n (a0p a1y (pv 0) a0d) a0d (a0s _)) (a0h (a0l (a2x (a0n a4r (a0u (a0q c0v hr (a0a (pv 1) (a0a (pv 2) (a0x (a0p a1t (pv 0) a0d) (a0a (pv 3) a0b))))) a0b))))) a0o)
  (@a0f _ _ _ _ _ (a1d (a0m c4n (a0p a1y (pv 0) a0d) a0d (a0s _)) (a0h (a0l (a2x (a0n a4r (a0a (pv 4) (a0x (a0p (b5g (K := K) rfl) (a0q c4t hr (a0a (pv 1) (a0u (a1f (a1g (K := K) rfl) (by rfl) B.len (by decide +kernel) (a0a (pv 3) a0b)) a0b))) (a2x (a0u (a0q a5o hr (a0a (pv 2) a0b)) a0b))) a0b)))))) a0o)
  (a0h (a0l (a0q d3o hr (a0a (pv 4) (a0a (pv 1) (a0a (pv 2) a0b)))))))))), ?_⟩
 have lx' : (xs.map V.int).length = n := by rw [List.length_map, lx]
 obtain ⟨k, ek, hk⟩ := e3o (kd / 8) n1
 refine a0c fun U hU => ?_
 refine ⟨_, rfl, _, _, rfl, rfl, ⟨by decide, by decide⟩, _, rfl, pt, _, rfl, .inr hP, _, _, rfl, rfl, (by show (0 : Int) < ((xs.map V.int).length : Int); omega), ?_⟩
 show U _ _
 dsimp only
 rw [lx', ek]
 subst hU
 refine a0c fun U hU => ?_
 refine ⟨_, rfl, _, _, rfl, rfl, (by show (0 : Int) < 8; decide), rfl, _, rfl, ?_⟩
 refine b2x (fun h => ?_) (fun h => ?_)
 · exact ⟨sz 1, fun t ht => q _ .go _ (a0i ht _) ⟨t, rfl, a0g⟩ trivial⟩
 show U _ _
 subst hU
 refine a0c fun U hU => ?_
 refine ⟨_, rfl, _, _, rfl, rfl, (by show (0 : Int) < 8; decide), _, _, rfl, rfl, _, rfl, ?_⟩
 refine b2x (fun h => ?_) (fun h => ?_)
 · refine ⟨_, rfl, _, rfl, _, rfl, _, _, rfl, rfl, ⟨by decide, by decide⟩, _, rfl, c, o, _, pt, xs, n, rfl, hP, lx, n1, n6, fun qa f g wd cc H1 sm1 e1 hf hg hwd => ?_⟩
   refine ⟨sz 2, fun t ht => ?_⟩
   have st := a0i ht (.tup [.str "keep", .ref qa])
   exact q (.ref t) (.keep f g wd cc) _ (sm1.trans st) ⟨t, qa, rfl, a0g, st _ _ e1⟩ ⟨hf, hg, hwd⟩
 show U _ _
 subst hU
 refine a0c fun U hU => ?_
 refine ⟨_, rfl, _, _, rfl, rfl, (by show (0 : Int) < 8; decide), _, _, rfl, rfl, _, rfl, ?_⟩
 refine b2x (fun h => ?_) (fun h => ?_)
 · refine ⟨_, rfl, _, rfl, _, rfl, pt, _, rfl, .inr hP, c, n, (by rw [lx']; rfl), n1, n6, fun ca f g H1 sm1 e1 hf hg => ?_⟩
   refine ⟨_, rfl, _, rfl, sz 1, fun t1 ht1 => ?_⟩
   have s1 := a0i ht1 (.tup [.int (e2c o)])
   refine .inl ⟨ca, t1, _, _, rfl, rfl, SqT.of (s1 _ _ e1), SqT.of a0g, by simp, sz 3, fun e => (by cases e), fun _ aa haa => ?_⟩
   have s2 := a0i haa (.tup ([gV f, gV g] ++ [.int (e2c o)]))
   refine ⟨sz 3, fun t ht => ?_⟩
   have st := a0i ht (.tup [.str "put", .int k, .ref aa])
   exact q (.ref t) (.put k f g (e2c o)) _ (((sm1.trans s1).trans s2).trans st) ⟨t, aa, rfl, a0g, st _ _ a0g⟩ ⟨hk, hf, hg⟩
 show U _ _
 subst hU
 exact ⟨_, rfl, _, rfl, _, rfl, k, c, o, rfl, fun t lo hi H1 sm1 e1 hlh => q (.ref t) (.ask k lo hi) H1 sm1 ⟨t, rfl, e1⟩ ⟨hk, hlh⟩⟩
theorem c8w {f : Addr} {fd : FuncData} (F : Fun K "_law_made" "_law_made" a9z f fd) (m : mg "_law_made" = some (.ref f)) (B : Bl mg) (c9p : b3s P w K mg base CX0 1 ["self", "question"] (b8d K Z_Keep) y11) (d4o : b3s P w K mg base CX0 1 ["self", "k", "amount"] (b9m K Z_Put) y14) (d3z : b3s P w K mg base CX0 1 ["self", "k", "low", "high"] (b9r K Z_Ask) y4) : Def P w K mg base CX0 "_law_made" 3 ["_law_drawn"] (b7n K Z_Go Z_Keep Z_Put Z_Ask) := by
 refine ⟨f, fd, F.ok c8i (fun vs H Q E h => ?_) (fun cdv A outer s H vs Q E hr h => ?_), F.binds (ps := ["_law_drawn"]) fun _ _ _ _ _ _ us hl => (by obtain ⟨b0, rfl⟩ := us1 hl; rfl), F.kp, m⟩
 · obtain ⟨v, D, rfl, _⟩ := h
   rfl
 obtain ⟨v, D, rfl, hD, q⟩ := h
 refine ⟨_, (@a0f _ _ _ _ _ (a1d (a0m a3n (a1n (K := K) (pv 0) a0d) a4r (a0s _)) (a0h (a0l (d0u c9p T.mk_Keep T.mg_Keep (hr.mono (by decide)) (by rfl) a6p (a0e (a1n (K := K) (pv 0) a0d) a0b)))) a0o)
  (@a0f _ _ _ _ _ (a1d (a0m a3n (a1n (K := K) (pv 0) a0d) a4r (a0s _)) (a0h (a0l (d0u d4o T.mk_Put T.mg_Put (hr.mono (by decide)) (by rfl) a6p (a0e (a1n (K := K) (pv 0) a0d) (a0e (a1n (K := K) (pv 0) a0d) a0b))))) a0o)
  (@a0f _ _ _ _ _ (a1d (a0m a3n (a1n (K := K) (pv 0) a0d) a4r (a0s _)) (a0h (a0l (d0u d3z T.mk_Ask T.mg_Ask (hr.mono (by decide)) (by rfl) a6p (a0e (a1n (K := K) (pv 0) a0d) (a0e (a1n (K := K) (pv 0) a0d) (a0e (a1n (K := K) (pv 0) a0d) a0b)))))) a0o)
  (a0h (a0l (e1i T.mk_Go T.mg_Go (by rfl))))))), ?_⟩
 cases D with
 | go =>
  obtain ⟨t, rfl, ht⟩ := hD
  have hT : SqT K H t [.str "go"] := SqT.of ht
  refine a0c fun U hU => ?_
  refine ⟨_, rfl, t, _, 0, _, rfl, rfl, hT, rfl, rfl, _, rfl, ?_⟩
  rw [c5m e8v]
  refine a2c ?_
  show U _ _
  subst hU
  refine a0c fun U hU => ?_
  refine ⟨_, rfl, t, _, 0, _, rfl, rfl, hT, rfl, rfl, _, rfl, ?_⟩
  rw [c5m e8u]
  refine a2c ?_
  show U _ _
  subst hU
  refine a0c fun U hU => ?_
  refine ⟨_, rfl, t, _, 0, _, rfl, rfl, hT, rfl, rfl, _, rfl, ?_⟩
  rw [c5m e8f]
  refine a2c ?_
  show U _ _
  subst hU
  exact fun x dx hx hdx ne => q (.ref x) _ (a0z hx (a0i hdx _)) ⟨x, dx, rfl, a0g⟩
 | keep f g w c =>
  obtain ⟨t, qa, rfl, ht, hqa⟩ := hD
  have hT : SqT K H t [.str "keep", .ref qa] := SqT.of ht
  refine a0c fun U hU => ?_
  refine ⟨_, rfl, t, _, 0, _, rfl, rfl, hT, rfl, rfl, _, rfl, ?_⟩
  rw [e3z]
  refine a3h ?_
  refine ⟨_, rfl, t, _, 1, _, rfl, rfl, hT, rfl, fun x dx hx hdx ne => ?_⟩
  have S := a0z (o := .ins Z_Keep dx (fK (.ref qa))) hx (a0z (o := .ins Z_Keep dx []) hx (a0i hdx (.own x)))
  exact ⟨x, dx, .ref qa, rfl, a0g, rfl, q (.ref x) _ S ⟨x, dx, qa, rfl, a0g, S _ _ hqa⟩⟩
 | put k f g c =>
  obtain ⟨t, aa, rfl, ht, haa⟩ := hD
  have hT : SqT K H t [.str "put", .int k, .ref aa] := SqT.of ht
  refine a0c fun U hU => ?_
  refine ⟨_, rfl, t, _, 0, _, rfl, rfl, hT, rfl, rfl, _, rfl, ?_⟩
  rw [c5m e2m]
  refine a2c ?_
  show U _ _
  subst hU
  refine a0c fun U hU => ?_
  refine ⟨_, rfl, t, _, 0, _, rfl, rfl, hT, rfl, rfl, _, rfl, ?_⟩
  rw [e3z]
  refine a3h ?_
  refine ⟨_, rfl, t, _, 1, _, rfl, rfl, hT, rfl, _, rfl, t, _, 2, _, rfl, rfl, hT, rfl, fun x dx hx hdx ne => ?_⟩
  have S := a0z (o := .ins Z_Put dx (fP (.int k) (.ref aa))) hx (a0z (o := .ins Z_Put dx (b3i "k" (.int k) [])) hx (a0z (o := .ins Z_Put dx []) hx (a0i hdx (.own x))))
  exact ⟨x, dx, .int k, .ref aa, rfl, a0g, rfl, q (.ref x) _ S ⟨x, dx, aa, rfl, a0g, S _ _ haa⟩⟩
 | ask k lo hi =>
  obtain ⟨t, rfl, ht⟩ := hD
  have hT : SqT K H t [.str "ask", .int k, eV lo, eV hi] := SqT.of ht
  refine a0c fun U hU => ?_
  refine ⟨_, rfl, t, _, 0, _, rfl, rfl, hT, rfl, rfl, _, rfl, ?_⟩
  rw [c5m e4f]
  refine a2c ?_
  show U _ _
  subst hU
  refine a0c fun U hU => ?_
  refine ⟨_, rfl, t, _, 0, _, rfl, rfl, hT, rfl, rfl, _, rfl, ?_⟩
  rw [c5m e6q]
  refine a2c ?_
  show U _ _
  subst hU
  refine a0c fun U hU => ?_
  refine ⟨_, rfl, t, _, 0, _, rfl, rfl, hT, rfl, rfl, _, rfl, ?_⟩
  rw [e3z]
  refine a3h ?_
  refine ⟨_, rfl, t, _, 1, _, rfl, rfl, hT, rfl, _, rfl, t, _, 2, _, rfl, rfl, hT, rfl, _, rfl, t, _, 3, _, rfl, rfl, hT, rfl, fun x dx hx hdx ne => ?_⟩
  have S := a0z (o := .ins Z_Ask dx (fA (.int k) (eV lo) (eV hi))) hx (a0z (o := .ins Z_Ask dx (b3i "low" (eV lo) (b3i "k" (.int k) []))) hx (a0z (o := .ins Z_Ask dx (b3i "k" (.int k) [])) hx (a0z (o := .ins Z_Ask dx []) hx (a0i hdx (.own x)))))
  exact ⟨x, dx, .int k, eV lo, eV hi, rfl, a0g, rfl, q (.ref x) _ S ⟨x, dx, rfl, a0g⟩⟩
theorem c8h {f : Addr} {fd : FuncData} (F : Fun K "_law_step" "_law_step" b0g f fd) (m : mg "_law_step" = some (.ref f)) (B : Bl mg) (c5r : Def P w K mg base CX0 "_law_holds" 2 ["_law_point_here", "_law_question_here"] (b5q K)) (a9r : Def P w K mg base CX0 "_law_sum" 2 ["_law_point_here", "_law_forms"] (b0r K)) : Def P w K mg base CX0 "_law_step" 3 ["_law_drawn", "_law_point_here", "_law_number"] (b7q K) := by
 refine ⟨f, fd, F.ok a4y (fun vs H Q E h => ?_) (fun cdv A outer s H vs Q E hr h => ?_), F.binds (ps := ["_law_drawn", "_law_point_here", "_law_number"]) fun _ _ _ _ _ _ us hl => (by obtain ⟨b0, b1, b2, rfl⟩ := us3 hl; rfl), F.kp, m⟩
 · obtain ⟨v, D, a, xs, num, rfl, _⟩ := h
   rfl
 obtain ⟨v, D, a, xs, num, rfl, hD, hpt, hin, l100, q⟩ := h
 refine ⟨_, (@a0f _ _ _ _ _ (a1d (a0m a3n (a1n (K := K) (pv 0) a0d) a4r (a0s _)) (a0h (a0l (pv 1))) a0o)
  (@a0f _ _ _ _ _ (a1d (a0m a3n (a1n (K := K) (pv 0) a0d) a4r (a0s _)) (@a0f _ _ _ _ _ (a1d (a7r (a0q c5r hr (a0a (pv 1) (a0e (a1n (K := K) (pv 0) a0d) a0b)))) (a0h (a0l (pv 1))) a0o)
  (a0h (a0l a0w))) a0o)
  (@a0f _ _ _ _ _ (a1h 3 a4y.nd (a1n (K := K) (pv 0) a0d))
  (@a0f _ _ _ _ _ (a1d (a0m a3n (a1n (K := K) (pv 0) a0d) a4r (a0s _)) (a0h (a1h 2 a4y.nd (a0p a2d (a1n (K := K) (a1n (K := K) (pv 0) a0d) a0d) (a0q a9r hr (a0a (pv 1) (a2i (a5w (a1c.of a4y.nd (by rfl)) rfl (c3q (K := K) rfl (a9a (b3v (K := K) rfl) (a1n (K := K) (pv 0) a0d) b4c (b0f a0d))) (fun _ _ _ => b2a (a0m a3l (pv 0) a0w (a0s _))) (fun _ _ _ => (pv 0))) a0b)))))) (a0h (a1d (c1w (a0m a3l (a1n (K := K) (pv 0) a0d) a0w (a0s _)) (c0e (a0m c4n (pv 2) (a1n (K := K) (pv 0) a0d) (a0s _)))).pt (a0h (a1h 2 a4y.nd (a1n (K := K) (pv 0) a0d))) (a0h (a1d (c1w (a0m a3l (a1n (K := K) (pv 0) a0d) a0w (a0s _)) (c0e (a0m e0l (pv 2) (a1n (K := K) (pv 0) a0d) (a0s _)))).pt (a0h (a1h 2 a4y.nd (a1n (K := K) (pv 0) a0d))) a0o)))))
  (a0h (a0l (a0p (b5g (K := K) rfl) (a0p (b5g (K := K) rfl) (a9a (b3v (K := K) rfl) (pv 1) b4c (b0f (pv 3))) (a2x (a0a (pv 2) a0b))) (a9a (b3v (K := K) rfl) (pv 1) (b0f (a0p a2d (pv 3) a0d)) b4c)))))))), ?_⟩
 cases D with
 | go =>
  obtain ⟨t, rfl, ht⟩ := hD
  have hT : SqT K H t [.str "go"] := SqT.of ht
  refine a0c fun U hU => ?_
  refine ⟨_, rfl, t, _, 0, _, rfl, rfl, hT, rfl, rfl, _, rfl, ?_⟩
  rw [e3z]
  refine a3h ?_
  exact ⟨_, rfl, q (.ref a) H (a1i.refl _) ⟨a, rfl, hpt⟩⟩
 | keep f g w c =>
  obtain ⟨t, qa, rfl, ht, hqa⟩ := hD
  have hT : SqT K H t [.str "keep", .ref qa] := SqT.of ht
  refine a0c fun U hU => ?_
  refine ⟨_, rfl, t, _, 0, _, rfl, rfl, hT, rfl, rfl, _, rfl, ?_⟩
  rw [c5m e6o]
  refine a2c ?_
  show U _ _
  subst hU
  refine a0c fun U hU => ?_
  refine ⟨_, rfl, t, _, 0, _, rfl, rfl, hT, rfl, rfl, _, rfl, ?_⟩
  rw [e3z]
  refine a3h ?_
  refine a0c fun U hU => ?_
  refine ⟨_, rfl, _, rfl, t, _, 1, _, rfl, rfl, hT, rfl, a, qa, xs, f, g, w, c, rfl, SqT.of hpt, SqT.of hqa, hin.1, hin.2.1, ?_⟩
  refine ⟨_, rfl, ?_⟩
  have q1 : ∀ r H', a1i H H' -> PtO H' r (if a9d w (d9a xs f g) c = true then some xs else none) -> Q r H' := q
  cases hh : a9d w (d9a xs f g) c with
  | true =>
   rw [hh, if_pos rfl] at q1
   refine a3h ?_
   exact ⟨_, rfl, q1 (.ref a) H (a1i.refl _) ⟨a, rfl, hpt⟩⟩
  | false =>
   rw [hh, if_neg (by decide)] at q1
   refine a2c ?_
   show U _ _
   subst hU
   exact q1 .non H (a1i.refl _) rfl
 | put k f g c =>
  obtain ⟨t, aa, rfl, ht, haa⟩ := hD
  obtain ⟨hk, hf, hg⟩ := hin
  have hT : SqT K H t [.str "put", .int k, .ref aa] := SqT.of ht
  have hAa : SqT K H aa [gV f, gV g, .int c] := SqT.of haa
  refine a0c fun U hU => ?_
  refine ⟨_, rfl, t, _, 0, _, rfl, rfl, hT, rfl, rfl, _, rfl, ?_⟩
  rw [c5m e8m]
  refine a2c ?_
  show U _ _
  subst hU
  refine a0c fun U hU => ?_
  refine ⟨_, rfl, t, _, 0, _, rfl, rfl, hT, rfl, rfl, _, rfl, ?_⟩
  rw [c5m e2m]
  refine a2c ?_
  show U _ _
  subst hU
  refine a0c fun U hU => ?_
  refine ⟨_, rfl, t, _, 1, _, rfl, rfl, hT, rfl, ?_⟩
  show U _ _
  subst hU
  refine a0c fun U hU => ?_
  have fin : ∀ (z : Int) (H1 : Hp), a1i H H1 -> z = e4z xs f g c -> U [some (.ref t), some (.ref a), some (.int z), some (.int k)] H1 := by
   intro z H1 sm1 ez
   subst hU
   have hA := sm1.sqT (SqT.of (K := K) hpt)
   have qf : ∀ p H', a1i H1 H' -> H' p = some (.tup ((xs.set k z).map V.int)) -> Q (.ref p) H' := fun p H' s e => q (.ref p) H' (sm1.trans s) ⟨p, rfl, by rw [← ez]; exact e⟩
   have small : ∀ {m : Nat}, m <= 1000 -> m <= sizeLine := fun h => Nat.le_of_lt (a0y h)
   refine ⟨_, rfl, _, rfl, (k : Int), rfl, a, _, rfl, hA, ?_, fun p1 hp1 => ?_⟩
   · rw [List.length_map, a5h (by omega)]
     omega
   have s1 := a0i hp1 (.tup (b3k (xs.map V.int) none (some (k : Int))))
   have e1 : upd H1 p1 (.tup (b3k (xs.map V.int) none (some (k : Int)))) p1 = some (.tup ((xs.take k).map V.int)) := by rw [a0g, c3o (by omega)]
   refine ⟨_, rfl, sz 1, fun p2 hp2 => ?_⟩
   have s2 := a0i hp2 (.tup [.int z])
   have s12 := s1.trans s2
   by_cases h0 : k = 0
   · have e0 : (xs.take k).map V.int = [] := by rw [h0]; rfl
     rw [e0] at e1
     refine .inr ⟨p1, p2, _, rfl, rfl, SqT.of (s2 _ _ e1), SqT.of a0g, ?_⟩
     have e2 : upd (upd H1 p1 (.tup (b3k (xs.map V.int) none (some (k : Int))))) p2 (.tup [.int z]) p2 = some (.tup ((xs.take k).map V.int ++ [.int z])) := by rw [a0g, e0]; rfl
     have ez : b3k (xs.map V.int) (some ((k : Int) + 1)) none = (xs.drop (k + 1)).map V.int := b2o (k := k + 1) (by omega)
     refine ⟨_, rfl, _, rfl, _, _, rfl, rfl, _, rfl, a, _, rfl, s12.sqT hA, ?_, fun p3 hp3 => ?_⟩
     · rw [List.length_map, show ((k : Int) + 1) = ((k + 1 : Nat) : Int) from rfl, a5h (by omega)]
       omega
     rw [ez]
     have s3 := a0i hp3 (.tup ((xs.drop (k + 1)).map V.int))
     refine .inl ⟨_, p3, _, _, rfl, rfl, SqT.of (s3 _ _ e2), SqT.of a0g, by simp, small (by simp; omega), fun e => ?_, fun _ p4 hp4 => ?_⟩
     · have es : (xs.set k z).map V.int = (xs.take k).map V.int ++ [V.int z] := by rw [a3u hk, e, List.append_nil]
       refine qf _ _ (s12.trans s3) ?_
       rw [es]
       exact s3 _ _ e2
     · refine qf _ _ ((s12.trans s3).trans (a0i hp4 _)) ?_
       rw [a0g, a3u hk]
   · refine .inl ⟨p1, p2, _, _, rfl, rfl, SqT.of (s2 _ _ e1), SqT.of a0g, (by intro z; have := congrArg List.length z; rw [List.length_map, List.length_take, List.length_nil] at this; omega), small (by simp; omega), fun e => (by cases e), fun _ pp hpp => ?_⟩
     have s13 := s12.trans (a0i hpp (.tup ((xs.take k).map V.int ++ [.int z])))
     have e2 : upd (upd (upd H1 p1 (.tup (b3k (xs.map V.int) none (some (k : Int))))) p2 (.tup [.int z])) pp (.tup ((xs.take k).map V.int ++ [.int z])) pp = some (.tup ((xs.take k).map V.int ++ [.int z])) := a0g
     have ez : b3k (xs.map V.int) (some ((k : Int) + 1)) none = (xs.drop (k + 1)).map V.int := b2o (k := k + 1) (by omega)
     refine ⟨_, rfl, _, rfl, _, _, rfl, rfl, _, rfl, a, _, rfl, s13.sqT hA, ?_, fun p3 hp3 => ?_⟩
     · rw [List.length_map, show ((k : Int) + 1) = ((k + 1 : Nat) : Int) from rfl, a5h (by omega)]
       omega
     rw [ez]
     have s3 := a0i hp3 (.tup ((xs.drop (k + 1)).map V.int))
     refine .inl ⟨_, p3, _, _, rfl, rfl, SqT.of (s3 _ _ e2), SqT.of a0g, by simp, small (by simp; omega), fun e => ?_, fun _ p4 hp4 => ?_⟩
     · have es : (xs.set k z).map V.int = (xs.take k).map V.int ++ [V.int z] := by rw [a3u hk, e, List.append_nil]
       refine qf _ _ (s13.trans s3) ?_
       rw [es]
       exact s3 _ _ e2
     · refine qf _ _ ((s13.trans s3).trans (a0i hp4 _)) ?_
       rw [a0g, a3u hk]
  refine ⟨_, rfl, t, _, 0, _, rfl, rfl, hT, rfl, rfl, _, rfl, ?_⟩
  rw [e3z]
  refine a3h ?_
  refine ⟨_, rfl, t, _, 2, _, rfl, rfl, hT, rfl, aa, _, 2, _, rfl, rfl, hAa, rfl, _, rfl, _, rfl, t, _, 2, _, rfl, rfl, hT, rfl, (2 : Int), rfl, aa, _, rfl, hAa, (by rintro ⟨_, h⟩; cases h), fun t2 ht2 => ?_⟩
  rw [show b3k [gV f, gV g, V.int c] none (some 2) = [gV f, gV g] from rfl]
  have st := a0i ht2 (.tup [gV f, gV g])
  refine ⟨t2, rfl, ⟨_, SqT.of a0g⟩, fun p hp => c1d (K := K) (a := t2) (xs := [gV f, gV g]) (fun i ys H' => ys = ((match i with | 0 => [] | 1 => d1r f | _ => fsO f g).map V.int) /\ H' p = some (.lst ys) /\ a1i (upd H t2 (.tup [gV f, gV g])) H') ⟨rfl, a0g, a0i hp _⟩ (fun i ys H' _ ⟨_, _, sm⟩ => SqT.of (sm _ _ a0g)) ?_ ?_⟩
  · rintro i x ys H' hx ⟨rfl, hp', sm⟩
    match i, hx, hp' with
    | 0, hx, hp' =>
     cases hx
     refine ⟨_, rfl, rfl, _, rfl, ?_⟩
     cases f with
     | none =>
      refine a2c ?_
      exact a2j (by show 0 < 2; decide) ⟨rfl, hp', sm⟩
     | some z =>
      refine a3h ?_
      exact ⟨_, rfl, hp', a0y (by simp), a2j (by show 0 < 2; decide) ⟨rfl, a0g, a0z hp sm⟩⟩
    | 1, hx, hp' =>
     cases hx
     refine ⟨_, rfl, rfl, _, rfl, ?_⟩
     cases g with
     | none =>
      refine a2c ?_
      exact a2j (by show 1 < 2; decide) ⟨by simp [fsO, d1r], hp', sm⟩
     | some z =>
      refine a3h ?_
      exact ⟨_, rfl, hp', a0y (by cases f <;> simp [d1r]), a2j (by show 1 < 2; decide) ⟨by simp [fsO, d1r, gV], a0g, a0z hp sm⟩⟩
    | i + 2, hx, _ => cases hx
  · rintro ys H' ⟨rfl, hp', sm⟩
    have s2 := st.trans sm
    refine ⟨a, p, xs, fsO f g, rfl, s2.sqT (SqT.of hpt), SqL.of hp', e5f hf hg, _, _, rfl, rfl, ?_⟩
    exact fin _ H' s2 (Int.add_comm _ _)
 | ask k lo hi =>
  obtain ⟨t, rfl, ht⟩ := hD
  have hk : k < xs.length := hin.1
  have hT : SqT K H t [.str "ask", .int k, eV lo, eV hi] := SqT.of ht
  refine a0c fun U hU => ?_
  refine ⟨_, rfl, t, _, 0, _, rfl, rfl, hT, rfl, rfl, _, rfl, ?_⟩
  rw [c5m e9g]
  refine a2c ?_
  show U _ _
  subst hU
  refine a0c fun U hU => ?_
  refine ⟨_, rfl, t, _, 0, _, rfl, rfl, hT, rfl, rfl, _, rfl, ?_⟩
  rw [c5m e4f]
  refine a2c ?_
  show U _ _
  subst hU
  refine a0c fun U hU => ?_
  refine ⟨_, rfl, t, _, 1, _, rfl, rfl, hT, rfl, ?_⟩
  show U _ _
  subst hU
  refine a0c fun U hU => ?_
  have fin : ∀ (z : Int), z = b3t lo hi num -> U [some (.ref t), some (.ref a), some (.int z), some (.int k)] H := by
   intro z ez
   subst hU
   have hA := SqT.of (K := K) hpt
   have qf : ∀ p H', a1i H H' -> H' p = some (.tup ((xs.set k z).map V.int)) -> Q (.ref p) H' := fun p H' s e => q (.ref p) H' s ⟨p, rfl, by rw [← ez]; exact e⟩
   have small : ∀ {m : Nat}, m <= 1000 -> m <= sizeLine := fun h => Nat.le_of_lt (a0y h)
   refine ⟨_, rfl, _, rfl, (k : Int), rfl, a, _, rfl, hA, ?_, fun p1 hp1 => ?_⟩
   · rw [List.length_map, a5h (by omega)]
     omega
   have s1 := a0i hp1 (.tup (b3k (xs.map V.int) none (some (k : Int))))
   have e1 : upd H p1 (.tup (b3k (xs.map V.int) none (some (k : Int)))) p1 = some (.tup ((xs.take k).map V.int)) := by rw [a0g, c3o (by omega)]
   refine ⟨_, rfl, sz 1, fun p2 hp2 => ?_⟩
   have s2 := a0i hp2 (.tup [.int z])
   have s12 := s1.trans s2
   by_cases h0 : k = 0
   · have e0 : (xs.take k).map V.int = [] := by rw [h0]; rfl
     rw [e0] at e1
     refine .inr ⟨p1, p2, _, rfl, rfl, SqT.of (s2 _ _ e1), SqT.of a0g, ?_⟩
     have e2 : upd (upd H p1 (.tup (b3k (xs.map V.int) none (some (k : Int))))) p2 (.tup [.int z]) p2 = some (.tup ((xs.take k).map V.int ++ [.int z])) := by rw [a0g, e0]; rfl
     have ez : b3k (xs.map V.int) (some ((k : Int) + 1)) none = (xs.drop (k + 1)).map V.int := b2o (k := k + 1) (by omega)
     refine ⟨_, rfl, _, rfl, _, _, rfl, rfl, _, rfl, a, _, rfl, s12.sqT hA, ?_, fun p3 hp3 => ?_⟩
     · rw [List.length_map, show ((k : Int) + 1) = ((k + 1 : Nat) : Int) from rfl, a5h (by omega)]
       omega
     rw [ez]
     have s3 := a0i hp3 (.tup ((xs.drop (k + 1)).map V.int))
     refine .inl ⟨_, p3, _, _, rfl, rfl, SqT.of (s3 _ _ e2), SqT.of a0g, by simp, small (by simp; omega), fun e => ?_, fun _ p4 hp4 => ?_⟩
     · have es : (xs.set k z).map V.int = (xs.take k).map V.int ++ [V.int z] := by rw [a3u hk, e, List.append_nil]
       refine qf _ _ (s12.trans s3) ?_
       rw [es]
       exact s3 _ _ e2
     · refine qf _ _ ((s12.trans s3).trans (a0i hp4 _)) ?_
       rw [a0g, a3u hk]
   · refine .inl ⟨p1, p2, _, _, rfl, rfl, SqT.of (s2 _ _ e1), SqT.of a0g, (by intro z; have := congrArg List.length z; rw [List.length_map, List.length_take, List.length_nil] at this; omega), small (by simp; omega), fun e => (by cases e), fun _ pp hpp => ?_⟩
     have s13 := s12.trans (a0i hpp (.tup ((xs.take k).map V.int ++ [.int z])))
     have e2 : upd (upd (upd H p1 (.tup (b3k (xs.map V.int) none (some (k : Int))))) p2 (.tup [.int z])) pp (.tup ((xs.take k).map V.int ++ [.int z])) pp = some (.tup ((xs.take k).map V.int ++ [.int z])) := a0g
     have ez : b3k (xs.map V.int) (some ((k : Int) + 1)) none = (xs.drop (k + 1)).map V.int := b2o (k := k + 1) (by omega)
     refine ⟨_, rfl, _, rfl, _, _, rfl, rfl, _, rfl, a, _, rfl, s13.sqT hA, ?_, fun p3 hp3 => ?_⟩
     · rw [List.length_map, show ((k : Int) + 1) = ((k + 1 : Nat) : Int) from rfl, a5h (by omega)]
       omega
     rw [ez]
     have s3 := a0i hp3 (.tup ((xs.drop (k + 1)).map V.int))
     refine .inl ⟨_, p3, _, _, rfl, rfl, SqT.of (s3 _ _ e2), SqT.of a0g, by simp, small (by simp; omega), fun e => ?_, fun _ p4 hp4 => ?_⟩
     · have es : (xs.set k z).map V.int = (xs.take k).map V.int ++ [V.int z] := by rw [a3u hk, e, List.append_nil]
       refine qf _ _ (s13.trans s3) ?_
       rw [es]
       exact s3 _ _ e2
     · refine qf _ _ ((s13.trans s3).trans (a0i hp4 _)) ?_
       rw [a0g, a3u hk]
  refine ⟨_, rfl, t, _, 0, _, rfl, rfl, hT, rfl, rfl, _, rfl, ?_⟩
  rw [c5m e6q]
  refine a2c ?_
  refine ⟨_, rfl, t, _, 2, _, rfl, rfl, hT, rfl, rfl, _, rfl, ?_⟩
  cases lo with
  | none =>
   refine a2c ?_
   refine a2c ?_
   refine ⟨_, rfl, t, _, 3, _, rfl, rfl, hT, rfl, rfl, _, rfl, ?_⟩
   have eno := b9b (lo := none) (hi := hi) (z := num) (fun l e => (by cases e))
   cases hi with
   | none =>
    refine a2c ?_
    refine a2c ?_
    exact fin num eno.symm
   | some y =>
    refine a3h ?_
    refine ⟨_, rfl, _, rfl, t, _, 3, _, rfl, rfl, hT, rfl, _, _, rfl, rfl, _, rfl, ?_⟩
    by_cases h2 : y < num
    · rw [decide_eq_true h2]
      refine a3h ?_
      exact ⟨_, rfl, t, _, 3, _, rfl, rfl, hT, rfl, fin y (by rw [eno, e1o h2])⟩
    · rw [decide_eq_false h2]
      refine a2c ?_
      exact fin num (by rw [eno, e2a h2])
  | some l =>
   refine a3h ?_
   refine ⟨_, rfl, _, rfl, t, _, 2, _, rfl, rfl, hT, rfl, _, _, rfl, rfl, _, rfl, ?_⟩
   by_cases h : num < l
   · rw [decide_eq_true h]
     refine a3h ?_
     exact ⟨_, rfl, t, _, 2, _, rfl, rfl, hT, rfl, fin l (c3w h).symm⟩
   · rw [decide_eq_false h]
     refine a2c ?_
     refine ⟨_, rfl, t, _, 3, _, rfl, rfl, hT, rfl, rfl, _, rfl, ?_⟩
     have eno := b9b (lo := some l) (hi := hi) (z := num) (fun l' e => (by cases e; exact h))
     cases hi with
     | none =>
      refine a2c ?_
      refine a2c ?_
      exact fin num eno.symm
     | some y =>
      refine a3h ?_
      refine ⟨_, rfl, _, rfl, t, _, 3, _, rfl, rfl, hT, rfl, _, _, rfl, rfl, _, rfl, ?_⟩
      by_cases h2 : y < num
      · rw [decide_eq_true h2]
        refine a3h ?_
        exact ⟨_, rfl, t, _, 3, _, rfl, rfl, hT, rfl, fin y (by rw [eno, e1o h2])⟩
      · rw [decide_eq_false h2]
        refine a2c ?_
        exact fin num (by rw [eno, e2a h2])
theorem b5m {f : Addr} {fd : FuncData} (F : Fun K "_law_source_sum" "_law_source_sum" a4h f fd) (m : mg "_law_source_sum" = some (.ref f)) (B : Bl mg) (c9u : Def P w K mg base CX0 "_law_step" 3 ["_law_drawn", "_law_point_here", "_law_number"] (b7q K)) (a9r : Def P w K mg base CX0 "_law_sum" 2 ["_law_point_here", "_law_forms"] (b0r K)) (a6f : Def P w K mg base CX0 "_law_whole" 1 ["_law_found"] (a7a K)) (b6w : Def P w K mg base CX0 "_law_point_like" 2 ["_law_found", "_law_count_here"] (a8j K)) (c7m : Def P w K mg base CX0 "_law_keeps" 2 ["_law_point_here", "_law_sides_here"] (b6k K)) : Def P w K mg base CX0 "_law_source_sum" 4 ["_law_found", "_law_drawn", "_law_sides_here", "_law_count_here", "_law_pair"] (a8x K) := by
 refine ⟨f, fd, F.ok a8k (fun vs H Q E h => ?_) (fun cdv A outer s H vs Q E hr h => ?_), F.binds (ps := ["_law_found", "_law_drawn", "_law_sides_here", "_law_count_here", "_law_pair"]) fun _ _ _ _ _ _ us hl => (by obtain ⟨b0, b1, b2, b3, b4, rfl⟩ := us5 hl; rfl), F.kp, m⟩
 · obtain ⟨r, a, sd, pr, v, D, n, f, g, a1j, ys, num, yv, ss, rfl, _⟩ := h
   rfl
 obtain ⟨r, a, sd, pr, v, D, n, f, g, a1j, ys, num, yv, ss, rfl, er, ea, ln, hDr, hI, esd, psd, hin, hk, epr, hf, hg, n6, hst, ly, q⟩ := h
 refine ⟨_, (@a0f _ _ _ _ _ (a1d (b8k (b1f (a7r (a1f (a7n (K := K) rfl) (by rfl) B.isinstance (by decide +kernel) (a0a (pv 0) (a0a (b6t (v := .ty "tuple") (u := .type "tuple") (by rfl) B.tuple (by decide +kernel) rfl) a0b))))) (b8k (a0m d1a (a1f (a1g (K := K) rfl) (by rfl) B.len (by decide +kernel) (a0a (pv 0) a0b)) a0d (a0s _)) (b2j (b1f (a7r (a0q a6f hr (a0e (a1n (K := K) (pv 0) a0d) a0b))))))).pt (a0h (a0l a0w)) a0o)
  (@a0f _ _ _ _ _ (a1d (b8k (b1f (a7r (a0q b6w hr (a0e (a1n (K := K) (pv 0) a0d) (a0a (pv 3) a0b))))) (b2j (b1f (a7r (a0q c7m hr (a0e (a1n (K := K) (pv 0) a0d) (a0a (pv 2) a0b))))))).pt (a0h (a0l a0w)) a0o)
  (@a0f _ _ _ _ _ (a1h 5 a8k.nd (a0q c9u hr (a0a (pv 1) (a0e (a1n (K := K) (pv 0) a0d) (a0e (a1n (K := K) (pv 0) a0d) a0b)))))
  (@a0f _ _ _ _ _ (a1d (a0m a3c (pv 5) a0w (a0s _)) (a0h (a0l a0w)) a0o)
  (a0h (a0l (a0q a9r hr (a0a (pv 5) (a0a (pv 4) a0b))))))))), ?_⟩
 have hR : SqT K H r [.ref a, .int num] := SqT.of er
 refine a0c fun U hU => ?_
 refine ⟨_, rfl, true, d5q er, true, rfl, ?_⟩
 refine a2c ?_
 refine ⟨_, rfl, r, _, rfl, .inr hR, rfl, _, rfl, ?_⟩
 refine e0z rfl ?_
 refine ⟨_, rfl, r, _, 1, _, rfl, rfl, hR, rfl, num, rfl, true, rfl, ?_⟩
 refine a2c ?_
 show U _ _
 subst hU
 refine a0c fun U hU => ?_
 refine ⟨_, rfl, r, _, 0, _, rfl, rfl, hR, rfl, _, rfl, a, a1j, n, rfl, ea, ln, true, rfl, ?_⟩
 refine a2c ?_
 refine ⟨_, rfl, r, _, 0, _, rfl, rfl, hR, rfl, _, rfl, a, sd, a1j, yv, ss, rfl, SqT.of ea, SqL.of esd, psd, by rw [ln]; exact hin, ?_⟩
 rw [hk]
 refine ⟨true, rfl, ?_⟩
 refine a2c ?_
 show U _ _
 subst hU
 refine a0c fun U hU => ?_
 refine ⟨_, rfl, _, rfl, r, _, 0, _, rfl, rfl, hR, rfl, _, rfl, r, _, 1, _, rfl, rfl, hR, rfl, v, D, a, a1j, num, rfl, hDr, ea, by rw [ln]; exact hI, by omega, fun w1 H1 sm1 hW => ?_⟩
 show U _ _
 subst hU
 rw [hst] at hW
 obtain ⟨pc, rfl, epc⟩ := hW
 refine a0c fun U hU => ?_
 refine ⟨_, rfl, rfl, _, rfl, ?_⟩
 refine a2c ?_
 show U _ _
 subst hU
 have es : (([(f : Int), (g : Int)]).map (a1k ys)).sum = wN ys f + wN ys g := by
  show a1k ys f + (a1k ys g + 0) = a1k ys f + a1k ys g
  rw [Int.add_zero]
 refine ⟨_, rfl, _, rfl, pc, pr, ys, [(f : Int), (g : Int)], rfl, SqT.of epc, SqL.of (sm1 _ _ epr), fun x hx => ?_, ?_⟩
 · have : x = (f : Int) \/ x = (g : Int) := by simpa using hx
   rcases this with e | e <;> rw [e, ly] <;> constructor <;> omega
 · rw [es]
   exact q H1 sm1
theorem c9n {f : Addr} {fd : FuncData} (F : Fun K "_law_met" "_law_met" b2z f fd) (m : mg "_law_met" = some (.ref f)) (B : Bl mg) (a7u : b3s P w K mg base CX0 12 ["self", "shape", "f", "g", "number"] (a8e K Z_Go Z_Keep Z_Put Z_Ask) y9) (a5e : b3s P w K mg base CX0 12 ["self", "shape", "f", "g", "number"] (a6a K Z_Go Z_Keep Z_Put Z_Ask) y12) (a6g : b3s P w K mg base CX0 13 ["self", "shape", "f", "g", "number"] (a7e K Z_Go Z_Keep Z_Put Z_Ask) y15) (a6h : b3s P w K mg base CX0 12 ["self", "shape", "f", "g", "number"] (a7d K Z_Go Z_Keep Z_Put Z_Ask) y7) (b6z : Def P w K mg base CX0 "_law_source_sum" 4 ["_law_found", "_law_drawn", "_law_sides_here", "_law_count_here", "_law_pair"] (a8x K)) : Def P w K mg base CX0 "_law_met" 14 ["_law_deed_here", "_law_shape", "_law_come", "_law_drawn", "_law_sides_here", "_law_pair", "_law_far_here"] (b9n K Z_Go Z_Keep Z_Put Z_Ask) := by
 refine ⟨f, fd, F.ok a5s (fun vs H Q E h => ?_) (fun cdv A outer s H vs Q E hr h => ?_), F.binds (ps := ["_law_deed_here", "_law_shape", "_law_come", "_law_drawn", "_law_sides_here", "_law_pair", "_law_far_here"]) fun _ _ _ _ _ _ us hl => (by obtain ⟨b0, b1, b2, b3, b4, b5, b6, rfl⟩ := us7 hl; rfl), F.kp, m⟩
 · obtain ⟨tb, sd, pr, d, v, dr, bs, n, f, g, D, far, c, yv, ss, rfl, _⟩ := h
   rfl
 obtain ⟨tb, sd, pr, d, v, dr, bs, n, f, g, D, far, c, yv, ss, rfl, hD, hDr, hI, Tb, ec, hV, hin, esd, psd, epr, hf, hg, n6, q⟩ := h
 refine ⟨_, (@a0f _ _ _ _ _ (a1d (a0m a3c (pv 2) a0w (a0s _)) (a0h (a0l (a7w a3c (a2u (a3g a7u T.cl_Go T.me_Go_source (pv 0) (hr.mono (by decide)) a6p (a0a (pv 1) (a0e (a1b (K := K) (pv 5) a0d) (a0e (a1b (K := K) (pv 5) a0d) (a0a (pv 6) a0b))))) (a2u (a3g a5e T.cl_Keep T.me_Keep_source (pv 0) (hr.mono (by decide)) a6p (a0a (pv 1) (a0e (a1b (K := K) (pv 5) a0d) (a0e (a1b (K := K) (pv 5) a0d) (a0a (pv 6) a0b))))) (a2u (a3g a6g T.cl_Put T.me_Put_source (pv 0) (hr.mono (by decide)) a6p (a0a (pv 1) (a0e (a1b (K := K) (pv 5) a0d) (a0e (a1b (K := K) (pv 5) a0d) (a0a (pv 6) a0b))))) (a3g a6h T.cl_Ask T.me_Ask_source (pv 0) (hr.mono (by decide)) a6p (a0a (pv 1) (a0e (a1b (K := K) (pv 5) a0d) (a0e (a1b (K := K) (pv 5) a0d) (a0a (pv 6) a0b)))))))) a0w (a0s _)))) a0o)
  (@a0f _ _ _ _ _ (a1h 7 a5s.nd (a1b (K := K) (a1b (K := K) (pv 2) (a1b (K := K) (pv 5) a0d)) (a1b (K := K) (pv 5) a0d)))
  (@a0f _ _ _ _ _ (a1h 8 a5s.nd (pv 6))
  (@a0f _ _ _ _ _ (a1d (a0m a3l (pv 7) a0w (a0s _)) (a0h (a1h 8 a5s.nd (pv 7))) a0o)
  (@a0f _ _ _ _ _ (a1h 9 a5s.nd (a2u (a3g a7u T.cl_Go T.me_Go_source (pv 0) (hr.mono (by decide)) a6p (a0a (pv 1) (a0e (a1b (K := K) (pv 5) a0d) (a0e (a1b (K := K) (pv 5) a0d) (a0a (pv 8) a0b))))) (a2u (a3g a5e T.cl_Keep T.me_Keep_source (pv 0) (hr.mono (by decide)) a6p (a0a (pv 1) (a0e (a1b (K := K) (pv 5) a0d) (a0e (a1b (K := K) (pv 5) a0d) (a0a (pv 8) a0b))))) (a2u (a3g a6g T.cl_Put T.me_Put_source (pv 0) (hr.mono (by decide)) a6p (a0a (pv 1) (a0e (a1b (K := K) (pv 5) a0d) (a0e (a1b (K := K) (pv 5) a0d) (a0a (pv 8) a0b))))) (a3g a6h T.cl_Ask T.me_Ask_source (pv 0) (hr.mono (by decide)) a6p (a0a (pv 1) (a0e (a1b (K := K) (pv 5) a0d) (a0e (a1b (K := K) (pv 5) a0d) (a0a (pv 8) a0b)))))))))
  (@a0f _ _ _ _ _ (a1h 10 a5s.nd (a0q b6z hr (a0a (pv 9) (a0a (pv 3) (a0a (pv 4) (a0x (a0p a1t (a1f (a1g (K := K) rfl) (by rfl) B.len (by decide +kernel) (a0a (pv 1) a0b)) a0d) (a0a (pv 5) a0b)))))))
  (@a0f _ _ _ _ _ (a1d (b8k (a0m a3c (pv 10) a0w (a0s _)) (b2j (a0m c4n (pv 10) (pv 8) (a0s _)))).pt (a0h (a0l b3f)) a0o)
  (@a0f _ _ _ _ _ (a1d (a0m a3c (pv 7) a0w (a0s _)) (a0h (a0l b3f)) a0o)
  (a0h (a0l (d4v (a7w (d7m (K := K) hr rfl) (pv 10) (pv 7) (a0s _)) (d6h (a7w a3c (a2u (a3g a7u T.cl_Go T.me_Go_source (pv 0) (hr.mono (by decide)) a6p (a0a (pv 1) (a0e (a1b (K := K) (pv 5) a0d) (a0e (a1b (K := K) (pv 5) a0d) (a0x (a0p a2d (pv 7) a0d) a0b))))) (a2u (a3g a5e T.cl_Keep T.me_Keep_source (pv 0) (hr.mono (by decide)) a6p (a0a (pv 1) (a0e (a1b (K := K) (pv 5) a0d) (a0e (a1b (K := K) (pv 5) a0d) (a0x (a0p a2d (pv 7) a0d) a0b))))) (a2u (a3g a6g T.cl_Put T.me_Put_source (pv 0) (hr.mono (by decide)) a6p (a0a (pv 1) (a0e (a1b (K := K) (pv 5) a0d) (a0e (a1b (K := K) (pv 5) a0d) (a0x (a0p a2d (pv 7) a0d) a0b))))) (a3g a6h T.cl_Ask T.me_Ask_source (pv 0) (hr.mono (by decide)) a6p (a0a (pv 1) (a0e (a1b (K := K) (pv 5) a0d) (a0e (a1b (K := K) (pv 5) a0d) (a0x (a0p a2d (pv 7) a0d) a0b)))))))) a0w (a0s _)))))))))))))), ?_⟩
 have S : Oct.Shp c (2 * n) := (a6i hin ec).1
 have S' : b6n (2 * n) (some c) := S
 have A0 : a1x H (.ref tb) (2 * n) (some c) := ⟨tb, bs, rfl, Tb⟩
 have hF : ∀ {H'}, a1i H H' -> SqL K H' pr (fV [f, g]) := fun s => SqL.of (s _ _ epr)
 have hF0 := hF (a1i.refl _)
 have hL : (bs.map V.ref).length = 2 * n := by rw [List.length_map, Tb.lenN]
 refine a0c fun U hU => ?_
 cases hi : e4w n (some c) D with
 | none =>
  rw [hi] at hV
  cases (show v = .non from hV)
  refine ⟨_, rfl, rfl, _, rfl, ?_⟩
  refine a3h ?_
  refine b9d (K := K) (i := 0) rfl (fun G h => ⟨_, rfl, _, rfl, pr, _, 0, _, rfl, rfl, hF0, rfl, _, rfl, pr, _, 1, _, rfl, rfl, hF0, rfl, _, rfl, h⟩) hD hI A0 S' hf hg n6 ⟨fun H' sm _ => ⟨rfl, q H' sm⟩, fun p a a1j ys num H1 sm1 ep ea ln li hst hs => ?_⟩
  obtain ⟨L2, l2⟩ := c0q S' hI ln li hst
  rw [hi] at L2
  exact L2.elim
 | some t =>
  rw [hi] at hV
  obtain ⟨ta, bt, rfl, Tt⟩ := hV
  refine ⟨_, rfl, rfl, _, rfl, ?_⟩
  refine a2c ?_
  show U _ _
  subst hU
  obtain ⟨b, eb, hb, ab⟩ := Tt.rd hf
  refine a0c fun U hU => ?_
  refine ⟨_, rfl, _, rfl, pr, _, 0, _, rfl, rfl, hF0, rfl, ta, _, _, _, rfl, rfl, SqL.of Tt.at_, ab, _, rfl, pr, _, 1, _, rfl, rfl, hF0, rfl, b, _, _, _, rfl, rfl, SqL.of hb, a4p hg, ?_⟩
  show U _ _
  subst hU
  refine a0c fun U hU => ?_
  refine ⟨_, rfl, ?_⟩
  show U _ _
  subst hU
  refine a0c fun U hU => ?_
  have key : ∀ m : Int, Oct.leE (some m) (t f g) -> (∀ s : Int, m <= s -> Oct.leE (some s) (t f g) -> t f g = some s \/ t f g = none) -> U [some d, some (.ref tb), some (.ref ta), some dr, some (.ref sd), some (.ref pr), some (.int far), some (eV (t f g)), some (.int m), none, none] H := by
   intro m hm hcl
   subst hU
   refine a0c fun U hU => ?_
   refine b9d (K := K) (i := 0) rfl (fun G h => ⟨_, rfl, _, rfl, pr, _, 0, _, rfl, rfl, hF0, rfl, _, rfl, pr, _, 1, _, rfl, rfl, hF0, rfl, _, rfl, h⟩) hD hI A0 S' hf hg n6 ⟨fun H' sm B => ?_, fun p a a1j ys num H1 sm1 ep ea ln li hst hs => ?_⟩
   · exact absurd (B t hi) (by rw [e2j hm]; exact Bool.false_ne_true)
   obtain ⟨L2, l2⟩ := c0q S' hI ln li hst
   rw [hi] at L2
   have up : Oct.leE (some (wN ys f + wN ys g)) (t f g) := L2 f g hf hg
   have kp : b7x a1j ss = true := (d3s (n := n) hin).mpr (by rw [ec]; exact li)
   show U _ _
   subst hU
   refine a0c fun U hU => ?_
   refine ⟨_, rfl, _, rfl, _, rfl, _, rfl, tb, _, rfl, .inl (SqL.of (Tb.same sm1).at_), _, _, rfl, rfl, ⟨by decide, by decide⟩, _, rfl, p, a, sd, pr, dr, D, n, f, g, a1j, ys, num, yv, ss, ?_, ep, ea, ln, hDr.same sm1, hI, sm1 _ _ esd, a1v sm1 psd, hin, kp, sm1 _ _ epr, hf, hg, n6, hst, l2, fun H2 sm2 => ?_⟩
   · show [V.ref p, dr, V.ref sd, V.int (((bs.map V.ref).length : Int) / 2), V.ref pr] = _
     rw [hL, show (((2 * n : Nat) : Int) / 2) = (n : Int) by omega]
   show U _ _
   subst hU
   have s2 := sm1.trans sm2
   generalize wN ys f + wN ys g = s at *
   refine a0c fun U hU => ?_
   refine ⟨_, rfl, rfl, _, rfl, ?_⟩
   refine a2c ?_
   refine ⟨_, rfl, _, rfl, _, _, rfl, rfl, _, rfl, ?_⟩
   rw [decide_eq_false (by omega)]
   refine a2c ?_
   show U _ _
   subst hU
   refine a0c fun U hU => ?_
   refine ⟨_, rfl, rfl, _, rfl, ?_⟩
   rcases hcl s hs up with e | e
   · rw [e]
     refine a2c ?_
     show U _ _
     subst hU
     refine ⟨_, rfl, _, rfl, .int s, .int s, Dt.int, Dt.int, by simp [PyData.depth], ?_⟩
     rw [show PyData.eqv (.int s) (.int s) = true by simp [PyData.eqv]]
     refine ⟨_, rfl, ?_⟩
     refine a3h ?_
     have hF2 := hF s2
     refine b9d (K := K) (i := 0) (m := s + 1) rfl (fun G h => ⟨_, rfl, _, rfl, pr, _, 0, _, rfl, rfl, hF2, rfl, _, rfl, pr, _, 1, _, rfl, rfl, hF2, rfl, _, rfl, _, _, rfl, rfl, h⟩) (hD.same s2) hI (A0.same s2) S' hf hg n6 ⟨fun H' sm _ => ⟨rfl, q H' (s2.trans sm)⟩, fun p a a1j ys num H3 sm3 ep ea ln li hst hs => ?_⟩
     obtain ⟨L2, l2⟩ := c0q S' hI ln li hst
     rw [hi] at L2
     have up2 : Oct.leE (some (wN ys f + wN ys g)) (t f g) := L2 f g hf hg
     rw [e] at up2
     have : wN ys f + wN ys g <= s := up2
     omega
   · rw [e]
     refine a3h ?_
     exact q _ s2
  refine ⟨_, rfl, rfl, _, rfl, ?_⟩
  cases he : t f g with
  | none =>
   rw [he] at key
   refine a2c ?_
   exact key far trivial fun s _ _ => .inr rfl
  | some e1 =>
   rw [he] at key
   refine a3h ?_
   refine ⟨_, rfl, ?_⟩
   exact key e1 (Oct.a1r _) fun s hs hl => .inl (by have : s <= e1 := hl; rw [show s = e1 by omega])
omit T in
theorem a7o : a0r ["_law_script", "_law_count_here", "_law_point_here", "_law_room", "_law_sides_here", "_law_shape", "_law_kept", "_law_drawn", "_law_deed_here", "_law_come", "_law_far_here", "_law_own", "_law_f", "_law_g"] ["_law_script"] (a0k d0w) := ⟨rfl, rfl, rfl, by decide +kernel, rfl, by decide +kernel, by decide +kernel⟩
theorem d6q {f : Addr} {fd : FuncData} (F : Fun K "law" "law" d0w f fd) (m : mg "law" = some (.ref f)) (B : Bl mg) (c6f : Def P w K mg base CX0 "_law_count" 1 ["_law_cell_here"] (b5l K)) (c7r : Def P w K mg base CX0 "_law_point" 2 ["_law_script", "_law_at", "_law_count_here"] (b4q K)) (c7e : Def P w K mg base CX0 "_law_sides" 2 ["_law_cells_here", "_law_count_here", "_law_point_here", "_law_loose"] (b5k K)) (c3y : Def P w K mg base CX0 "closed" 7 ["count", "sides"] (c0l K)) (d0j : Def P w K mg base CX0 "_law_copy" 1 ["_law_shape"] (b1y K)) (c9x : Def P w K mg base CX0 "_law_deed" 4 ["_law_kind", "_law_cell_here", "_law_other", "_law_point_here"] (b8e K)) (d1e : Def P w K mg base CX0 "_law_made" 3 ["_law_drawn"] (b7n K Z_Go Z_Keep Z_Put Z_Ask)) (c2f : b3s P w K mg base CX0 2 ["self", "shape"] (b0s K) y8) (b7z : b3s P w K mg base CX0 7 ["self", "shape"] (a7c K Z_Keep) y10) (b9q : b3s P w K mg base CX0 7 ["self", "shape"] (a9b K Z_Put) y13) (b4h : b3s P w K mg base CX0 9 ["self", "shape"] (a9h K Z_Ask) y3) (d3j : Def P w K mg base CX0 "_law_far" 1 ["_law_cell_here"] (c0k K)) (a1u : Def P w K mg base CX0 "_law_cell" 1 ["_law_script", "_law_k"] (a4x K)) (c8z : Def P w K mg base CX0 "_law_cells" 2 ["_law_script", "_law_at", "_law_room"] (b5w K)) (c6i : Def P w K mg base CX0 "_law_table" 2 ["_law_found", "_law_count_here"] (b5h K)) (c1x : Def P w K mg base CX0 "_law_met" 14 ["_law_deed_here", "_law_shape", "_law_come", "_law_drawn", "_law_sides_here", "_law_pair", "_law_far_here"] (b9n K Z_Go Z_Keep Z_Put Z_Ask)) (a7u : b3s P w K mg base CX0 12 ["self", "shape", "f", "g", "number"] (a8e K Z_Go Z_Keep Z_Put Z_Ask) y9) (a5e : b3s P w K mg base CX0 12 ["self", "shape", "f", "g", "number"] (a6a K Z_Go Z_Keep Z_Put Z_Ask) y12) (a6g : b3s P w K mg base CX0 13 ["self", "shape", "f", "g", "number"] (a7e K Z_Go Z_Keep Z_Put Z_Ask) y15) (a6h : b3s P w K mg base CX0 12 ["self", "shape", "f", "g", "number"] (a7d K Z_Go Z_Keep Z_Put Z_Ask) y7) : c6n P w K mg base CX0 15 f fd ["_law_script"] (d1p K) := by
 refine F.ok a7o (fun vs H Q E h => ?_) (fun cdv A outer s H vs Q E hr h => ?_)
 · obtain ⟨a, ns, rfl, _⟩ := h
   rfl
 obtain ⟨a, ns, rfl, hS, hlen, q⟩ := h
 have a1u := a1u.imp (c7n (a := a) (ns := ns))
 refine ⟨_, (@a0f _ _ _ _ _ (a1h 1 a7o.nd (a0q c6f hr (a0u (a0q a1u hr (a0a (pv 0) (a0n a0d a0b))) a0b)))
  (@a0f _ _ _ _ _ (a1h 2 a7o.nd (a0q c7r hr (a0a (pv 0) (a0n a0d (a0a (pv 1) a0b)))))
  (@a0f _ _ _ _ _ (a1h 3 a7o.nd a0d)
  (@a0f _ _ _ _ _ (a1d (a0m e0l (pv 1) a0d (a0s _)) (a0h (a1h 3 a7o.nd a0d)) a0o)
  (@a0f _ _ _ _ _ (a1h 4 a7o.nd (a0q c7e hr (a0u (a0q c8z hr (a0a (pv 0) (a0n a0d (a0a (pv 3) a0b)))) (a0a (pv 1) (a0a (pv 2) (a0n a0d a0b))))))
  (@a0f _ _ _ _ _ (a1h 5 a7o.nd (a0q c3y hr (a0a (pv 1) (a0u (a9v (a7j (K := K) rfl) (by rfl) B.list (by decide +kernel) (a0a (pv 4) a0b)) a0b))))
  (@a0f _ _ _ _ _ (a1d (a0m a3c (pv 5) a0w (a0s _)) (a0h (a0l b3f)) a0o)
  (@a0f _ _ _ _ _ (a1h 6 a7o.nd (a0q d0j hr (a0a (pv 5) a0b)))
  (@a0f _ _ _ _ _ (a1h 7 a7o.nd (a0q c9x hr (a0u (a0q a1u hr (a0a (pv 0) (a0n a0d a0b))) (a0u (a0q a1u hr (a0a (pv 0) (a0n a0d a0b))) (a0u (a0q a1u hr (a0a (pv 0) (a0n a0d a0b))) (a0a (pv 2) a0b))))))
  (@a0f _ _ _ _ _ (a1h 8 a7o.nd (a0q d1e hr (a0a (pv 7) a0b)))
  (@a0f _ _ _ _ _ (a1h 9 a7o.nd (a2u (a3g c2f T.cl_Go T.me_Go_image (pv 8) (hr.mono (by decide)) a6p (a0a (pv 5) a0b)) (a2u (a3g b7z T.cl_Keep T.me_Keep_image (pv 8) (hr.mono (by decide)) a6p (a0a (pv 5) a0b)) (a2u (a3g b9q T.cl_Put T.me_Put_image (pv 8) (hr.mono (by decide)) a6p (a0a (pv 5) a0b)) (a3g b4h T.cl_Ask T.me_Ask_image (pv 8) (hr.mono (by decide)) a6p (a0a (pv 5) a0b))))))
  (@a0f _ _ _ _ _ (a1d (c1w (a0m a3l (pv 9) a0w (a0s _)) (c0e (b1f (a7r (a0q c6i hr (a0a (pv 9) (a0a (pv 1) a0b))))))).pt (a0h (a0l b3f)) a0o)
  (@a0f _ _ _ _ _ (a1h 10 a7o.nd (a0q d3j hr (a0u (a0q a1u hr (a0a (pv 0) (a0n a0d a0b))) a0b)))
  (@a0f _ _ _ _ _ (a1d (a0m a3n (a1n (K := K) (pv 7) a0d) a4r (a0s _)) (@a0f _ _ _ _ _ (d8d (i := 11) (a1q.of (M := ["_law_script", "_law_count_here", "_law_point_here", "_law_room", "_law_sides_here", "_law_shape", "_law_kept", "_law_drawn", "_law_deed_here", "_law_come", "_law_far_here", "_law_own", "?_law_f", "_law_g"]) (by decide +kernel) (by rfl)) rfl (c3q (K := K) rfl (a9a (b3v (K := K) rfl) (a1n (K := K) (pv 7) a0d) b4c (b0f a0d))) (fun _ _ _ => b2a (a0m a3l (pv 0) a0w (a0s _))) (fun _ _ _ => (pv 0)) a7o.nd rfl (by first | exact Or.inl rfl | exact Or.inr rfl) rfl)
  (a0h (a1d (b1f (a7r (a0q c1x hr (a0a (pv 8) (a0a (pv 5) (a0a (pv 9) (a0a (pv 7) (a0a (pv 4) (a4d (a2n (a0e (a1b (K := K) (pv 11) a0d) (a0e (a1b (K := K) (pv 11) (a0p b1b (a1f (a1g (K := K) rfl) (by rfl) B.len (by decide +kernel) (a0a (pv 11) a0b)) a0d)) a0b))) (a0a (pv 10) a0b)))))))))) (a0h (a0l b3f)) a0o))) a0o)
  (@a0f _ _ _ _ _ (a5n PassesOwn.never rfl (a3t (by rfl) B.range (a0x (a0p a1w a0d (pv 1)) a0b)) (a9k 12 a7o.nd) (a0h (a5n PassesOwn.never rfl (a3t (by rfl) B.range (a0x (a0p a1w a0d (pv 1)) a0b)) (a9k 13 a7o.nd) (a0h (a1d (a0m a3n (a0p a1y (a0p a2d (a0p a2d (a0p a1w a0d (pv 12)) (pv 13)) (a0p a1t (a0q a1u hr (a0a (pv 0) (a0n a0d a0b))) a0d)) (a1b (K := K) (a2n (a0n a0d (a0n a0d (a0n a0d (a0n a0d (a0n a0d (a0n a0d a0b))))))) (a0p b1b (pv 1) a0d))) a0d (a0s _)) (@a0f _ _ _ _ _ (a1d (b1f (a7r (a0q c1x hr (a0a (pv 8) (a0a (pv 5) (a0a (pv 9) (a0a (pv 7) (a0a (pv 4) (a4d (a2n (a0a (pv 12) (a0a (pv 13) a0b))) (a0a (pv 10) a0b)))))))))) (a0h (a0l b3f)) a0o)
  (a0h (a1d (a0m a3l (a2u (a3g a7u T.cl_Go T.me_Go_source (pv 8) (hr.mono (by decide)) a6p (a0n a0w (a0a (pv 12) (a0a (pv 13) (a0a (pv 10) a0b))))) (a2u (a3g a5e T.cl_Keep T.me_Keep_source (pv 8) (hr.mono (by decide)) a6p (a0n a0w (a0a (pv 12) (a0a (pv 13) (a0a (pv 10) a0b))))) (a2u (a3g a6g T.cl_Put T.me_Put_source (pv 8) (hr.mono (by decide)) a6p (a0n a0w (a0a (pv 12) (a0a (pv 13) (a0a (pv 10) a0b))))) (a3g a6h T.cl_Ask T.me_Ask_source (pv 8) (hr.mono (by decide)) a6p (a0n a0w (a0a (pv 12) (a0a (pv 13) (a0a (pv 10) a0b)))))))) a0w (a0s _)) (a0h (a0l b3f)) a0o))) a0o)))))
  (a0h (a0l (a7w (d7m (K := K) hr rfl) (pv 5) (pv 6) (a0s _))))))))))))))))))), ?_⟩
 refine a0c fun U hU => ?_
 refine ⟨_, rfl, (0 : Int), rfl, by decide, hS, _, rfl, fun n H0 sm0 n1 n6 => ?_⟩
 show U _ _
 subst hU
 have hS0 := sm0.seq hS
 refine a0c fun U hU => ?_
 refine ⟨_, rfl, _, rfl, a, ns, 2, n, rfl, hS0, by decide, by omega, fun pt H1 hpt sm1 e1 => ?_⟩
 obtain ⟨xs, ex, xl⟩ := e9b ns 2 n
 rw [ex] at e1
 have hS1 := sm1.seq hS0
 have pw := b4f xs (2 * n)
 show U _ _
 subst hU
 refine a0c fun U hU => ?_
 show U _ _
 subst hU
 refine a0c fun U hU => ?_
 have key : ∀ room : Nat, U [some (V.ref a), some (.int n), some (.ref pt), some (.int room), none, none, none, none, none, none, none, none, none, none] H1 := by
  intro room
  subst hU
  refine a0c fun U hU => ?_
  refine ⟨_, rfl, _, rfl, a, ns, 9, room, rfl, hS1, hlen, fun ca H2 cs sm2 hca eca l4 l100 => ?_⟩
  refine ⟨_, rfl, _, rfl, ca, pt, cs, xs, n, 0, rfl, SqL.of eca, SqT.of (sm2 _ _ e1), xl, n1, n6, l100, fun sd H3 ys ss sm3 hsd esd psd hin hkp hl => ?_⟩
  show U _ _
  subst hU
  have s13 := sm2.trans sm3
  have hS3 := s13.seq hS1
  have e13 := s13 _ _ e1
  have kp0 := hkp (by omega)
  obtain ⟨c, ec⟩ := b4o pw kp0
  have Sh : Oct.Shp c (2 * n) := (a6i hin ec).1
  refine a0c fun U hU => ?_
  refine ⟨_, rfl, _, rfl, sd, _, rfl, .inl (SqL.of esd), fun hd hhd => ?_⟩
  have s4 := a0i hhd (.lst ys)
  refine ⟨hd, n, ys, ss, rfl, SqL.of a0g, a1v s4 psd, hin, by omega, fun u H5 sm5 N5 => ?_⟩
  show U _ _
  subst hU
  have s35 := s4.trans sm5
  rw [ec] at N5
  obtain ⟨tb, bs, rfl, N5⟩ := N5
  have A5 : a1x H5 (.ref tb) (2 * n) (some c) := ⟨tb, bs, rfl, N5.tab⟩
  refine a0c fun U hU => ?_
  refine ⟨_, rfl, rfl, _, rfl, ?_⟩
  refine a2c ?_
  show U _ _
  subst hU
  refine a0c fun U hU => ?_
  refine ⟨_, rfl, .ref tb, n, some c, rfl, A5, by omega, fun w1 H6 sm6 N6 => ?_⟩
  show U _ _
  subst hU
  have s36 := s35.trans sm6
  have hS6 := s36.seq hS3
  have T6 := N5.tab.same sm6
  have C6 := N6.at
  have e16 := s36 _ _ e13
  have esd6 := s36 _ _ esd
  have psd6 := a1v s36 psd
  refine a0c fun U hU => ?_
  refine ⟨_, rfl, (5 : Int), rfl, by decide, hS6, _, rfl, (6 : Int), rfl, by decide, hS6, _, rfl, (7 : Int), rfl, by decide, hS6, _, rfl, _, _, _, pt, xs, n, rfl, SqT.of e16, xl, n1, n6, fun dr D H7 sm7 hDr hI => ?_⟩
  show U _ _
  subst hU
  refine a0c fun U hU => ?_
  refine ⟨_, rfl, dr, D, rfl, hDr, fun d H8 sm8 hD => ?_⟩
  show U _ _
  subst hU
  have s68 := sm7.trans sm8
  have T8 := T6.same s68
  have A8 : a1x H8 (.ref tb) (2 * n) (some c) := ⟨tb, bs, rfl, T8⟩
  refine a0c fun U hU => ?_
  refine e1e (K := K) (i := 8) rfl (fun G h => ⟨_, rfl, h⟩) hD hI A8 Sh n6 fun come H9 sm9 N9 => ?_
  show U _ _
  subst hU
  have I9 := N9.at
  have s69 := s68.trans sm9
  refine a0c fun U hU => ?_
  have next : U [some (V.ref a), some (.int n), some (.ref pt), some (.int room), some (.ref sd), some (.ref tb), some w1, some dr, some d, some come, none, none, none, none] H9 := by
   subst hU
   refine a0c fun U hU => ?_
   refine ⟨_, rfl, (8 : Int), rfl, by decide, s69.seq hS6, _, rfl, fun far H10 sm10 => ?_⟩
   show U _ _
   subst hU
   have s610 := s69.trans sm10
   have hSx := s610.seq hS6
   have Tx := T6.same s610
   have Cx := C6.same s610
   have esdx := s610 _ _ esd6
   have psdx := a1v s610 psd6
   have Dx := hD.same (sm9.trans sm10)
   have Drx := hDr.same ((sm8.trans sm9).trans sm10)
   have Ix := I9.same sm10
   clear I9 N9 T8 A8 T6 C6 e16 esd6 psd6 hS6 A5 N5 N6
   obtain ⟨d6, e6, p6⟩ := e5t n1 n6
   refine a0c fun U hU => ?_
   have rest : ∀ (x11 : Option V) (Hx : Hp), a1i H10 Hx -> U [some (V.ref a), some (.int n), some (.ref pt), some (.int room), some (.ref sd), some (.ref tb), some w1, some dr, some d, some come, some (.int far), x11, none, none] Hx := by
    intro x11 Hx sx
    subst hU
    refine a0c fun U hU => ?_
    refine ⟨_, rfl, _, _, rfl, rfl, .inl ⟨by decide, by decide⟩, (2 * (n : Int)), rfl, by omega, by omega, b1u (lo := 0) (n := (2 * (n : Int)).toNat) (fun i σ H' => ∃ x y, σ = [some (V.ref a), some (.int n), some (.ref pt), some (.int room), some (.ref sd), some (.ref tb), some w1, some dr, some d, some come, some (.int far), x11, x, y] /\ a1i H10 H') ⟨none, none, rfl, sx⟩ ?_ ?_⟩
    · rintro f σ H12 hf0 ⟨x, y, rfl, s12⟩
      have hf : f < 2 * n := by omega
      rw [Int.zero_add]
      refine ⟨_, rfl, _, _, rfl, rfl, .inl ⟨by decide, by decide⟩, (2 * (n : Int)), rfl, by omega, by omega, b1u (lo := 0) (n := (2 * (n : Int)).toNat) (fun j σ H' => ∃ y, σ = [some (V.ref a), some (.int n), some (.ref pt), some (.int room), some (.ref sd), some (.ref tb), some w1, some dr, some d, some come, some (.int far), x11, some (.int (f : Nat)), y] /\ a1i H10 H') ⟨y, rfl, s12⟩ ?_ ?_⟩
      · rintro g σ H13 hg0 ⟨y, rfl, s13⟩
        have hg : g < 2 * n := by omega
        rw [Int.zero_add]
        refine ⟨_, rfl, _, _, rfl, rfl, .inl ⟨by decide, by decide⟩, _, rfl, _, _, rfl, rfl, _, rfl, (8 : Int), rfl, by decide, s13.seq hSx, _, _, rfl, rfl, ⟨by decide, by decide⟩, _, _, rfl, rfl, sz 6, fun l hl => ?_⟩
        have sl := a0i hl (.lst [.int 1, .int 3, .int 9, .int 20, .int 32, .int 48])
        refine ⟨_, rfl, _, _, rfl, rfl, l, _, _, _, rfl, rfl, SqL.of a0g, e6, _, _, rfl, rfl, p6, rfl, _, rfl, ?_⟩
        have s14 := s13.trans sl
        generalize upd H13 l (.lst [.int 1, .int 3, .int 9, .int 20, .int 32, .int 48]) = H14 at *
        refine b2x (fun h => ?_) (fun h => ⟨_, rfl, s14⟩)
        refine a0c fun U hU => ?_
        refine ⟨_, rfl, _, rfl, _, rfl, _, rfl, _, rfl, _, rfl, _, rfl, sz 2, fun pr hpr => ?_⟩
        have s15 := s14.trans (a0i hpr (.lst [.int (f : Nat), .int (g : Nat)]))
        refine ⟨_, rfl, tb, sd, pr, d, come, dr, bs, n, f, g, D, far, c, ys, ss, rfl, Dx.same s15, Drx.same s15, hI, Tx.same s15, ec, Ix.same s15, hin, s15 _ _ esdx, a1v s15 psdx, a0g, hf, hg, n6, fun H16 sm16 => ?_⟩
        refine ⟨true, rfl, ?_⟩
        refine a2c ?_
        show U _ _
        subst hU
        have s16 := s15.trans sm16
        refine b9d (K := K) (i := 8) (v := .non) (o := none) (m := far) rfl (fun G h => ⟨_, rfl, _, rfl, _, rfl, h⟩) (Dx.same s16) hI rfl trivial hf hg n6 ⟨fun H' sm _ => ⟨rfl, _, rfl, a2c ⟨_, rfl, s16.trans sm⟩⟩, fun p a a1j ys num H' sm ep ea ln li hst hs => li.elim⟩
      · rintro σ H13 ⟨y, rfl, s13⟩
        exact ⟨_, _, rfl, s13⟩
    · rintro σ H12 ⟨x, y, rfl, s12⟩
      show U _ _
      subst hU
      refine ⟨_, rfl, _, rfl, shD (2 * n) (some c), shD (2 * n) (some c), d2q ⟨tb, bs, rfl, Tx.same s12⟩, d2q (Cx.same s12), d8r _ _, ?_⟩
      rw [e2s]
      exact q _
   cases D with
   | go =>
    obtain ⟨t, rfl, ht⟩ := Drx
    have hT : SqT K H10 t [.str "go"] := SqT.of ht
    refine ⟨_, rfl, t, _, 0, _, rfl, rfl, hT, rfl, rfl, _, rfl, ?_⟩
    rw [c5m e6o.symm]
    refine a2c ?_
    exact rest none H10 (a1i.refl _)
   | put k f1 g1 c1 =>
    obtain ⟨t, aa, rfl, ht, haa⟩ := Drx
    have hT : SqT K H10 t [.str "put", .int k, .ref aa] := SqT.of ht
    refine ⟨_, rfl, t, _, 0, _, rfl, rfl, hT, rfl, rfl, _, rfl, ?_⟩
    rw [c5m e2m]
    refine a2c ?_
    exact rest none H10 (a1i.refl _)
   | ask k lo hi =>
    obtain ⟨t, rfl, ht⟩ := Drx
    have hT : SqT K H10 t [.str "ask", .int k, eV lo, eV hi] := SqT.of ht
    refine ⟨_, rfl, t, _, 0, _, rfl, rfl, hT, rfl, rfl, _, rfl, ?_⟩
    rw [c5m e4f]
    refine a2c ?_
    exact rest none H10 (a1i.refl _)
   | keep f1 g1 wd c1 =>
    have hI0 := hI
    obtain ⟨hf1, hg1, hwd⟩ := hI0
    obtain ⟨f, rfl, hf⟩ : ∃ f : Nat, f1 = (f : Int) /\ f < 2 * n := ⟨f1.toNat, (b1c hf1).1.symm, (b1c hf1).2⟩
    have Drx0 := Drx
    obtain ⟨t, qa, rfl, ht, hqa⟩ := Drx
    have hT : SqT K H10 t [.str "keep", .ref qa] := SqT.of ht
    have hQ : SqT K H10 qa [.int f, gV g1, .str wd, .int c1] := SqT.of hqa
    refine ⟨_, rfl, t, _, 0, _, rfl, rfl, hT, rfl, rfl, _, rfl, ?_⟩
    rw [e3z]
    refine a3h ?_
    refine a0c fun U2 hU2 => ?_
    refine ⟨_, rfl, t, _, 1, _, rfl, rfl, hT, rfl, (2 : Int), rfl, qa, _, rfl, hQ, (by rintro ⟨_, h⟩; cases h), fun t2 ht2 => ?_⟩
    rw [show b3k [V.int (f : Int), gV g1, V.str wd, V.int c1] none (some 2) = [V.int (f : Int), gV g1] from rfl]
    have st := a0i ht2 (.tup [V.int (f : Int), gV g1])
    refine ⟨t2, rfl, ⟨_, SqT.of a0g⟩, fun p hp => c1d (K := K) (a := t2) (xs := [V.int (f : Int), gV g1]) (fun i ys H' => ys = ((match i with | 0 => [] | 1 => [(f : Int)] | _ => [(f : Int)] ++ d1r g1).map V.int) /\ H' p = some (.lst ys) /\ a1i (upd H10 t2 (.tup [V.int (f : Int), gV g1])) H') ⟨rfl, a0g, a0i hp _⟩ (fun i ys H' _ ⟨_, _, sm⟩ => SqT.of (sm _ _ a0g)) ?_ ?_⟩
    · rintro i x ys H' hx ⟨rfl, hp', sm⟩
      match i, hx, hp' with
      | 0, hx, hp' =>
       cases hx
       refine ⟨_, rfl, rfl, _, rfl, ?_⟩
       refine a3h ?_
       exact ⟨_, rfl, hp', a0y (by simp), a2j (by show 0 < 2; decide) ⟨rfl, a0g, a0z hp sm⟩⟩
      | 1, hx, hp' =>
       cases hx
       refine ⟨_, rfl, rfl, _, rfl, ?_⟩
       cases g1 with
       | none =>
        refine a2c ?_
        exact a2j (by show 1 < 2; decide) ⟨by simp [d1r], hp', sm⟩
       | some z =>
        refine a3h ?_
        exact ⟨_, rfl, hp', a0y (by simp), a2j (by show 1 < 2; decide) ⟨by simp [d1r, gV], a0g, a0z hp sm⟩⟩
      | i + 2, hx, _ => cases hx
    · rintro ys' H11 ⟨rfl, hp', sm⟩
      show U2 _ _
      subst hU2
      have s11 := st.trans sm
      have hp1 : H11 p = some (.lst (([(f : Int)] ++ d1r g1).map V.int)) := hp'
      cases g1 with
      | none =>
       have hO : SqL K H11 p [.int (f : Int)] := SqL.of hp1
       refine ⟨_, rfl, _, rfl, _, rfl, _, rfl, _, rfl, _, rfl, p, _, 0, _, rfl, rfl, hO, rfl, _, rfl, _, rfl, p, _, rfl, .inl hO, _, _, rfl, rfl, p, _, 0, _, rfl, rfl, hO, rfl, sz 2, fun pr hpr => ?_⟩
       have s12 := a0i hpr (.lst [.int (f : Int), .int (f : Int)])
       have sA := s11.trans s12
       refine ⟨_, rfl, tb, sd, pr, d, come, .ref t, bs, n, f, f, .keep f none wd c1, far, c, ys, ss, rfl, Dx.same sA, Drx0.same sA, hI, Tx.same sA, ec, Ix.same sA, hin, sA _ _ esdx, a1v sA psdx, a0g, hf, hf, n6, fun H' sm' => ?_⟩
       refine ⟨true, rfl, ?_⟩
       refine a2c ?_
       exact rest _ H' (sA.trans sm')
      | some z =>
       obtain ⟨g, rfl, hg⟩ : ∃ g : Nat, z = (g : Int) /\ g < 2 * n := ⟨z.toNat, (b1c hg1).1.symm, (b1c hg1).2⟩
       have hO : SqL K H11 p [.int (f : Int), .int (g : Int)] := SqL.of hp1
       refine ⟨_, rfl, _, rfl, _, rfl, _, rfl, _, rfl, _, rfl, p, _, 0, _, rfl, rfl, hO, rfl, _, rfl, _, rfl, p, _, rfl, .inl hO, _, _, rfl, rfl, p, _, 1, _, rfl, rfl, hO, rfl, sz 2, fun pr hpr => ?_⟩
       have s12 := a0i hpr (.lst [.int (f : Int), .int (g : Int)])
       have sA := s11.trans s12
       refine ⟨_, rfl, tb, sd, pr, d, come, .ref t, bs, n, f, g, .keep f (some g) wd c1, far, c, ys, ss, rfl, Dx.same sA, Drx0.same sA, hI, Tx.same sA, ec, Ix.same sA, hin, sA _ _ esdx, a1v sA psdx, a0g, hf, hg, n6, fun H' sm' => ?_⟩
       refine ⟨true, rfl, ?_⟩
       refine a2c ?_
       exact rest _ H' (sA.trans sm')
  cases hi : e4w n (some c) D with
  | none =>
   have I9' := I9
   rw [hi] at I9'
   cases (show come = .non from I9')
   refine ⟨_, rfl, rfl, _, rfl, ?_⟩
   refine a2c ?_
   refine a2c ?_
   exact next
  | some t =>
   have I9' := I9
   rw [hi] at I9'
   obtain ⟨ta, bt, rfl, Tt⟩ := I9'
   refine ⟨_, rfl, rfl, _, rfl, ?_⟩
   refine a3h ?_
   refine ⟨_, rfl, _, rfl, ta, bt, n, t, rfl, Tt, by omega, true, rfl, ?_⟩
   refine a2c ?_
   exact next
 refine ⟨_, rfl, _, _, rfl, rfl, _, rfl, ?_⟩
 refine b2x (fun h => ?_) (fun h => ?_)
 · exact key 4
 · exact key 7
end
set_option autoImplicit true in
set_option relaxedAutoImplicit true in
theorem e7b {l : PySem.W.OpenLaw} {w : World} {K : PySem.W.Frag} {h : Heap} {mg : Str -> Option Value} {fa : Addr} (X : K.In h) (G : h.Ns mainGlobals mg) (hfa : mg "law" = some (.ref fa))
  (a_Deed : Ha K "Deed" Z_Deed)
  (a_Go : Ha K "Go" Z_Go)
  (a_Keep : Ha K "Keep" Z_Keep)
  (a_Put : Ha K "Put" Z_Put)
  (a_Ask : Ha K "Ask" Z_Ask)
  (a0 : Ha K "below" f0) (l0 : Hl K f0 "below" "below" c3r oc0 od0 kV0 dc0 pm0 an0 cd0 ct0 sl0) (c0 : Hc K cd0 "below") (k0 : Hk K f0)
  (a1 : Ha K "lesser" f1) (l1 : Hl K f1 "lesser" "lesser" b8w oc1 od1 kV1 dc1 pm1 an1 cd1 ct1 sl1) (c1 : Hc K cd1 "lesser") (k1 : Hk K f1)
  (a2 : Ha K "greater" f2) (l2 : Hl K f2 "greater" "greater" b5u oc2 od2 kV2 dc2 pm2 an2 cd2 ct2 sl2) (c2 : Hc K cd2 "greater") (k2 : Hk K f2)
  (a3 : Ha K "least" f3) (l3 : Hl K f3 "least" "least" c4w oc3 od3 kV3 dc3 pm3 an3 cd3 ct3 sl3) (c3 : Hc K cd3 "least") (k3 : Hk K f3)
  (a4 : Ha K "summed" f4) (l4 : Hl K f4 "summed" "summed" b9a oc4 od4 kV4 dc4 pm4 an4 cd4 ct4 sl4) (c4 : Hc K cd4 "summed") (k4 : Hk K f4)
  (a5 : Ha K "half" f5) (l5 : Hl K f5 "half" "half" d1y oc5 od5 kV5 dc5 pm5 an5 cd5 ct5 sl5) (c5 : Hc K cd5 "half") (k5 : Hk K f5)
  (a6 : Ha K "flipped" f6) (l6 : Hl K f6 "flipped" "flipped" b5j oc6 od6 kV6 dc6 pm6 an6 cd6 ct6 sl6) (c6 : Hc K cd6 "flipped") (k6 : Hk K f6)
  (a7 : Ha K "wide" f7) (l7 : Hl K f7 "wide" "wide" d2v oc7 od7 kV7 dc7 pm7 an7 cd7 ct7 sl7) (c7 : Hc K cd7 "wide") (k7 : Hk K f7)
  (a8 : Ha K "wide_row" f8) (l8 : Hl K f8 "wide_row" "wide_row" b3d oc8 od8 kV8 dc8 pm8 an8 cd8 ct8 sl8) (c8 : Hc K cd8 "wide_row") (k8 : Hk K f8)
  (a9 : Ha K "told_sides" f9) (l9 : Hl K f9 "told_sides" "told_sides" a8h oc9 od9 kV9 dc9 pm9 an9 cd9 ct9 sl9) (c9 : Hc K cd9 "told_sides") (k9 : Hk K f9)
  (a10 : Ha K "closed" f10) (l10 : Hl K f10 "closed" "closed" b8t oc10 od10 kV10 dc10 pm10 an10 cd10 ct10 sl10) (c10 : Hc K cd10 "closed") (k10 : Hk K f10)
  (a11 : Ha K "held" f11) (l11 : Hl K f11 "held" "held" d1q oc11 od11 kV11 dc11 pm11 an11 cd11 ct11 sl11) (c11 : Hc K cd11 "held") (k11 : Hk K f11)
  (a12 : Ha K "held_by_all" f12) (l12 : Hl K f12 "held_by_all" "held_by_all" a6y oc12 od12 kV12 dc12 pm12 an12 cd12 ct12 sl12) (c12 : Hc K cd12 "held_by_all") (k12 : Hk K f12)
  (a13 : Ha K "lowered" f13) (l13 : Hl K f13 "lowered" "lowered" b5n oc13 od13 kV13 dc13 pm13 an13 cd13 ct13 sl13) (c13 : Hc K cd13 "lowered") (k13 : Hk K f13)
  (a14 : Ha K "tightened" f14) (l14 : Hl K f14 "tightened" "tightened" b0p oc14 od14 kV14 dc14 pm14 an14 cd14 ct14 sl14) (c14 : Hc K cd14 "tightened") (k14 : Hk K f14)
  (a15 : Ha K "row_within_halves" f15) (l15 : Hl K f15 "row_within_halves" "row_within_halves" a3p oc15 od15 kV15 dc15 pm15 an15 cd15 ct15 sl15) (c15 : Hc K cd15 "row_within_halves") (k15 : Hk K f15)
  (a16 : Ha K "linked_through_all" f16) (l16 : Hl K f16 "linked_through_all" "linked_through_all" a3i oc16 od16 kV16 dc16 pm16 an16 cd16 ct16 sl16) (c16 : Hc K cd16 "linked_through_all") (k16 : Hk K f16)
  (a17 : Ha K "linked_through" f17) (l17 : Hl K f17 "linked_through" "linked_through" a4u oc17 od17 kV17 dc17 pm17 an17 cd17 ct17 sl17) (c17 : Hc K cd17 "linked_through") (k17 : Hk K f17)
  (a18 : Ha K "linked_row" f18) (l18 : Hl K f18 "linked_row" "linked_row" a9f oc18 od18 kV18 dc18 pm18 an18 cd18 ct18 sl18) (c18 : Hc K cd18 "linked_row") (k18 : Hk K f18)
  (a19 : Ha K "some_point" f19) (l19 : Hl K f19 "some_point" "some_point" a8m oc19 od19 kV19 dc19 pm19 an19 cd19 ct19 sl19) (c19 : Hc K cd19 "some_point") (k19 : Hk K f19)
  (a20 : Ha K "some_worth" f20) (l20 : Hl K f20 "some_worth" "some_worth" a8c oc20 od20 kV20 dc20 pm20 an20 cd20 ct20 sl20) (c20 : Hc K cd20 "some_worth") (k20 : Hk K f20)
  (a21 : Ha K "fixed" f21) (l21 : Hl K f21 "fixed" "fixed" c5g oc21 od21 kV21 dc21 pm21 an21 cd21 ct21 sl21) (c21 : Hc K cd21 "fixed") (k21 : Hk K f21)
  (a22 : Ha K "greatest" f22) (l22 : Hl K f22 "greatest" "greatest" b2v oc22 od22 kV22 dc22 pm22 an22 cd22 ct22 sl22) (c22 : Hc K cd22 "greatest") (k22 : Hk K f22)
  (a23 : Ha K "greatest_of_three" f23) (l23 : Hl K f23 "greatest_of_three" "greatest_of_three" a3q oc23 od23 kV23 dc23 pm23 an23 cd23 ct23 sl23) (c23 : Hc K cd23 "greatest_of_three") (k23 : Hk K f23)
  (a24 : Ha K "reaching" f24) (l24 : Hl K f24 "reaching" "reaching" b2y oc24 od24 kV24 dc24 pm24 an24 cd24 ct24 sl24) (c24 : Hc K cd24 "reaching") (k24 : Hk K f24)
  (a25 : Ha K "without_flips" f25) (l25 : Hl K f25 "without_flips" "without_flips" a5i oc25 od25 kV25 dc25 pm25 an25 cd25 ct25 sl25) (c25 : Hc K cd25 "without_flips") (k25 : Hk K f25)
  (a26 : Ha K "reaching_with_two" f26) (l26 : Hl K f26 "reaching_with_two" "reaching_with_two" a3r oc26 od26 kV26 dc26 pm26 an26 cd26 ct26 sl26) (c26 : Hc K cd26 "reaching_with_two") (k26 : Hk K f26)
  (a27 : Ha K "reaching_with_three" f27) (l27 : Hl K f27 "reaching_with_three" "reaching_with_three" a3e oc27 od27 kV27 dc27 pm27 an27 cd27 ct27 sl27) (c27 : Hc K cd27 "reaching_with_three") (k27 : Hk K f27)
  (a28 : Ha K "worth_to_fix" f28) (l28 : Hl K f28 "worth_to_fix" "worth_to_fix" a5z oc28 od28 kV28 dc28 pm28 an28 cd28 ct28 sl28) (c28 : Hc K cd28 "worth_to_fix") (k28 : Hk K f28)
  (a29 : Ha K "least_factor" f29) (l29 : Hl K f29 "least_factor" "least_factor" a5x oc29 od29 kV29 dc29 pm29 an29 cd29 ct29 sl29) (c29 : Hc K cd29 "least_factor") (k29 : Hk K f29)
  (a30 : Ha K "asked" f30) (l30 : Hl K f30 "asked" "asked" c3n oc30 od30 kV30 dc30 pm30 an30 cd30 ct30 sl30) (c30 : Hc K cd30 "asked") (k30 : Hk K f30)
  (a31 : Ha K "end_sides" f31) (l31 : Hl K f31 "end_sides" "end_sides" b0d oc31 od31 kV31 dc31 pm31 an31 cd31 ct31 sl31) (c31 : Hc K cd31 "end_sides") (k31 : Hk K f31)
  (a32 : Ha K "filled" f32) (l32 : Hl K f32 "filled" "filled" b8s oc32 od32 kV32 dc32 pm32 an32 cd32 ct32 sl32) (c32 : Hc K cd32 "filled") (k32 : Hk K f32)
  (a33 : Ha K "with_number" f33) (l33 : Hl K f33 "with_number" "with_number" a6z oc33 od33 kV33 dc33 pm33 an33 cd33 ct33 sl33) (c33 : Hc K cd33 "with_number") (k33 : Hk K f33)
  (a34 : Ha K "amount_forms" f34) (l34 : Hl K f34 "amount_forms" "amount_forms" a5y oc34 od34 kV34 dc34 pm34 an34 cd34 ct34 sl34) (c34 : Hc K cd34 "amount_forms") (k34 : Hk K f34)
  (a35 : Ha K "put" f35) (l35 : Hl K f35 "put" "put" d9s oc35 od35 kV35 dc35 pm35 an35 cd35 ct35 sl35) (c35 : Hc K cd35 "put") (k35 : Hk K f35)
  (a36 : Ha K "put_row" f36) (l36 : Hl K f36 "put_row" "put_row" b6h oc36 od36 kV36 dc36 pm36 an36 cd36 ct36 sl36) (c36 : Hc K cd36 "put_row") (k36 : Hk K f36)
  (a37 : Ha K "put_entry" f37) (l37 : Hl K f37 "put_entry" "put_entry" b0k oc37 od37 kV37 dc37 pm37 an37 cd37 ct37 sl37) (c37 : Hc K cd37 "put_entry") (k37 : Hk K f37)
  (a38 : Ha K "reaching_by_put" f38) (l38 : Hl K f38 "reaching_by_put" "reaching_by_put" a4m oc38 od38 kV38 dc38 pm38 an38 cd38 ct38 sl38) (c38 : Hc K cd38 "reaching_by_put") (k38 : Hk K f38)
  (a39 : Ha K "sum_ahead" f39) (l39 : Hl K f39 "sum_ahead" "sum_ahead" b0b oc39 od39 kV39 dc39 pm39 an39 cd39 ct39 sl39) (c39 : Hc K cd39 "sum_ahead") (k39 : Hk K f39)
  (a40 : Ha K "form_ahead" f40) (l40 : Hl K f40 "form_ahead" "form_ahead" a8f oc40 od40 kV40 dc40 pm40 an40 cd40 ct40 sl40) (c40 : Hc K cd40 "form_ahead") (k40 : Hk K f40)
  (a41 : Ha K "join" f41) (l41 : Hl K f41 "join" "join" d2l oc41 od41 kV41 dc41 pm41 an41 cd41 ct41 sl41) (c41 : Hc K cd41 "join") (k41 : Hk K f41)
  (a42 : Ha K "copied" f42) (l42 : Hl K f42 "copied" "copied" b9c oc42 od42 kV42 dc42 pm42 an42 cd42 ct42 sl42) (c42 : Hc K cd42 "copied") (k42 : Hk K f42)
  (a43 : Ha K "joined_row" f43) (l43 : Hl K f43 "joined_row" "joined_row" a8o oc43 od43 kV43 dc43 pm43 an43 cd43 ct43 sl43) (c43 : Hc K cd43 "joined_row") (k43 : Hk K f43)
  (a44 : Ha K "cases" f44) (l44 : Hl K f44 "cases" "cases" c4m oc44 od44 kV44 dc44 pm44 an44 cd44 ct44 sl44) (c44 : Hc K cd44 "cases") (k44 : Hk K f44)
  (a45 : Ha K "most_side" f45) (l45 : Hl K f45 "most_side" "most_side" a9x oc45 od45 kV45 dc45 pm45 an45 cd45 ct45 sl45) (c45 : Hc K cd45 "most_side") (k45 : Hk K f45)
  (a46 : Ha K "least_side" f46) (l46 : Hl K f46 "least_side" "least_side" a8n oc46 od46 kV46 dc46 pm46 an46 cd46 ct46 sl46) (c46 : Hc K cd46 "least_side") (k46 : Hk K f46)
  (a47 : Hm K Z_Go "image" f47) (i47 : Hi K f47) (l47 : Hl K f47 "image" "Go.image" b2m oc47 od47 kV47 dc47 pm47 an47 cd47 ct47 sl47) (c47 : Hc K cd47 "Go.image") (k47 : Hk K f47)
  (a48 : Hm K Z_Go "source" f48) (i48 : Hi K f48) (l48 : Hl K f48 "source" "Go.source" b0i oc48 od48 kV48 dc48 pm48 an48 cd48 ct48 sl48) (c48 : Hc K cd48 "Go.source") (k48 : Hk K f48)
  (a49 : Hm K Z_Keep "__init__" f49) (i49 : Hi K f49) (l49 : Hl K f49 "__init__" "Keep.__init__" b0a oc49 od49 kV49 dc49 pm49 an49 cd49 ct49 sl49) (c49 : Hc K cd49 "Keep.__init__") (k49 : Hk K f49)
  (a50 : Hm K Z_Keep "image" f50) (i50 : Hi K f50) (l50 : Hl K f50 "image" "Keep.image" a8d oc50 od50 kV50 dc50 pm50 an50 cd50 ct50 sl50) (c50 : Hc K cd50 "Keep.image") (k50 : Hk K f50)
  (a51 : Hm K Z_Keep "source" f51) (i51 : Hi K f51) (l51 : Hl K f51 "source" "Keep.source" a7h oc51 od51 kV51 dc51 pm51 an51 cd51 ct51 sl51) (c51 : Hc K cd51 "Keep.source") (k51 : Hk K f51)
  (a52 : Hm K Z_Put "__init__" f52) (i52 : Hi K f52) (l52 : Hl K f52 "__init__" "Put.__init__" b2n oc52 od52 kV52 dc52 pm52 an52 cd52 ct52 sl52) (c52 : Hc K cd52 "Put.__init__") (k52 : Hk K f52)
  (a53 : Hm K Z_Put "image" f53) (i53 : Hi K f53) (l53 : Hl K f53 "image" "Put.image" b0y oc53 od53 kV53 dc53 pm53 an53 cd53 ct53 sl53) (c53 : Hc K cd53 "Put.image") (k53 : Hk K f53)
  (a54 : Hm K Z_Put "source" f54) (i54 : Hi K f54) (l54 : Hl K f54 "source" "Put.source" a8i oc54 od54 kV54 dc54 pm54 an54 cd54 ct54 sl54) (c54 : Hc K cd54 "Put.source") (k54 : Hk K f54)
  (a55 : Hm K Z_Ask "__init__" f55) (i55 : Hi K f55) (l55 : Hl K f55 "__init__" "Ask.__init__" b3b oc55 od55 kV55 dc55 pm55 an55 cd55 ct55 sl55) (c55 : Hc K cd55 "Ask.__init__") (k55 : Hk K f55)
  (a56 : Hm K Z_Ask "image" f56) (i56 : Hi K f56) (l56 : Hl K f56 "image" "Ask.image" b0l oc56 od56 kV56 dc56 pm56 an56 cd56 ct56 sl56) (c56 : Hc K cd56 "Ask.image") (k56 : Hk K f56)
  (a57 : Hm K Z_Ask "source" f57) (i57 : Hi K f57) (l57 : Hl K f57 "source" "Ask.source" a8g oc57 od57 kV57 dc57 pm57 an57 cd57 ct57 sl57) (c57 : Hc K cd57 "Ask.source") (k57 : Hk K f57)
  (a58 : Ha K "with_any_number" f58) (l58 : Hl K f58 "with_any_number" "with_any_number" a4f oc58 od58 kV58 dc58 pm58 an58 cd58 ct58 sl58) (c58 : Hc K cd58 "with_any_number") (k58 : Hk K f58)
  (a59 : Ha K "_law_count" f59) (l59 : Hl K f59 "_law_count" "_law_count" a8q oc59 od59 kV59 dc59 pm59 an59 cd59 ct59 sl59) (c59 : Hc K cd59 "_law_count") (k59 : Hk K f59)
  (a60 : Ha K "_law_cell" f60) (l60 : Hl K f60 "_law_cell" "_law_cell" b0w oc60 od60 kV60 dc60 pm60 an60 cd60 ct60 sl60) (c60 : Hc K cd60 "_law_cell") (k60 : Hk K f60)
  (a61 : Ha K "_law_whole" f61) (l61 : Hl K f61 "_law_whole" "_law_whole" a8w oc61 od61 kV61 dc61 pm61 an61 cd61 ct61 sl61) (c61 : Hc K cd61 "_law_whole") (k61 : Hk K f61)
  (a62 : Ha K "_law_big" f62) (l62 : Hl K f62 "_law_big" "_law_big" b2r oc62 od62 kV62 dc62 pm62 an62 cd62 ct62 sl62) (c62 : Hc K cd62 "_law_big") (k62 : Hk K f62)
  (a63 : Ha K "_law_point" f63) (l63 : Hl K f63 "_law_point" "_law_point" a8t oc63 od63 kV63 dc63 pm63 an63 cd63 ct63 sl63) (c63 : Hc K cd63 "_law_point") (k63 : Hk K f63)
  (a64 : Ha K "_law_worth" f64) (l64 : Hl K f64 "_law_worth" "_law_worth" a9e oc64 od64 kV64 dc64 pm64 an64 cd64 ct64 sl64) (c64 : Hc K cd64 "_law_worth") (k64 : Hk K f64)
  (a65 : Ha K "_law_cells" f65) (l65 : Hl K f65 "_law_cells" "_law_cells" a8u oc65 od65 kV65 dc65 pm65 an65 cd65 ct65 sl65) (c65 : Hc K cd65 "_law_cells") (k65 : Hk K f65)
  (a66 : Ha K "_law_sides" f66) (l66 : Hl K f66 "_law_sides" "_law_sides" a8r oc66 od66 kV66 dc66 pm66 an66 cd66 ct66 sl66) (c66 : Hc K cd66 "_law_sides") (k66 : Hk K f66)
  (a67 : Ha K "_law_sum" f67) (l67 : Hl K f67 "_law_sum" "_law_sum" b2q oc67 od67 kV67 dc67 pm67 an67 cd67 ct67 sl67) (c67 : Hc K cd67 "_law_sum") (k67 : Hk K f67)
  (a68 : Ha K "_law_keeps" f68) (l68 : Hl K f68 "_law_keeps" "_law_keeps" a8b oc68 od68 kV68 dc68 pm68 an68 cd68 ct68 sl68) (c68 : Hc K cd68 "_law_keeps") (k68 : Hk K f68)
  (a69 : Ha K "_law_point_like" f69) (l69 : Hl K f69 "_law_point_like" "_law_point_like" a4g oc69 od69 kV69 dc69 pm69 an69 cd69 ct69 sl69) (c69 : Hc K cd69 "_law_point_like") (k69 : Hk K f69)
  (a70 : Ha K "_law_copy" f70) (l70 : Hl K f70 "_law_copy" "_law_copy" b0j oc70 od70 kV70 dc70 pm70 an70 cd70 ct70 sl70) (c70 : Hc K cd70 "_law_copy") (k70 : Hk K f70)
  (a71 : Ha K "_law_table" f71) (l71 : Hl K f71 "_law_table" "_law_table" a9i oc71 od71 kV71 dc71 pm71 an71 cd71 ct71 sl71) (c71 : Hc K cd71 "_law_table") (k71 : Hk K f71)
  (a72 : Ha K "_law_far" f72) (l72 : Hl K f72 "_law_far" "_law_far" b2s oc72 od72 kV72 dc72 pm72 an72 cd72 ct72 sl72) (c72 : Hc K cd72 "_law_far") (k72 : Hk K f72)
  (a73 : Ha K "_law_holds" f73) (l73 : Hl K f73 "_law_holds" "_law_holds" a8y oc73 od73 kV73 dc73 pm73 an73 cd73 ct73 sl73) (c73 : Hc K cd73 "_law_holds") (k73 : Hk K f73)
  (a74 : Ha K "_law_question" f74) (l74 : Hl K f74 "_law_question" "_law_question" a5g oc74 od74 kV74 dc74 pm74 an74 cd74 ct74 sl74) (c74 : Hc K cd74 "_law_question") (k74 : Hk K f74)
  (a75 : Ha K "_law_change" f75) (l75 : Hl K f75 "_law_change" "_law_change" a7f oc75 od75 kV75 dc75 pm75 an75 cd75 ct75 sl75) (c75 : Hc K cd75 "_law_change") (k75 : Hk K f75)
  (a76 : Ha K "_law_ask" f76) (l76 : Hl K f76 "_law_ask" "_law_ask" b3c oc76 od76 kV76 dc76 pm76 an76 cd76 ct76 sl76) (c76 : Hc K cd76 "_law_ask") (k76 : Hk K f76)
  (a77 : Ha K "_law_deed" f77) (l77 : Hl K f77 "_law_deed" "_law_deed" b0q oc77 od77 kV77 dc77 pm77 an77 cd77 ct77 sl77) (c77 : Hc K cd77 "_law_deed") (k77 : Hk K f77)
  (a78 : Ha K "_law_made" f78) (l78 : Hl K f78 "_law_made" "_law_made" a9z oc78 od78 kV78 dc78 pm78 an78 cd78 ct78 sl78) (c78 : Hc K cd78 "_law_made") (k78 : Hk K f78)
  (a79 : Ha K "_law_step" f79) (l79 : Hl K f79 "_law_step" "_law_step" b0g oc79 od79 kV79 dc79 pm79 an79 cd79 ct79 sl79) (c79 : Hc K cd79 "_law_step") (k79 : Hk K f79)
  (a80 : Ha K "_law_source_sum" f80) (l80 : Hl K f80 "_law_source_sum" "_law_source_sum" a4h oc80 od80 kV80 dc80 pm80 an80 cd80 ct80 sl80) (c80 : Hc K cd80 "_law_source_sum") (k80 : Hk K f80)
  (a81 : Ha K "_law_met" f81) (l81 : Hl K f81 "_law_met" "_law_met" b2z oc81 od81 kV81 dc81 pm81 an81 cd81 ct81 sl81) (c81 : Hc K cd81 "_law_met") (k81 : Hk K f81)
  (a82 : Ha K "law" f82) (l82 : Hl K f82 "law" "law" d0w oc82 od82 kV82 dc82 pm82 an82 cd82 ct82 sl82) (c82 : Hc K cd82 "law") (k82 : Hk K f82)
  (pg_Go : PySem.W.plainGet K Z_Go Str.empty = true)
  (hd_Go : PySem.W.hasDictIn K Z_Go = true)
  (po_Go : PySem.W.plainOver K Z_Go = true)
  (sa_Go : PySem.W.findIn K (.ref Z_Go) "__setattr__" = some (some (.builtin "object.__setattr__")))
  (mk_Go : PySem.W.makesIn K Z_Go = true)
  (kc_Go : PySem.W.keepIn K (.ref Z_Go) = true)
  (pg_Keep : PySem.W.plainGet K Z_Keep Str.empty = true)
  (hd_Keep : PySem.W.hasDictIn K Z_Keep = true)
  (po_Keep : PySem.W.plainOver K Z_Keep = true)
  (sa_Keep : PySem.W.findIn K (.ref Z_Keep) "__setattr__" = some (some (.builtin "object.__setattr__")))
  (mk_Keep : PySem.W.makesIn K Z_Keep = true)
  (kc_Keep : PySem.W.keepIn K (.ref Z_Keep) = true)
  (pg_Put : PySem.W.plainGet K Z_Put Str.empty = true)
  (hd_Put : PySem.W.hasDictIn K Z_Put = true)
  (po_Put : PySem.W.plainOver K Z_Put = true)
  (sa_Put : PySem.W.findIn K (.ref Z_Put) "__setattr__" = some (some (.builtin "object.__setattr__")))
  (mk_Put : PySem.W.makesIn K Z_Put = true)
  (kc_Put : PySem.W.keepIn K (.ref Z_Put) = true)
  (pg_Ask : PySem.W.plainGet K Z_Ask Str.empty = true)
  (hd_Ask : PySem.W.hasDictIn K Z_Ask = true)
  (po_Ask : PySem.W.plainOver K Z_Ask = true)
  (sa_Ask : PySem.W.findIn K (.ref Z_Ask) "__setattr__" = some (some (.builtin "object.__setattr__")))
  (mk_Ask : PySem.W.makesIn K Z_Ask = true)
  (kc_Ask : PySem.W.keepIn K (.ref Z_Ask) = true)
  (io_Go : PySem.W.findIn K (.ref Z_Go) "__init__" = some (some (.builtin "object.__init__")))
  (nf_Keep_question : PySem.W.findIn K (.ref Z_Keep) "question" = some none)
  (nf_Put_k : PySem.W.findIn K (.ref Z_Put) "k" = some none)
  (nf_Put_amount : PySem.W.findIn K (.ref Z_Put) "amount" = some none)
  (nf_Ask_k : PySem.W.findIn K (.ref Z_Ask) "k" = some none)
  (nf_Ask_low : PySem.W.findIn K (.ref Z_Ask) "low" = some none)
  (nf_Ask_high : PySem.W.findIn K (.ref Z_Ask) "high" = some none)
  (z_len : Hz K "len")
  (z_isinstance : Hz K "isinstance")
  (z_int : Hz K "int")
  (z_bool : Hz K "bool")
  (z_tuple : Hz K "tuple")
  (z_range : Hz K "range")
  (z_list : Hz K "list")
  (z_sum : Hz K "sum")
  (z_str : Hz K "str")
  (z_enumerate : Hz K "enumerate")
  (z_zip : Hz K "zip")
  (z_min : Hz K "min")
  (z_max : Hz K "max")
  : ∃ fd : FuncData, (∀ (s : Shared) (v : Value), BindsTo s fd ⟨[v], []⟩ [("_law_script", v)]) /\ ∀ base : Heap, K.In base -> base.Ns mainGlobals mg -> c6n l.prog w K mg base CX0 15 fa fd ["_law_script"] (d1p K) := by
 have e := hfa.symm.trans (PySem.W.mg_of X G a82)
 cases e
 have B : Bl mg := ⟨PySem.W.mg_none_of X G z_len, PySem.W.mg_none_of X G z_isinstance, PySem.W.mg_none_of X G z_int, PySem.W.mg_none_of X G z_bool, PySem.W.mg_none_of X G z_tuple, PySem.W.mg_none_of X G z_range, PySem.W.mg_none_of X G z_list, PySem.W.mg_none_of X G z_sum, PySem.W.mg_none_of X G z_str, PySem.W.mg_none_of X G z_enumerate, PySem.W.mg_none_of X G z_zip, PySem.W.mg_none_of X G z_min, PySem.W.mg_none_of X G z_max⟩
 have T := (⟨⟨pg_Go, hd_Go, po_Go, sa_Go⟩, ⟨pg_Keep, hd_Keep, po_Keep, sa_Keep⟩, ⟨pg_Put, hd_Put, po_Put, sa_Put⟩, ⟨pg_Ask, hd_Ask, po_Ask, sa_Ask⟩, ⟨a47, i47, k47⟩, ⟨a48, i48, k48⟩, ⟨a50, i50, k50⟩, ⟨a51, i51, k51⟩, ⟨a53, i53, k53⟩, ⟨a54, i54, k54⟩, ⟨a56, i56, k56⟩, ⟨a57, i57, k57⟩, ⟨mk_Go, io_Go, kc_Go⟩, ⟨mk_Keep, a49, i49, kc_Keep⟩, ⟨mk_Put, a52, i52, kc_Put⟩, ⟨mk_Ask, a55, i55, kc_Ask⟩, PySem.W.mg_of X G a_Go, PySem.W.mg_of X G a_Keep, PySem.W.mg_of X G a_Put, PySem.W.mg_of X G a_Ask, nf_Keep_question, nf_Put_k, nf_Put_amount, nf_Ask_k, nf_Ask_low, nf_Ask_high⟩ : Kl K mg Z_Go Z_Keep Z_Put Z_Ask f47 f48 f49 f50 f51 f52 f53 f54 f55 f56 f57)
 refine ⟨PySem.W.fnOf "law" "law" (b6p d0w) (b4k d0w) (a0k d0w) .none kV82 dc82 pm82 an82 cd82 ct82, fun s v => .of_eq rfl, fun base _ _ => ?_⟩
 have d8w := e0y (P := l.prog) (w := w) (base := base) T (a0v (st := c3r) l0 c0 k0) (PySem.W.mg_of X G a0) B
 have c4i := d6s (P := l.prog) (w := w) (base := base) T (a0v (st := b8w) l1 c1 k1) (PySem.W.mg_of X G a1) B
 have d7p := d3g (P := l.prog) (w := w) (base := base) T (a0v (st := b5u) l2 c2 k2) (PySem.W.mg_of X G a2) B
 have d6u := d9l (P := l.prog) (w := w) (base := base) T (a0v (st := c4w) l3 c3 k3) (PySem.W.mg_of X G a3) B
 have b4s := d8l (P := l.prog) (w := w) (base := base) T (a0v (st := b9a) l4 c4 k4) (PySem.W.mg_of X G a4) B
 have c7v := e2i (P := l.prog) (w := w) (base := base) T (a0v (st := d1y) l5 c5 k5) (PySem.W.mg_of X G a5) B
 have a3s := d3u (P := l.prog) (w := w) (base := base) T (a0v (st := b5j) l6 c6 k6) (PySem.W.mg_of X G a6) B
 have a9l := c0s (P := l.prog) (w := w) (base := base) T (a0v (st := a5x) l29 c29 k29) (PySem.W.mg_of X G a29) B
 have d1h := c6s (P := l.prog) (w := w) (base := base) T (a0v (st := b0d) l31 c31 k31) (PySem.W.mg_of X G a31) B
 have c5l := c1i (P := l.prog) (w := w) (base := base) T (a0v (st := a6z) l33 c33 k33) (PySem.W.mg_of X G a33) B
 have c1j := c1e (P := l.prog) (w := w) (base := base) T (a0v (st := a5y) l34 c34 k34) (PySem.W.mg_of X G a34) B
 have d2f := d8k (P := l.prog) (w := w) (base := base) T (a0v (st := b9c) l42 c42 k42) (PySem.W.mg_of X G a42) B
 have b9w := c6a (P := l.prog) (w := w) (base := base) T (a0v (st := a9x) l45 c45 k45) (PySem.W.mg_of X G a45) B
 have c9r := c8s (P := l.prog) (w := w) (base := base) T (a0v (st := b0a) l49 c49 k49) B
 have d3t := c9s (P := l.prog) (w := w) (base := base) T (a0v (st := b2n) l52 c52 k52) B
 have d3l := d0i (P := l.prog) (w := w) (base := base) T (a0v (st := b3b) l55 c55 k55) B
 have a5r := b5z (P := l.prog) (w := w) (base := base) T (a0v (st := a4f) l58 c58 k58) (PySem.W.mg_of X G a58) B
 have c5y := c3k (P := l.prog) (w := w) (base := base) T (a0v (st := a8q) l59 c59 k59) (PySem.W.mg_of X G a59) B
 have b4n := c7d (P := l.prog) (w := w) (base := base) T (a0v (st := b0w) l60 c60 k60) (PySem.W.mg_of X G a60) B
 have b2b := c3s (P := l.prog) (w := w) (base := base) T (a0v (st := a8w) l61 c61 k61) (PySem.W.mg_of X G a61) B
 have b2u := c9q (P := l.prog) (w := w) (base := base) T (a0v (st := b2r) l62 c62 k62) (PySem.W.mg_of X G a62) B
 have a6c := c3g (P := l.prog) (w := w) (base := base) T (a0v (st := a9e) l64 c64 k64) (PySem.W.mg_of X G a64) B
 have d0x := c6v (P := l.prog) (w := w) (base := base) T (a0v (st := b0j) l70 c70 k70) (PySem.W.mg_of X G a70) B
 have d4r := d1f (P := l.prog) (w := w) (base := base) T (a0v (st := b2s) l72 c72 k72) (PySem.W.mg_of X G a72) B
 have c3i := c1k (P := l.prog) (w := w) (base := base) T (a0v (st := a7f) l75 c75 k75) (PySem.W.mg_of X G a75) B
 have d4n := d0a (P := l.prog) (w := w) (base := base) T (a0v (st := b3d) l8 c8 k8) (PySem.W.mg_of X G a8) B a3s
 have c5t := c3e (P := l.prog) (w := w) (base := base) T (a0v (st := a8h) l9 c9 k9) (PySem.W.mg_of X G a9) B a3s
 have d6t := d3d (P := l.prog) (w := w) (base := base) T (a0v (st := b5n) l13 c13 k13) (PySem.W.mg_of X G a13) B c4i
 have b3x := b3j (P := l.prog) (w := w) (base := base) T (a0v (st := a3p) l15 c15 k15) (PySem.W.mg_of X G a15) B c4i b4s
 have c8u := c4z (P := l.prog) (w := w) (base := base) T (a0v (st := a9f) l18 c18 k18) (PySem.W.mg_of X G a18) B c4i b4s
 have b7r := c2w (P := l.prog) (w := w) (base := base) T (a0v (st := a8c) l20 c20 k20) (PySem.W.mg_of X G a20) B c7v a3s
 have b4m := b3m (P := l.prog) (w := w) (base := base) T (a0v (st := a3q) l23 c23 k23) (PySem.W.mg_of X G a23) B b4s d6u c7v
 have c0h := b8q (P := l.prog) (w := w) (base := base) T (a0v (st := a5i) l25 c25 k25) (PySem.W.mg_of X G a25) B a3s
 have c1t := c1b (P := l.prog) (w := w) (base := base) T (a0v (st := a5z) l28 c28 k28) (PySem.W.mg_of X G a28) B d6u a3s a9l c7v b4s
 have c6g := c3u (P := l.prog) (w := w) (base := base) T (a0v (st := a8f) l40 c40 k40) (PySem.W.mg_of X G a40) B c1j a3s
 have c7b := c4p (P := l.prog) (w := w) (base := base) T (a0v (st := a8o) l43 c43 k43) (PySem.W.mg_of X G a43) B d7p
 have c7f := c4o (P := l.prog) (w := w) (base := base) T (a0v (st := a8n) l46 c46 k46) (PySem.W.mg_of X G a46) B b9w a3s
 have c2e := d0e (P := l.prog) (w := w) (base := base) T (a0v (st := b2m) l47 c47 k47) B d2f
 have c8a := c2v (P := l.prog) (w := w) (base := base) T (a0v (st := a8t) l63 c63 k63) (PySem.W.mg_of X G a63) B b2u b4n
 have c7o := c4b (P := l.prog) (w := w) (base := base) T (a0v (st := a8u) l65 c65 k65) (PySem.W.mg_of X G a65) B b4n
 have c6r := c5j (P := l.prog) (w := w) (base := base) T (a0v (st := a8r) l66 c66 k66) (PySem.W.mg_of X G a66) B a6c
 have b6v := d0c (P := l.prog) (w := w) (base := base) T (a0v (st := b2q) l67 c67 k67) (PySem.W.mg_of X G a67) B a6c
 have c6m := c3v (P := l.prog) (w := w) (base := base) T (a0v (st := a8b) l68 c68 k68) (PySem.W.mg_of X G a68) B a6c
 have b7e := b4w (P := l.prog) (w := w) (base := base) T (a0v (st := a4g) l69 c69 k69) (PySem.W.mg_of X G a69) B b2b
 have c7c := c4a (P := l.prog) (w := w) (base := base) T (a0v (st := a9i) l71 c71 k71) (PySem.W.mg_of X G a71) B b2b
 have c6w := c5d (P := l.prog) (w := w) (base := base) T (a0v (st := a8y) l73 c73 k73) (PySem.W.mg_of X G a73) B a6c
 have d3q := c9d (P := l.prog) (w := w) (base := base) T (a0v (st := b3c) l76 c76 k76) (PySem.W.mg_of X G a76) B b2u
 have e5r := e3w (P := l.prog) (w := w) (base := base) T (a0v (st := d2v) l7 c7 k7) (PySem.W.mg_of X G a7) B d4n
 have b8g := b6s (P := l.prog) (w := w) (base := base) T (a0v (st := a4u) l17 c17 k17) (PySem.W.mg_of X G a17) B c8u a3s
 have c2r := d0y (P := l.prog) (w := w) (base := base) T (a0v (st := b2v) l22 c22 k22) (PySem.W.mg_of X G a22) B b4m c7v
 have c0r := c7s (P := l.prog) (w := w) (base := base) T (a0v (st := b0b) l39 c39 k39) (PySem.W.mg_of X G a39) B c6g a3s
 have e5j := e4k (P := l.prog) (w := w) (base := base) T (a0v (st := d2l) l41 c41 k41) (PySem.W.mg_of X G a41) B d2f c7b
 have d4z := d9y (P := l.prog) (w := w) (base := base) T (a0v (st := c4m) l44 c44 k44) (PySem.W.mg_of X G a44) B b9w c7f
 have c0a := b8m (P := l.prog) (w := w) (base := base) T (a0v (st := a5g) l74 c74 k74) (PySem.W.mg_of X G a74) B b2u b6v a6c
 have c9m := c8w (P := l.prog) (w := w) (base := base) T (a0v (st := a9z) l78 c78 k78) (PySem.W.mg_of X G a78) B c9r d3t d3l
 have d1b := c8h (P := l.prog) (w := w) (base := base) T (a0v (st := b0g) l79 c79 k79) (PySem.W.mg_of X G a79) B c6w b6v
 have b3h := b1q (P := l.prog) (w := w) (base := base) T (a0v (st := a3i) l16 c16 k16) (PySem.W.mg_of X G a16) B b8g
 have d0l := c6u (P := l.prog) (w := w) (base := base) T (a0v (st := b0k) l37 c37 k37) (PySem.W.mg_of X G a37) B c2r
 have c9o := c8m (P := l.prog) (w := w) (base := base) T (a0v (st := b0q) l77 c77 k77) (PySem.W.mg_of X G a77) B d3q c0a c3i b2u
 have b6o := b5m (P := l.prog) (w := w) (base := base) T (a0v (st := a4h) l80 c80 k80) (PySem.W.mg_of X G a80) B d1b b6v b2b b7e c6m
 have d1k := c7p (P := l.prog) (w := w) (base := base) T (a0v (st := b0p) l14 c14 k14) (PySem.W.mg_of X G a14) B b3h c7v b3x d8w b4s a3s
 have d5s := d3k (P := l.prog) (w := w) (base := base) T (a0v (st := b6h) l36 c36 k36) (PySem.W.mg_of X G a36) B d0l c0r
 have a5f := c1n (P := l.prog) (w := w) (base := base) T (a0v (st := a6y) l12 c12 k12) (PySem.W.mg_of X G a12) B d1k d6t
 have e8x := e5y (P := l.prog) (w := w) (base := base) T (a0v (st := d9s) l35 c35 k35) (PySem.W.mg_of X G a35) B d5s
 have d2d := d5r (P := l.prog) (w := w) (base := base) T (a0v (st := b8t) l10 c10 k10) (PySem.W.mg_of X G a10) B a5f e5r
 have e6v := e2o (P := l.prog) (w := w) (base := base) T (a0v (st := d1q) l11 c11 k11) (PySem.W.mg_of X G a11) B a5f
 have d0v := e0e (P := l.prog) (w := w) (base := base) T (a0v (st := c5g) l21 c21 k21) (PySem.W.mg_of X G a21) B a5f a3s
 have b7y := c3b (P := l.prog) (w := w) (base := base) T (a0v (st := a8d) l50 c50 k50) B d4z e5j a5f
 have c0b := c5u (P := l.prog) (w := w) (base := base) T (a0v (st := b0y) l53 c53 k53) B e8x
 have b7l := c4h (P := l.prog) (w := w) (base := base) T (a0v (st := a8m) l19 c19 k19) (PySem.W.mg_of X G a19) B b7r d0v
 have e2r := e0t (P := l.prog) (w := w) (base := base) T (a0v (st := c3n) l30 c30 k30) (PySem.W.mg_of X G a30) B d2d c5t d1h
 have d9c := d8h (P := l.prog) (w := w) (base := base) T (a0v (st := b8s) l32 c32 k32) (PySem.W.mg_of X G a32) B b7r d0v
 have a7z := b3l (P := l.prog) (w := w) (base := base) T (a0v (st := a3r) l26 c26 k26) (PySem.W.mg_of X G a26) B b7l e6v a3s
 have c0u := c6x (P := l.prog) (w := w) (base := base) T (a0v (st := b0l) l56 c56 k56) B e2r
 have b2d := b1h (P := l.prog) (w := w) (base := base) T (a0v (st := a3e) l27 c27 k27) (PySem.W.mg_of X G a27) B c1t a7z d0v a9l
 have b2p := d0p (P := l.prog) (w := w) (base := base) T (a0v (st := b2y) l24 c24 k24) (PySem.W.mg_of X G a24) B c0h b2d d8w b7l a7z c2r
 have b6q := b6j (P := l.prog) (w := w) (base := base) T (a0v (st := a4m) l38 c38 k38) (PySem.W.mg_of X G a38) B c0r b2p a9l
 have c0n := c7i (P := l.prog) (w := w) (base := base) T (a0v (st := b0i) l48 c48 k48) B a5r b2p
 have b4u := c1m (P := l.prog) (w := w) (base := base) T (a0v (st := a7h) l51 c51 k51) B d4z b2p a5f a5r
 have b7v := c3h (P := l.prog) (w := w) (base := base) T (a0v (st := a8g) l57 c57 k57) B b2p c2e b7y c0b c0u c5l d9c
 have b7o := c4x (P := l.prog) (w := w) (base := base) T (a0v (st := a8i) l54 c54 k54) B a5r b6q
 have d4f := c9n (P := l.prog) (w := w) (base := base) T (a0v (st := b2z) l81 c81 k81) (PySem.W.mg_of X G a81) B c0n b4u b7o b7v b6o
 exact d6q (P := l.prog) (w := w) (base := base) T (a0v (st := d0w) l82 c82 k82) (PySem.W.mg_of X G a82) B c5y c8a c6r d2d d0x c9o c9m c2e b7y c0b c0u d4r b4n c7o c7c d4f c0n b4u b7o b7v
theorem g0n {l : PySem.W.OpenLaw} {q : Program} {loose : List Str} {XP : (Str -> Option Value) -> Heap -> Prop} {YP : World -> Heap -> Prop} {d : DefRec} {K : Params -> PySem.W.Frag} (hn : l.most = some 63) (hdf : d.params.defaults = [])
  (hY : ∀ (w : World) (h : Heap), YP w h -> (K w.params).In h)
  (F : ∀ (w : World) (mg : Str -> Option Value) (fa : Addr) (h : Heap), (K w.params).In h -> h.Ns mainGlobals mg -> mg d.name = some (.ref fa) ->
   ∃ fd : FuncData, (∀ (s : Shared) (u : Value), BindsTo s fd ⟨[u], []⟩ [("_law_script", u)]) /\ ∀ base : Heap, (K w.params).In base -> base.Ns mainGlobals mg -> c6n l.prog w (K w.params) mg base CX0 15 fa fd ["_law_script"] (d1p (K w.params))) :
  PySem.W.WalkO q loose XP YP l.row.toRowW d [] (fun f vs => PySem.call f vs) :=
 L2.e4i (n := 63) (k := 15) (x := "_law_script") (CX := fun _ => CX0) (sp := fun w => d1p (K w.params)) hn (by decide) hdf ⟨rfl, by decide, by decide⟩ hY F (fun _ _ a ns hl _ hS => ⟨a, ns, rfl, hS, hl, fun _ => rfl⟩) fun _ _ _ _ _ z => z
end T
/- the names below stand so that the twins of these terms are not made: they are not needed, and they are big -/
def PySem.W.Fast.tw8701518689095964477 : Unit := ()
def PySem.W.Fast.tw13765790218750087910 : Unit := ()
def PySem.W.Fast.tw10383714656450431192 : Unit := ()
def PySem.W.Fast.tw7754703890110583701 : Unit := ()
def PySem.W.Fast.tw12733449792970192104 : Unit := ()
def PySem.W.Fast.tw11423888137857519979 : Unit := ()
def PySem.W.Fast.tw9439142114892724369 : Unit := ()
def PySem.W.Fast.tw9714988247599530189 : PySem.Program := PySem.Challenge.pw_eightsides_k27_image_least
theorem PySem.W.Fast.te9714988247599530189 : PySem.Challenge.pw_eightsides_k27_image_least = PySem.W.Fast.tw9714988247599530189 := rfl
def PySem.W.Fast.tw3968217052667460722 : Unit := ()
def PySem.W.Fast.tw9879289437707592121 : Unit := ()
def PySem.W.Fast.tw13139604387225435542 : Unit := ()
def PySem.W.Fast.tw4276211030585906917 : Unit := ()
def PySem.W.Fast.tw518196548185057068 : Unit := ()
def PySem.W.Fast.tw6096467313852691198 : Unit := ()
def PySem.W.Fast.tw10707172314420443385 : Unit := ()
def PySem.W.Fast.tw8616539990287571776 : Unit := ()
def PySem.W.Fast.tw3096206703466845277 : Unit := ()
def PySem.W.Fast.tw10677660226970169496 : Unit := ()
def PySem.W.Fast.tw15695991578946181047 : Unit := ()
def PySem.W.Fast.tw4156055450502296051 : Unit := ()
def PySem.W.Fast.tw12271354783375158102 : Unit := ()
def PySem.W.Fast.tw7402451926139343946 : Unit := ()
def PySem.W.Fast.tw17341857441089647498 : Unit := ()
def PySem.W.Fast.tw6489479143473629115 : Unit := ()
def PySem.W.Fast.tw13784742664809018863 : Unit := ()
def PySem.W.Fast.tw10927435766155395498 : Unit := ()
def PySem.W.Fast.tw139399603484467477 : Unit := ()
def PySem.W.Fast.tw15434896381796488682 : Unit := ()
def PySem.W.Fast.tw7010759823203737649 : Unit := ()
def PySem.W.Fast.tw12466733669748239655 : Unit := ()
def PySem.W.Fast.tw8980603693773505615 : Unit := ()
def PySem.W.Fast.tw10957637029653356332 : Unit := ()
def PySem.W.Fast.tw16228946810633112754 : Unit := ()
def PySem.W.Fast.tw12104935654591670841 : Unit := ()
def PySem.W.Fast.tw18078181506652858990 : Unit := ()
def PySem.W.Fast.tw1654687002569249192 : Unit := ()
def PySem.W.Fast.tw3899841533145931977 : Unit := ()
def PySem.W.Fast.tw11663217385982607514 : Unit := ()
def PySem.W.Fast.tw13899808953810440667 : Unit := ()
def PySem.W.Fast.tw2468537520970825738 : Unit := ()
def PySem.W.Fast.tw16760232683273266900 : Unit := ()
def PySem.W.Fast.tw14356301337845161335 : Unit := ()
def PySem.W.Fast.tw9236936724336933807 : Unit := ()
def PySem.W.Fast.tw5514457858897123534 : Unit := ()
def PySem.W.Fast.tw7084078393184930303 : Unit := ()
def PySem.W.Fast.tw12137114190651146225 : Unit := ()
def PySem.W.Fast.tw4619597483323388453 : Unit := ()
def PySem.W.Fast.tw5063735133045412687 : Unit := ()
def PySem.W.Fast.tw16551485525134046756 : Unit := ()
def PySem.W.Fast.tw15186614328812117488 : Unit := ()
def PySem.W.Fast.tw7264862573329972971 : Unit := ()
def PySem.W.Fast.tw5911026690441927720 : Unit := ()
def PySem.W.Fast.tw16685911646328844414 : Unit := ()
def PySem.W.Fast.tw6128318149085794233 : Unit := ()
def PySem.W.Fast.tw12550746663295508680 : Unit := ()
def PySem.W.Fast.tw4089443092999872427 : Unit := ()
def PySem.W.Fast.tw6122556043839302022 : Unit := ()
def PySem.W.Fast.tw16241556235967477037 : Unit := ()
def PySem.W.Fast.tw7301011632670788194 : Unit := ()
def PySem.W.Fast.tw1280723320252263118 : Unit := ()
def PySem.W.Fast.tw17123509145349034796 : Unit := ()
def PySem.W.Fast.tw5134319586821076322 : Unit := ()
def PySem.W.Fast.tw3292826358085604062 : Unit := ()
def PySem.W.Fast.tw1756036869950962192 : Unit := ()
def PySem.W.Fast.tw5471677023831702648 : Unit := ()
def PySem.W.Fast.tw11693551617697069017 : Unit := ()
def PySem.W.Fast.tw17005899885171010770 : Unit := ()
def PySem.W.Fast.tw14973699498722514967 : Unit := ()
def PySem.W.Fast.tw10112023322454073774 : Unit := ()
def PySem.W.Fast.tw2755285053955450075 : Unit := ()
def PySem.W.Fast.tw7338057886142362917 : Unit := ()
def PySem.W.Fast.tw3501879833759108811 : Unit := ()
def PySem.W.Fast.tw16702211922756205684 : Unit := ()
def PySem.W.Fast.tw9517141096842494130 : Unit := ()
def PySem.W.Fast.tw9171816733362145601 : Unit := ()
def PySem.W.Fast.tw18255087053195950720 : Unit := ()
def PySem.W.Fast.tw17335037853496793371 : Unit := ()
def PySem.W.Fast.tw2377210523306846099 : Unit := ()
def PySem.W.Fast.tw5256003934990806735 : Unit := ()
def PySem.W.Fast.tw5954560226214233020 : Unit := ()
def PySem.W.Fast.tw743210231070196027 : Unit := ()
def PySem.W.Fast.tw5121379865090907570 : Unit := ()
def PySem.W.Fast.tw17543234784196148184 : Unit := ()
def PySem.W.Fast.tw10828828672692928463 : Unit := ()
def PySem.W.Fast.tw12213599687331149490 : Unit := ()
def PySem.W.Fast.tw10567222813662778115 : Unit := ()
def PySem.W.Fast.tw17795803840630837477 : Unit := ()
def PySem.W.Fast.tw17793383739905988407 : Unit := ()
def PySem.W.Fast.tw17376278247544451697 : Unit := ()
def PySem.W.Fast.tw390161653385894259 : Unit := ()
def PySem.W.Fast.tw18103664447053231399 : Unit := ()
def PySem.W.Fast.tw159957718752809224 : Unit := ()
def PySem.W.Fast.tw7747818740999734542 : Unit := ()
def PySem.W.Fast.tw11896764965341264675 : Unit := ()
def PySem.W.Fast.tw15366161893743126309 : Unit := ()
def PySem.W.Fast.tw9051589631537572796 : Unit := ()
def PySem.W.Fast.tw11131741412361263296 : Unit := ()
def PySem.W.Fast.tw18415100828018066096 : Unit := ()
def PySem.W.Fast.tw2296737473936301183 : Unit := ()
def PySem.W.Fast.tw3324024294354352268 : Unit := ()
def PySem.W.Fast.tw303200279753818882 : Unit := ()
def PySem.W.Fast.tw3345090307922566658 : Unit := ()
def PySem.W.Fast.tw3081773605313145313 : Unit := ()
def PySem.W.Fast.tw1898384189849406219 : Unit := ()
def PySem.W.Fast.tw10137720347347477673 : Unit := ()
def PySem.W.Fast.tw13339454924557132717 : Unit := ()
def PySem.W.Fast.tw1817490294656291522 : Unit := ()
def PySem.W.Fast.tw1719154269439932379 : Unit := ()
def PySem.W.Fast.tw12237647605105725622 : Unit := ()
def PySem.W.Fast.tw18389015100637259865 : Unit := ()
def PySem.W.Fast.tw6020244470094932700 : Unit := ()
def PySem.W.Fast.tw7522277811760918865 : Unit := ()
def PySem.W.Fast.tw17183504008963334944 : Unit := ()
def PySem.W.Fast.tw4752320121706580967 : Unit := ()
def PySem.W.Fast.tw6362331364228134538 : Unit := ()
def PySem.W.Fast.tw860687377072899847 : Unit := ()
def PySem.W.Fast.tw15107998818008847756 : Unit := ()
def PySem.W.Fast.tw7431560350739588221 : Unit := ()
def PySem.W.Fast.tw5434166899611254064 : Unit := ()
def PySem.W.Fast.tw4826103485120241282 : Unit := ()
def PySem.W.Fast.tw2023803188404170855 : Unit := ()
def PySem.W.Fast.tw5944529772847247329 : Unit := ()
def PySem.W.Fast.tw13195791090735028338 : Unit := ()
def PySem.W.Fast.tw3064642862332964878 : Unit := ()
def PySem.W.Fast.tw3219102743989001371 : Unit := ()
def PySem.W.Fast.tw9144979354126026890 : Unit := ()
def PySem.W.Fast.tw3793615925615954297 : Unit := ()
def PySem.W.Fast.tw17981257369537092372 : Unit := ()
def PySem.W.Fast.tw9145516630480341090 : Unit := ()
def PySem.W.Fast.tw9148954918080681443 : Unit := ()
def PySem.W.Fast.tw15601499052675817643 : Unit := ()
def PySem.W.Fast.tw18278921388112061816 : Unit := ()
def PySem.W.Fast.tw13442602947044355947 : Unit := ()
def PySem.W.Fast.tw14666037644259890069 : Unit := ()
def PySem.W.Fast.tw283315708821610892 : Unit := ()
def PySem.W.Fast.tw5336825794597327836 : Unit := ()
def PySem.W.Fast.tw18076047322010271481 : Unit := ()
def PySem.W.Fast.tw10693917904877576985 : Unit := ()
def PySem.W.Fast.tw439535289520008867 : Unit := ()
def PySem.W.Fast.tw8790823742406800833 : Unit := ()
def PySem.W.Fast.tw6279888423657937560 : Unit := ()
def PySem.W.Fast.tw15544974997449997605 : Unit := ()
def PySem.W.Fast.tw3245676001652775937 : Unit := ()
def PySem.W.Fast.tw14095305659000836031 : Unit := ()
def PySem.W.Fast.tw8593648284348593341 : Unit := ()
def PySem.W.Fast.tw15970719522906119360 : Unit := ()
def PySem.W.Fast.tw11667091435105764496 : Unit := ()
def PySem.W.Fast.tw16138609802643626723 : Unit := ()
def PySem.W.Fast.tw8210390012640432630 : Unit := ()
def PySem.W.Fast.tw13947854387281107802 : Unit := ()
def PySem.W.Fast.tw8296629334796838070 : Unit := ()
def PySem.W.Fast.tw9104515177909212073 : Unit := ()
def PySem.W.Fast.tw5645877414864121171 : Unit := ()
def PySem.W.Fast.tw12804840048050722137 : Unit := ()
def PySem.W.Fast.tw7176072868104799737 : Unit := ()
def PySem.W.Fast.tw7834778397881567383 : Unit := ()
def PySem.W.Fast.tw3253423466058358306 : Unit := ()
def PySem.W.Fast.tw16667176411256771215 : Unit := ()
def PySem.W.Fast.tw2759124146909421520 : Unit := ()
def PySem.W.Fast.tw5041101843587390179 : Unit := ()
def PySem.W.Fast.tw3320226693330846715 : Unit := ()
def PySem.W.Fast.tw16181613986184393101 : Unit := ()
def PySem.W.Fast.tw6168968963939723336 : Unit := ()
def PySem.W.Fast.tw1901243156034673691 : Unit := ()
def PySem.W.Fast.tw8265045524485044226 : Unit := ()
def PySem.W.Fast.tw16088923140219133274 : Unit := ()
def PySem.W.Fast.tw7018719692793472871 : Unit := ()
def PySem.W.Fast.tw16619965680408649588 : Unit := ()
def PySem.W.Fast.tw18212498984286767555 : Unit := ()
def PySem.W.Fast.tw17583364305218226477 : Unit := ()
def PySem.W.Fast.tw11156388008280930811 : Unit := ()
def PySem.W.Fast.tw1841806056235078412 : Unit := ()
def PySem.W.Fast.tw9876888916201808757 : Unit := ()
def PySem.W.Fast.tw16873889016512597210 : Unit := ()
def PySem.W.Fast.tw779523011736568422 : Unit := ()
open PySem PySem.W PyProof.Rows
set_option maxRecDepth 100000 in
set_option maxHeartbeats 0 in
theorem PySem.Challenge.cw_eightsides_k27_image_least_holds : PySem.Challenge.rw_eightsides_k27_image_least.Holds := by
 w_on; o_law; k_head; (case hw => w_witness2)
 k_fill
 refine T.g0n (l := PySem.Challenge.rw_eightsides_k27_image_least) rfl rfl (fun w h Y => PySem.W.kIn_of Y) ?F
 case F =>
  intro w mg fa h KX G hmg
  refine' T.e7b KX G hmg ?a_Deed ?a_Go ?a_Keep ?a_Put ?a_Ask ?a0 ?l0 ?c0 ?k0 ?a1 ?l1 ?c1 ?k1 ?a2 ?l2 ?c2 ?k2 ?a3 ?l3 ?c3 ?k3 ?a4 ?l4 ?c4 ?k4 ?a5 ?l5 ?c5 ?k5 ?a6 ?l6 ?c6 ?k6 ?a7 ?l7 ?c7 ?k7 ?a8 ?l8 ?c8 ?k8 ?a9 ?l9 ?c9 ?k9 ?a10 ?l10 ?c10 ?k10 ?a11 ?l11 ?c11 ?k11 ?a12 ?l12 ?c12 ?k12 ?a13 ?l13 ?c13 ?k13 ?a14 ?l14 ?c14 ?k14 ?a15 ?l15 ?c15 ?k15 ?a16 ?l16 ?c16 ?k16 ?a17 ?l17 ?c17 ?k17 ?a18 ?l18 ?c18 ?k18 ?a19 ?l19 ?c19 ?k19 ?a20 ?l20 ?c20 ?k20 ?a21 ?l21 ?c21 ?k21 ?a22 ?l22 ?c22 ?k22 ?a23 ?l23 ?c23 ?k23 ?a24 ?l24 ?c24 ?k24 ?a25 ?l25 ?c25 ?k25 ?a26 ?l26 ?c26 ?k26 ?a27 ?l27 ?c27 ?k27 ?a28 ?l28 ?c28 ?k28 ?a29 ?l29 ?c29 ?k29 ?a30 ?l30 ?c30 ?k30 ?a31 ?l31 ?c31 ?k31 ?a32 ?l32 ?c32 ?k32 ?a33 ?l33 ?c33 ?k33 ?a34 ?l34 ?c34 ?k34 ?a35 ?l35 ?c35 ?k35 ?a36 ?l36 ?c36 ?k36 ?a37 ?l37 ?c37 ?k37 ?a38 ?l38 ?c38 ?k38 ?a39 ?l39 ?c39 ?k39 ?a40 ?l40 ?c40 ?k40 ?a41 ?l41 ?c41 ?k41 ?a42 ?l42 ?c42 ?k42 ?a43 ?l43 ?c43 ?k43 ?a44 ?l44 ?c44 ?k44 ?a45 ?l45 ?c45 ?k45 ?a46 ?l46 ?c46 ?k46 ?a47 ?i47 ?l47 ?c47 ?k47 ?a48 ?i48 ?l48 ?c48 ?k48 ?a49 ?i49 ?l49 ?c49 ?k49 ?a50 ?i50 ?l50 ?c50 ?k50 ?a51 ?i51 ?l51 ?c51 ?k51 ?a52 ?i52 ?l52 ?c52 ?k52 ?a53 ?i53 ?l53 ?c53 ?k53 ?a54 ?i54 ?l54 ?c54 ?k54 ?a55 ?i55 ?l55 ?c55 ?k55 ?a56 ?i56 ?l56 ?c56 ?k56 ?a57 ?i57 ?l57 ?c57 ?k57 ?a58 ?l58 ?c58 ?k58 ?a59 ?l59 ?c59 ?k59 ?a60 ?l60 ?c60 ?k60 ?a61 ?l61 ?c61 ?k61 ?a62 ?l62 ?c62 ?k62 ?a63 ?l63 ?c63 ?k63 ?a64 ?l64 ?c64 ?k64 ?a65 ?l65 ?c65 ?k65 ?a66 ?l66 ?c66 ?k66 ?a67 ?l67 ?c67 ?k67 ?a68 ?l68 ?c68 ?k68 ?a69 ?l69 ?c69 ?k69 ?a70 ?l70 ?c70 ?k70 ?a71 ?l71 ?c71 ?k71 ?a72 ?l72 ?c72 ?k72 ?a73 ?l73 ?c73 ?k73 ?a74 ?l74 ?c74 ?k74 ?a75 ?l75 ?c75 ?k75 ?a76 ?l76 ?c76 ?k76 ?a77 ?l77 ?c77 ?k77 ?a78 ?l78 ?c78 ?k78 ?a79 ?l79 ?c79 ?k79 ?a80 ?l80 ?c80 ?k80 ?a81 ?l81 ?c81 ?k81 ?a82 ?l82 ?c82 ?k82 ?pg_Go ?hd_Go ?po_Go ?sa_Go ?mk_Go ?kc_Go ?pg_Keep ?hd_Keep ?po_Keep ?sa_Keep ?mk_Keep ?kc_Keep ?pg_Put ?hd_Put ?po_Put ?sa_Put ?mk_Put ?kc_Put ?pg_Ask ?hd_Ask ?po_Ask ?sa_Ask ?mk_Ask ?kc_Ask ?io_Go ?nf_Keep_question ?nf_Put_k ?nf_Put_amount ?nf_Ask_k ?nf_Ask_low ?nf_Ask_high ?z_len ?z_isinstance ?z_int ?z_bool ?z_tuple ?z_range ?z_list ?z_sum ?z_str ?z_enumerate ?z_zip ?z_min ?z_max
  all_goals (try first | delta L2.Ha | delta L2.Hl | delta L2.Hc | delta L2.Hk | delta L2.Hm | delta L2.Hi | delta L2.Hz)
  (case a_Deed => k_is)
  (case a_Go => k_is)
  (case a_Keep => k_is)
  (case a_Put => k_is)
  (case a_Ask => k_is)
  (case a0 => k_is); (case l0 => k_is); (case c0 => k_is); (case k0 => k_is)
  (case a1 => k_is); (case l1 => k_is); (case c1 => k_is); (case k1 => k_is)
  (case a2 => k_is); (case l2 => k_is); (case c2 => k_is); (case k2 => k_is)
  (case a3 => k_is); (case l3 => k_is); (case c3 => k_is); (case k3 => k_is)
  (case a4 => k_is); (case l4 => k_is); (case c4 => k_is); (case k4 => k_is)
  (case a5 => k_is); (case l5 => k_is); (case c5 => k_is); (case k5 => k_is)
  (case a6 => k_is); (case l6 => k_is); (case c6 => k_is); (case k6 => k_is)
  (case a7 => k_is); (case l7 => k_is); (case c7 => k_is); (case k7 => k_is)
  (case a8 => k_is); (case l8 => k_is); (case c8 => k_is); (case k8 => k_is)
  (case a9 => k_is); (case l9 => k_is); (case c9 => k_is); (case k9 => k_is)
  (case a10 => k_is); (case l10 => k_is); (case c10 => k_is); (case k10 => k_is)
  (case a11 => k_is); (case l11 => k_is); (case c11 => k_is); (case k11 => k_is)
  (case a12 => k_is); (case l12 => k_is); (case c12 => k_is); (case k12 => k_is)
  (case a13 => k_is); (case l13 => k_is); (case c13 => k_is); (case k13 => k_is)
  (case a14 => k_is); (case l14 => k_is); (case c14 => k_is); (case k14 => k_is)
  (case a15 => k_is); (case l15 => k_is); (case c15 => k_is); (case k15 => k_is)
  (case a16 => k_is); (case l16 => k_is); (case c16 => k_is); (case k16 => k_is)
  (case a17 => k_is); (case l17 => k_is); (case c17 => k_is); (case k17 => k_is)
  (case a18 => k_is); (case l18 => k_is); (case c18 => k_is); (case k18 => k_is)
  (case a19 => k_is); (case l19 => k_is); (case c19 => k_is); (case k19 => k_is)
  (case a20 => k_is); (case l20 => k_is); (case c20 => k_is); (case k20 => k_is)
  (case a21 => k_is); (case l21 => k_is); (case c21 => k_is); (case k21 => k_is)
  (case a22 => k_is); (case l22 => k_is); (case c22 => k_is); (case k22 => k_is)
  (case a23 => k_is); (case l23 => k_is); (case c23 => k_is); (case k23 => k_is)
  (case a24 => k_is); (case l24 => k_is); (case c24 => k_is); (case k24 => k_is)
  (case a25 => k_is); (case l25 => k_is); (case c25 => k_is); (case k25 => k_is)
  (case a26 => k_is); (case l26 => k_is); (case c26 => k_is); (case k26 => k_is)
  (case a27 => k_is); (case l27 => k_is); (case c27 => k_is); (case k27 => k_is)
  (case a28 => k_is); (case l28 => k_is); (case c28 => k_is); (case k28 => k_is)
  (case a29 => k_is); (case l29 => k_is); (case c29 => k_is); (case k29 => k_is)
  (case a30 => k_is); (case l30 => k_is); (case c30 => k_is); (case k30 => k_is)
  (case a31 => k_is); (case l31 => k_is); (case c31 => k_is); (case k31 => k_is)
  (case a32 => k_is); (case l32 => k_is); (case c32 => k_is); (case k32 => k_is)
  (case a33 => k_is); (case l33 => k_is); (case c33 => k_is); (case k33 => k_is)
  (case a34 => k_is); (case l34 => k_is); (case c34 => k_is); (case k34 => k_is)
  (case a35 => k_is); (case l35 => k_is); (case c35 => k_is); (case k35 => k_is)
  (case a36 => k_is); (case l36 => k_is); (case c36 => k_is); (case k36 => k_is)
  (case a37 => k_is); (case l37 => k_is); (case c37 => k_is); (case k37 => k_is)
  (case a38 => k_is); (case l38 => k_is); (case c38 => k_is); (case k38 => k_is)
  (case a39 => k_is); (case l39 => k_is); (case c39 => k_is); (case k39 => k_is)
  (case a40 => k_is); (case l40 => k_is); (case c40 => k_is); (case k40 => k_is)
  (case a41 => k_is); (case l41 => k_is); (case c41 => k_is); (case k41 => k_is)
  (case a42 => k_is); (case l42 => k_is); (case c42 => k_is); (case k42 => k_is)
  (case a43 => k_is); (case l43 => k_is); (case c43 => k_is); (case k43 => k_is)
  (case a44 => k_is); (case l44 => k_is); (case c44 => k_is); (case k44 => k_is)
  (case a45 => k_is); (case l45 => k_is); (case c45 => k_is); (case k45 => k_is)
  (case a46 => k_is); (case l46 => k_is); (case c46 => k_is); (case k46 => k_is)
  (case a47 => k_is); (case i47 => k_is); (case l47 => k_is); (case c47 => k_is); (case k47 => k_is)
  (case a48 => k_is); (case i48 => k_is); (case l48 => k_is); (case c48 => k_is); (case k48 => k_is)
  (case a49 => k_is); (case i49 => k_is); (case l49 => k_is); (case c49 => k_is); (case k49 => k_is)
  (case a50 => k_is); (case i50 => k_is); (case l50 => k_is); (case c50 => k_is); (case k50 => k_is)
  (case a51 => k_is); (case i51 => k_is); (case l51 => k_is); (case c51 => k_is); (case k51 => k_is)
  (case a52 => k_is); (case i52 => k_is); (case l52 => k_is); (case c52 => k_is); (case k52 => k_is)
  (case a53 => k_is); (case i53 => k_is); (case l53 => k_is); (case c53 => k_is); (case k53 => k_is)
  (case a54 => k_is); (case i54 => k_is); (case l54 => k_is); (case c54 => k_is); (case k54 => k_is)
  (case a55 => k_is); (case i55 => k_is); (case l55 => k_is); (case c55 => k_is); (case k55 => k_is)
  (case a56 => k_is); (case i56 => k_is); (case l56 => k_is); (case c56 => k_is); (case k56 => k_is)
  (case a57 => k_is); (case i57 => k_is); (case l57 => k_is); (case c57 => k_is); (case k57 => k_is)
  (case a58 => k_is); (case l58 => k_is); (case c58 => k_is); (case k58 => k_is)
  (case a59 => k_is); (case l59 => k_is); (case c59 => k_is); (case k59 => k_is)
  (case a60 => k_is); (case l60 => k_is); (case c60 => k_is); (case k60 => k_is)
  (case a61 => k_is); (case l61 => k_is); (case c61 => k_is); (case k61 => k_is)
  (case a62 => k_is); (case l62 => k_is); (case c62 => k_is); (case k62 => k_is)
  (case a63 => k_is); (case l63 => k_is); (case c63 => k_is); (case k63 => k_is)
  (case a64 => k_is); (case l64 => k_is); (case c64 => k_is); (case k64 => k_is)
  (case a65 => k_is); (case l65 => k_is); (case c65 => k_is); (case k65 => k_is)
  (case a66 => k_is); (case l66 => k_is); (case c66 => k_is); (case k66 => k_is)
  (case a67 => k_is); (case l67 => k_is); (case c67 => k_is); (case k67 => k_is)
  (case a68 => k_is); (case l68 => k_is); (case c68 => k_is); (case k68 => k_is)
  (case a69 => k_is); (case l69 => k_is); (case c69 => k_is); (case k69 => k_is)
  (case a70 => k_is); (case l70 => k_is); (case c70 => k_is); (case k70 => k_is)
  (case a71 => k_is); (case l71 => k_is); (case c71 => k_is); (case k71 => k_is)
  (case a72 => k_is); (case l72 => k_is); (case c72 => k_is); (case k72 => k_is)
  (case a73 => k_is); (case l73 => k_is); (case c73 => k_is); (case k73 => k_is)
  (case a74 => k_is); (case l74 => k_is); (case c74 => k_is); (case k74 => k_is)
  (case a75 => k_is); (case l75 => k_is); (case c75 => k_is); (case k75 => k_is)
  (case a76 => k_is); (case l76 => k_is); (case c76 => k_is); (case k76 => k_is)
  (case a77 => k_is); (case l77 => k_is); (case c77 => k_is); (case k77 => k_is)
  (case a78 => k_is); (case l78 => k_is); (case c78 => k_is); (case k78 => k_is)
  (case a79 => k_is); (case l79 => k_is); (case c79 => k_is); (case k79 => k_is)
  (case a80 => k_is); (case l80 => k_is); (case c80 => k_is); (case k80 => k_is)
  (case a81 => k_is); (case l81 => k_is); (case c81 => k_is); (case k81 => k_is)
  (case a82 => k_is); (case l82 => k_is); (case c82 => k_is); (case k82 => k_is)
  (case pg_Go => k_is)
  (case hd_Go => k_is)
  (case po_Go => k_is)
  (case sa_Go => k_is)
  (case mk_Go => k_is)
  (case kc_Go => k_is)
  (case pg_Keep => k_is)
  (case hd_Keep => k_is)
  (case po_Keep => k_is)
  (case sa_Keep => k_is)
  (case mk_Keep => k_is)
  (case kc_Keep => k_is)
  (case pg_Put => k_is)
  (case hd_Put => k_is)
  (case po_Put => k_is)
  (case sa_Put => k_is)
  (case mk_Put => k_is)
  (case kc_Put => k_is)
  (case pg_Ask => k_is)
  (case hd_Ask => k_is)
  (case po_Ask => k_is)
  (case sa_Ask => k_is)
  (case mk_Ask => k_is)
  (case kc_Ask => k_is)
  (case io_Go => k_is)
  (case nf_Keep_question => k_is)
  (case nf_Put_k => k_is)
  (case nf_Put_amount => k_is)
  (case nf_Ask_k => k_is)
  (case nf_Ask_low => k_is)
  (case nf_Ask_high => k_is)
  (case z_len => k_is); (case z_isinstance => k_is); (case z_int => k_is); (case z_bool => k_is); (case z_tuple => k_is); (case z_range => k_is); (case z_list => k_is); (case z_sum => k_is); (case z_str => k_is); (case z_enumerate => k_is); (case z_zip => k_is); (case z_min => k_is); (case z_max => k_is)
