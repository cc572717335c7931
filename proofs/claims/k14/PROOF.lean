import PyProof.Rows.All
import Wide.All
import OpenK.AllK
import Wide.FinOn
import Lean
import PyProof.EqAt
import PyProof.EqKinds
import PyProof.TupleCall
import PyProof.NeData
import PyProof.Rows.SumAny
import PyProof.ListRange
import PyProof.Rows.Range3
import OpenK.KOwn
import KE.KTryMore
import PyProof.RulesAs
import PyProof.MinMaxWalk
import PyProof.WalkInts
import PyProof.Rows.CallKwBuiltin
import KE.KMinKey
import PyProof.Draws
import OpenK.KMake
import PyProof.Rows.TupIter
import KE.KIsAll
import PySem.Challenge.RW_eightsides_k14_ring_walked
set_option Elab.async false
set_option linter.all false
set_option maxRecDepth 100000
namespace L2
open PySem PySem.Spec PyProof.Rows
abbrev Key := Sum Int Str
def keyIs : Key -> Value -> Bool
 | .inl k, v => Value.isInt k v
 | .inr x, v => Value.isStrOf x v
def keyH (w : World) : Key -> Int
 | .inl k => hashInt k
 | .inr x => hashStr w x
theorem keyIs_shape : ∀ {k : Key} {v : Value}, keyIs k v = true -> (∃ i t, k = Sum.inl i /\ v = Value.int i t) \/ (∃ x t, k = Sum.inr x /\ v = Value.str x t)
 | .inl i, v, h => by
  obtain ⟨t, e⟩ := Value.isInt_shape (k := i) (v := v) h
  exact .inl ⟨i, t, rfl, e⟩
 | .inr x, v, h => by
  obtain ⟨t, e⟩ := Value.isStrOf_shape (x := x) (v := v) h
  exact .inr ⟨x, t, rfl, e⟩
theorem key_ll (a b : Int) : decide ((Sum.inl a : Key) = Sum.inl b) = (a == b) := by
 by_cases e : a = b
 · subst e; simp
 · have h : ¬ (Sum.inl a : Key) = Sum.inl b := fun q => e (Sum.inl.inj q)
   rw [decide_eq_false h]
   exact (beq_eq_false_iff_ne.mpr e).symm
theorem key_rr (a b : Str) : decide ((Sum.inr a : Key) = Sum.inr b) = decide (a = b) := by
 by_cases e : a = b
 · subst e; simp
 · have h : ¬ (Sum.inr a : Key) = Sum.inr b := fun q => e (Sum.inr.inj q)
   rw [decide_eq_false h, decide_eq_false e]
theorem key_lr (a : Int) (b : Str) : decide ((Sum.inl a : Key) = Sum.inr b) = false := decide_eq_false (fun q => nomatch q)
theorem key_rl (a : Str) (b : Int) : decide ((Sum.inr a : Key) = Sum.inl b) = false := decide_eq_false (fun q => nomatch q)
def mixKind (prog : Program) (w : World) : PySem.KeyKind prog w Key where
 is := keyIs
 hash := keyH w
 inj := fun v a b ha hb => by
  rcases keyIs_shape ha with ⟨i, t, rfl, rfl⟩ | ⟨x, t, rfl, rfl⟩
  · rcases keyIs_shape hb with ⟨j, u, rfl, e⟩ | ⟨y, u, rfl, e⟩
    · injection e with e1 _; rw [e1]
    · exact nomatch e
  · rcases keyIs_shape hb with ⟨j, u, rfl, e⟩ | ⟨y, u, rfl, e⟩
    · exact nomatch e
    · injection e with e1 _; rw [e1]
 byValue := fun k v h => by
  rcases keyIs_shape h with ⟨i, t, rfl, rfl⟩ | ⟨x, t, rfl, rfl⟩ <;> rfl
 pyHash := fun hv h => by
  rcases keyIs_shape hv with ⟨i, t, rfl, rfl⟩ | ⟨x, t, rfl, rfl⟩
  · exact wpAny_pyHash_int h
  · exact wpAny_pyHash_str h
 eqBool := fun hu hv h => by
  rcases keyIs_shape hu with ⟨i, t, rfl, rfl⟩ | ⟨x, t, rfl, rfl⟩
  · rcases keyIs_shape hv with ⟨j, u, rfl, rfl⟩ | ⟨y, u, rfl, rfl⟩
    · rw [key_ll] at h; exact wpAny_eqBool_int h
    · rw [key_lr] at h; exact SeqAt.EqAt.int_str i t y u _ _ _ _ h
  · rcases keyIs_shape hv with ⟨j, u, rfl, rfl⟩ | ⟨y, u, rfl, rfl⟩
    · rw [key_rl] at h; exact SeqAt.EqAt.str_int x t j u _ _ _ _ h
    · rw [key_rr] at h; exact wpAny_eqBool_str h
 «strs» := fun k x t v h => by
  rcases keyIs_shape h with ⟨i, u, rfl, e⟩ | ⟨y, u, rfl, e⟩
  · exact nomatch e
  · injection e with e1 _
    subst e1
    cases v <;> rfl
end L2
namespace L2
open PySem PySem.Spec PyProof.Rows
inductive V where
 | non | bl (b : Bool) | int (i : Int) | str (x : Str) | byt (b : Array UInt8) | flt (b : UInt64) | ref (a : Addr) | ty (n : String)
 deriving DecidableEq
def RelV : V -> Value -> Prop
 | .non, u => u = Value.none
 | .bl b, u => u = Value.bool b
 | .int i, u => ∃ t, u = Value.int i t
 | .str x, u => ∃ t, u = Value.str x t
 | .byt b, u => ∃ t, u = Value.bytes b t
 | .flt b, u => ∃ t, u = Value.float b t
 | .ref a, u => u = Value.ref a
 | .ty n, u => u = Value.type n
abbrev Vals : List V -> List Value -> Prop := Paired RelV
theorem Vals.length {xs : List V} {us : List Value} (r : Vals xs us) : xs.length = us.length := Paired.length r
theorem Vals.get : ∀ {xs : List V} {us : List Value} {i : Nat} {x : V}, Vals xs us -> xs[i]? = some x -> ∃ u, us[i]? = some u /\ RelV x u
 | _, _, _, _, .nil, e => by simp at e
 | _, _, 0, _, .cons r _, e => by simp at e; subst e; exact ⟨_, rfl, r⟩
 | _, _, i + 1, x, .cons _ t, e => by
  obtain ⟨u, h1, h2⟩ := Vals.get (i := i) (x := x) t (by simpa using e)
  exact ⟨u, by simpa using h1, h2⟩
theorem Vals.set {x : V} {u : Value} (r : RelV x u) : ∀ {xs : List V} {us : List Value} (i : Nat), Vals xs us -> Vals (xs.set i x) (us.set i u)
 | _, _, _, .nil => .nil
 | _, _, 0, .cons _ t => .cons r t
 | _, _, i + 1, .cons q t => .cons q (Vals.set r i t)
theorem Vals.append : ∀ {xs ys : List V} {us ws : List Value}, Vals xs us -> Vals ys ws -> Vals (xs ++ ys) (us ++ ws)
 | _, _, _, _, .nil, s => s
 | _, _, _, _, .cons r t, s => .cons r (Vals.append t s)
theorem Vals.take : ∀ {xs : List V} {us : List Value} (n : Nat), Vals xs us -> Vals (xs.take n) (us.take n)
 | _, _, 0, _ => .nil
 | _, _, _ + 1, .nil => .nil
 | _, _, n + 1, .cons r t => .cons r (Vals.take n t)
theorem Vals.drop : ∀ {xs : List V} {us : List Value} (n : Nat), Vals xs us -> Vals (xs.drop n) (us.drop n)
 | _, _, 0, r => r
 | _, _, _ + 1, .nil => .nil
 | _, _, n + 1, .cons _ t => Vals.drop n t
def RelO : Option V -> Option Value -> Prop
 | some v, some u => RelV v u
 | none, none => True
 | _, _ => False
def KV {κ : Type} : List (κ × V) -> List (κ × Value) -> Prop := Paired fun (p : κ × V) (q : κ × Value) => p.1 = q.1 /\ RelV p.2 q.2
def kV : Key -> V
 | .inl i => .int i
 | .inr x => .str x
inductive HO where
 | lst (xs : List V)
 | tup (xs : List V)
 | dK (kvs : List (Key × V)) | dT (kvs : List (List Key × V))
 | set (S : Int -> Bool) (n : Nat)
 | ins (C dx : Addr) (fs : List (Str × V))
 | own (x : Addr)
 | xd (fs : List (Str × V))
 | met (f x : Addr)
 | rng (lo hi : Int)
 | frz (o : Obj) (u : HO)
 | tbl (ps : Array Value)
 | ext (φ : Heap -> Prop)
abbrev Hp := Addr -> Option HO
def upd (H : Hp) (a : Addr) (o : HO) : Hp := fun b => if b = a then some o else H b
theorem upd_same {H : Hp} {a : Addr} {o : HO} : upd H a o a = some o := by unfold upd; rw [if_pos rfl]
theorem upd_ne {H : Hp} {a b : Addr} {o : HO} (h : b ≠ a) : upd H a o b = H b := by unfold upd; rw [if_neg h]
theorem ne_of {H : Hp} {a b : Addr} {o u : HO} (h : H a = some o) (h' : H b = some u) (d : o ≠ u) : a ≠ b := by
 intro e; subst e; rw [h] at h'; exact d (Option.some.inj h')
theorem ne_of_none {H : Hp} {a b : Addr} {o : HO} (h : H a = some o) (h' : H b = none) : a ≠ b := by
 intro e; subst e; rw [h] at h'; cases h'
section
variable (P : Program) (w : World)
def ObjOk (H : Hp) (h : Heap) (a : Addr) : HO -> Prop
 | .lst xs => xs.length <= sizeLine /\ ∃ (its : List Value) (n : Nat), Vals xs its /\ h.get? a = some { cls := .type "list", data := .seq its.toArray n }
 | .tup xs => xs.length <= sizeLine /\ ∃ its : List Value, Vals xs its /\ IsTup h a its.toArray
 | .dK kvs => kvs.length <= sizeLine /\ (a == sysModules) = false /\ ∃ vs, KV kvs vs /\ h.DictOf (mixKind P w) a vs
 | .dT kvs => kvs.length <= sizeLine /\ (a == sysModules) = false /\ ∃ xs : List (List Key × Addr × Value),
   Paired (fun (p : List Key × V) (q : List Key × Addr × Value) => p.1 = q.1 /\ H q.2.1 = some (.tup (p.1.map kV)) /\ RelV p.2 q.2.2) kvs xs /\
   ∃ o es ep, h.get? a = some o /\ o.ExactDict /\ o.data = .dict es ep /\ es.toList = xs.map (entryOfKey (tupleKind (mixKind P w))) /\ (xs.map (·.1)).Nodup
 | .set S n => h.SetOf (intKind P w) a S n
 | .ins C dx fs => H dx = some (.own a) /\ fs.length <= 1000 /\ dx ≠ a /\ h.get? a = some (PySem.W.instObj C dx) /\
   ∃ mA, h.Ns1 dx mA /\ (∀ f, RelO (fs.lookup f) (mA f)) /\ PySem.Within mA (fs.map (·.1))
 | .own _ => ∃ o, h.get? a = some o
 | .xd fs => ∃ mA, h.Ns1 a mA /\ ∀ f, RelO (fs.lookup f) (mA f)
 | .rng lo hi => ∃ t u v, h.get? a = some { cls := .type "range", data := .fields #[.int lo t, .int hi u, .int 1 v] }
 | .frz o u => h.get? a = some o /\ ObjOk H h a u
 | .tbl ps => h.get? a = some { cls := .none, data := .fields ps }
 | .met f x => h.get? a = some (PySem.W.methodObj (.ref f) (.ref x))
 | .ext φ => φ h /\ (∃ o, h.get? a = some o) /\ ∀ h1 h2 : Heap, φ h1 -> (∀ o, h1.get? a = some o -> h2.get? a = some o) -> φ h2
def HOk (H : Hp) (h : Heap) : Prop := ∀ a o, H a = some o -> ObjOk P w H h a o
end
section
variable {P : Program} {w : World} {H H' : Hp} {h h' : Heap} {a : Addr} {o : HO}
theorem ObjOk.lt (x : ObjOk P w H h a o) : a < h.objs.size := by
 cases o with
 | lst xs => obtain ⟨_, _, _, _, e⟩ := x; exact Heap.lt_size e
 | tup xs => obtain ⟨_, _, _, p⟩ := x; exact p.lt
 | dK kvs => obtain ⟨_, _, _, _, o, _, _, e, _⟩ := x; exact Heap.lt_size e
 | dT kvs => obtain ⟨_, _, _, _, o, _, _, e, _⟩ := x; exact Heap.lt_size e
 | set S n => obtain ⟨o, _, _, _, e, _⟩ := x; exact Heap.lt_size e
 | ins C dx fs => obtain ⟨_, _, _, e, _⟩ := x; exact Heap.lt_size e
 | own y => obtain ⟨_, e⟩ := x; exact Heap.lt_size e
 | xd fs => obtain ⟨_, ⟨_, _, _, e, _⟩, _⟩ := x; exact Heap.lt_size e
 | rng lo hi => obtain ⟨_, _, _, e⟩ := x; exact Heap.lt_size e
 | frz ob u => obtain ⟨e, _⟩ := x; exact Heap.lt_size e
 | tbl ps => exact Heap.lt_size (show h.get? a = some _ from x)
 | met f y => exact Heap.lt_size (show h.get? a = some _ from x)
 | ext φ => obtain ⟨_, ⟨_, e⟩, _⟩ := x; exact Heap.lt_size e
theorem Paired.mapP {α β : Type} {F G : α -> β -> Prop} : ∀ {l₁ : List α} {l₂ : List β}, Paired F l₁ l₂ -> (∀ a b, F a b -> G a b) -> Paired G l₁ l₂
 | _, _, .nil, _ => .nil
 | _, _, .cons r t, f => .cons (f _ _ r) (Paired.mapP t f)
theorem ObjOk.stay (x : ObjOk P w H h a o) (k : ∀ b u, (b = a \/ H b = some (.own a)) -> h.get? b = some u -> h'.get? b = some u)
  (ho : ∀ b, H b = some (.own a) -> H' b = some (.own a)) (ht : ∀ b xs, H b = some (.tup xs) -> H' b = some (.tup xs)) : ObjOk P w H' h' a o := by
 induction o with
 | lst xs => obtain ⟨z, its, n, r, e⟩ := x; exact ⟨z, its, n, r, k _ _ (.inl rfl) e⟩
 | tup xs => obtain ⟨z, its, r, ob, e, c⟩ := x; exact ⟨z, its, r, ob, k _ _ (.inl rfl) e, c⟩
 | dK kvs => obtain ⟨z, y, vs, r, ob, es, ep, e, c⟩ := x; exact ⟨z, y, vs, r, ob, es, ep, k _ _ (.inl rfl) e, c⟩
 | dT kvs =>
  obtain ⟨z, y, xs, r, ob, es, ep, e, c⟩ := x
  exact ⟨z, y, xs, Paired.mapP r fun p q z => ⟨z.1, ht _ _ z.2.1, z.2.2⟩, ob, es, ep, k _ _ (.inl rfl) e, c⟩
 | set S n => obtain ⟨ob, es, ep, t, e, c⟩ := x; exact ⟨ob, es, ep, t, k _ _ (.inl rfl) e, c⟩
 | ins C dx fs =>
  obtain ⟨d, z, ne, e, mA, ⟨od, es, ep, e2, c⟩, r⟩ := x
  exact ⟨ho _ d, z, ne, k _ _ (.inl rfl) e, mA, ⟨od, es, ep, k _ _ (.inr d) e2, c⟩, r⟩
 | own y => obtain ⟨ob, e⟩ := x; exact ⟨ob, k _ _ (.inl rfl) e⟩
 | xd fs => obtain ⟨mA, ⟨od, es, ep, e, c⟩, r⟩ := x; exact ⟨mA, ⟨od, es, ep, k _ _ (.inl rfl) e, c⟩, r⟩
 | rng lo hi => obtain ⟨t, u, v, e⟩ := x; exact ⟨t, u, v, k _ _ (.inl rfl) e⟩
 | frz ob u ih => obtain ⟨e, q⟩ := x; exact ⟨k _ _ (.inl rfl) e, ih q⟩
 | tbl ps =>
  have e : h.get? a = some { cls := .none, data := .fields ps } := x
  show h'.get? a = some { cls := .none, data := .fields ps }
  exact k a _ (.inl rfl) e
 | met f y =>
  have e : h.get? a = some (PySem.W.methodObj (.ref f) (.ref y)) := x
  show h'.get? a = some (PySem.W.methodObj (.ref f) (.ref y))
  exact k a _ (.inl rfl) e
 | ext φ => obtain ⟨p, ⟨o, e⟩, st⟩ := x; exact ⟨st _ _ p fun o q => k _ _ (.inl rfl) q, ⟨o, k _ _ (.inl rfl) e⟩, st⟩
theorem HOk.lt (x : HOk P w H h) (e : H a = some o) : a < h.objs.size := (x a o e).lt
theorem HOk.fresh (x : HOk P w H h) (e : h.objs.size <= a) : H a = none := by
 cases q : H a with
 | none => rfl
 | some u => exact absurd (Nat.lt_of_lt_of_le (x.lt q) e) (Nat.lt_irrefl _)
theorem HOk.kept (x : HOk P w H h) (k : ∀ b u, h.get? b = some u -> h'.get? b = some u) : HOk P w H h' := fun a o e =>
 (x a o e).stay (fun b u _ q => k b u q) (fun _ q => q) fun _ _ q => q
theorem HOk.laid (x : HOk P w H h) (k : ∀ b u, h.get? b = some u -> h'.get? b = some u) (hp : h.objs.size <= a) (new : ObjOk P w (upd H a o) h' a o) : HOk P w (upd H a o) h' := fun b u e => by
 have hn := x.fresh hp
 by_cases hb : b = a
 · subst hb; rw [upd_same] at e; cases e; exact new
 · rw [upd_ne hb] at e
   exact (x b u e).stay (fun c v _ q => k c v q) (fun c q => by rw [upd_ne (ne_of_none q hn)]; exact q) fun c xs q => by rw [upd_ne (ne_of_none q hn)]; exact q
end
def Rd (H : Hp) (a : Addr) (u : HO) : Prop := H a = some u \/ ∃ o, H a = some (.frz o u)
theorem Rd.ok {P : Program} {w : World} {H : Hp} {h : Heap} {a : Addr} {u : HO} (r : Rd H a u) (x : HOk P w H h) : ObjOk P w H h a u := by
 rcases r with r | ⟨o, r⟩
 · exact x a u r
 · obtain ⟨_, q⟩ := x a _ r
   exact q
def Mut : Option HO -> Prop
 | some (.lst _) => True
 | some (.dK _) => True
 | some (.dT _) => True
 | some (.set _ _) => True
 | some (.ins _ _ _) => True
 | some (.ext _) => True
 | _ => False
section
variable {P : Program} {w : World} {H : Hp} {h h' : Heap} {x e : Addr} {o' : HO}
theorem HOk.write (ok : HOk P w H h) (mu : Mut (H x)) (he : e = x \/ H e = some (.own x)) (k : ∀ b u, b ≠ e -> h.get? b = some u -> h'.get? b = some u) (heo : ∃ u, h'.get? e = some u)
  (new : ObjOk P w (upd H x o') h' x o') : HOk P w (upd H x o') h' := fun b u q => by
 have nown : ∀ c y, H c = some (.own y) -> c ≠ x := fun c y r z => by subst z; rw [r] at mu; exact mu
 have ntup : ∀ c xs, H c = some (.tup xs) -> c ≠ x := fun c xs r z => by subst z; rw [r] at mu; exact mu
 by_cases hb : b = x
 · subst hb; rw [upd_same] at q; cases q; exact new
 · rw [upd_ne hb] at q
   by_cases hbe : b = e
   · have q' : H b = some (.own x) := by
      rcases he with z | z
      · exact absurd (hbe.trans z) hb
      · rw [hbe]; exact z
     rw [q] at q'; cases q'
     obtain ⟨v, hv⟩ := heo
     exact ⟨v, by rw [hbe]; exact hv⟩
   · refine (ok b u q).stay (fun c v hc r => k c v ?_ r) (fun c r => by rw [upd_ne (nown c b r)]; exact r) fun c xs r => by rw [upd_ne (ntup c xs r)]; exact r
     rcases hc with rfl | hc
     · exact hbe
     · rintro rfl
       rcases he with z | z
       · exact nown c b hc z
       · rw [hc] at z; cases z; exact hb rfl
end
structure Un (fs ex : List Addr) (H H' : Hp) (h h' : Heap) : Prop where
 keep : ∀ b o, h.get? b = some o -> H b = none -> b ∉ fs -> b ∉ ex -> h'.get? b = some o
 slot : ∀ b o, h.get? b = some o -> H b = none -> b ∈ fs -> b ∉ ex -> ∃ sl, h'.get? b = some { o with slots := sl }
 free : ∀ b o, h.get? b = some o -> H b = none -> b ∉ ex -> H' b = none
 there : ∀ b o, h.get? b = some o -> b ∉ ex -> ∃ o', h'.get? b = some o'
 tups : ∀ b xs, H b = some (.tup xs) -> H' b = some (.tup xs)
 frzs : ∀ b o u, H b = some (.frz o u) -> H' b = some (.frz o u)
 tbls : ∀ b ps, H b = some (.tbl ps) -> ∃ more, H' b = some (.tbl (ps ++ more))
section
variable {fs fs' ex ex' : List Addr} {H H1 H2 : Hp} {h h1 h2 h' : Heap} {a x e : Addr} {o : HO}
theorem Un.any (u : Un fs ex H H1 h h1) {b : Addr} {ob : Obj} (q : h.get? b = some ob) (n : H b = none) (hx : b ∉ ex) : ∃ sl, h1.get? b = some { ob with slots := sl } := by
 by_cases hb : b ∈ fs
 · exact u.slot b ob q n hb hx
 · exact ⟨ob.slots, u.keep b ob q n hb hx⟩
theorem Un.trans (a : Un fs ex H H1 h h1) (b : Un fs ex H1 H2 h1 h2) : Un fs ex H H2 h h2 where
 keep := fun c ob q n hc hx => b.keep c ob (a.keep c ob q n hc hx) (a.free c ob q n hx) hc hx
 slot := fun c ob q n hc hx => by
  obtain ⟨sl, e1⟩ := a.slot c ob q n hc hx
  obtain ⟨sl', e2⟩ := b.slot c _ e1 (a.free c ob q n hx) hc hx
  exact ⟨sl', e2⟩
 free := fun c ob q n hx => by
  obtain ⟨o', e1⟩ := a.there c ob q hx
  exact b.free c o' e1 (a.free c ob q n hx) hx
 there := fun c ob q hx => by
  obtain ⟨o', e1⟩ := a.there c ob q hx
  exact b.there c o' e1 hx
 tups := fun c xs q => b.tups c xs (a.tups c xs q)
 frzs := fun c ob xs q => b.frzs c ob xs (a.frzs c ob xs q)
 tbls := fun c ps q => by
  obtain ⟨m1, e1⟩ := a.tbls c ps q
  obtain ⟨m2, e2⟩ := b.tbls c _ e1
  exact ⟨m1 ++ m2, by rw [e2, Array.append_assoc]⟩
theorem Un.kept (k : ∀ b u, h.get? b = some u -> h'.get? b = some u) : Un fs ex H H h h' :=
 ⟨fun b ob q _ _ _ => k b ob q, fun b ob q _ _ _ => ⟨ob.slots, k b ob q⟩, fun _ _ _ n _ => n, fun b ob q _ => ⟨ob, k b ob q⟩, fun _ _ q => q, fun _ _ _ q => q, fun _ ps q => ⟨#[], by rw [q]; simp⟩⟩
theorem Un.refl : Un fs ex H H h h := Un.kept fun _ _ q => q
theorem Un.laid (k : ∀ b u, h.get? b = some u -> h'.get? b = some u) (hp : h.objs.size <= a) (hn : H a = none) : Un fs ex H (upd H a o) h h' where
 keep := fun b u q _ _ _ => k b u q
 slot := fun b u q _ _ _ => ⟨u.slots, k b u q⟩
 free := fun b u q n _ => by rw [upd_ne (Nat.ne_of_lt (Nat.lt_of_lt_of_le (Heap.lt_size q) hp))]; exact n
 there := fun b u q _ => ⟨u, k b u q⟩
 tups := fun b xs q => by rw [upd_ne (ne_of_none q hn)]; exact q
 frzs := fun b u xs q => by rw [upd_ne (ne_of_none q hn)]; exact q
 tbls := fun b ps q => ⟨#[], by rw [upd_ne (ne_of_none q hn), q]; simp⟩
theorem Un.write (mu : Mut (H x)) (he : e = x \/ H e = some (.own x)) (k : ∀ b u, b ≠ e -> h.get? b = some u -> h'.get? b = some u) (heo : ∃ u, h'.get? e = some u) : Un fs ex H (upd H x o) h h' := by
 have hx : ∀ b, H b = none -> b ≠ x := fun b n z => by subst z; rw [n] at mu; exact mu
 have hb : ∀ b, H b = none -> b ≠ e := fun b n z => by
  subst z
  rcases he with r | r
  · exact hx b n r
  · rw [n] at r; cases r
 have hm : ∀ b u, H b = some u -> ¬ Mut (some u) -> b ≠ x := fun b u q nm z => by subst z; rw [q] at mu; exact nm mu
 refine ⟨fun b u q n _ _ => k b u (hb b n) q, fun b u q n _ _ => ⟨u.slots, k b u (hb b n) q⟩, fun b u q n _ => by rw [upd_ne (hx b n)]; exact n, fun b u q _ => ?_,
  fun b xs q => by rw [upd_ne (hm b _ q fun z => z)]; exact q, fun b u xs q => by rw [upd_ne (hm b _ q fun z => z)]; exact q, fun b ps q => ⟨#[], by rw [upd_ne (hm b _ q fun z => z), q]; simp⟩⟩
 by_cases hbe : b = e
 · subst hbe; exact heo
 · exact ⟨u, k b u hbe q⟩
end
def trk (h : Heap) (H : Hp) : List Addr := (List.range h.objs.size).filter fun a => (H a).isSome
def hidT (h : Heap) (H : Hp) : Heap := PySem.W.hideAll h (trk h H)
theorem hidT_size (h : Heap) (H : Hp) : (hidT h H).objs.size = h.objs.size := PySem.W.hideAll_size _ _
theorem hidT_get {h : Heap} {H : Hp} {b : Addr} {o : Obj} (e : h.get? b = some o) (n : H b = none) : (hidT h H).get? b = some o :=
 PySem.W.hideAll_get _ e fun hm => by
  have q : (H b).isSome = true := (List.mem_filter.mp hm).2
  rw [n] at q; simp at q
theorem of_hidT {h : Heap} {H : Hp} {b : Addr} {o : Obj} (e : (hidT h H).get? b = some o) : h.get? b = some o /\ H b = none := by
 have e' : h.get? b = some o := PySem.W.of_hideAll (trk h H) e
 refine ⟨e', ?_⟩
 cases q : H b with
 | none => rfl
 | some x =>
  have hm : b ∈ trk h H := List.mem_filter.mpr ⟨List.mem_range.mpr (Heap.lt_size e'), by simp [q]⟩
  have z : (hidT h H).get? b = none := PySem.W.hideAll_none (trk h H) hm
  rw [z] at e; cases e
end L2
namespace L2
open PySem PySem.Spec PyProof.Rows
structure Mod (K : PySem.W.Frag) (mg : Str -> Option Value) (base : Heap) : Prop where
 kin : K.In base
 glob : base.Ns mainGlobals mg
 blt : ∃ mb, base.Ns builtinsNs mb /\ ∀ x : Str, x ≠ "__name__" -> mb x = bootBuiltins x
 nolimit : base.NoLimit
structure Cx where
 prog : Program
 w : World
 K : PySem.W.Frag
 mg : Str -> Option Value
 base : Heap
 A : Around
 N : List Str
 s₀ : Shared
 H₀ : Hp
 env : Env
 outer : List Env
 stack : List Env
 ex : List Addr
 fn : Str -> Bool
 calm : Bool
 pn : List (Addr × Obj)
 xe : Value -> Shared -> Prop
def frs (l : List Env) : List Addr := l.filterMap (·.frame)
abbrev Cx.fs (X : Cx) : List Addr := frs X.outer
def Vis (sc : Scope) (x : Str) : Prop := sc.names.lookup x = some .local \/ sc.names.lookup x = some .cell \/ sc.names.lookup x = some .free
def Loc (sc : Scope) (x : Str) : Prop := sc.names.lookup x = some .local \/ sc.names.lookup x = some .cell
def Look (env : Env) (h : Heap) (m : Str -> Option Value) (x : Str) (u : Value) : Prop :=
 (env.kindOf x = some .local /\ m x = some u) \/ ((env.kindOf x = some .cell \/ env.kindOf x = some .free) /\ ∃ c, env.cells.lookup x = some c /\ h.IsCell c (some u))
structure Cx.Ok (X : Cx) : Prop where
 mod : Mod X.K X.mg X.base
 kind : X.env.scope.kind = .function
 glob : X.env.globals = mainGlobals
 blt : X.env.builtins = builtinsNs
 above : X.s₀.heap.objs.size <= X.env.locals
 inj : ∀ x y c, X.env.cells.lookup x = some c -> X.env.cells.lookup y = some c -> x = y
 has : ∀ x, (X.env.kindOf x = some .cell \/ X.env.kindOf x = some .free) -> ∃ c, X.env.cells.lookup x = some c
 cab : ∀ x c, X.fn x = true -> X.env.cells.lookup x = some c -> X.s₀.heap.objs.size <= c
 hd : X.calm = true -> X.A.handled = none
 frames : X.A.frames = some X.stack
 stk : X.stack = X.outer \/ (X.stack = X.env :: X.outer /\ X.env.frame = some X.env.locals)
 exf : ∀ b ∈ X.ex, b ≠ X.env.locals /\ ∀ x c, X.env.cells.lookup x = some c -> c ≠ b
 bs : ∀ b o, X.base.get? b = some o -> X.s₀.heap.get? b = some o /\ X.H₀ b = none
 bsz : X.base.objs.size <= X.s₀.heap.objs.size
 noex : ∀ b o, X.base.get? b = some o -> b ∉ X.ex
 exfs : ∀ b ∈ X.ex, b ∉ X.fs
 funs : X.s₀.heap.FunFrames X.base X.outer
 frf : ∀ b ∈ X.fs, X.H₀ b = none
structure Inv (X : Cx) (pins : List (Addr × Obj)) (σ : List (Option V)) (H : Hp) (s : Shared) : Prop where
 ok : X.Ok
 os : s.os = X.s₀.os
 bare : AllBare s.gens
 base : Un X.fs X.ex X.H₀ H X.s₀.heap s.heap
 loc : ∃ m, s.heap.Ns X.env.locals m /\ ∀ (i : Nat) (x : Str) (v : V), X.N[i]? = some x -> σ[i]? = some (some v) -> Vis X.env.scope x -> ∃ u, RelV v u /\ Look X.env s.heap m x u
 cell : ∀ x c, X.env.cells.lookup x = some c -> ∃ v, s.heap.IsCell c v
 free : H X.env.locals = none
 freeC : ∀ x c, X.env.cells.lookup x = some c -> H c = none
 pin : ∀ p ∈ X.pn ++ pins, s.heap.get? p.1 = some p.2 /\ H p.1 = none /\ p.1 ≠ X.env.locals /\ p.1 ∉ X.fs /\ ∀ v, p.2.data ≠ .cell v
 hok : HOk X.prog X.w H s.heap
 len : σ.length = X.N.length
section
variable {X : Cx} {pins : List (Addr × Obj)} {σ : List (Option V)} {H H' : Hp} {s : Shared} {h' : Heap}
theorem Cx.Ok.nofr (ok : X.Ok) {b : Addr} {o : Obj} (e : X.base.get? b = some o) : b ∉ X.fs := fun hb => by
 have := (ok.funs.mem hb).1
 rw [e] at this; cases this
theorem Inv.bs (I : Inv X pins σ H s) : ∀ b o, X.base.get? b = some o -> s.heap.get? b = some o /\ H b = none := fun b o e =>
 ⟨I.base.keep b o (I.ok.bs b o e).1 (I.ok.bs b o e).2 (I.ok.nofr e) (I.ok.noex b o e), I.base.free b o (I.ok.bs b o e).1 (I.ok.bs b o e).2 (I.ok.noex b o e)⟩
theorem Inv.bk (I : Inv X pins σ H s) : ∀ b o, X.base.get? b = some o -> s.heap.get? b = some o := fun b o e => (I.bs b o e).1
theorem Inv.mod (I : Inv X pins σ H s) : Mod X.K X.mg X.base := I.ok.mod
theorem Inv.kIn (I : Inv X pins σ H s) : X.K.In s.heap := I.ok.mod.kin.keeps I.bk
theorem Inv.lt (I : Inv X pins σ H s) : X.env.locals < s.heap.objs.size := let ⟨_, hn, _⟩ := I.loc; hn.lt
theorem Inv.sz (I : Inv X pins σ H s) : X.s₀.heap.objs.size <= s.heap.objs.size := Nat.le_trans I.ok.above (Nat.le_of_lt I.lt)
theorem Inv.nofs (I : Inv X pins σ H s) {a : Addr} (h : s.heap.objs.size <= a) : a ∉ X.fs := fun hb => by
 obtain ⟨_, o, ho, _⟩ := I.ok.funs.mem hb
 exact absurd (Nat.lt_of_lt_of_le (Heap.lt_size ho) (Nat.le_trans I.sz h)) (Nat.lt_irrefl _)
theorem Inv.cne (I : Inv X pins σ H s) : ∀ x c, X.env.cells.lookup x = some c -> c ≠ X.env.locals := fun x c e z => by
 obtain ⟨v, o, ho, hd⟩ := I.cell x c e
 obtain ⟨m, ⟨o', es, ep, ho', hd', _⟩, _⟩ := I.loc
 rw [z, ho'] at ho; cases ho; rw [hd'] at hd; cases hd
theorem Inv.funs (I : Inv X pins σ H s) : s.heap.FunFrames X.base X.outer := by
 have all : ∀ (l : List Env), (∀ b ∈ frs l, b ∈ X.fs) -> X.s₀.heap.FunFrames X.base l -> s.heap.FunFrames X.base l := by
  intro l
  induction l with
  | nil => intro _ _; trivial
  | cons env r ih =>
   intro hs hl
   obtain ⟨hk, ⟨L, o, hf, hn, ho, hd⟩, hr⟩ := hl
   have hL : L ∈ X.fs := hs L (by unfold frs; rw [List.filterMap_cons, hf]; exact List.mem_cons_self)
   obtain ⟨sl, e⟩ := I.base.slot L o ho (I.ok.frf L hL) hL fun z => I.ok.exfs L z hL
   exact ⟨hk, ⟨L, _, hf, hn, e, hd⟩, ih (fun b hb => hs b (by unfold frs; rw [List.filterMap_cons, hf]; exact List.mem_cons_of_mem _ hb)) hr⟩
 exact all X.outer (fun _ hb => hb) I.ok.funs
theorem Inv.stack (I : Inv X pins σ H s) : s.heap.FunFrames X.base X.stack := by
 rcases I.ok.stk with e | ⟨e, hf⟩
 · rw [e]; exact I.funs
 · rw [e]
   obtain ⟨m, hn, _⟩ := I.loc
   refine .cons (by rw [I.ok.kind]; decide) hf hn ?_ I.funs
   exact Heap.get?_none_of_le (Nat.le_trans I.ok.bsz I.ok.above)
theorem Inv.stkSub (I : Inv X pins σ H s) : ∀ b ∈ frs X.stack, b ∈ X.env.locals :: X.fs := fun b hb => by
 rcases I.ok.stk with e | ⟨e, hf⟩
 · rw [e] at hb; exact List.mem_cons_of_mem _ hb
 · rw [e] at hb
   unfold frs at hb
   rw [List.filterMap_cons, hf] at hb
   exact hb
theorem Inv.stkFree (I : Inv X pins σ H s) : ∀ b ∈ frs X.stack, H b = none := fun b hb => by
 rcases List.mem_cons.mp (I.stkSub b hb) with e | hb
 · rw [e]; exact I.free
 · obtain ⟨_, o, ho, _⟩ := I.ok.funs.mem hb
   exact I.base.free b o ho (I.ok.frf b hb) fun z => I.ok.exfs b z hb
theorem Inv.step {g' : Array GenState} {t' : Nat} {d' : Drawn} {ch : List Addr} (I : Inv X pins σ H s)
  (hch : ∀ b ∈ ch, (b ∈ X.ex \/ X.s₀.heap.objs.size <= b) /\ b ≠ X.env.locals /\ (∀ x c, X.env.cells.lookup x = some c -> c ≠ b) /\ ∀ p ∈ X.pn ++ pins, p.1 ≠ b)
  (keep : ∀ b o, b ≠ X.env.locals -> b ∉ X.fs -> b ∉ ch -> s.heap.get? b = some o -> H b = none -> h'.get? b = some o)
  (slot : ∀ b o, b ≠ X.env.locals -> b ∈ X.fs -> b ∉ ch -> s.heap.get? b = some o -> H b = none -> ∃ sl, h'.get? b = some { o with slots := sl }) (free : ∀ b o, b ∉ ch -> s.heap.get? b = some o -> H b = none -> H' b = none)
  (there : ∀ b o, b ∉ ch -> s.heap.get? b = some o -> ∃ o', h'.get? b = some o')
  (tups : ∀ b xs, H b = some (.tup xs) -> H' b = some (.tup xs)) (frzs : ∀ b o u, H b = some (.frz o u) -> H' b = some (.frz o u)) (tbls : ∀ b ps, H b = some (.tbl ps) -> ∃ more, H' b = some (.tbl (ps ++ more)))
  (ns : ∀ m, s.heap.Ns X.env.locals m -> h'.Ns X.env.locals m) (hok : HOk X.prog X.w H' h') (hg : AllBare g') :
  Inv X pins σ H' { s with heap := h', gens := g', drawn := d', toks := t' } := by
 have neL : ∀ b o, X.s₀.heap.get? b = some o -> b ≠ X.env.locals := fun b o e => Nat.ne_of_lt (Nat.lt_of_lt_of_le (Heap.lt_size e) I.ok.above)
 have neC : ∀ b o, X.s₀.heap.get? b = some o -> b ∉ X.ex -> b ∉ ch := fun b o e hx hb => by
  rcases (hch b hb).1 with z | z
  · exact hx z
  · exact absurd (Nat.lt_of_lt_of_le (Heap.lt_size e) z) (Nat.lt_irrefl _)
 have cellK : ∀ x c, X.env.cells.lookup x = some c -> ∀ v, s.heap.IsCell c v -> h'.IsCell c v := fun x c e v ⟨o, ho, hd⟩ => by
  have nch : c ∉ ch := fun z => (hch c z).2.2.1 x c e rfl
  by_cases hc : c ∈ X.fs
  · obtain ⟨sl, q⟩ := slot c o (I.cne x c e) hc nch ho (I.freeC x c e)
    exact ⟨_, q, hd⟩
  · exact ⟨o, keep c o (I.cne x c e) hc nch ho (I.freeC x c e), hd⟩
 refine ⟨I.ok, I.os, hg, ⟨fun b o e n hb hx => ?_, fun b o e n hb hx => ?_, fun b o e n hx => ?_, fun b o e hx => ?_, fun b xs e => tups b xs (I.base.tups b xs e), fun b o xs e => frzs b o xs (I.base.frzs b o xs e), fun b ps e => ?_⟩, ?_, fun x c e => ?_, ?_, fun x c e => ?_, fun p hp => ?_, hok, I.len⟩
 · exact keep b o (neL b o e) hb (neC b o e hx) (I.base.keep b o e n hb hx) (I.base.free b o e n hx)
 · obtain ⟨sl, e1⟩ := I.base.slot b o e n hb hx
   obtain ⟨sl', e2⟩ := slot b _ (neL b o e) hb (neC b o e hx) e1 (I.base.free b o e n hx)
   exact ⟨sl', e2⟩
 · obtain ⟨o', e1⟩ := I.base.there b o e hx
   exact free b o' (neC b o e hx) e1 (I.base.free b o e n hx)
 · obtain ⟨o', e1⟩ := I.base.there b o e hx
   exact there b o' (neC b o e hx) e1
 · obtain ⟨m1, e1⟩ := I.base.tbls b ps e
   obtain ⟨m2, e2⟩ := tbls b _ e1
   exact ⟨m1 ++ m2, by rw [e2, Array.append_assoc]⟩
 · obtain ⟨m, hn, hl⟩ := I.loc
   refine ⟨m, ns m hn, fun i x v e1 e2 e3 => ?_⟩
   obtain ⟨u, r, l⟩ := hl i x v e1 e2 e3
   refine ⟨u, r, ?_⟩
   rcases l with l | ⟨k, c, e, z⟩
   · exact .inl l
   · exact .inr ⟨k, c, e, cellK x c e _ z⟩
 · obtain ⟨v, z⟩ := I.cell x c e
   exact ⟨v, cellK x c e v z⟩
 · obtain ⟨m, ⟨o, _, _, ho, _⟩, _⟩ := I.loc
   exact free _ o (fun z => (hch _ z).2.1 rfl) ho I.free
 · obtain ⟨v, o, ho, hd⟩ := I.cell x c e
   exact free c o (fun z => (hch c z).2.2.1 x c e rfl) ho (I.freeC x c e)
 · obtain ⟨e, n, ne, nf, d⟩ := I.pin p hp
   have nch : p.1 ∉ ch := fun z => (hch p.1 z).2.2.2 p hp rfl
   exact ⟨keep p.1 p.2 ne nf nch e n, free p.1 p.2 nch e n, ne, nf, d⟩
theorem Inv.un {t' : Nat} (I : Inv X pins σ H s) (u : Un X.fs [] H H' s.heap h') (hok : HOk X.prog X.w H' h') : Inv X pins σ H' { s with heap := h', toks := t' } := by
 obtain ⟨m, ⟨o, es, ep, ho, r⟩, _⟩ := id I.loc
 obtain ⟨sl, hL⟩ := u.any ho I.free (by simp)
 exact I.step (g' := s.gens) (d' := s.drawn) (ch := []) (fun _ z => nomatch z) (fun b o _ hb _ e n => u.keep b o e n hb (by simp)) (fun b o _ hb _ e n => u.slot b o e n hb (by simp)) (fun b o _ e n => u.free b o e n (by simp)) (fun b o _ e => u.there b o e (by simp)) u.tups u.frzs u.tbls (fun m' hm => by
  obtain ⟨o', es', ep', ho', r'⟩ := hm
  rw [ho] at ho'; cases ho'
  exact ⟨_, es', ep', hL, r'⟩) hok I.bare
theorem Inv.call {g' : Array GenState} {t' : Nat} {d' : Drawn} {ch : List Addr} (I : Inv X pins σ H s) (u : Un (frs X.stack) ch H H' s.heap h') (hok : HOk X.prog X.w H' h') (hg : AllBare g')
  (hch : ∀ b ∈ ch, (b ∈ X.ex \/ X.s₀.heap.objs.size <= b) /\ b ≠ X.env.locals /\ (∀ x c, X.env.cells.lookup x = some c -> c ≠ b) /\ ∀ p ∈ X.pn ++ pins, p.1 ≠ b) :
  Inv X pins σ H' { s with heap := h', gens := g', drawn := d', toks := t' } := by
 obtain ⟨m, ⟨o, es, ep, ho, r⟩, _⟩ := id I.loc
 obtain ⟨sl, hL⟩ := u.any ho I.free fun z => (hch _ z).2.1 rfl
 exact I.step (ch := ch) hch (fun b o hL hb hc e n => u.keep b o e n (fun z => (List.mem_cons.mp (I.stkSub b z)).elim hL hb) hc) (fun b o _ _ hc e n => u.any e n hc) (fun b o hc e n => u.free b o e n hc) (fun b o hc e => u.there b o e hc) u.tups u.frzs u.tbls (fun m' hm => by
  obtain ⟨o', es', ep', ho', r'⟩ := hm
  rw [ho] at ho'; cases ho'
  exact ⟨_, es', ep', hL, r'⟩) hok hg
theorem Inv.turned {t' : Nat} {it : Addr} (I : Inv X pins σ H s) (k : ∀ b o, b ≠ it -> s.heap.get? b = some o -> h'.get? b = some o) (hn : H it = none) (hL : it ≠ X.env.locals)
  (h1 : it ∈ X.ex \/ X.s₀.heap.objs.size <= it) (h2 : ∀ x c, X.env.cells.lookup x = some c -> c ≠ it) (h3 : ∀ p ∈ X.pn ++ pins, p.1 ≠ it) : Inv X pins σ H { s with heap := h', toks := t' } := by
 have nit : ∀ b u, H b = some u -> b ≠ it := fun b u e z => by rw [z, hn] at e; cases e
 refine I.step (g' := s.gens) (d' := s.drawn) (ch := [it]) (fun b hb => ?_) (fun b o _ _ hc e _ => k b o (fun z => hc (by simp [z])) e) (fun b o _ _ hc e _ => ⟨o.slots, k b o (fun z => hc (by simp [z])) e⟩) (fun _ _ _ _ n => n)
  (fun b o hc e => ⟨o, k b o (fun z => hc (by simp [z])) e⟩) (fun _ _ e => e) (fun _ _ _ e => e) (fun b ps e => ⟨#[], by rw [e]; simp⟩) (fun m hm => ?_) (fun b u e => ?_) I.bare
 · have e : b = it := by simpa using hb
   subst e
   exact ⟨h1, hL, h2, h3⟩
 · obtain ⟨o, es, ep, ho, r⟩ := hm
   exact ⟨o, es, ep, k _ o (Ne.symm hL) ho, r⟩
 · refine (I.hok b u e).stay (fun c v hc q => k c v ?_ q) (fun _ q => q) fun _ _ q => q
   rcases hc with z | z
   · rw [z]; exact nit b u e
   · exact nit c _ z
theorem Inv.tok (I : Inv X pins σ H s) (t : Nat) : Inv X pins σ H { s with toks := t } := I.un (h' := s.heap) (t' := t) Un.refl I.hok
theorem Inv.kept {t' : Nat} (I : Inv X pins σ H s) (k : ∀ b u, s.heap.get? b = some u -> h'.get? b = some u) : Inv X pins σ H { s with heap := h', toks := t' } := I.un (Un.kept k) (I.hok.kept k)
theorem Inv.laid {a : Addr} {o : HO} {t' : Nat} (I : Inv X pins σ H s) (k : ∀ b u, s.heap.get? b = some u -> h'.get? b = some u) (hp : s.heap.objs.size <= a) (new : ObjOk X.prog X.w (upd H a o) h' a o) :
  Inv X pins σ (upd H a o) { s with heap := h', toks := t' } := I.un (Un.laid k hp (I.hok.fresh hp)) (I.hok.laid k hp new)
theorem Inv.write {x e : Addr} {o : HO} {t' : Nat} (I : Inv X pins σ H s) (mu : Mut (H x)) (he : e = x \/ H e = some (.own x)) (k : ∀ b u, b ≠ e -> s.heap.get? b = some u -> h'.get? b = some u) (heo : ∃ u, h'.get? e = some u)
  (new : ObjOk X.prog X.w (upd H x o) h' x o) : Inv X pins σ (upd H x o) { s with heap := h', toks := t' } := I.un (Un.write mu he k heo) (I.hok.write mu he k heo new)
theorem Inv.pins_of {pins' : List (Addr × Obj)} (I : Inv X pins σ H s) (h : ∀ p ∈ pins', s.heap.get? p.1 = some p.2 /\ H p.1 = none /\ p.1 ≠ X.env.locals /\ p.1 ∉ X.fs /\ ∀ v, p.2.data ≠ .cell v) : Inv X pins' σ H s :=
 ⟨I.ok, I.os, I.bare, I.base, I.loc, I.cell, I.free, I.freeC, fun p hp => (List.mem_append.mp hp).elim (fun z => I.pin p (List.mem_append_left _ z)) (h p), I.hok, I.len⟩
theorem nodup_ix {N : List Str} (hN : N.Nodup) {i j : Nat} {x : Str} (a : N[i]? = some x) (b : N[j]? = some x) : i = j := by
 obtain ⟨h1, e1⟩ := List.getElem?_eq_some_iff.mp a
 obtain ⟨h2, e2⟩ := List.getElem?_eq_some_iff.mp b
 exact (List.getElem_inj hN).mp (e1.trans e2.symm)
theorem store_ok2 {M : Model} {A : Around} {E : Value -> Shared -> Prop} {i : Nat} {x : Str} {v : V} {u : Value} {Q : Unit -> Shared -> Prop} (I : Inv X pins σ H s) (hN : X.N.Nodup) (hi : X.N[i]? = some x) (hx : Loc X.env.scope x) (r : RelV v u)
  (h : ∀ s', Inv X pins (σ.set i (some v)) H s' -> (∃ a, Heap.SameBut a s.heap s'.heap /\ (a = X.env.locals \/ X.env.cells.lookup x = some a)) -> Q () s') (hf : X.fn x = true \/ X.env.scope.names.lookup x = some .local := by first | exact .inl rfl | exact .inr rfl | assumption) : wpAny M A (storeName X.env x u) Q E s := by
 obtain ⟨m, hn, hl⟩ := id I.loc
 have hcls : (X.env.scope.kind == .class || (X.env.scope.kind == .module && X.env.locals != X.env.globals)) = false := by rw [I.ok.kind]; rfl
 have hiσ : i < σ.length := by rw [I.len]; exact (List.getElem?_eq_some_iff.mp hi).1
 have cne := I.cne
 have tracked : ∀ {a : Addr} {h' : Heap}, (∃ o, s.heap.get? a = some o /\ H a = none) -> Heap.SameBut a s.heap h' -> HOk X.prog X.w H h' := fun {a h'} ha hs b ob e => by
  obtain ⟨_, _, hfree⟩ := ha
  refine (I.hok b ob e).stay (fun c w' hc q => (hs.2 c ?_).trans q) (fun _ q => q) fun _ _ q => q
  rintro rfl
  rcases hc with rfl | hc
  · rw [hfree] at e; cases e
  · rw [hfree] at hc; cases hc
 rcases hx with hk | hk
 · refine wpAny_storeName_local hk hn (fun h' hn' hs => ?_) hcls
   obtain ⟨oL, _, _, hoL, _⟩ := id hn
   refine h _ ⟨I.ok, I.os, I.bare, ⟨fun b o e n hb hx => ?_, fun b o e n hb hx => ?_, I.base.free, fun b o e hx => ?_, I.base.tups, I.base.frzs, I.base.tbls⟩, ⟨_, hn', fun j y v' e1 e2 e3 => ?_⟩, fun y c e => ?_, I.free, I.freeC, fun p hp => ?_, tracked ⟨oL, hoL, I.free⟩ hs, by simpa using I.len⟩ ⟨_, hs, .inl rfl⟩
   · exact (hs.2 b (Nat.ne_of_lt (Nat.lt_of_lt_of_le (Heap.lt_size e) I.ok.above))).trans (I.base.keep b o e n hb hx)
   · obtain ⟨sl, e1⟩ := I.base.slot b o e n hb hx
     exact ⟨sl, (hs.2 b (Nat.ne_of_lt (Nat.lt_of_lt_of_le (Heap.lt_size e) I.ok.above))).trans e1⟩
   · obtain ⟨o', e1⟩ := I.base.there b o e hx
     exact ⟨o', (hs.2 b (Nat.ne_of_lt (Nat.lt_of_lt_of_le (Heap.lt_size e) I.ok.above))).trans e1⟩
   · by_cases hj : j = i
     · subst hj
       rw [hi] at e1; cases e1
       rw [List.getElem?_set_self hiσ] at e2
       cases e2
       exact ⟨u, r, .inl ⟨hk, by simp⟩⟩
     · rw [List.getElem?_set_ne (Ne.symm hj)] at e2
       obtain ⟨u', r', q⟩ := hl j y v' e1 e2 e3
       refine ⟨u', r', ?_⟩
       rcases q with ⟨k, e⟩ | ⟨k, c, e, z⟩
       · refine .inl ⟨k, ?_⟩
         have : y ≠ x := fun e => hj (nodup_ix hN e1 (e ▸ hi))
         simp [this, e]
       · exact .inr ⟨k, c, e, z.sameBut hs (cne y c e)⟩
   · obtain ⟨w', z⟩ := I.cell y c e
     exact ⟨w', z.sameBut hs (cne y c e)⟩
   · obtain ⟨e, n, ne, nf, d⟩ := I.pin p hp
     exact ⟨(hs.2 p.1 ne).trans e, n, ne, nf, d⟩
 · have hfn : X.fn x = true := by
    rcases hf with z | z
    · exact z
    · rw [z] at hk; cases hk
   obtain ⟨c, hc⟩ := I.ok.has x (.inl hk)
   obtain ⟨w', z⟩ := I.cell x c hc
   refine wpAny_storeName_cell I.ok.kind hk hc z (fun h' hc' hs => ?_)
   obtain ⟨oc, hoc, hocd⟩ := id z
   refine h { s with heap := h' } ⟨I.ok, I.os, I.bare, ⟨fun b o e n hb hx => ?_, fun b o e n hb hx => ?_, I.base.free, fun b o e hx => ?_, I.base.tups, I.base.frzs, I.base.tbls⟩, ⟨m, hn.sameBut hs (Ne.symm (cne x c hc)), fun j y v' e1 e2 e3 => ?_⟩, fun y c' e => ?_, I.free, I.freeC, fun p hp => ?_, tracked ⟨oc, hoc, I.freeC x c hc⟩ hs, by simpa using I.len⟩ ⟨c, hs, .inr hc⟩
   · exact (hs.2 b (Nat.ne_of_lt (Nat.lt_of_lt_of_le (Heap.lt_size e) (I.ok.cab x c hfn hc)))).trans (I.base.keep b o e n hb hx)
   · obtain ⟨sl, e1⟩ := I.base.slot b o e n hb hx
     exact ⟨sl, (hs.2 b (Nat.ne_of_lt (Nat.lt_of_lt_of_le (Heap.lt_size e) (I.ok.cab x c hfn hc)))).trans e1⟩
   · obtain ⟨o', e1⟩ := I.base.there b o e hx
     exact ⟨o', (hs.2 b (Nat.ne_of_lt (Nat.lt_of_lt_of_le (Heap.lt_size e) (I.ok.cab x c hfn hc)))).trans e1⟩
   · by_cases hj : j = i
     · subst hj
       rw [hi] at e1; cases e1
       rw [List.getElem?_set_self hiσ] at e2
       cases e2
       exact ⟨u, r, .inr ⟨.inl hk, c, hc, hc'⟩⟩
     · rw [List.getElem?_set_ne (Ne.symm hj)] at e2
       obtain ⟨u', r', q⟩ := hl j y v' e1 e2 e3
       refine ⟨u', r', ?_⟩
       rcases q with q | ⟨k, c', e, z'⟩
       · exact .inl q
       · refine .inr ⟨k, c', e, z'.sameBut hs ?_⟩
         rintro rfl
         exact hj (nodup_ix hN e1 (I.ok.inj _ _ _ e hc ▸ hi))
   · by_cases hcc : c' = c
     · subst hcc; exact ⟨_, hc'⟩
     · obtain ⟨w2, z2⟩ := I.cell y c' e
       exact ⟨w2, z2.sameBut hs hcc⟩
   · obtain ⟨e, n, ne, nf, d⟩ := I.pin p hp
     refine ⟨(hs.2 p.1 ?_).trans e, n, ne, nf, d⟩
     intro q
     rw [q, hoc] at e
     have q' : oc = p.2 := Option.some.inj e
     exact d w' (by rw [← q']; exact hocd)
theorem store_ok {M : Model} {A : Around} {E : Value -> Shared -> Prop} {i : Nat} {x : Str} {v : V} {u : Value} {Q : Unit -> Shared -> Prop} (I : Inv X pins σ H s) (hN : X.N.Nodup) (hi : X.N[i]? = some x) (hx : Loc X.env.scope x) (r : RelV v u)
  (h : ∀ s', Inv X pins (σ.set i (some v)) H s' -> Q () s') (hf : X.fn x = true \/ X.env.scope.names.lookup x = some .local := by first | exact .inl rfl | exact .inr rfl | assumption) : wpAny M A (storeName X.env x u) Q E s :=
 store_ok2 I hN hi hx r (fun s' I' _ => h s' I') hf
theorem Inv.call' {s' : Shared} {ch : List Addr} (I : Inv X pins σ H s) (ho : s'.os = s.os) (u : Un (frs X.stack) ch H H' s.heap s'.heap) (hok : HOk X.prog X.w H' s'.heap) (hg : AllBare s'.gens)
  (hch : ∀ b ∈ ch, (b ∈ X.ex \/ X.s₀.heap.objs.size <= b) /\ b ≠ X.env.locals /\ (∀ x c, X.env.cells.lookup x = some c -> c ≠ b) /\ ∀ p ∈ X.pn ++ pins, p.1 ≠ b) : Inv X pins σ H' s' := by
 obtain ⟨h', g', d', t', o'⟩ := s'
 have e : o' = s.os := ho
 subst e
 exact I.call (g' := g') (t' := t') (d' := d') u hok hg hch
end
abbrev XK := Value -> Option Addr -> Hp -> Prop
abbrev St := List (Option V)
abbrev VK := V -> Hp -> Prop
abbrev TE := St -> Hp -> VK -> Prop
abbrev TT := St -> Hp -> (Bool -> Hp -> Prop) -> Prop
abbrev TA := St -> Hp -> (List V -> Hp -> Prop) -> Prop
structure Ends where
 nx : St -> Hp -> Prop
 rt : VK
 bk : St -> Hp -> Prop := fun _ _ => False
 ct : St -> Hp -> Prop := fun _ _ => False
abbrev TS := Ends -> St -> Hp -> Prop
def EP (X : Cx) (pins : List (Addr × Obj)) (σ : St) (Q : VK) (u : Value) (s' : Shared) : Prop := ∃ v H', Inv X pins σ H' s' /\ RelV v u /\ Q v H'
def TP (X : Cx) (pins : List (Addr × Obj)) (σ : St) (Q : Bool -> Hp -> Prop) (b : Bool) (s' : Shared) : Prop := ∃ H', Inv X pins σ H' s' /\ Q b H'
def AP (X : Cx) (pins : List (Addr × Obj)) (σ : St) (Q : List V -> Hp -> Prop) (us : List Value) (s' : Shared) : Prop := ∃ vs H', Inv X pins σ H' s' /\ Vals vs us /\ Q vs H'
def SP (X : Cx) (pins : List (Addr × Obj)) (D : Ends) (f : Flow) (s' : Shared) : Prop :=
 match f with
 | .next => ∃ σ' H', Inv X pins σ' H' s' /\ D.nx σ' H'
 | .brk => ∃ σ' H', Inv X pins σ' H' s' /\ D.bk σ' H'
 | .cont => ∃ σ' H', Inv X pins σ' H' s' /\ D.ct σ' H'
 | .ret u => ∃ v σ' H', Inv X pins σ' H' s' /\ RelV v u /\ D.rt v H'
def PE (X : Cx) (e : Expr) (t : TE) : Prop :=
 ∀ (pins : List (Addr × Obj)) (s : Shared) (σ : St) (H : Hp) (Q : VK), Inv X pins σ H s -> t σ H Q -> wpAny (model X.prog X.w) X.A (eval e X.env) (EP X pins σ Q) X.xe s
def PT (X : Cx) (e : Expr) (t : TT) : Prop :=
 ∀ (pins : List (Addr × Obj)) (s : Shared) (σ : St) (H : Hp) (Q : Bool -> Hp -> Prop), Inv X pins σ H s -> t σ H Q -> wpAny (model X.prog X.w) X.A (isTrue e X.env (eval e X.env)) (TP X pins σ Q) X.xe s
def PW (X : Cx) (e : Expr) (t : TT) : Prop :=
 ∀ (whole : Sem Value) (pins : List (Addr × Obj)) (s : Shared) (σ : St) (H : Hp) (Q : Bool -> Hp -> Prop), Inv X pins σ H s -> t σ H Q -> wpAny (model X.prog X.w) X.A (isTrue e X.env whole) (TP X pins σ Q) X.xe s
theorem PW.pt {X : Cx} {e : Expr} {t : TT} (h : PW X e t) : PT X e t := h _
def PA (X : Cx) (es : List Expr) (t : TA) : Prop :=
 ∀ (pos : Pos) (pins : List (Addr × Obj)) (s : Shared) (σ : St) (H : Hp) (Q : List V -> Hp -> Prop), Inv X pins σ H s -> t σ H Q -> wpAny (model X.prog X.w) X.A (spliced (backTo pos (starEach es X.env))) (AP X pins σ Q) X.xe s
def PS (X : Cx) (st : Stmt) (t : TS) : Prop :=
 ∀ (pins : List (Addr × Obj)) (s : Shared) (σ : St) (H : Hp) (D : Ends), Inv X pins σ H s -> t D σ H -> wpAny (model X.prog X.w) X.A (exec st X.env) (SP X pins D) X.xe s
def PSs (X : Cx) (st : List Stmt) (t : TS) : Prop :=
 ∀ (pins : List (Addr × Obj)) (s : Shared) (σ : St) (H : Hp) (D : Ends), Inv X pins σ H s -> t D σ H -> wpAny (model X.prog X.w) X.A (execs st X.env) (SP X pins D) X.xe s
theorem thn {α : Type} {t : Sem α} {Q Q' : α -> Shared -> Prop} {M : Model} {A : Around} {E : Value -> Shared -> Prop} {s : Shared} (h : wpAny M A t Q E s) (hQ : ∀ a s, Q a s -> Q' a s) : wpAny M A t Q' E s := wpAny_mono h hQ fun _ _ x => x
end L2
namespace L2
open PySem PySem.Spec PyProof.Rows
section
variable {X : Cx}
def tVar (i : Nat) : TE := fun σ H Q => ∃ v, σ[i]? = some (some v) /\ Q v H
def tC (v : V) : TE := fun _ H Q => Q v H
theorem pe_var {i : Nat} {x : Str} {pos : Pos} (hN : X.N[i]? = some x) (hv : Vis X.env.scope x) (hd : (x == ("__debug__" : Str)) = false := by decide) (hcd : (x == ("__classdict__" : Str)) = false := by decide) : PE X (.Name x pos) (tVar i) := by
 intro pins s σ H Q I h
 obtain ⟨v, e, h⟩ := h
 obtain ⟨m, hn, hl⟩ := I.loc
 obtain ⟨u, r, l⟩ := hl i x v hN e hv
 have fin : EP X pins σ Q u s := ⟨v, H, I, r, h⟩
 rcases l with ⟨hk, hm⟩ | ⟨hk, c, hc, hcell⟩
 · exact wpAny_Name (wpAny_loadName_local I.ok.kind hk hn hm fin) hd
 · rcases hk with hk | hk
   · exact wpAny_Name (wpAny_loadName_cell I.ok.kind hk hc hcell fin) hd
   · exact wpAny_Name (wpAny_loadName_free I.ok.kind hk hc hcell fin hcd) hd
theorem pe_int {i j pos} : PE X (.Constant (.int i) j pos) (tC (.int i)) := fun _ _ _ H _ I h => wpAny_Constant_int ⟨.int i, H, I.tok _, ⟨_, rfl⟩, h⟩
theorem pe_bl {b j pos} : PE X (.Constant (.bool b) j pos) (tC (.bl b)) := fun _ _ _ H _ I h => Constant_bool ⟨.bl b, H, I, rfl, h⟩
theorem pe_non {j pos} : PE X (.Constant .none j pos) (tC .non) := fun _ _ _ H _ I h => Constant_none ⟨.non, H, I, rfl, h⟩
def Gl (X : Cx) (x : Str) : Prop := X.env.kindOf x = some .globalImplicit
theorem ld_glob {E : Value -> Shared -> Prop} {pins : List (Addr × Obj)} {s : Shared} {σ : St} {H : Hp} {x : Str} {u : Value} {pos : Pos} {Q : Value -> Shared -> Prop} (I : Inv X pins σ H s) (hg : Gl X x) (hm : X.mg x = some u) (h : Q u s)
  (hd : (x == ("__debug__" : Str)) = false := by decide) : wpAny (model X.prog X.w) X.A (eval (.Name x pos) X.env) Q E s :=
 Calls.Name_function_global I.ok.kind hg (Calls.loadGlobal_global (by rw [I.ok.glob]; exact I.mod.glob.keeps I.bk) hm h) hd
theorem ld_blt {E : Value -> Shared -> Prop} {pins : List (Addr × Obj)} {s : Shared} {σ : St} {H : Hp} {x : Str} {u : Value} {pos : Pos} {Q : Value -> Shared -> Prop} (I : Inv X pins σ H s) (hg : Gl X x) (hm : X.mg x = none) (hv : bootBuiltins x = some u) (h : Q u s)
  (hn : x ≠ "__name__" := by decide) (hd : (x == ("__debug__" : Str)) = false := by decide) : wpAny (model X.prog X.w) X.A (eval (.Name x pos) X.env) Q E s := by
 obtain ⟨mb, h1, h2⟩ := I.mod.blt
 exact Calls.Name_function_global I.ok.kind hg (Calls.loadGlobal_builtin (by rw [I.ok.glob]; exact I.mod.glob.keeps I.bk) hm (by rw [I.ok.blt]; exact h1.keeps I.bk) ((h2 x hn).trans hv) h) hd
theorem pe_bltn {x : Str} {v : V} {u : Value} {pos : Pos} (hg : Gl X x) (hm : X.mg x = none) (hv : bootBuiltins x = some u) (r : RelV v u) (hn : x ≠ "__name__" := by decide) (hd : (x == ("__debug__" : Str)) = false := by decide) : PE X (.Name x pos) (tC v) :=
 fun _ _ _ H _ I h => ld_blt I hg hm hv ⟨v, H, I, r, h⟩ hn hd
variable {a b : Expr} {ta tb : TE} {pos : Pos}
def tB (t : TE) : TT := fun σ H Q => t σ H fun x H1 => ∃ c, x = .bl c /\ Q c H1
theorem pt_val {e : Expr} {t : TE} (h : PE X e t) (he : ∀ whole, isTrue e X.env whole = (do let v ← whole; standAt e.pos; holding [v] (truthy v)) := by intro _; rfl) : PT X e (tB t) := by
 intro pins s σ H Q I hw
 refine isTrue_plain (thn (h pins s σ H _ I hw) fun v s1 ⟨x, H1, I1, r1, q1⟩ => ?_) (he _)
 obtain ⟨d, rfl, q⟩ := q1
 cases r1
 exact wpAny_truthy_bool ⟨H1, I1, q⟩
variable {tA tB' : TT} {rest : List Expr}
def tAnd (t u : TT) : TT := fun σ H Q => t σ H fun c H1 => if c = true then u σ H1 Q else Q false H1
def tOr (t u : TT) : TT := fun σ H Q => t σ H fun c H1 => if c = true then Q true H1 else u σ H1 Q
def tNot (t : TT) : TT := fun σ H Q => t σ H fun c H1 => Q (!c) H1
theorem pw_and1 (ha : PT X a tA) : PW X (.BoolOp .And [a] pos) tA := by
 intro wh pins s σ H Q I h
 refine isTrue_and (thn (ha pins s σ H Q I h) fun c s1 e => ?_)
 cases c with
 | true => exact isTrue_and_nil e
 | false => exact e
theorem pw_or1 (ha : PT X a tA) : PW X (.BoolOp .Or [a] pos) tA := by
 intro wh pins s σ H Q I h
 refine isTrue_or (thn (ha pins s σ H Q I h) fun c s1 e => ?_)
 cases c with
 | false => exact isTrue_or_nil e
 | true => exact e
theorem pw_and (ha : PT X a tA) (hb : PW X (.BoolOp .And (b :: rest) pos) tB') : PW X (.BoolOp .And (a :: b :: rest) pos) (tAnd tA tB') := by
 intro wh pins s σ H Q I h
 refine isTrue_and (thn (ha pins s σ H _ I h) fun c s1 ⟨H1, I1, q1⟩ => ?_)
 cases c with
 | true => exact hb wh pins s1 σ H1 Q I1 q1
 | false => exact ⟨H1, I1, q1⟩
theorem pw_or (ha : PT X a tA) (hb : PW X (.BoolOp .Or (b :: rest) pos) tB') : PW X (.BoolOp .Or (a :: b :: rest) pos) (tOr tA tB') := by
 intro wh pins s σ H Q I h
 refine isTrue_or (thn (ha pins s σ H _ I h) fun c s1 ⟨H1, I1, q1⟩ => ?_)
 cases c with
 | true => exact ⟨H1, I1, q1⟩
 | false => exact hb wh pins s1 σ H1 Q I1 q1
theorem pt_not (ha : PT X a tA) : PT X (.UnaryOp .Not a pos) (tNot tA) := by
 intro pins s σ H Q I h
 exact isTrue_not (ha pins s σ H (fun c H1 => Q (!c) H1) I h)
def tAndV (ta tb : TE) : TE := fun σ H Q => ta σ H fun x H1 => ∃ c, x = .bl c /\ if c = true then tb σ H1 Q else Q (.bl false) H1
def tOrV (ta tb : TE) : TE := fun σ H Q => ta σ H fun x H1 => ∃ c, x = .bl c /\ if c = true then Q (.bl true) H1 else tb σ H1 Q
def tNotV (ta : TE) : TE := fun σ H Q => ta σ H fun x H1 => ∃ c, x = .bl c /\ Q (.bl (!c)) H1
theorem pe_one {op} {t : TE} (h : PE X a t) : PE X (.BoolOp op [a] pos) t := fun pins s σ H Q I hw => BoolOp_one (h pins s σ H Q I hw)
theorem pe_and (ha : PE X a ta) (hb : PE X (.BoolOp .And (b :: rest) pos) tb) : PE X (.BoolOp .And (a :: b :: rest) pos) (tAndV ta tb) := by
 intro pins s σ H Q I h
 refine BoolOp_and (thn (ha pins s σ H _ I h) fun v s1 ⟨x, H1, I1, r1, q1⟩ => ?_)
 obtain ⟨c, rfl, q1⟩ := q1
 cases r1
 refine wpAny_truthy_bool ?_
 cases c with
 | true => exact hb pins s1 σ H1 Q I1 q1
 | false => exact ⟨.bl false, H1, I1, rfl, q1⟩
theorem pe_or (ha : PE X a ta) (hb : PE X (.BoolOp .Or (b :: rest) pos) tb) : PE X (.BoolOp .Or (a :: b :: rest) pos) (tOrV ta tb) := by
 intro pins s σ H Q I h
 refine BoolOp_or (thn (ha pins s σ H _ I h) fun v s1 ⟨x, H1, I1, r1, q1⟩ => ?_)
 obtain ⟨c, rfl, q1⟩ := q1
 cases r1
 refine wpAny_truthy_bool ?_
 cases c with
 | false => exact hb pins s1 σ H1 Q I1 q1
 | true => exact ⟨.bl true, H1, I1, rfl, q1⟩
theorem pe_not (ha : PE X a ta) : PE X (.UnaryOp .Not a pos) (tNotV ta) := by
 intro pins s σ H Q I h
 refine UnaryOp_ (thn (ha pins s σ H _ I h) fun v s1 ⟨x, H1, I1, r1, q1⟩ => ?_)
 obtain ⟨c, rfl, q1⟩ := q1
 cases r1
 exact not_of (wpAny_truthy_bool ⟨.bl (!c), H1, I1, rfl, q1⟩)
def tIf (t : TT) (ta tb : TE) : TE := fun σ H Q => t σ H fun c H1 => if c = true then ta σ H1 Q else tb σ H1 Q
theorem pe_ifExp {c : Expr} (hc : PT X c tA) (ha : PE X a ta) (hb : PE X b tb) : PE X (.IfExp c a b pos) (tIf tA ta tb) := by
 intro pins s σ H Q I h
 refine wpAny_IfExp (thn (hc pins s σ H _ I h) fun d s1 ⟨H1, I1, q1⟩ => ?_)
 cases d with
 | true => exact ha pins s1 σ H1 Q I1 q1
 | false => exact hb pins s1 σ H1 Q I1 q1
end
end L2
namespace L2
open PySem PySem.Spec PyProof.Rows
def SqL (K : PySem.W.Frag) (H : Hp) (a : Addr) (xs : List V) : Prop :=
 Rd H a (.lst xs) \/
  ∃ (o : Obj) (its : Array Value) (n : Nat), K.lookup a = some o /\ o.cls = .type "list" /\ o.dict = none /\ o.data = .seq its n /\ its.size <= sizeLine /\ Vals xs its.toList
def SqT (K : PySem.W.Frag) (H : Hp) (a : Addr) (xs : List V) : Prop :=
 Rd H a (.tup xs) \/
  ∃ (o : Obj) (its : Array Value) (n : Nat), K.lookup a = some o /\ o.cls = .type "tuple" /\ o.data = .seq its n /\ its.size <= sizeLine /\ Vals xs its.toList
def absV : Value -> Option V
 | .none => some .non
 | .bool b => some (.bl b)
 | .int i _ => some (.int i)
 | .str x _ => some (.str x)
 | .bytes b _ => some (.byt b)
 | .float b _ => some (.flt b)
 | .ref a => some (.ref a)
 | .type n => some (.ty n)
 | _ => none
theorem RelV.abs {x : V} {u : Value} (r : RelV x u) : absV u = some x := by
 cases x with
 | non => cases r; rfl
 | bl _ => cases r; rfl
 | int _ => obtain ⟨t, rfl⟩ := r; rfl
 | str _ => obtain ⟨t, rfl⟩ := r; rfl
 | byt _ => obtain ⟨t, rfl⟩ := r; rfl
 | flt _ => obtain ⟨t, rfl⟩ := r; rfl
 | ref _ => cases r; rfl
 | ty _ => cases r; rfl
theorem RelV.inj {x y : V} {u : Value} (r : RelV x u) (q : RelV y u) : x = y := Option.some.inj (r.abs.symm.trans q.abs)
theorem Vals.inj : ∀ {xs ys : List V} {us : List Value}, Vals xs us -> Vals ys us -> xs = ys
 | _, _, _, .nil, .nil => rfl
 | _, _, _, .cons r t, .cons r' t' => by rw [r.inj r', Vals.inj t t']
section
variable {X : Cx} {pins : List (Addr × Obj)} {σ : St} {H : Hp} {s : Shared} {a : Addr} {xs ys : List V}
theorem SqL.of {K : PySem.W.Frag} (h : H a = some (.lst xs)) : SqL K H a xs := .inl (.inl h)
theorem SqT.of {K : PySem.W.Frag} (h : H a = some (.tup xs)) : SqT K H a xs := .inl (.inl h)
theorem Inv.list (I : Inv X pins σ H s) (h : SqL X.K H a xs) : ∃ its : List Value, Vals xs its /\ PlainL s.heap a its.toArray /\ xs.length <= sizeLine := by
 rcases h with h | ⟨o, its, n, hk, hc, hd, hs, hz, r⟩
 · obtain ⟨z, its, n, r, e⟩ := h.ok I.hok
   exact ⟨its, r, ⟨_, n, e, rfl, rfl, rfl⟩, z⟩
 · refine ⟨its.toList, r, ⟨o, n, I.kIn a o hk, hc, hd, by simpa using hs⟩, ?_⟩
   have e := r.length
   simp only [Array.length_toList] at e
   omega
theorem Inv.tuple (I : Inv X pins σ H s) (h : SqT X.K H a xs) : ∃ its : List Value, Vals xs its /\ IsTup s.heap a its.toArray /\ xs.length <= sizeLine := by
 rcases h with h | ⟨o, its, n, hk, hc, hs, hz, r⟩
 · obtain ⟨z, its, r, p⟩ := h.ok I.hok
   exact ⟨its, r, p, z⟩
 · refine ⟨its.toList, r, ⟨o, I.kIn a o hk, hc, n, by simpa using hs⟩, ?_⟩
   have e := r.length
   simp only [Array.length_toList] at e
   omega
theorem Inv.list_inj (I : Inv X pins σ H s) (h : SqL X.K H a xs) (h' : SqL X.K H a ys) : xs = ys := by
 obtain ⟨its, r, ⟨o, n, e, _, _, d⟩, _⟩ := I.list h
 obtain ⟨its', r', ⟨o', n', e', _, _, d'⟩, _⟩ := I.list h'
 rw [e] at e'; cases e'
 rw [d] at d'
 injection d' with d1 _
 have : its = its' := by simpa using congrArg Array.toList d1
 subst this
 exact r.inj r'
theorem Inv.tuple_inj (I : Inv X pins σ H s) (h : SqT X.K H a xs) (h' : SqT X.K H a ys) : xs = ys := by
 obtain ⟨its, r, ⟨o, e, _, n, d⟩, _⟩ := I.tuple h
 obtain ⟨its', r', ⟨o', e', _, n', d'⟩, _⟩ := I.tuple h'
 rw [e] at e'; cases e'
 rw [d] at d'
 injection d' with d1 _
 have : its = its' := by simpa using congrArg Array.toList d1
 subst this
 exact r.inj r'
end
abbrev Cx.wish (X : Cx) (E : Value -> Shared -> Prop) : Cx := { X with xe := E }
abbrev Cx.nox (X : Cx) : Cx := X.wish fun _ _ => False
theorem Cx.Ok.wish {X : Cx} (ok : X.Ok) (E : Value -> Shared -> Prop) : (X.wish E).Ok :=
 ⟨ok.mod, ok.kind, ok.glob, ok.blt, ok.above, ok.inj, ok.has, ok.cab, ok.hd, ok.frames, ok.stk, ok.exf, ok.bs, ok.bsz, ok.noex, ok.exfs, ok.funs, ok.frf⟩
theorem Cx.Ok.unwish {X : Cx} {E : Value -> Shared -> Prop} (ok : (X.wish E).Ok) : X.Ok :=
 ⟨ok.mod, ok.kind, ok.glob, ok.blt, ok.above, ok.inj, ok.has, ok.cab, ok.hd, ok.frames, ok.stk, ok.exf, ok.bs, ok.bsz, ok.noex, ok.exfs, ok.funs, ok.frf⟩
section
variable {X : Cx} {pins : List (Addr × Obj)} {σ : St} {H : Hp} {s : Shared} {E : Value -> Shared -> Prop}
theorem Inv.wish (I : Inv X pins σ H s) (E : Value -> Shared -> Prop) : Inv (X.wish E) pins σ H s := ⟨I.ok.wish E, I.os, I.bare, I.base, I.loc, I.cell, I.free, I.freeC, I.pin, I.hok, I.len⟩
theorem Inv.unwish (I : Inv (X.wish E) pins σ H s) : Inv X pins σ H s := ⟨I.ok.unwish, I.os, I.bare, I.base, I.loc, I.cell, I.free, I.freeC, I.pin, I.hok, I.len⟩
theorem SP.unwish {D : Ends} {f : Flow} {s' : Shared} (h : SP (X.wish E) pins D f s') : SP X pins D f s' := by
 cases f with
 | next => obtain ⟨σ', H', I, q⟩ := h; exact ⟨σ', H', I.unwish, q⟩
 | brk => obtain ⟨σ', H', I, q⟩ := h; exact ⟨σ', H', I.unwish, q⟩
 | cont => obtain ⟨σ', H', I, q⟩ := h; exact ⟨σ', H', I.unwish, q⟩
 | ret u => obtain ⟨v, σ', H', I, r, q⟩ := h; exact ⟨v, σ', H', I.unwish, r, q⟩
theorem PSs.nox {st : List Stmt} {t : TS} (h : PSs X.nox st t) : PSs X st t := fun pins s σ H D I hw =>
 wpAny_mono (h pins s σ H D (I.wish _) hw) (fun _ _ q => q.unwish) fun _ _ z => False.elim z
end
section
variable {X : Cx} {st : Stmt} {rest : List Stmt} {t u : TS} {e : Expr} {te : TE} {pos : Pos}
def tNext : TS := fun D σ H => D.nx σ H
def tSeq (t u : TS) : TS := fun D σ H => t { D with nx := u D } σ H
theorem pss_nil : PSs X [] tNext := fun _ _ σ H _ I h => wpAny_execs_nil ⟨σ, H, I, h⟩
theorem pss_cons (h1 : PS X st t) (h2 : PSs X rest u) : PSs X (st :: rest) (tSeq t u) := by
 intro pins s σ H D I h
 refine wpAny_execs_cons (thn (h1 pins s σ H { D with nx := u D } I h) fun f s1 q => ?_)
 cases f with
 | next =>
  obtain ⟨σ', H', I', q⟩ := q
  exact h2 pins s1 σ' H' D I' q
 | ret v => exact q
 | brk => exact q
 | cont => exact q
theorem pss_one (h1 : PS X st t) : PSs X [st] t := by
 intro pins s σ H D I h
 refine wpAny_execs_cons (thn (h1 pins s σ H D I h) fun f s1 q => ?_)
 cases f with
 | next => exact wpAny_execs_nil q
 | ret v => exact q
 | brk => exact q
 | cont => exact q
theorem Inv.quiet {pins : List (Addr × Obj)} {σ : St} {H : Hp} {s : Shared} (I : Inv X pins σ H s) : interactive X.env = false := by simp [interactive, I.ok.kind]
def tDrop (te : TE) : TS := fun D σ H => te σ H fun _ H1 => D.nx σ H1
theorem ps_expr (he : PE X e te) (hs : swapsWith e none pos.line X.env = pure false := by rfl) : PS X (.Expr e pos) (tDrop te) := by
 intro pins s σ H D I h
 exact wpAny_Expr_any (thn (he pins s σ H _ I h) fun v s1 ⟨x, H1, I1, r1, q1⟩ => ⟨σ, H1, I1, q1⟩) I.quiet hs
def tRet (te : TE) : TS := fun D σ H => te σ H D.rt
theorem ps_ret (he : PE X e te) : PS X (.Return (some e) pos) (tRet te) := by
 intro pins s σ H D I h
 exact wpAny_Return_some (thn (he pins s σ H _ I h) fun v s1 ⟨x, H1, I1, r1, q1⟩ => ⟨x, σ, H1, I1, r1, q1⟩)
def tIfS (c : TT) (t u : TS) : TS := fun D σ H => c σ H fun b H1 => if b = true then t D σ H1 else u D σ H1
theorem ps_if {c : Expr} {a b : List Stmt} {tc : TT} (hc : PT X c tc) (ha : PSs X a t) (hb : PSs X b u) : PS X (.If c a b pos) (tIfS tc t u) := by
 intro pins s σ H D I h
 refine wpAny_If (thn (hc pins s σ H _ I h) fun d s1 ⟨H1, I1, q1⟩ => ?_)
 cases d with
 | true => exact ha pins s1 σ H1 D I1 q1
 | false => exact hb pins s1 σ H1 D I1 q1
end
abbrev TG := V -> St -> Hp -> (St -> Hp -> Prop) -> Prop
abbrev TGs := List V -> St -> Hp -> (St -> Hp -> Prop) -> Prop
def PG (X : Cx) (target : Expr) (t : TG) : Prop :=
 ∀ (pins : List (Addr × Obj)) (s : Shared) (σ : St) (H : Hp) (v : V) (u : Value) (Q : St -> Hp -> Prop), Inv X pins σ H s -> RelV v u -> t v σ H Q ->
  wpAny (model X.prog X.w) X.A (assign target X.env u) (fun _ s' => ∃ σ' H', Inv X pins σ' H' s' /\ Q σ' H') X.xe s
def PGs (X : Cx) (ts : List Expr) (t : TGs) : Prop :=
 ∀ (pins : List (Addr × Obj)) (s : Shared) (σ : St) (H : Hp) (vs : List V) (us : List Value) (Q : St -> Hp -> Prop), Inv X pins σ H s -> Vals vs us -> t vs σ H Q ->
  wpAny (model X.prog X.w) X.A (assignInOrder ((assignEach ts X.env).map (·.2)) us) (fun _ s' => ∃ σ' H', Inv X pins σ' H' s' /\ Q σ' H') X.xe s
abbrev TSet := V -> V -> V -> Hp -> (Hp -> Prop) -> Prop
def PSet (X : Cx) (t : TSet) : Prop :=
 ∀ (pins : List (Addr × Obj)) (s : Shared) (σ : St) (H : Hp) (o i v : V) (ov iv u : Value) (Q : Hp -> Prop), Inv X pins σ H s -> RelV o ov -> RelV i iv -> RelV v u -> t o i v H Q ->
  wpAny (model X.prog X.w) X.A (setItem ov iv u) (fun _ s' => ∃ H', Inv X pins σ H' s' /\ Q H') X.xe s
section
variable {X : Cx} {pos : Pos}
def gName (i : Nat) : TG := fun v σ H Q => Q (σ.set i (some v)) H
theorem pg_name {i : Nat} {x : Str} (hN : X.N.Nodup) (hi : X.N[i]? = some x) (hx : Loc X.env.scope x) (hf : X.fn x = true \/ X.env.scope.names.lookup x = some .local := by first | exact .inl rfl | exact .inr rfl | assumption) : PG X (.Name x pos) (gName i) := by
 intro pins s σ H v u Q I r h
 exact wpAny_assign_Name (store_ok I hN hi hx r (fun s' I' => ⟨_, H, I', h⟩) hf)
def gNil : TGs := fun vs σ H Q => vs = [] /\ Q σ H
def gCons (t : TG) (u : TGs) : TGs := fun vs σ H Q => ∃ v r, vs = v :: r /\ t v σ H fun σ' H' => u r σ' H' Q
theorem pgs_nil : PGs X [] gNil := by
 intro pins s σ H vs us Q I r h
 obtain ⟨e, h⟩ := h
 subst e
 cases r
 exact assignInOrder_nil ⟨σ, H, I, h⟩
theorem pgs_cons {e : Expr} {es : List Expr} {t : TG} {u : TGs} (h1 : PG X e t) (h2 : PGs X es u)
  (hs : (assignEach (e :: es) X.env).map (·.2) = assign e X.env :: (assignEach es X.env).map (·.2) := by rfl) : PGs X (e :: es) (gCons t u) := by
 intro pins s σ H vs us Q I r h
 obtain ⟨v, vr, e1, h⟩ := h
 subst e1
 cases r with
 | cons r rr =>
  rw [hs]
  refine assignInOrder_cons (thn (h1 pins s σ H _ _ _ I r h) fun _ s1 ⟨σ1, H1, I1, q1⟩ => ?_)
  exact h2 pins s1 σ1 H1 _ _ Q I1 rr q1
def gTup (K : PySem.W.Frag) (n : Nat) (t : TGs) : TG := fun v σ H Q => ∃ a xs, v = .ref a /\ SqT K H a xs /\ xs.length = n /\ t xs σ H Q
theorem pg_tup {es : List Expr} {k : Nat} {t : TGs} {n : Nat} (hc : X.calm = true) (h : PGs X es t)
  (hn : (assignEach es X.env).length = n := by rfl) (hst : (assignEach es X.env).findIdx? (·.1) = none := by rfl) : PG X (.Tuple es k pos) (gTup X.K n t) := by
 intro pins s σ H v u Q I r hw
 obtain ⟨a, xs, e1, hq, hl, hw⟩ := hw
 subst e1
 cases r
 obtain ⟨its, rv, ht, hz⟩ := I.tuple hq
 refine assign_Tuple_tuple (I.ok.hd hc) ht (by simp [hn, ← hl, rv.length]) hst fun h' hx => ?_
 have I1 : Inv X pins σ H { s with heap := h' } := I.kept (t' := s.toks) fun b o e => hx b o (Nat.ne_of_lt (Heap.lt_size e)) e
 exact h pins _ σ H xs _ Q I1 (by simpa using rv) hw
def gSub (to ti : TE) (t : TSet) : TG := fun v σ H Q => to σ H fun o H1 => ti σ H1 fun i H2 => t o i v H2 fun H3 => Q σ H3
theorem pg_sub {o i : Expr} {to ti : TE} {t : TSet} (ho : PE X o to) (hi : PE X i ti) (hs : PSet X t)
  (ha : ∀ v, assign (.Subscript o i pos) X.env v = (do
   let ov ← holding [v] (eval o X.env)
   let iv ← holding [v, ov] (eval i X.env)
   standAt pos
   holding [v, ov, iv] (setItem ov iv v)
   release [v, ov, iv] []) := by intro _; rfl) : PG X (.Subscript o i pos) (gSub to ti t) := by
 intro pins s σ H v u Q I r h
 rw [ha]
 refine wpAny_bind (wpAny_holding (thn (ho pins s σ H _ I h) fun ov s1 ⟨x, H1, I1, r1, q1⟩ => ?_))
 refine wpAny_bind (wpAny_holding (thn (hi pins s1 σ H1 _ I1 q1) fun iv s2 ⟨y, H2, I2, r2, q2⟩ => ?_))
 refine wpAny_bind (wpAny_standAt (wpAny_bind (wpAny_holding (thn (hs pins s2 σ H2 x y v ov iv u _ I2 r1 r2 r q2) fun _ s3 ⟨H3, I3, q3⟩ => ?_))))
 exact wpAny_release ⟨σ, H3, I3, q3⟩
def tAsg (te : TE) (g : TG) : TS := fun D σ H => te σ H fun x H1 => g x σ H1 D.nx
theorem ps_asg {tg e : Expr} {te : TE} {g : TG} (he : PE X e te) (hg : PG X tg g) (hs : swapsWithSole [tg] e pos.line X.env = pure false := by rfl) (hw : swappedStores [tg] e X.env = pure none := by rfl)
  (h1 : (assignEach [tg] X.env).map (·.2) = [assign tg X.env] := by rfl) : PS X (.Assign [tg] e pos) (tAsg te g) := by
 intro pins s σ H D I h
 refine wpAny_Assign_stores (thn (he pins s σ H _ I h) fun v s1 ⟨x, H1, I1, r1, q1⟩ => ?_) hs hw
 rw [h1]
 exact thn (hg pins s1 σ H1 x v _ I1 r1 q1) fun _ s2 q => q
theorem ps_set {i : Nat} {x : Str} {e : Expr} {te : TE} {pos' : Pos} (hN : X.N.Nodup) (hi : X.N[i]? = some x) (hx : Loc X.env.scope x) (he : PE X e te) (hs : swapsWith e (some (.Name x pos')) pos.line X.env = pure false := by rfl) (hf : X.fn x = true \/ X.env.scope.names.lookup x = some .local := by first | exact .inl rfl | exact .inr rfl | assumption) :
  PS X (.Assign [.Name x pos'] e pos) (tAsg te (gName i)) := by
 intro pins s σ H D I h
 refine wpAny_Assign_Name (thn (he pins s σ H _ I h) fun v s1 ⟨y, H1, I1, r1, q1⟩ => ?_) hs
 exact store_ok I1 hN hi hx r1 (fun s2 I2 => ⟨_, H1, I2, q1⟩) hf
end
section
variable {X : Cx} {pos : Pos}
end
structure It where
 go : Nat -> Hp -> Prop
 yld : Nat -> Hp -> V -> Hp -> Prop
 stop : Nat -> Hp -> Prop
def FpOk (X : Cx) (pins : List (Addr × Obj)) (H : Hp) (b : Addr) : Prop :=
 H b = none /\ b ≠ X.env.locals /\ b ∉ X.fs /\ (b ∈ X.ex \/ X.s₀.heap.objs.size <= b) /\ (∀ x c, X.env.cells.lookup x = some c -> c ≠ b) /\ ∀ p ∈ X.pn ++ pins, p.1 ≠ b
theorem Inv.fpOk {X : Cx} {pins : List (Addr × Obj)} {σ : St} {H H' : Hp} {s : Shared} {b : Addr} (I : Inv X pins σ H s) (hb : s.heap.objs.size <= b) (hn : H' b = none) : FpOk X pins H' b := by
 refine ⟨hn, Nat.ne_of_gt (Nat.lt_of_lt_of_le I.lt hb), I.nofs hb, .inr (Nat.le_trans I.sz hb), fun x c e z => ?_, fun p hp z => ?_⟩
 · obtain ⟨v, q⟩ := I.cell x c e
   exact absurd (Nat.lt_of_lt_of_le q.lt (by rw [z]; exact hb)) (Nat.lt_irrefl _)
 · exact absurd (Nat.lt_of_lt_of_le (Heap.lt_size (I.pin p hp).1) (by rw [z]; exact hb)) (Nat.lt_irrefl _)
structure Turn (P : Program) (w : World) (K : PySem.W.Frag) (tg : Expr) (J : It) (fp : List Addr) (it : Addr) (tn : Nat -> Heap -> Prop) : Prop where
 mem : it ∈ fp
 obj : ∀ i h, tn i h -> ∀ b ∈ fp, ∃ o, h.get? b = some o /\ ∀ v, o.data ≠ .cell v
 keep : ∀ i h h', tn i h -> (∀ b ∈ fp, ∀ o, h.get? b = some o -> h'.get? b = some o) -> tn i h'
 item : ∀ (X : Cx), X.prog = P -> X.w = w -> X.K = K -> X.calm = true -> ∀ (i : Nat) (pins : List (Addr × Obj)) (s : Shared) (σ : St) (H : Hp) (E : Value -> Shared -> Prop), Inv X pins σ H s -> (∀ b ∈ fp, FpOk X pins H b) -> tn i s.heap -> J.go i H ->
  wpAny (model P w) X.A (pyNext (.ref it)) (fun r s1 => ∃ u, r = some u /\
   wpAny (model P w) X.A (letOwnedTupleGo tg (.ref it) u) (fun _ s2 => ∃ x H', Inv X pins σ H' s2 /\ RelV x u /\ J.yld i H x H' /\ tn (i + 1) s2.heap /\ ∀ b ∈ fp, H' b = none) E s1) E s
 done : ∀ (X : Cx), X.prog = P -> X.w = w -> X.K = K -> X.calm = true -> ∀ (i : Nat) (pins : List (Addr × Obj)) (s : Shared) (σ : St) (H : Hp) (E : Value -> Shared -> Prop), Inv X pins σ H s -> (∀ b ∈ fp, FpOk X pins H b) -> tn i s.heap -> J.stop i H ->
  wpAny (model P w) X.A (pyNext (.ref it)) (fun r s1 => r = none /\ Inv X pins σ H s1) E s
 self : ∀ (A : Around) (i : Nat) (s : Shared) (Q : Value -> Shared -> Prop) (E : Value -> Shared -> Prop), tn i s.heap -> Q (.ref it) s -> wpAny (model P w) A (pyIter (.ref it)) Q E s
abbrev TI := St -> Hp -> (It -> Hp -> Prop) -> Prop
def PIE (X : Cx) (pins : List (Addr × Obj)) (σ : St) (tg : Expr) (R : It -> Hp -> Prop) (itv : Value) (s2 : Shared) : Prop :=
 ∃ (it : Addr) (fp : List Addr) (tn : Nat -> Heap -> Prop) (J : It) (H' : Hp), itv = .ref it /\ Inv X pins σ H' s2 /\ Turn X.prog X.w X.K tg J fp it tn /\ tn 0 s2.heap /\ (∀ b ∈ fp, FpOk X pins H' b) /\ R J H'
def PI (X : Cx) (tg iter : Expr) (wi : TI) : Prop :=
 ∀ (pins : List (Addr × Obj)) (s : Shared) (σ : St) (H : Hp) (R : It -> Hp -> Prop), Inv X pins σ H s -> wi σ H R ->
  wpAny (model X.prog X.w) X.A (eval iter X.env) (fun v s1 => wpAny (model X.prog X.w) X.A (pyIter v) (PIE X pins σ tg R) X.xe s1) X.xe s
theorem go_of {M : Model} {A : Around} {E : Value -> Shared -> Prop} {s : Shared} {tg : Expr} {it : Addr} {u : Value} {o : Obj} {n : String} {vs : Array Value} {Q : Unit -> Shared -> Prop} (ho : s.heap.get? it = some o) (hc : o.cls = .type n) (hd : o.data = .fields vs)
  (hn : ["enumerate", "zip", "dict_itemiterator", "dict_reverseitemiterator", "odict_iterator", "itertools.zip_longest", "itertools.pairwise"].contains n = false) (hQ : Q () s) : wpAny M A (letOwnedTupleGo tg (.ref it) u) Q E s := by
 unfold letOwnedTupleGo
 cases tg <;> first
  | exact wpAny_pure hQ
  | (cases u <;> first
    | exact wpAny_pure hQ
    | (refine wpAny_bind (wpAny_load ho ?_)
       rw [hc, hd]
       show wpAny M A (if (["enumerate", "zip", "dict_itemiterator", "dict_reverseitemiterator", "odict_iterator", "itertools.zip_longest", "itertools.pairwise"].contains n && vs[0]? == some (rawInt _)) = true then _ else _) Q E s
       rw [if_neg (by intro h; rw [hn, Bool.false_and] at h; cases h)]
       exact wpAny_pure hQ))
def Itl (K : PySem.W.Frag) (a : Addr) : It :=
 ⟨fun i H => ∃ xs x, SqL K H a xs /\ xs[i]? = some x, fun i H x H' => H' = H /\ ∀ xs, SqL K H a xs -> xs[i]? = some x, fun i H => ∃ xs, SqL K H a xs /\ xs.length <= i⟩
def Itt (K : PySem.W.Frag) (a : Addr) : It :=
 ⟨fun i H => ∃ xs x, SqT K H a xs /\ xs[i]? = some x, fun i H x H' => H' = H /\ ∀ xs, SqT K H a xs -> xs[i]? = some x, fun i H => ∃ xs, SqT K H a xs /\ xs.length <= i⟩
def Itr (lo : Int) (n : Nat) : It := ⟨fun i _ => i < n, fun i H x H' => H' = H /\ x = .int (lo + i), fun i _ => n <= i⟩
theorem turn_list {P : Program} {w : World} {K : PySem.W.Frag} {tg : Expr} (a it : Addr) : Turn P w K tg (Itl K a) [it] it (fun i h => h.IsListIter it a i) where
 mem := by simp
 obj := fun i h st b hb => by
  have e : b = it := by simpa using hb
  subst e
  obtain ⟨o, e, c, d⟩ := st
  exact ⟨o, e, fun v z => by rw [d] at z; cases z⟩
 keep := fun i h h' st k => st.at fun o e => k it (by simp) o e
 item := by
  intro X hP hw hK hc i pins s σ H E I hf st hg
  subst hP hw hK
  obtain ⟨xs, x, hq, hx⟩ := hg
  obtain ⟨its, rv, p, hz⟩ := I.list hq
  obtain ⟨u, hu, ru⟩ := rv.get hx
  obtain ⟨f0, f1, f2, f3, f4, f5⟩ := hf it (by simp)
  refine wpAny_pyNext_list_item st p.isList (x := u) (by simpa using hu) fun h' st' sb => ?_
  have I1 : Inv X pins σ H { s with heap := h' } := I.turned (t' := s.toks) (fun b o hb e => (sb.2 b hb).trans e) f0 f1 f3 f4 f5
  obtain ⟨o, e, c, d⟩ := id st'
  exact ⟨u, rfl, go_of (s := { s with heap := h' }) e c d (by decide) ⟨x, H, I1, ru, ⟨rfl, fun ys hy => by rw [I.list_inj hy hq]; exact hx⟩, st', fun b hb => (hf b hb).1⟩⟩
 done := by
  intro X hP hw hK hc i pins s σ H E I hf st hg
  subst hP hw hK
  obtain ⟨xs, hq, hx⟩ := hg
  obtain ⟨its, rv, p, hz⟩ := I.list hq
  obtain ⟨f0, f1, f2, f3, f4, f5⟩ := hf it (by simp)
  have hl := rv.length
  exact wpAny_pyNext_list_end (I.ok.hd hc) st p.isList (by simp; omega) fun h' eb => ⟨rfl, I.turned (t' := s.toks) (fun b o hb e => eb b o hb e) f0 f1 f3 f4 f5⟩
 self := fun _ _ _ _ _ st h => wpAny_pyIter_listiter st h
theorem turn_tuple {P : Program} {w : World} {K : PySem.W.Frag} {tg : Expr} (a it : Addr) : Turn P w K tg (Itt K a) [it] it (fun i h => h.IsTupleIter it a i) where
 mem := by simp
 obj := fun i h st b hb => by
  have e : b = it := by simpa using hb
  subst e
  obtain ⟨o, e, c, d⟩ := st
  exact ⟨o, e, fun v z => by rw [d] at z; cases z⟩
 keep := fun i h h' st k => st.at fun o e => k it (by simp) o e
 item := by
  intro X hP hw hK hc i pins s σ H E I hf st hg
  subst hP hw hK
  obtain ⟨xs, x, hq, hx⟩ := hg
  obtain ⟨its, rv, p, hz⟩ := I.tuple hq
  obtain ⟨u, hu, ru⟩ := rv.get hx
  obtain ⟨f0, f1, f2, f3, f4, f5⟩ := hf it (by simp)
  refine wpAny_pyNext_tuple_item st (show s.heap.IsTuple a its.toArray from p) (x := u) (by simpa using hu) fun h' st' sb => ?_
  have I1 : Inv X pins σ H { s with heap := h' } := I.turned (t' := s.toks) (fun b o hb e => (sb.2 b hb).trans e) f0 f1 f3 f4 f5
  obtain ⟨o, e, c, d⟩ := id st'
  exact ⟨u, rfl, go_of (s := { s with heap := h' }) e c d (by decide) ⟨x, H, I1, ru, ⟨rfl, fun ys hy => by rw [I.tuple_inj hy hq]; exact hx⟩, st', fun b hb => (hf b hb).1⟩⟩
 done := by
  intro X hP hw hK hc i pins s σ H E I hf st hg
  subst hP hw hK
  obtain ⟨xs, hq, hx⟩ := hg
  obtain ⟨its, rv, p, hz⟩ := I.tuple hq
  obtain ⟨f0, f1, f2, f3, f4, f5⟩ := hf it (by simp)
  have hl := rv.length
  exact wpAny_pyNext_tuple_end (I.ok.hd hc) st (show s.heap.IsTuple a its.toArray from p) (by simp; omega) fun h' eb => ⟨rfl, I.turned (t' := s.toks) (fun b o hb e => eb b o hb e) f0 f1 f3 f4 f5⟩
 self := fun _ _ _ _ _ st h => wpAny_pyIter_tupleiter st h
theorem turn_range {P : Program} {w : World} {K : PySem.W.Frag} {tg : Expr} (it : Addr) (lo : Int) (n : Nat) : Turn P w K tg (Itr lo n) [it] it (fun i h => IsRangeIter h it (lo + (i : Nat) * 1) ((n : Int) - (i : Nat)) 1) where
 mem := by simp
 obj := fun i h st b hb => by
  have e : b = it := by simpa using hb
  subst e
  exact ⟨_, st, fun v z => by
   have z' : Data.fields _ = Data.cell v := z
   cases z'⟩
 keep := fun i h h' st k => k it (by simp) _ st
 item := by
  intro X hP hw hK hc i pins s σ H E I hf st hg
  subst hP hw hK
  obtain ⟨f0, f1, f2, f3, f4, f5⟩ := hf it (by simp)
  have W := Walks.range (prog := X.prog) (w := X.w) (I.ok.hd hc) it lo 1 n
  refine W.item i s _ _ hg st fun v h' tk hv st' kk => ?_
  obtain ⟨t, rfl⟩ := hv
  have I1 : Inv X pins σ H { s with heap := h', toks := tk } := I.turned (fun b o hb e => kk b o (by simpa using hb) e) f0 f1 f3 f4 f5
  refine ⟨_, rfl, go_of (s := { s with heap := h', toks := tk }) (n := "range_iterator") st' rfl rfl (by decide) ⟨.int (lo + i), H, I1, ⟨t, ?_⟩, ⟨rfl, rfl⟩, st', fun b hb => (hf b hb).1⟩⟩
  rw [Int.mul_one]
 done := by
  intro X hP hw hK hc i pins s σ H E I hf st hg
  subst hP hw hK
  obtain ⟨f0, f1, f2, f3, f4, f5⟩ := hf it (by simp)
  exact wpAny_pyNext_range_end (I.ok.hd hc) st (by have : n <= i := hg; omega) fun h' eb => ⟨rfl, I.turned (t' := s.toks) (fun b o hb e => eb b o hb e) f0 f1 f3 f4 f5⟩
 self := fun _ _ _ _ _ st h => wpAny_pyIter_rangeiter st h
end L2
namespace L2
open PySem PySem.Spec PyProof.Rows
section
variable {X : Cx} {tg : Expr}
def iList (K : PySem.W.Frag) (tl : TE) : TI := fun σ H R => tl σ H fun x H1 => ∃ a, x = .ref a /\ (∃ xs, SqL K H1 a xs) /\ R (Itl K a) H1
def iTup (K : PySem.W.Frag) (tl : TE) : TI := fun σ H R => tl σ H fun x H1 => ∃ a, x = .ref a /\ (∃ xs, SqT K H1 a xs) /\ R (Itt K a) H1
theorem pi_list {l : Expr} {tl : TE} (hl : PE X l tl) : PI X tg l (iList X.K tl) := by
 intro pins s σ H R I h
 refine thn (hl pins s σ H _ I h) fun v s1 ⟨x, H1, I1, r1, q1⟩ => ?_
 obtain ⟨a, e, ⟨xs, hq⟩, q⟩ := q1
 subst e
 cases r1
 obtain ⟨its, rv, p, hz⟩ := I1.list hq
 refine wpAny_pyIter_list p.isList ?_
 refine ⟨s1.heap.objs.size, [s1.heap.objs.size], _, _, H1, rfl, I1.kept (t' := s1.toks) fun b o e => Heap.get?_push_of_some _ e, turn_list a _, ⟨_, Heap.get?_push_size _ rfl, rfl, rfl⟩, fun b hb => ?_, q⟩
 have e : b = s1.heap.objs.size := by simpa using hb
 subst e
 exact I1.fpOk (Nat.le_refl _) (I1.hok.fresh (Nat.le_refl _))
theorem pi_tup {l : Expr} {tl : TE} (hl : PE X l tl) : PI X tg l (iTup X.K tl) := by
 intro pins s σ H R I h
 refine thn (hl pins s σ H _ I h) fun v s1 ⟨x, H1, I1, r1, q1⟩ => ?_
 obtain ⟨a, e, ⟨xs, hq⟩, q⟩ := q1
 subst e
 cases r1
 obtain ⟨its, rv, p, hz⟩ := I1.tuple hq
 refine wpAny_pyIter_tuple (show s1.heap.IsTuple a its.toArray from p) ?_
 refine ⟨s1.heap.objs.size, [s1.heap.objs.size], _, _, H1, rfl, I1.kept (t' := s1.toks) fun b o e => Heap.get?_push_of_some _ e, turn_tuple a _, ⟨_, Heap.get?_push_size _ rfl, rfl, rfl⟩, fun b hb => ?_, q⟩
 have e : b = s1.heap.objs.size := by simpa using hb
 subst e
 exact I1.fpOk (Nat.le_refl _) (I1.hok.fresh (Nat.le_refl _))
theorem range_it {pins : List (Addr × Obj)} {σ : St} {H : Hp} {s : Shared} {R : It -> Hp -> Prop} {E : Value -> Shared -> Prop} {lo hi : Int} {t u v : Tok} {tk : Nat} (I : Inv X pins σ H s) (h1 : -(2 ^ 62) <= lo) (h2 : lo < 2 ^ 62) (h3 : -(2 ^ 62) <= hi) (h4 : hi < 2 ^ 62)
  (q : R (Itr lo (hi - lo).toNat) H) : wpAny (model X.prog X.w) X.A (pyIter (.ref s.heap.objs.size)) (PIE X pins σ tg R) E { s with heap := s.heap.push { cls := .type "range", data := .fields #[.int lo t, .int hi u, .int 1 v] }, toks := tk } := by
 refine wpAny_pyIter_range (IsRange.new ..) (small_one h1 h2 h3 h4) ?_
 have I1 : Inv X pins σ H { s with heap := s.heap.push { cls := .type "range", data := .fields #[.int lo t, .int hi u, .int 1 v] }, toks := tk } := I.kept fun b o e => Heap.get?_push_of_some _ e
 refine ⟨(s.heap.push { cls := .type "range", data := .fields #[.int lo t, .int hi u, .int 1 v] }).objs.size, [(s.heap.push { cls := .type "range", data := .fields #[.int lo t, .int hi u, .int 1 v] }).objs.size], _, _, H, rfl,
  I1.kept (t' := tk) fun b o e => Heap.get?_push_of_some _ e, turn_range _ lo (hi - lo).toNat, ?_, fun b hb => ?_, q⟩
 · have e1 : lo + ((0 : Nat) : Int) * 1 = lo := by simp
   have e2 : (((hi - lo).toNat : Nat) : Int) - ((0 : Nat) : Int) = Builtin.Range.rangeSize lo hi 1 := by rw [rangeSize_one]; split <;> omega
   show IsRangeIter _ _ (lo + ((0 : Nat) : Int) * 1) ((((hi - lo).toNat : Nat) : Int) - ((0 : Nat) : Int)) 1
   rw [e1, e2]
   exact Heap.get?_push_size _ rfl
 · have e : b = (s.heap.push { cls := .type "range", data := .fields #[.int lo t, .int hi u, .int 1 v] }).objs.size := by simpa using hb
   subst e
   exact I1.fpOk (Nat.le_refl _) (I1.hok.fresh (Nat.le_refl _))
def iRng1 (ta : TA) : TI := fun σ H R => ta σ H fun vs H1 => ∃ j : Int, vs = [.int j] /\ -(2 ^ 62) <= j /\ j < 2 ^ 62 /\ R (Itr 0 j.toNat) H1
theorem pi_range1 {a : Expr} {ta : TA} {p pos : Pos} (hg : Gl X "range") (hm : X.mg "range" = none) (ha : PA X [a] ta) (hs : starEach [a] X.env = [(false, eval a X.env)] := by rfl) : PI X tg (.Call (.Name "range" p) [a] [] pos) (iRng1 ta) := by
 intro pins s σ H R I h
 refine Call_ (ld_blt I hg hm boot_range (PyProof.Rows.callWith_type1 (thn (ha pos pins s σ H _ I h) fun us s1 ⟨vs, H1, I1, r1, q1⟩ => ?_) hs rfl))
 obtain ⟨j, e, q1, q2, q⟩ := q1
 subst e
 cases r1 with
 | cons r rr =>
  cases rr
  obtain ⟨t, rfl⟩ := r
  exact call_range_1 (range_it I1 (by omega) (by omega) q1 q2 (by simpa using q))
def tFor (wi : TI) (g : TG) (tb : TS) : TS := fun D σ H => wi σ H fun J H1 => ∃ W : Nat -> Nat -> St -> Hp -> Prop, (∃ m, W 0 m σ H1) /\ ∀ i m σ H, W i m σ H ->
 (J.stop i H /\ D.nx σ H) \/ (J.go i H /\ ∃ N : St -> Hp -> Prop, (∀ σ' H', N σ' H' -> ∃ m', m' < m /\ W (i + 1) m' σ' H') /\ ∀ x H', J.yld i H x H' -> g x σ H' fun σ2 H2 => tb { D with nx := N, ct := N, bk := D.nx } σ2 H2)
def pinsAt (fp : List Addr) (h : Heap) : List (Addr × Obj) := fp.filterMap fun b => (h.get? b).map fun o => (b, o)
theorem mem_pinsAt {fp : List Addr} {h : Heap} {b : Addr} {o : Obj} (hb : b ∈ fp) (e : h.get? b = some o) : (b, o) ∈ pinsAt fp h := List.mem_filterMap.mpr ⟨b, hb, by rw [e]; rfl⟩
theorem of_pinsAt {fp : List Addr} {h : Heap} {p : Addr × Obj} (hp : p ∈ pinsAt fp h) : p.1 ∈ fp /\ h.get? p.1 = some p.2 := by
 obtain ⟨b, hb, e⟩ := List.mem_filterMap.mp hp
 cases q : h.get? b with
 | none => rw [q] at e; cases e
 | some o =>
  rw [q] at e
  have e' : (b, o) = p := Option.some.inj e
  subst e'
  exact ⟨hb, q⟩
theorem Inv.pinned {pins : List (Addr × Obj)} {σ : St} {H : Hp} {s : Shared} {fp : List Addr} (I : Inv X pins σ H s) (hf : ∀ b ∈ fp, FpOk X pins H b) (ho : ∀ b ∈ fp, ∃ o, s.heap.get? b = some o /\ ∀ v, o.data ≠ .cell v) : Inv X (pins ++ pinsAt fp s.heap) σ H s :=
 I.pins_of fun p hp => (List.mem_append.mp hp).elim (fun z => I.pin p (List.mem_append_right _ z)) fun z => by
  obtain ⟨hb, e⟩ := of_pinsAt z
  obtain ⟨f0, f1, f2, _⟩ := hf p.1 hb
  obtain ⟨o, e', d⟩ := ho p.1 hb
  rw [e] at e'; cases e'
  exact ⟨e, f0, f1, f2, d⟩
theorem Inv.unpinned {pins pl : List (Addr × Obj)} {σ : St} {H : Hp} {s : Shared} (I : Inv X (pins ++ pl) σ H s) : Inv X pins σ H s := I.pins_of fun p hp => I.pin p (List.mem_append_right _ (List.mem_append_left _ hp))
theorem ps_for {iter : Expr} {body : List Stmt} {wi : TI} {g : TG} {tb : TS} {pos : Pos} (hp : PassesOwn (model X.prog X.w) X.A X.env X.xe) (hc : X.calm = true) (hi : PI X tg iter wi) (hg : PG X tg g) (hb : PSs X body tb)
  (hs : ∀ x, foldedSetIterable iter X.env x = pure x := by intro _; rfl) : PS X (.For tg iter body [] pos) (tFor wi g tb) := by
 intro pins s σ H D I h
 refine wpAny_For (thn (hi pins s σ H _ I h) fun v s1 h1 => thn h1 fun itv s2 h2 => ?_) hs
 obtain ⟨it, fp, tn, J, H2, e, I2, T, st2, f2, W, ⟨m0, w0⟩, turn⟩ := h2
 subst e
 -- what stays true of the iterator's objects through the loop
 have stat : ∀ {H' : Hp}, (∀ b ∈ fp, H' b = none) -> ∀ b ∈ fp, FpOk X pins H' b := fun hn b hb => ⟨hn b hb, (f2 b hb).2⟩
 refine codeAny_forLoop_any (fun n s' => ∃ i σ' H', Inv X pins σ' H' s' /\ tn i s'.heap /\ (∀ b ∈ fp, H' b = none) /\ W i n σ' H') ?_ m0 ⟨0, σ, H2, I2, st2, fun b hb => (f2 b hb).1, w0⟩
 rintro n s3 ⟨i, σ3, H3, I3, st3, fr3, w3⟩
 rcases turn i n σ3 H3 w3 with ⟨stop, qn⟩ | ⟨go, N, hN, step⟩
 · refine wpAny_passesOwn hp (thn (T.done X rfl rfl rfl hc i pins s3 σ3 H3 X.xe I3 (stat fr3) st3 stop) fun r s4 ⟨hr, I4⟩ => ?_)
   subst hr
   exact wpAny_execs_nil ⟨σ3, H3, I4, qn⟩
 · refine wpAny_passesOwn hp (thn (T.item X rfl rfl rfl hc i pins s3 σ3 H3 X.xe I3 (stat fr3) st3 go) fun r s4 ⟨u, hr, h4⟩ => ?_)
   subst hr
   refine wpAny_passesOwn hp (thn h4 fun _ s5 ⟨x, H5, I5, r5, y5, st5, fr5⟩ => ?_)
   have I5' := I5.pinned (stat fr5) (T.obj _ _ st5)
   refine wpAny_passesOwn hp (thn (hg _ s5 σ3 H5 x u _ I5' r5 (step x H5 y5)) fun _ s6 ⟨σ6, H6, I6, q6⟩ => ?_)
   refine wpAny_passesOwn hp (thn (hb _ s6 σ6 H6 _ I6 q6) fun f s7 q7 => ?_)
   have again : ∀ {σ7 : St} {H7 : Hp}, Inv X (pins ++ pinsAt fp s5.heap) σ7 H7 s7 -> N σ7 H7 -> ∃ m, m < n /\ ∃ i σ' H', Inv X pins σ' H' s7 /\ tn i s7.heap /\ (∀ b ∈ fp, H' b = none) /\ W i m σ' H' := fun {σ7 H7} I7 n7 => by
    obtain ⟨m', hm, w7⟩ := hN σ7 H7 n7
    refine ⟨m', hm, i + 1, σ7, H7, I7.unpinned, T.keep _ _ _ st5 fun b hb o e => (I7.pin (b, o) (List.mem_append_right _ (List.mem_append_right _ (mem_pinsAt hb e)))).1, fun b hb => ?_, w7⟩
    obtain ⟨o, e, d⟩ := T.obj _ _ st5 b hb
    exact (I7.pin (b, o) (List.mem_append_right _ (List.mem_append_right _ (mem_pinsAt hb e)))).2.1
   cases f with
   | next => obtain ⟨σ7, H7, I7, n7⟩ := q7; exact again I7 n7
   | cont => obtain ⟨σ7, H7, I7, n7⟩ := q7; exact again I7 n7
   | brk => obtain ⟨σ7, H7, I7, q7⟩ := q7; exact ⟨σ7, H7, I7.unpinned, q7⟩
   | ret v => obtain ⟨x7, σ7, H7, I7, r7, q7⟩ := q7; exact ⟨x7, σ7, H7, I7.unpinned, r7, q7⟩
end
theorem for_list {K : PySem.W.Frag} {a : Addr} {xs : List V} {g : TG} {tb : TS} {D : Ends} {σ : St} {H : Hp} (Pv : Nat -> St -> Hp -> Prop) (h0 : Pv 0 σ H) (hl : ∀ i σ H, i <= xs.length -> Pv i σ H -> SqL K H a xs)
  (hs : ∀ i x σ H, xs[i]? = some x -> Pv i σ H -> g x σ H fun σ2 H2 => tb { D with nx := Pv (i + 1), ct := Pv (i + 1), bk := D.nx } σ2 H2) (hd : ∀ σ H, Pv xs.length σ H -> D.nx σ H) :
  ∃ W : Nat -> Nat -> St -> Hp -> Prop, (∃ m, W 0 m σ H) /\ ∀ i m σ H, W i m σ H ->
   ((Itl K a).stop i H /\ D.nx σ H) \/ ((Itl K a).go i H /\ ∃ N : St -> Hp -> Prop, (∀ σ' H', N σ' H' -> ∃ m', m' < m /\ W (i + 1) m' σ' H') /\ ∀ x H', (Itl K a).yld i H x H' -> g x σ H' fun σ2 H2 => tb { D with nx := N, ct := N, bk := D.nx } σ2 H2) := by
 refine ⟨fun i m σ H => m = xs.length - i /\ i <= xs.length /\ Pv i σ H, ⟨xs.length, by simp, Nat.zero_le _, h0⟩, ?_⟩
 rintro i m σ H ⟨rfl, hi, p⟩
 have q := hl i σ H hi p
 by_cases hlt : i < xs.length
 · refine .inr ⟨⟨xs, xs[i], q, by simp [hlt]⟩, Pv (i + 1), fun σ' H' p' => ⟨xs.length - (i + 1), by omega, rfl, hlt, p'⟩, fun x H' y => ?_⟩
   obtain ⟨e, y⟩ := y
   subst e
   exact hs i x σ _ (y xs q) p
 · have e : i = xs.length := by omega
   subst e
   exact .inl ⟨⟨xs, q, Nat.le_refl _⟩, hd σ H p⟩
theorem for_tup {K : PySem.W.Frag} {a : Addr} {xs : List V} {g : TG} {tb : TS} {D : Ends} {σ : St} {H : Hp} (Pv : Nat -> St -> Hp -> Prop) (h0 : Pv 0 σ H) (hl : ∀ i σ H, i <= xs.length -> Pv i σ H -> SqT K H a xs)
  (hs : ∀ i x σ H, xs[i]? = some x -> Pv i σ H -> g x σ H fun σ2 H2 => tb { D with nx := Pv (i + 1), ct := Pv (i + 1), bk := D.nx } σ2 H2) (hd : ∀ σ H, Pv xs.length σ H -> D.nx σ H) :
  ∃ W : Nat -> Nat -> St -> Hp -> Prop, (∃ m, W 0 m σ H) /\ ∀ i m σ H, W i m σ H ->
   ((Itt K a).stop i H /\ D.nx σ H) \/ ((Itt K a).go i H /\ ∃ N : St -> Hp -> Prop, (∀ σ' H', N σ' H' -> ∃ m', m' < m /\ W (i + 1) m' σ' H') /\ ∀ x H', (Itt K a).yld i H x H' -> g x σ H' fun σ2 H2 => tb { D with nx := N, ct := N, bk := D.nx } σ2 H2) := by
 refine ⟨fun i m σ H => m = xs.length - i /\ i <= xs.length /\ Pv i σ H, ⟨xs.length, by simp, Nat.zero_le _, h0⟩, ?_⟩
 rintro i m σ H ⟨rfl, hi, p⟩
 have q := hl i σ H hi p
 by_cases hlt : i < xs.length
 · refine .inr ⟨⟨xs, xs[i], q, by simp [hlt]⟩, Pv (i + 1), fun σ' H' p' => ⟨xs.length - (i + 1), by omega, rfl, hlt, p'⟩, fun x H' y => ?_⟩
   obtain ⟨e, y⟩ := y
   subst e
   exact hs i x σ _ (y xs q) p
 · have e : i = xs.length := by omega
   subst e
   exact .inl ⟨⟨xs, q, Nat.le_refl _⟩, hd σ H p⟩
theorem for_range {lo : Int} {n : Nat} {g : TG} {tb : TS} {D : Ends} {σ : St} {H : Hp} (Pv : Nat -> St -> Hp -> Prop) (h0 : Pv 0 σ H)
  (hs : ∀ i σ H, i < n -> Pv i σ H -> g (.int (lo + i)) σ H fun σ2 H2 => tb { D with nx := Pv (i + 1), ct := Pv (i + 1), bk := D.nx } σ2 H2) (hd : ∀ σ H, Pv n σ H -> D.nx σ H) :
  ∃ W : Nat -> Nat -> St -> Hp -> Prop, (∃ m, W 0 m σ H) /\ ∀ i m σ H, W i m σ H ->
   ((Itr lo n).stop i H /\ D.nx σ H) \/ ((Itr lo n).go i H /\ ∃ N : St -> Hp -> Prop, (∀ σ' H', N σ' H' -> ∃ m', m' < m /\ W (i + 1) m' σ' H') /\ ∀ x H', (Itr lo n).yld i H x H' -> g x σ H' fun σ2 H2 => tb { D with nx := N, ct := N, bk := D.nx } σ2 H2) := by
 refine ⟨fun i m σ H => m = n - i /\ i <= n /\ Pv i σ H, ⟨n, by simp, Nat.zero_le _, h0⟩, ?_⟩
 rintro i m σ H ⟨rfl, hi, p⟩
 by_cases hlt : i < n
 · refine .inr ⟨hlt, Pv (i + 1), fun σ' H' p' => ⟨n - (i + 1), by omega, rfl, hlt, p'⟩, fun x H' y => ?_⟩
   obtain ⟨e, y⟩ := y
   subst e y
   exact hs i σ _ hlt p
 · have e : i = n := by omega
   subst e
   exact .inl ⟨Nat.le_refl _, hd σ H p⟩
end L2
namespace L2
open PySem PySem.Spec PyProof.Rows
abbrev R2 := V -> V -> Hp -> VK -> Prop
def OpR (X : Cx) (f : Value -> Value -> Sem Value) (r : R2) : Prop :=
 ∀ (pins : List (Addr × Obj)) (s : Shared) (σ : St) (H : Hp) (x y : V) (v u : Value) (Q : VK), Inv X pins σ H s -> RelV x v -> RelV y u -> r x y H Q ->
  wpAny (model X.prog X.w) X.A (f v u) (EP X pins σ Q) X.xe s
def UnR (X : Cx) (f : Value -> Sem Value) (r : V -> Hp -> VK -> Prop) : Prop :=
 ∀ (pins : List (Addr × Obj)) (s : Shared) (σ : St) (H : Hp) (x : V) (v : Value) (Q : VK), Inv X pins σ H s -> RelV x v -> r x H Q ->
  wpAny (model X.prog X.w) X.A (f v) (EP X pins σ Q) X.xe s
def CallR (X : Cx) (f : Value) (r : List V -> Hp -> VK -> Prop) : Prop :=
 ∀ (pins : List (Addr × Obj)) (s : Shared) (σ : St) (H : Hp) (xs : List V) (us : List Value) (Q : VK), Inv X pins σ H s -> Vals xs us -> r xs H Q ->
  wpAny (model X.prog X.w) X.A (call f us) (EP X pins σ Q) X.xe s
def tOp (r : R2) (ta tb : TE) : TE := fun σ H Q => ta σ H fun x H1 => tb σ H1 fun y H2 => r x y H2 Q
def tUn (r : V -> Hp -> VK -> Prop) (ta : TE) : TE := fun σ H Q => ta σ H fun x H1 => r x H1 Q
def rI (C : Int -> Int -> Prop) (g : Int -> Int -> V) : R2 := fun x y H Q => ∃ i j, x = .int i /\ y = .int j /\ C i j /\ Q (g i j) H
def rI0 (g : Int -> Int -> V) : R2 := fun x y H Q => ∃ i j, x = .int i /\ y = .int j /\ Q (g i j) H
def rU (g : Int -> V) : V -> Hp -> VK -> Prop := fun x H Q => ∃ i, x = .int i /\ Q (g i) H
section
variable {X : Cx} {a b c : Expr} {ta tb tc : TE} {pos : Pos}
theorem binT (ha : PE X a ta) (hb : PE X b tb) {pins : List (Addr × Obj)} {s : Shared} {σ : St} {H : Hp} {R : V -> V -> Hp -> Prop} (I : Inv X pins σ H s)
  (h : ta σ H fun x H1 => tb σ H1 fun y H2 => R x y H2) {Q : Value -> Shared -> Prop} {f : Value -> Value -> Sem Value}
  (hf : ∀ v u s2 x y H2, Inv X pins σ H2 s2 -> RelV x v -> RelV y u -> R x y H2 -> wpAny (model X.prog X.w) X.A (f v u) Q X.xe s2) :
  wpAny (model X.prog X.w) X.A (eval a X.env) (fun v s₁ => wpAny (model X.prog X.w) X.A (eval b X.env) (fun u s₂ => wpAny (model X.prog X.w) X.A (f v u) Q X.xe s₂) X.xe s₁) X.xe s := by
 refine thn (ha pins s σ H _ I h) fun v s1 ⟨x, H1, I1, r1, q1⟩ => ?_
 refine thn (hb pins s1 σ H1 _ I1 q1) fun u s2 ⟨y, H2, I2, r2, q2⟩ => ?_
 exact hf v u s2 x y H2 I2 r1 r2 q2
theorem pe_op {op : Operator} {r : R2} (ho : OpR X (binaryOp op) r) (ha : PE X a ta) (hb : PE X b tb) : PE X (.BinOp a op b pos) (tOp r ta tb) := by
 intro pins s σ H Q I h
 exact wpAny_BinOp (binT ha hb I h fun v u s2 x y H2 I2 rx ry q => ho pins s2 σ H2 x y v u Q I2 rx ry q)
theorem pe_un {op : UnaryOp} {r : V -> Hp -> VK -> Prop} (ho : UnR X (unaryOp op) r) (ha : PE X a ta) : PE X (.UnaryOp op a pos) (tUn r ta) := by
 intro pins s σ H Q I h
 exact UnaryOp_ (thn (ha pins s σ H _ I h) fun v s1 ⟨x, H1, I1, r1, q1⟩ => ho pins s1 σ H1 x v Q I1 r1 q1)
theorem opI {f : Value -> Value -> Sem Value} {C : Int -> Int -> Prop} {g : Int -> Int -> Int}
  (rule : ∀ (i j : Int) (t u : Tok) (s : Shared) (Q : Value -> Shared -> Prop) (E : Value -> Shared -> Prop), C i j -> Q (.int (g i j) s.toks) { s with toks := s.toks + 1 } -> wpAny (model X.prog X.w) X.A (f (.int i t) (.int j u)) Q E s) :
  OpR X f (rI C fun i j => .int (g i j)) := by
 intro pins s σ H x y v u Q I rx ry h
 obtain ⟨i, j, rfl, rfl, hc, q⟩ := h
 obtain ⟨t, rfl⟩ := rx
 obtain ⟨t', rfl⟩ := ry
 exact rule i j t t' s _ _ hc ⟨.int (g i j), H, I.tok _, ⟨_, rfl⟩, q⟩
theorem opI0 {f : Value -> Value -> Sem Value} {g : Int -> Int -> Int}
  (rule : ∀ (i j : Int) (t u : Tok) (s : Shared) (Q : Value -> Shared -> Prop) (E : Value -> Shared -> Prop), Q (.int (g i j) s.toks) { s with toks := s.toks + 1 } -> wpAny (model X.prog X.w) X.A (f (.int i t) (.int j u)) Q E s) :
  OpR X f (rI0 fun i j => .int (g i j)) := by
 intro pins s σ H x y v u Q I rx ry h
 obtain ⟨i, j, rfl, rfl, q⟩ := h
 obtain ⟨t, rfl⟩ := rx
 obtain ⟨t', rfl⟩ := ry
 exact rule i j t t' s _ _ ⟨.int (g i j), H, I.tok _, ⟨_, rfl⟩, q⟩
theorem opB0 {f : Value -> Value -> Sem Value} {g : Int -> Int -> Bool}
  (rule : ∀ (i j : Int) (t u : Tok) (s : Shared) (Q : Value -> Shared -> Prop) (E : Value -> Shared -> Prop), Q (.bool (g i j)) s -> wpAny (model X.prog X.w) X.A (f (.int i t) (.int j u)) Q E s) :
  OpR X f (rI0 fun i j => .bl (g i j)) := by
 intro pins s σ H x y v u Q I rx ry h
 obtain ⟨i, j, rfl, rfl, q⟩ := h
 obtain ⟨t, rfl⟩ := rx
 obtain ⟨t', rfl⟩ := ry
 exact rule i j t t' s _ _ ⟨.bl (g i j), H, I, rfl, q⟩
def CDiv (i j : Int) : Prop := 0 < j /\ j < 1073741824
def CPow (i j : Int) : Prop := 0 <= j /\ j <= 1000000 /\ i.natAbs < 2 ^ 64
def CMul (i j : Int) : Prop := (-(2 ^ 64) < i /\ i < 2 ^ 64) \/ (-(2 ^ 64) < j /\ j < 2 ^ 64)
theorem CMul.ok {i j : Int} (h : CMul i j) : IntMulOk i j := by
 rcases h with ⟨h1, h2⟩ | ⟨h1, h2⟩
 · exact .of_left (intBits_le_64 h1 h2)
 · exact .of_right (intBits_le_64 h1 h2)
theorem op_add : OpR X (binaryOp .Add) (rI0 fun i j => .int (i + j)) := opI0 fun _ _ _ _ _ _ _ q => add_int q
theorem op_sub : OpR X (binaryOp .Sub) (rI0 fun i j => .int (i - j)) := opI0 fun _ _ _ _ _ _ _ q => sub_int q
theorem op_mul : OpR X (binaryOp .Mult) (rI CMul fun i j => .int (i * j)) := opI fun _ _ _ _ _ _ _ hc q => mul_int q hc.ok
theorem op_fdiv : OpR X (binaryOp .FloorDiv) (rI CDiv fun i j => .int (i / j)) := opI fun i j _ _ _ _ _ hc q => by
 have h1 : (0 : Int) < j := hc.1
 have h2 : j < 1073741824 := hc.2
 exact floordiv_int (by omega) (by rw [Int.fdiv_eq_ediv_of_nonneg i (by omega)]; exact q) (.inl (PyProof.noPylong_small (by omega)))
theorem op_mod : OpR X (binaryOp .Mod) (rI (fun _ j => 0 < j) fun i j => .int (i % j)) := opI fun i j _ _ _ _ _ hc q => by
 have h1 : (0 : Int) < j := hc
 exact mod_int' (by omega) (by rw [Int.fmod_eq_emod_of_nonneg i (by omega)]; exact q)
theorem op_pow : OpR X (binaryOp .Pow) (rI CPow fun i j => .int (i ^ j.toNat)) := opI fun _ _ _ _ _ _ _ hc q => pow_int_small hc.1 hc.2.1 hc.2.2 q
theorem unI {f : Value -> Sem Value} {g : Int -> Int}
  (rule : ∀ (i : Int) (t : Tok) (s : Shared) (Q : Value -> Shared -> Prop) (E : Value -> Shared -> Prop), Q (.int (g i) s.toks) { s with toks := s.toks + 1 } -> wpAny (model X.prog X.w) X.A (f (.int i t)) Q E s) :
  UnR X f (rU fun i => .int (g i)) := by
 intro pins s σ H x v Q I rx h
 obtain ⟨i, rfl, q⟩ := h
 obtain ⟨t, rfl⟩ := rx
 exact rule i t s _ _ ⟨.int (g i), H, I.tok _, ⟨_, rfl⟩, q⟩
theorem un_neg : UnR X (unaryOp .USub) (rU fun i => .int (-i)) := unI fun _ _ _ _ _ q => neg_int q
end
def scal : V -> V -> Bool
 | .non, .non => true | .non, .int _ => true | .int _, .non => true | .non, .bl _ => true | .bl _, .non => true | .non, .str _ => true | .str _, .non => true
 | .int _, .int _ => true | .bl _, .bl _ => true | .str _, .str _ => true | .byt _, .byt _ => true
 | .int _, .str _ => true | .str _, .int _ => true | .bl _, .str _ => true | .str _, .bl _ => true
 | _, _ => false
def rEq : R2 := fun x y H Q => scal x y = true /\ Q (.bl (decide (x = y))) H
def rNe : R2 := fun x y H Q => scal x y = true /\ Q (.bl (!decide (x = y))) H
theorem dec_int {i j : Int} : decide (V.int i = V.int j) = (i == j) := by
 rw [Bool.eq_iff_iff]
 simp
theorem dec_bl {i j : Bool} : decide (V.bl i = V.bl j) = (i == j) := by
 rw [Bool.eq_iff_iff]
 simp
theorem dec_str {i j : Str} : decide (V.str i = V.str j) = (i == j) := by
 rw [Bool.eq_iff_iff]
 simp
theorem dec_byt {i j : Array UInt8} : decide (V.byt i = V.byt j) = (i.toList == j.toList) := by
 rw [Bool.eq_iff_iff]
 cases i
 cases j
 simp
section
variable {X : Cx} {a b c : Expr} {ta tb tc : TE} {pos : Pos}
theorem fin_bl {pins : List (Addr × Obj)} {σ : St} {H : Hp} {s : Shared} {Q : VK} {k k' : Bool} (I : Inv X pins σ H s) (q : Q (.bl k) H) (e : k = k') : EP X pins σ Q (.bool k') s := by
 subst e
 exact ⟨.bl k, H, I, rfl, q⟩
theorem op_eq : OpR X (compareOp .Eq) rEq := by
 intro pins s σ H x y v u Q I rx ry h
 obtain ⟨hs, q⟩ := h
 cases x with
 | non =>
  cases rx
  cases y with
  | non => cases ry; exact PySem.EqNone.eq_none_none (fin_bl I q (by simp))
  | bl j => cases ry; exact PySem.EqNone.eq_none_bool (fin_bl I q (by simp))
  | int j => obtain ⟨t', rfl⟩ := ry; exact PySem.EqNone.eq_none_int (fin_bl I q (by simp))
  | str j => obtain ⟨t', rfl⟩ := ry; exact PySem.EqNone.eq_none_str (fin_bl I q (by simp))
  | _ => exact absurd (show false = true from hs) Bool.false_ne_true
 | bl i =>
  cases rx
  cases y with
  | non => cases ry; exact PySem.EqNone.eq_bool_none (fin_bl I q (by simp))
  | bl j => cases ry; exact eq_bool (fin_bl I q dec_bl)
  | str j => obtain ⟨t', rfl⟩ := ry; exact PySem.EqMixed.eq_bool_str (fin_bl I q (by simp))
  | _ => exact absurd (show false = true from hs) Bool.false_ne_true
 | int i =>
  obtain ⟨t, rfl⟩ := rx
  cases y with
  | non => cases ry; exact PySem.EqNone.eq_int_none (fin_bl I q (by simp))
  | int j => obtain ⟨t', rfl⟩ := ry; exact eq_int (fin_bl I q dec_int)
  | str j => obtain ⟨t', rfl⟩ := ry; exact PySem.EqMixed.eq_int_str (fin_bl I q (by simp))
  | _ => exact absurd (show false = true from hs) Bool.false_ne_true
 | str i =>
  obtain ⟨t, rfl⟩ := rx
  cases y with
  | non => cases ry; exact PySem.EqNone.eq_str_none (fin_bl I q (by simp))
  | bl j => cases ry; exact PySem.EqMixed.eq_str_bool (fin_bl I q (by simp))
  | int j => obtain ⟨t', rfl⟩ := ry; exact PySem.EqMixed.eq_str_int (fin_bl I q (by simp))
  | str j => obtain ⟨t', rfl⟩ := ry; exact eq_str (fin_bl I q dec_str)
  | _ => exact absurd (show false = true from hs) Bool.false_ne_true
 | byt i =>
  obtain ⟨t, rfl⟩ := rx
  cases y with
  | byt j => obtain ⟨t', rfl⟩ := ry; exact PySem.W.eq_bytes (fin_bl I q dec_byt)
  | _ => exact absurd (show false = true from hs) Bool.false_ne_true
 | _ => cases y <;> exact absurd (show false = true from hs) Bool.false_ne_true
theorem op_ne : OpR X (compareOp .NotEq) rNe := by
 intro pins s σ H x y v u Q I rx ry h
 obtain ⟨hs, q⟩ := h
 cases x with
 | non =>
  cases rx
  cases y with
  | non => cases ry; exact PySem.EqNone.ne_none_none (fin_bl I q (by simp))
  | bl j => cases ry; exact PySem.EqNone.ne_none_bool (fin_bl I q (by simp))
  | int j => obtain ⟨t', rfl⟩ := ry; exact PySem.EqNone.ne_none_int (fin_bl I q (by simp))
  | str j => obtain ⟨t', rfl⟩ := ry; exact PySem.EqNone.ne_none_str (fin_bl I q (by simp))
  | _ => exact absurd (show false = true from hs) Bool.false_ne_true
 | bl i =>
  cases rx
  cases y with
  | non => cases ry; exact PySem.EqNone.ne_bool_none (fin_bl I q (by simp))
  | bl j => cases ry; exact ne_bool (fin_bl I q (congrArg not dec_bl))
  | str j => obtain ⟨t', rfl⟩ := ry; exact PySem.EqMixed.ne_bool_str (fin_bl I q (by simp))
  | _ => exact absurd (show false = true from hs) Bool.false_ne_true
 | int i =>
  obtain ⟨t, rfl⟩ := rx
  cases y with
  | non => cases ry; exact PySem.EqNone.ne_int_none (fin_bl I q (by simp))
  | int j => obtain ⟨t', rfl⟩ := ry; exact ne_int (fin_bl I q (congrArg not dec_int))
  | str j => obtain ⟨t', rfl⟩ := ry; exact PySem.EqMixed.ne_int_str (fin_bl I q (by simp))
  | _ => exact absurd (show false = true from hs) Bool.false_ne_true
 | str i =>
  obtain ⟨t, rfl⟩ := rx
  cases y with
  | non => cases ry; exact PySem.EqNone.ne_str_none (fin_bl I q (by simp))
  | bl j => cases ry; exact PySem.EqMixed.ne_str_bool (fin_bl I q (by simp))
  | int j => obtain ⟨t', rfl⟩ := ry; exact PySem.EqMixed.ne_str_int (fin_bl I q (by simp))
  | str j => obtain ⟨t', rfl⟩ := ry; exact ne_str (fin_bl I q (congrArg not dec_str))
  | _ => exact absurd (show false = true from hs) Bool.false_ne_true
 | byt i =>
  obtain ⟨t, rfl⟩ := rx
  cases y with
  | byt j => obtain ⟨t', rfl⟩ := ry; exact PySem.W.ne_bytes (fin_bl I q (congrArg not dec_byt))
  | _ => exact absurd (show false = true from hs) Bool.false_ne_true
 | _ => cases y <;> exact absurd (show false = true from hs) Bool.false_ne_true
theorem op_lt : OpR X (compareOp .Lt) (rI0 fun i j => .bl (decide (i < j))) := opB0 fun _ _ _ _ _ _ _ q => lt_int q
theorem op_le : OpR X (compareOp .LtE) (rI0 fun i j => .bl (decide (i <= j))) := opB0 fun _ _ _ _ _ _ _ q => le_int q
theorem op_gt : OpR X (compareOp .Gt) (rI0 fun i j => .bl (decide (j < i))) := opB0 fun _ _ _ _ _ _ _ q => gt_int q
theorem op_ge : OpR X (compareOp .GtE) (rI0 fun i j => .bl (decide (j <= i))) := opB0 fun _ _ _ _ _ _ _ q => ge_int q
theorem op_isN : OpR X (compareOp .Is) (fun x y H Q => y = .non /\ Q (.bl (decide (x = .non))) H) := by
 intro pins s σ H x y v u Q I rx ry h
 obtain ⟨rfl, q⟩ := h
 cases ry
 refine is_none_gen (fin_bl I q ?_)
 cases x <;> first
  | (cases rx; rfl)
  | (obtain ⟨t, rfl⟩ := rx; rfl)
theorem op_notN : OpR X (compareOp .IsNot) (fun x y H Q => y = .non /\ Q (.bl (!decide (x = .non))) H) := by
 intro pins s σ H x y v u Q I rx ry h
 obtain ⟨rfl, q⟩ := h
 cases ry
 refine isnot_none_gen (fin_bl I q ?_)
 cases x <;> first
  | (cases rx; rfl)
  | (obtain ⟨t, rfl⟩ := rx; rfl)
theorem OpR.or {f : Value -> Value -> Sem Value} {r r' : R2} (h : OpR X f r) (h' : OpR X f r') : OpR X f (fun x y H Q => r x y H Q \/ r' x y H Q) := by
 intro pins s σ H x y v u Q I rx ry q
 rcases q with q | q
 · exact h pins s σ H x y v u Q I rx ry q
 · exact h' pins s σ H x y v u Q I rx ry q
theorem nomark (b : Expr) {op : CmpOp} (h : op ≠ .In := by decide) (h2 : op ≠ .NotIn := by decide) : behindInMarks op b = false := by
 have e1 : (op == CmpOp.In) = false := by cases op <;> first | rfl | exact absurd rfl h
 have e2 : (op == CmpOp.NotIn) = false := by cases op <;> first | rfl | exact absurd rfl h2
 cases b <;> simp [behindInMarks, e1, e2]
theorem pe_cmpR {op : CmpOp} {r : R2} (ho : OpR X (compareOp op) r) (ha : PE X a ta) (hb : PE X b tb) (hm : behindInMarks op b = false) : PE X (.Compare a [op] [b] pos) (tOp r ta tb) := by
 intro pins s σ H Q I h
 exact wpAny_Compare1 (binT ha hb I h fun v u s2 x y H2 I2 rx ry q => ho pins s2 σ H2 x y v u Q I2 rx ry q) hm
def tTest (t : TE) : TT := fun σ H Q => t σ H fun x H' => ∃ k, x = .bl k /\ Q k H'
theorem pt_cmpR {op : CmpOp} {r : R2} (ho : OpR X (compareOp op) r) (ha : PE X a ta) (hb : PE X b tb) (hm : behindInMarks op b = false) : PT X (.Compare a [op] [b] pos) (tTest (tOp r ta tb)) := by
 intro pins s σ H Q I h
 refine wpAny_isTrue_Compare1 (thn (ha pins s σ H _ I h) fun v s1 ⟨x, H1, I1, r1, q1⟩ => thn (hb pins s1 σ H1 _ I1 q1) fun u s2 ⟨y, H2, I2, r2, q2⟩ =>
  thn (ho pins s2 σ H2 x y v u _ I2 r1 r2 q2) fun c s3 ⟨z, H3, I3, r3, k, e, q3⟩ => ?_) hm
 subst e
 cases r3
 exact wpAny_truthy_bool ⟨H3, I3, q3⟩
theorem line63 : (sizeLine : Nat) < 2 ^ 63 := by rw [sizeLine_eq]; decide
theorem vals1 {x : V} {us : List Value} (r : Vals [x] us) : ∃ u, us = [u] /\ RelV x u := by
 cases r with
 | cons r1 r2 => cases r2; exact ⟨_, rfl, r1⟩
theorem vals2 {x y : V} {us : List Value} (r : Vals [x, y] us) : ∃ u w', us = [u, w'] /\ RelV x u /\ RelV y w' := by
 cases r with
 | cons r1 r2 =>
  cases r2 with
  | cons r3 r4 => cases r4; exact ⟨_, _, rfl, r1, r3⟩
theorem call_min2 (hc : X.calm = true) : CallR X (.builtin "min") (fun xs H Q => ∃ i j, xs = [.int i, .int j] /\ Q (.int (if j < i then j else i)) H) := by
 intro pins s σ H xs us Q I r h
 obtain ⟨i, j, rfl, q⟩ := h
 obtain ⟨u, w', rfl, ⟨t, rfl⟩, ⟨t', rfl⟩⟩ := vals2 r
 refine min_two_ints (I.ok.hd hc) fun h' tk k => ⟨_, H, I.kept k, ?_, q⟩
 by_cases hj : j < i
 · rw [if_pos hj, if_pos hj]; exact ⟨_, rfl⟩
 · rw [if_neg hj, if_neg hj]; exact ⟨_, rfl⟩
end
end L2
namespace L2
open PySem PySem.Spec PyProof.Rows
structure ObjM (h : Heap) (x dx C : Addr) (mA : Str -> Option Value) : Prop where
 obj : h.get? x = some (PySem.W.instObj C dx)
 ns : h.Ns1 dx mA
 ne : dx ≠ x
theorem lookIn_ns {h : Heap} {dx : Addr} {mA : Str -> Option Value} (n : h.Ns1 dx mA) : ∃ od, h.get? dx = some od /\ ∀ name, PySem.W.lookIn name od = some (mA name) := by
 obtain ⟨o, es, ep, ho, hd, hk, _, hm⟩ := n
 refine ⟨o, ho, fun name => ?_⟩
 have e := hm name
 unfold nsFind findBy at e
 rw [← Array.find?_toList] at e
 unfold PySem.W.lookIn
 rw [hd]
 dsimp only
 split
 · rename_i y q
   rw [q] at e
   exact congrArg some e
 · rename_i q
   rw [q] at e
   have a : es.toList.any (·.refKey) = false := by
    rw [List.any_eq_false]
    intro y hy
    obtain ⟨z, t, hkey⟩ := hk y (Array.mem_toList_iff.mp hy)
    simp [DictEntry.refKey, hkey]
   have a' : ¬ es.toList.any (·.refKey) = true := by rw [a]; exact Bool.false_ne_true
   rw [if_neg a']
   exact congrArg some e
theorem ObjM.look {h : Heap} {x dx C : Addr} {mA : Str -> Option Value} (I : ObjM h x dx C mA) : ∃ od, PySem.W.InstAt h x (PySem.W.instObj C dx) C (some od) /\ ∀ name, PySem.W.lookIn name od = some (mA name) :=
 let ⟨od, ho, hl⟩ := lookIn_ns I.ns
 ⟨od, ⟨I.obj, rfl, rfl, ho⟩, hl⟩
section
variable {prog : Program} {w : World} {A : Around} {E : Value -> Shared -> Prop} {s : Shared} {K : PySem.W.Frag} {x dx C f : Addr} {mA : Str -> Option Value} {name : Str} {v : Value}
end
section
variable {P : Program} {w : World} {H H' : Hp} {h h' : Heap} {a C dx : Addr} {fs fs' : List (Str × V)}
theorem ins_get (hok : HOk P w H h) (e : H a = some (.ins C dx fs)) : ∃ mA, ObjM h a dx C mA /\ (∀ f, RelO (fs.lookup f) (mA f)) /\ PySem.Within mA (fs.map (·.1)) /\ fs.length <= 1000 /\ H dx = some (.own a) := by
 obtain ⟨d, z, ne, ob, mA, n, r, q⟩ := (show ObjOk P w H h a (.ins C dx fs) from hok a _ e)
 exact ⟨mA, ⟨ob, n, ne⟩, r, q, z, d⟩
end
structure Cls (K : PySem.W.Frag) (C : Addr) : Prop where
 pg : PySem.W.plainGet K C Str.empty = true
 hd : PySem.W.hasDictIn K C = true
 po : PySem.W.plainOver K C = true
 sa : PySem.W.findIn K (.ref C) "__setattr__" = some (some (.builtin "object.__setattr__"))
theorem Cls.get {K : PySem.W.Frag} {C : Addr} (c : Cls K C) (f : Str) : PySem.W.plainGet K C f = true := c.pg
section
variable {X : Cx} {pins : List (Addr × Obj)} {σ : St} {H : Hp} {s : Shared} {a C dx : Addr} {fs : List (Str × V)} {f : Str} {v : V} {A : Around} {E : Value -> Shared -> Prop}
end
section
variable {X : Cx} {o e value : Expr} {f : Str} {pos pos' tpos : Pos} {ta tv : TE}
end
section
variable {X : Cx} {pins : List (Addr × Obj)} {σ : St} {H : Hp} {s : Shared} {A : Around} {E : Value -> Shared -> Prop} {Q : Value -> Shared -> Prop} {c : Value} {b : Bool}
inductive TyOf (K : PySem.W.Frag) (H : Hp) : V -> Value -> Prop where
 | non : TyOf K H .non (.type "NoneType")
 | bl (x : Bool) : TyOf K H (.bl x) (.type "bool")
 | int (i : Int) : TyOf K H (.int i) (.type "int")
 | str (x : Str) : TyOf K H (.str x) (.type "str")
 | flt (x : UInt64) : TyOf K H (.flt x) (.type "float")
 | lst {a : Addr} {xs : List V} (e : H a = some (.lst xs)) : TyOf K H (.ref a) (.type "list")
 | frz {a : Addr} {o : Obj} {xs : List V} (e : H a = some (.frz o (.lst xs))) : TyOf K H (.ref a) (.type "list")
 | tup {a : Addr} {xs : List V} (e : H a = some (.tup xs)) : TyOf K H (.ref a) (.type "tuple")
 | dK {a : Addr} {kvs : List (Key × V)} (e : H a = some (.dK kvs)) : TyOf K H (.ref a) (.type "dict")
 | dT {a : Addr} {kvs : List (List Key × V)} (e : H a = some (.dT kvs)) : TyOf K H (.ref a) (.type "dict")
 | ins {a C dx : Addr} {fs : List (Str × V)} (e : H a = some (.ins C dx fs)) (cl : Cls K C) (ha : PySem.W.findIn K (.ref C) "__class__" = some (some (.builtin "object.__class__")))
   (hn : PySem.W.specialIn K (.builtin "object.__class__") "__get__" = some (some (.builtin "getset_descriptor.__get__"))) (htk : PySem.W.takesIn K (.builtin "object.__class__") = some true)
   (hm : PySem.W.mroIn K C (.type "object") = some true) : TyOf K H (.ref a) (.ref C)
theorem isinst_ok {x : V} {u t : Value} (I : Inv X pins σ H s) (rx : RelV x u) (ty : TyOf X.K H x t) (e : PySem.W.kitOne X.K t c = some b) (h : ∀ tk, Q (.bool b) { s with toks := tk }) :
  wpAny (model X.prog X.w) A (call (.builtin "isinstance") [u, c]) Q E s := by
 cases ty with
 | non => cases (show u = Value.none from rx); exact PySem.W.kia_one PySem.W.kitx_none I.kIn True.intro e (fun z => nomatch z) h
 | bl y => cases (show u = Value.bool y from rx); exact PySem.W.kia_one PySem.W.kitx_bool I.kIn True.intro e (fun z => nomatch z) h
 | int i => obtain ⟨t, q⟩ := (show ∃ t, u = Value.int i t from rx); cases q; exact PySem.W.kia_one PySem.W.kitx_int I.kIn True.intro e (fun z => nomatch z) h
 | str y => obtain ⟨t, q⟩ := (show ∃ t, u = Value.str y t from rx); cases q; exact PySem.W.kia_one PySem.W.kitx_str I.kIn True.intro e (fun z => nomatch z) h
 | flt y => obtain ⟨t, q⟩ := (show ∃ t, u = Value.float y t from rx); cases q; exact PySem.W.kia_one PySem.W.kitx_float I.kIn True.intro e (fun z => nomatch z) h
 | @lst a xs ea =>
  cases (show u = Value.ref a from rx)
  obtain ⟨_, _, n, _, h1⟩ := (show ObjOk X.prog X.w H s.heap a (.lst xs) from I.hok a _ ea)
  exact PySem.W.kia_one PySem.W.kitx_list I.kIn ⟨_, h1, rfl⟩ e (fun z => nomatch z) h
 | @frz a ob xs ea =>
  cases (show u = Value.ref a from rx)
  obtain ⟨_, _, _, n, _, h1⟩ := (show ObjOk X.prog X.w H s.heap a (.frz ob (.lst xs)) from I.hok a _ ea)
  exact PySem.W.kia_one PySem.W.kitx_list I.kIn ⟨_, h1, rfl⟩ e (fun z => nomatch z) h
 | @tup a xs ea =>
  cases (show u = Value.ref a from rx)
  obtain ⟨_, _, _, p⟩ := (show ObjOk X.prog X.w H s.heap a (.tup xs) from I.hok a _ ea)
  obtain ⟨o, h1, h2, _⟩ := p
  exact PySem.W.kia_one PySem.W.kitx_tuple I.kIn ⟨o, h1, h2⟩ e (fun z => nomatch z) h
 | @dK a kvs ea =>
  cases (show u = Value.ref a from rx)
  obtain ⟨_, _, vs, _, p⟩ := (show ObjOk X.prog X.w H s.heap a (.dK kvs) from I.hok a _ ea)
  obtain ⟨o, es, ep, h1, h2, _⟩ := p
  exact PySem.W.kia_one PySem.W.kitx_dict I.kIn ⟨o, h1, h2.1⟩ e (fun z => nomatch z) h
 | @dT a kvs ea =>
  cases (show u = Value.ref a from rx)
  obtain ⟨_, _, xs, _, o, es, ep, h1, h2, _⟩ := (show ObjOk X.prog X.w H s.heap a (.dT kvs) from I.hok a _ ea)
  exact PySem.W.kia_one PySem.W.kitx_dict I.kIn ⟨o, h1, h2.1⟩ e (fun z => nomatch z) h
 | @ins a C dx fs ea cl ha hn htk hm =>
  cases (show u = Value.ref a from rx)
  obtain ⟨mA, O, _⟩ := ins_get I.hok ea
  obtain ⟨od, J, _⟩ := O.look
  exact PySem.W.kia_one (PySem.W.kitx_own (cl.get _) cl.hd ha hn htk hm) I.kIn J e (fun z => nomatch z) h
end
end L2
namespace L2
open PySem PySem.Spec PyProof.Rows
structure Room (k : Nat) (A : Around) : Prop where
 hd : A.handled = none
 dp : A.depth + 3 * k + 5 < recursionLimit
 un : A.units + 16 * k + 200 < cLine
theorem Room.mono {j k : Nat} {A : Around} (r : Room k A) (h : j <= k) : Room j A := ⟨r.hd, by have := r.dp; omega, by have := r.un; omega⟩
theorem Room.deeper {k : Nat} {A : Around} (r : Room (k + 1) A) (env : Env) : Room k (A.deeper env) :=
 ⟨r.hd, by have := r.dp; show A.depth + 1 + 3 * k + 5 < _; omega, by have := r.un; show A.units + 3 + 16 * k + 200 < _; omega⟩
theorem Room.depth {k : Nat} {A : Around} (r : Room k A) : A.depth < recursionLimit := by have := r.dp; omega
theorem Room.units {k : Nat} {A : Around} (r : Room k A) : A.units + 64 < cLine := by have := r.un; omega
def tNil : TA := fun _ H Q => Q [] H
def tCons (ta : TE) (tr : TA) : TA := fun σ H Q => ta σ H fun x H1 => tr σ H1 fun xs H2 => Q (x :: xs) H2
section
variable {X : Cx} {e : Expr} {es : List Expr} {te : TE} {t : TA} {pos : Pos}
theorem pa_nil : PA X [] tNil := fun _ _ _ _ H Q I h => Calls.spliced_nil ⟨[], H, I, .nil, h⟩
theorem pa_cons (ha : PE X e te) (hr : PA X es t) (hs : starEach (e :: es) X.env = (false, eval e X.env) :: starEach es X.env := by rfl) : PA X (e :: es) (tCons te t) := by
 intro pos pins s σ H Q I h
 rw [hs]
 show wpAny _ _ (spliced ((false, eval e X.env) :: backTo pos (starEach es X.env))) _ _ s
 refine Calls.spliced_cons (thn (ha pins s σ H _ I h) fun u s1 ⟨x, H1, I1, r1, q1⟩ => ?_)
 exact thn (hr pos pins s1 σ H1 _ I1 q1) fun us s2 ⟨xs, H2, I2, r2, q2⟩ => ⟨x :: xs, H2, I2, .cons r1 r2, q2⟩
def tTup (t : TA) : TE := fun σ H Q => t σ H fun xs H1 => xs.length <= sizeLine /\ ∀ p, H1 p = none -> Q (.ref p) (upd H1 p (.tup xs))
def tLst (t : TA) : TE := fun σ H Q => t σ H fun xs H1 => xs.length <= sizeLine /\ ∀ p, H1 p = none -> Q (.ref p) (upd H1 p (.lst xs))
theorem pe_tup {x1} (h : PA X es t) : PE X (.Tuple es x1 pos) (tTup t) := by
 intro pins s σ H Q I hq
 refine wpAny_Tuple_spliced (thn (h pos pins s σ H _ I hq) fun us s1 ⟨xs, H1, I1, r, z, q⟩ => ⟨by rw [← r.length]; exact z, ?_⟩)
 have hf : H1 s1.heap.objs.size = none := I1.hok.fresh (Nat.le_refl _)
 refine ⟨.ref s1.heap.objs.size, upd H1 s1.heap.objs.size (.tup xs), I1.laid (t' := s1.toks) (fun b u e => Heap.get?_push_of_some _ e) (Nat.le_refl _) ?_, rfl, q _ hf⟩
 exact ⟨z, us, r, ⟨_, Heap.get?_push_size _ rfl, rfl, _, rfl⟩⟩
theorem pe_lst (h : PA X es t) : PE X (.List es pos) (tLst t) := by
 intro pins s σ H Q I hq
 refine wpAny_List_spliced (thn (h pos pins s σ H _ I hq) fun us s1 ⟨xs, H1, I1, r, z, q⟩ => ⟨by rw [← r.length]; exact z, ?_⟩)
 have hf : H1 s1.heap.objs.size = none := I1.hok.fresh (Nat.le_refl _)
 refine ⟨.ref s1.heap.objs.size, upd H1 s1.heap.objs.size (.lst xs), I1.laid (t' := s1.toks) (fun b u e => Heap.get?_push_of_some _ e) (Nat.le_refl _) ?_, rfl, q _ hf⟩
 exact ⟨z, us, 0, r, Heap.get?_push_size _ rfl⟩
end
abbrev Sp := List V -> Hp -> VK -> XK -> Prop
abbrev CXT := List Env -> Hp -> Shared -> XK -> Value -> Shared -> Prop
structure Env0 (P : Program) (w : World) (K : PySem.W.Frag) (mg : Str -> Option Value) (base : Heap) (A : Around) (outer : List Env) (s : Shared) (H : Hp) : Prop where
 frames : A.frames = some outer
 mod : Mod K mg base
 bs : ∀ b o, base.get? b = some o -> s.heap.get? b = some o /\ H b = none
 bsz : base.objs.size <= s.heap.objs.size
 funs : s.heap.FunFrames base outer
 frf : ∀ b ∈ frs outer, H b = none
 hok : HOk P w H s.heap
 bare : AllBare s.gens
def CE (outer : List Env) (P : Program) (w : World) (H : Hp) (s : Shared) (Q : VK) (u : Value) (s' : Shared) : Prop :=
 ∃ v H', s'.os = s.os /\ AllBare s'.gens /\ Un (frs outer) [] H H' s.heap s'.heap /\ HOk P w H' s'.heap /\ RelV v u /\ Q v H'
def CR (CX : CXT) (outer : List Env) (P : Program) (w : World) (H : Hp) (s : Shared) (Q : VK) (E : XK) (r : Result) (s' : Shared) : Prop :=
 match r with
 | .ok (.ret u) => CE outer P w H s Q u s'
 | .ok _ => False
 | .error e => CX outer H s E e s'
structure FnOk (P : Program) (w : World) (K : PySem.W.Frag) (mg : Str -> Option Value) (base : Heap) (CX : CXT) (k : Nat) (f : Addr) (fd : FuncData) (ps : List Str) (sp : Sp) : Prop where
 len : ∀ vs H Q E, sp vs H Q E -> vs.length = ps.length
 run : ∀ (A : Around) (outer : List Env) (s : Shared) (H : Hp) (args : Args) (us : List Value) (vs : List V) (Q : VK) (E : XK), Room k A -> Env0 P w K mg base A outer s H -> BindsTo s fd args (ps.zip us) -> Vals vs us -> sp vs H Q E ->
  codeAny (model P w) A (.call (.ref f) args) (CR CX outer P w H s Q E) s
theorem FnOk.imp {P : Program} {w : World} {K : PySem.W.Frag} {mg : Str -> Option Value} {base : Heap} {CX : CXT} {k : Nat} {f : Addr} {fd : FuncData} {ps : List Str} {sp sp' : Sp} (F : FnOk P w K mg base CX k f fd ps sp)
  (h : ∀ vs H Q E, sp' vs H Q E -> sp vs H Q E) : FnOk P w K mg base CX k f fd ps sp' :=
 ⟨fun vs H Q E q => F.len vs H Q E (h _ _ _ _ q), fun A outer s H args us vs Q E hr he hb hv hs => F.run A outer s H args us vs Q E hr he hb hv (h _ _ _ _ hs)⟩
section
variable {X : Cx} {pins : List (Addr × Obj)} {σ : St} {H : Hp} {s s' : Shared}
theorem Inv.env0 (I : Inv X pins σ H s) : Env0 X.prog X.w X.K X.mg X.base X.A X.stack s H :=
 ⟨I.ok.frames, I.ok.mod, I.bs, Nat.le_trans I.ok.bsz I.sz, I.stack, I.stkFree, I.hok, I.bare⟩
theorem Inv.after {Q : VK} {u : Value} (I : Inv X pins σ H s) (h : CE X.stack X.prog X.w H s Q u s') : EP X pins σ Q u s' := by
 obtain ⟨v, H', os, bare, un, hok, r, q⟩ := h
 obtain ⟨hh, g, d, t, os'⟩ := s'
 obtain rfl : os' = s.os := os
 exact ⟨v, H', I.call (h' := hh) (g' := g) (d' := d) (t' := t) (ch := []) un hok bare (fun b z => absurd z (by simp)), r, q⟩
end
def tCall (sp : Sp) (dvs : List V) (E : XK) (t : TA) : TE := fun σ H Q => t σ H fun vs H1 => sp (vs ++ dvs) H1 Q E
def Binds (K : PySem.W.Frag) (fd : FuncData) (ps : List Str) (ds : List Value) : Prop :=
 ∀ (s : Shared) (us : List Value), K.In s.heap -> (us ++ ds).length = ps.length -> BindsTo s fd ⟨us, []⟩ (ps.zip (us ++ ds))
theorem Binds.all {K : PySem.W.Frag} {fd : FuncData} {ps : List Str} (h : ∀ us : List Value, us.length = ps.length -> bindArgs fd ⟨us, []⟩ = pure (ps.zip us)) : Binds K fd ps [] := fun s us _ hl => by
 rw [List.append_nil] at hl ⊢
 exact .of_eq (h us hl)
def Passes (CX : CXT) (X : Cx) (E : XK) : Prop := ∀ (pins : List (Addr × Obj)) (σ : St) (H : Hp) (s : Shared) (e : Value) (s' : Shared), Inv X pins σ H s -> CX X.stack H s E e s' -> X.xe e s'
section
variable {X : Cx} {CX : CXT} {k : Nat} {f C : Addr} {fd : FuncData} {ps : List Str} {sp : Sp} {dvs : List V} {ds : List Value} {E : XK} {x m : Str} {p pos apos : Pos} {e o : Expr} {es : List Expr} {ta : TE} {t : TA}
theorem run_fn {pins : List (Addr × Obj)} {σ : St} {H : Hp} {s : Shared} {Q : VK} {us : List Value} {vs : List V} (F : FnOk X.prog X.w X.K X.mg X.base CX k f fd ps sp) (hr : Room k X.A) (hb : Binds X.K fd ps ds) (hd : Vals dvs ds) (hx : Passes CX X E)
  (I : Inv X pins σ H s) (r : Vals vs us) (h : sp (vs ++ dvs) H Q E) : wpAny (model X.prog X.w) X.A (call (.ref f) us) (EP X pins σ Q) X.xe s := by
 have r2 : Vals (vs ++ dvs) (us ++ ds) := r.append hd
 have hl : (us ++ ds).length = ps.length := by rw [← r2.length]; exact F.len _ _ _ _ h
 refine wpAny_call (codeAny_mono (F.run X.A X.stack s H ⟨us, []⟩ (us ++ ds) (vs ++ dvs) Q E hr I.env0 (hb s us I.kIn hl) r2 h) fun r s' hq => ?_)
 cases r with
 | error e => exact hx pins σ H s e s' I hq
 | ok fl =>
  cases fl with
  | ret u => exact I.after hq
  | next => exact False.elim hq
  | brk => exact False.elim hq
  | cont => exact False.elim hq
theorem pe_call (F : FnOk X.prog X.w X.K X.mg X.base CX k f fd ps sp) (hr : Room k X.A) (hg : Gl X x) (hm : X.mg x = some (.ref f)) (hk : PySem.W.keepIn X.K (.ref f) = true) (hb : Binds X.K fd ps ds) (hd : Vals dvs ds) (hx : Passes CX X E)
  (ha : PA X (e :: es) t) (hdb : (x == ("__debug__" : Str)) = false := by decide) (he : starEach (e :: es) X.env = (false, eval e X.env) :: starEach es X.env := by rfl) (hpl : (backTo pos (starEach es X.env)).any (·.1) = false := by rfl) :
  PE X (.Call (.Name x p) (e :: es) [] pos) (tCall sp dvs E t) := by
 intro pins s σ H Q I h
 refine wpAny_Call_Name_kw (ld_glob I hg hm ?_ hdb)
 refine PySem.W.callWith_K (h₀ := X.base) I.ok.mod.kin hk (thn (ha pos pins s σ H _ I h) fun us s1 ⟨vs, H1, I1, r, q⟩ => ⟨I1.kIn, ?_⟩) he hpl
 exact run_fn F hr hb hd hx I1 r q
end
section
variable {X : Cx} {CX : CXT} {k : Nat} {f C : Addr} {fd : FuncData} {ps ks : List Str} {sp : Sp} {E : XK} {x m : Str} {p pos apos kpos : Pos} {e o : Expr} {es : List Expr} {kws : List Keyword} {te ta : TE} {t tk : TA} {nm : Option Str}
variable {g : List Value -> List Value -> List Value} {gV : List V -> List V -> List V}
end
structure FnScope (N P : List Str) (sc : Scope) : Prop where
 kind : sc.kind = .function
 co : sc.isCoroutine = false
 gen : sc.isGenerator = false
 nd : N.Nodup
 pre : N.take P.length = P
 par : ∀ x ∈ P, sc.names.lookup x = some .local \/ sc.names.lookup x = some .cell
 nofree : ∀ y ∈ sc.names, y.2 ≠ .free
theorem bindL_out {kindOf : Str -> Option NameKind} {x : Str} : ∀ {binds : List (Str × Value)} {m : Str -> Option Value}, (∀ v, (x, v) ∉ binds) -> bindL kindOf binds m x = m x
 | [], _, _ => rfl
 | (n, v) :: r, m, h => by
  unfold bindL
  rw [bindL_out fun w hw => h w (List.mem_cons_of_mem _ hw)]
  split
  · have : x ≠ n := by rintro rfl; exact h v List.mem_cons_self
    simp [this]
  · rfl
theorem bindC_out {kindOf : Str -> Option NameKind} {x : Str} : ∀ {binds : List (Str × Value)} {m : Str -> Option Value}, (∀ v, (x, v) ∉ binds) -> bindC kindOf binds m x = m x
 | [], _, _ => rfl
 | (n, v) :: r, m, h => by
  unfold bindC
  rw [bindC_out fun w hw => h w (List.mem_cons_of_mem _ hw)]
  split
  · rfl
  · have : x ≠ n := by rintro rfl; exact h v List.mem_cons_self
    simp [this]
theorem bindL_get {kindOf : Str -> Option NameKind} {x : Str} {v : Value} : ∀ {P : List Str} {vs : List Value} {i : Nat} {m : Str -> Option Value}, P.Nodup -> P[i]? = some x -> vs[i]? = some v -> kindOf x = some .local ->
  bindL kindOf (P.zip vs) m x = some v
 | [], _, _, _, _, h, _, _ => by simp at h
 | _ :: _, [], _, _, _, _, h, _ => by simp at h
 | p :: P, w :: vs, 0, m, nd, h1, h2, hk => by
  simp at h1 h2; subst h1; subst h2
  show bindL kindOf ((p, w) :: P.zip vs) m p = _
  unfold bindL
  rw [bindL_out fun v hv => (List.nodup_cons.mp nd).1 (List.of_mem_zip hv).1, if_pos hk]
  simp
 | p :: P, w :: vs, i + 1, m, nd, h1, h2, hk => by
  show bindL kindOf ((p, w) :: P.zip vs) m x = _
  unfold bindL
  exact bindL_get (i := i) (List.nodup_cons.mp nd).2 (by simpa using h1) (by simpa using h2) hk
theorem bindC_get {kindOf : Str -> Option NameKind} {x : Str} {v : Value} : ∀ {P : List Str} {vs : List Value} {i : Nat} {m : Str -> Option Value}, P.Nodup -> P[i]? = some x -> vs[i]? = some v -> kindOf x ≠ some .local ->
  bindC kindOf (P.zip vs) m x = some v
 | [], _, _, _, _, h, _, _ => by simp at h
 | _ :: _, [], _, _, _, _, h, _ => by simp at h
 | p :: P, w :: vs, 0, m, nd, h1, h2, hk => by
  simp at h1 h2; subst h1; subst h2
  show bindC kindOf ((p, w) :: P.zip vs) m p = _
  unfold bindC
  rw [bindC_out fun v hv => (List.nodup_cons.mp nd).1 (List.of_mem_zip hv).1, if_neg hk]
  simp
 | p :: P, w :: vs, i + 1, m, nd, h1, h2, hk => by
  show bindC kindOf ((p, w) :: P.zip vs) m x = _
  unfold bindC
  exact bindC_get (i := i) (List.nodup_cons.mp nd).2 (by simpa using h1) (by simpa using h2) hk
def start (N : List Str) (vs : List V) : St := vs.map some ++ List.replicate (N.length - vs.length) none
def cxOf (CX : CXT) (P : Program) (w : World) (K : PySem.W.Frag) (mg : Str -> Option Value) (base : Heap) (N : List Str) (qual : Str) (scope : Scope) (f : Addr) (cd : Value) (A : Around) (outer : List Env) (s : Shared) (H : Hp) (E : XK) : Cx where
 prog := P
 w := w
 K := K
 mg := mg
 base := base
 A := A.deeper (envOfC qual scope s.heap.objs.size f cd)
 N := N
 s₀ := s
 H₀ := H
 env := envOfC qual scope s.heap.objs.size f cd
 outer := outer
 stack := envOfC qual scope s.heap.objs.size f cd :: outer
 ex := []
 calm := true
 fn := fun _ => true
 pn := []
 xe := fun e s' => wpAny (model P w) (A.deeper (envOfC qual scope s.heap.objs.size f cd)) (leaving (envOfC qual scope s.heap.objs.size f cd) e) (fun _ s'' => CX outer H s E e s'') (fun e' s'' => CX outer H s E e' s'') s'
theorem cell_has {sc : Scope} {n : Nat} {x : Str} (h : sc.names.lookup x = some .cell) : ∃ c, (cellsFrom n sc.names []).lookup x = some c := by
 have q := PySem.W.cellsFrom_some sc.names n [] (.inl h)
 exact Option.isSome_iff_exists.mp q
theorem inv_start {CX : CXT} {P : Program} {w : World} {K : PySem.W.Frag} {mg : Str -> Option Value} {base : Heap} {N ps : List Str} {qual : Str} {scope : Scope} {f : Addr} {cd : Value} {A : Around} {outer : List Env} {s s1 : Shared} {H : Hp} {E : XK} {us : List Value} {vs : List V}
  (S : FnScope N ps scope) (hd : A.handled = none) (e0 : Env0 P w K mg base A outer s H) (hl : vs.length = ps.length) (r : Vals vs us)
  (x : InCallC s s.heap.objs.size (bindL (envOfC qual scope s.heap.objs.size f cd).kindOf (ps.zip us) fun _ => none) (cellsFrom (s.heap.objs.size + 1) scope.names []) (bindC (envOfC qual scope s.heap.objs.size f cd).kindOf (ps.zip us) fun _ => none) s1) :
  Inv (cxOf CX P w K mg base N qual scope f cd A outer s H E) [] (start N vs) H s1 := by
 have hpl : ps.length <= N.length := by have := congrArg List.length S.pre; rw [List.length_take] at this; omega
 obtain ⟨h1, tk, rfl, hk⟩ := x.done
 have noA : ∀ b : Addr, b ∉ (cxOf CX P w K mg base N qual scope f cd A outer s H E).ex := fun b z => absurd (show b ∈ ([] : List Addr) from z) (by simp)
 refine ⟨⟨e0.mod, S.kind, rfl, rfl, Nat.le_refl _, fun y z c h1 h2 => ?_, fun y hy => ?_, fun y c _ h => ?_, fun _ => hd, Around.frames_deeper e0.frames, .inr ⟨rfl, rfl⟩, fun b z => absurd z (noA b), e0.bs, e0.bsz, fun b _ _ => noA b, fun b z => absurd z (noA b), e0.funs, e0.frf⟩,
  rfl, e0.bare, Un.kept hk, ⟨_, x.toInCall.ns, fun i y v h1 h2 h3 => ?_⟩, fun y c h => ⟨_, x.cell y c h⟩, e0.hok.fresh (Nat.le_refl _), fun y c h => ?_, fun p hp => absurd (show p ∈ ([] : List (Addr × Obj)) from hp) (by simp), e0.hok.kept hk, ?_⟩
 · exact name_of_addr x.apart (PySem.mem_of_lookup h1) (PySem.mem_of_lookup h2)
 · have hy : scope.names.lookup y = some .cell \/ scope.names.lookup y = some .free := hy
   rcases hy with hy | hy
   · exact cell_has hy
   · exact absurd rfl (S.nofree _ (PySem.mem_of_lookup hy))
 · exact Nat.le_of_lt (x.above y c (PySem.mem_of_lookup h))
 · have hi : i < vs.length := by
    unfold start at h2
    by_cases hi : i < vs.length
    · exact hi
    · rw [List.getElem?_append_right (by simpa using hi)] at h2
      rw [List.getElem?_replicate] at h2
      split at h2 <;> cases h2
   have ha : vs[i]? = some v := by
    unfold start at h2
    rw [List.getElem?_append_left (by simpa using hi), List.getElem?_map] at h2
    cases e : vs[i]? with
    | none => rw [e] at h2; cases h2
    | some a => rw [e] at h2; cases h2; rfl
   obtain ⟨u, hu, rv⟩ := r.get ha
   have hp : ps[i]? = some y := by
    rw [← S.pre, List.getElem?_take_of_lt (by omega)]; exact h1
   have ndP : ps.Nodup := by rw [← S.pre]; exact S.nd.sublist (List.take_sublist _ _)
   refine ⟨u, rv, ?_⟩
   rcases S.par y (List.mem_of_getElem? hp) with k | k
   · exact .inl ⟨k, bindL_get ndP hp hu k⟩
   · obtain ⟨c, e⟩ := cell_has (n := s.heap.objs.size + 1) k
     refine .inr ⟨.inl k, c, e, ?_⟩
     have q := x.cell y c e
     rw [bindC_get ndP hp hu (by show scope.names.lookup y ≠ _; rw [k]; decide)] at q
     exact q
 · exact e0.hok.fresh (Nat.le_of_lt (x.above y c (PySem.mem_of_lookup h)))
 · unfold start
   show _ = N.length
   rw [List.length_append, List.length_map, List.length_replicate]
   omega
theorem fn_of {CX : CXT} {P : Program} {w : World} {K : PySem.W.Frag} {mg : Str -> Option Value} {base : Heap} {k : Nat} {f : Addr} {name qual : Str} {params : Arguments} {body : List Stmt} {scope : Scope} {dV kV doc pm cdv ct oc : Value} {an od : Option Addr}
  {osl : Array (Option Value)} {N ps : List Str} {sp : Sp} (lk : K.lookup f = some ⟨oc, od, .func (PySem.W.fnOf name qual params body scope dV kV doc pm an cdv ct), osl⟩) (hcd : PySem.W.codeIn K cdv qual = true) (S : FnScope N ps scope)
  (len : ∀ vs H Q E, sp vs H Q E -> vs.length = ps.length)
  (hbody : ∀ (A : Around) (outer : List Env) (s : Shared) (H : Hp) (vs : List V) (Q : VK) (E : XK), Room k (A.deeper (envOfC qual scope s.heap.objs.size f cdv)) -> sp vs H Q E ->
   ∃ t, PSs (cxOf CX P w K mg base N qual scope f cdv A outer s H E) body t /\ t { nx := fun _ H' => Q .non H', rt := Q } (start N vs) H) :
  FnOk P w K mg base CX (k + 1) f (PySem.W.fnOf name qual params body scope dV kV doc pm an cdv ct) ps sp := by
 refine ⟨len, fun A outer s H args us vs Q E hr e0 hb r hsp => ?_⟩
 have hl := len _ _ _ _ hsp
 have KX : K.In s.heap := e0.mod.kin.keeps fun b o e => (e0.bs b o e).1
 have lim : s.heap.NoLimit := e0.mod.nolimit.keeps fun b o e => (e0.bs b o e).1
 have hkind : ∀ y ∈ ps.zip us, scope.names.lookup y.1 = some .local \/ (scope.names.lookup y.1 = some .cell /\ ((cellsFrom (s.heap.objs.size + 1) scope.names []).lookup y.1).isSome = true) := fun ⟨n, v⟩ hy => by
  rcases S.par n (List.of_mem_zip hy).1 with q | q
  · exact .inl q
  · exact .inr ⟨q, PySem.W.cellsFrom_some _ _ _ (.inl q)⟩
 refine codeAny_call_function hr.depth (KX _ _ lk) rfl S.co S.gen rfl (PySem.W.codeRec_of KX hcd) (hb _ _ _ _ ?_)
 refine wpAny_newFunctionEnv_cells S.kind hkind fun env he s1 x => ?_
 subst he
 refine ⟨lim.keeps x.toInCall.keep, codeAny_func ?_⟩
 obtain ⟨t, ht, hq⟩ := hbody A outer s H vs Q E (hr.deeper _) hsp
 have I : Inv (cxOf CX P w K mg base N qual scope f cdv A outer s H E) [] (start N vs) H s1 := inv_start S hr.hd e0 hl r x
 refine wpAny_mono (ht [] s1 (start N vs) H _ I hq) (fun fl s' hs => ?_) fun e s' hs => hs
 have fin : ∀ {σ' : St} {H' : Hp} {v : V} {u : Value}, Inv (cxOf CX P w K mg base N qual scope f cdv A outer s H E) [] σ' H' s' -> RelV v u -> Q v H' -> CE outer P w H s Q u s' :=
  fun {σ' H' v u} J rv q => ⟨v, H', J.os, J.bare, J.base, J.hok, rv, q⟩
 cases fl with
 | ret u =>
  obtain ⟨v, σ', H', J, rv, q⟩ := hs
  exact fin J rv q
 | next =>
  obtain ⟨σ', H', J, q⟩ := hs
  exact fin (v := V.non) (u := Value.none) J rfl q
 | brk =>
  obtain ⟨_, _, _, q⟩ := hs
  exact False.elim q
 | cont =>
  obtain ⟨_, _, _, q⟩ := hs
  exact False.elim q
end L2
namespace L2
open PySem PySem.Spec PyProof.Rows
section
variable {X : Cx} {x : Str} {p pos : Pos} {e : Expr} {es : List Expr} {t : TA} {id T : String} {r : List V -> Hp -> VK -> Prop}
def tCB (r : List V -> Hp -> VK -> Prop) (t : TA) : TE := fun σ H Q => t σ H fun vs H1 => r vs H1 Q
theorem pe_callB (hc : CallR X (.builtin id) r) (hg : Gl X x) (hm : X.mg x = none) (hv : bootBuiltins x = some (.builtin id)) (ha : PA X (e :: es) t) (hn : x ≠ "__name__" := by decide) (hdb : (x == ("__debug__" : Str)) = false := by decide)
  (he : starEach (e :: es) X.env = (false, eval e X.env) :: starEach es X.env := by rfl) (hpl : (backTo pos (starEach es X.env)).any (·.1) = false := by rfl) : PE X (.Call (.Name x p) (e :: es) [] pos) (tCB r t) := by
 intro pins s σ H Q I h
 refine wpAny_Call_Name_kw (ld_blt I hg hm hv ?_ hn hdb)
 exact PyProof.Rows.callWith_builtin1 (thn (ha pos pins s σ H _ I h) fun us s1 ⟨vs, H1, I1, r1, q1⟩ => hc pins s1 σ H1 vs us Q I1 r1 q1) he hpl
theorem pe_callTy (hc : CallR X (.type T) r) (hg : Gl X x) (hm : X.mg x = none) (hv : bootBuiltins x = some (.type T)) (ha : PA X (e :: es) t) (hn : x ≠ "__name__" := by decide) (hdb : (x == ("__debug__" : Str)) = false := by decide)
  (he : starEach (e :: es) X.env = (false, eval e X.env) :: starEach es X.env := by rfl) (hpl : (backTo pos (starEach es X.env)).any (·.1) = false := by rfl) : PE X (.Call (.Name x p) (e :: es) [] pos) (tCB r t) := by
 intro pins s σ H Q I h
 refine wpAny_Call_Name_kw (ld_blt I hg hm hv ?_ hn hdb)
 exact PyProof.Rows.callWith_type1 (thn (ha pos pins s σ H _ I h) fun us s1 ⟨vs, H1, I1, r1, q1⟩ => hc pins s1 σ H1 vs us Q I1 r1 q1) he hpl
end
end L2
namespace HT
open PySem PyProof.Rows
section
open PySem.SeqAt
open PySem.AutoSeq1 (wpAny_loadPart')
open PySem.MeetsSeq PySem.MeetsSeq2 PySem.MeetsSeq3
end
section
variable {prog : Program} {w : World} {A : Around} {E : Value -> Shared -> Prop} {s : Shared}
theorem cat_tup {t b : Addr} {vs ws : List Value} {Q : Value -> Shared -> Prop} (ht : IsTup s.heap t vs.toArray) (hb : IsTup s.heap b ws.toArray) (hv : vs ≠ [])
  (h1 : ws = [] -> Q (.ref t) s) (h2 : ws ≠ [] -> Q (.ref s.heap.objs.size) { s with heap := s.heap.push { cls := .type "tuple", data := .seq (vs ++ ws).toArray } })
  (hsz : vs.length + ws.length <= sizeLine) : wpAny (model prog w) A (binaryOp .Add (.ref t) (.ref b)) Q E s := by
 obtain ⟨⟨cls, dd, data, sl⟩, ho, hc, n, hd⟩ := id ht
 obtain ⟨⟨cls2, dd2, data2, sl2⟩, ho2, hc2, n2, hd2⟩ := id hb
 simp only at hc hd hc2 hd2
 subst hc hd hc2 hd2
 have e : vs.toArray ++ ws.toArray = (vs ++ ws).toArray := by simp
 by_cases hw : ws = []
 · exact concat_meets ⟨_, ho, rfl⟩ ⟨_, ho2, rfl⟩ noFill_tuple_add seq_tuple_add PySem.F.slot_tuple_add PySem.F.entry_tuple_add (PySem.F.args_tuple_add_2 _ _)
    (tuple_addW1 t b vs.toArray ws.toArray n n2 dd dd2 sl sl2 (by simpa using hv) (by simp [hw])) ⟨ho, ho2, h1 hw⟩
 · refine concat_meets ⟨_, ho, rfl⟩ ⟨_, ho2, rfl⟩ noFill_tuple_add seq_tuple_add PySem.F.slot_tuple_add PySem.F.entry_tuple_add (PySem.F.args_tuple_add_2 _ _)
    (tuple_addW2 t b vs.toArray ws.toArray n n2 dd dd2 sl sl2 (by simpa using hv) (by simpa using hw) (by rw [List.size_toArray, List.size_toArray]; exact hsz)) ⟨ho, ho2, ?_⟩
   rw [e]
   exact h2 hw
def sIx (n d : Nat) : Option Int -> Nat
 | none => d
 | some v => if v < 0 then (v + (n : Int)).toNat else min v.toNat n
theorem sIx_le (n d : Nat) (hd : d <= n) (o : Option Int) : sIx n d o <= n := by
 cases o with
 | none => exact hd
 | some v =>
  show (if v < 0 then (v + (n : Int)).toNat else min v.toNat n) <= n
  by_cases hv : v < 0
  · rw [if_pos hv]; omega
  · rw [if_neg hv]; exact Nat.min_le_right _ _
theorem clip_eq (v : Int) (n d : Nat) : (if v < 0 then max (v + (n : Int)) 0 else min v (n : Int)) = ((sIx n d (some v) : Nat) : Int) := by
 show (if v < 0 then max (v + (n : Int)) 0 else min v (n : Int)) = (((if v < 0 then (v + (n : Int)).toNat else min v.toNat n) : Nat) : Int)
 by_cases hv : v < 0
 · simp only [if_pos hv]; omega
 · simp only [if_neg hv]; omega
theorem adjust_gen (lo hi : Option Int) (n : Nat) : Builtin.Slice.sliceAdjust lo hi 1 (n : Int) = (((sIx n 0 lo : Nat) : Int), ((sIx n n hi : Nat) : Int)) := by
 have h1 : ¬ ((1 : Int) < 0) := by omega
 unfold Builtin.Slice.sliceAdjust
 simp only [h1, if_false]
 refine Prod.ext ?_ ?_
 · cases lo with
   | none => rfl
   | some v => exact clip_eq v n 0
 · cases hi with
   | none => rfl
   | some v => exact clip_eq v n n
theorem places_gen (i j : Nat) : Builtin.Slice.slicePlaces (i : Int) (j : Int) 1 = j - i := by
 unfold Builtin.Slice.slicePlaces
 have h1 : (1 : Int) > 0 := by omega
 simp only [h1, if_true, Int.ediv_one]
 split <;> omega
theorem slicePart_ {v : Value} {o : Option Int} {Q : Option Int -> Shared -> Prop} (p : IsPart v o) (h : Q o s) : wpAny (model prog w) A (Builtin.Slice.slicePartIndex v) Q E s := by
 cases p with
 | none => exact slicePart_none h
 | int i t => exact slicePart_int h
theorem sliceApplied_gen {sl : Addr} {vl vu : Value} {lo hi : Option Int} {n : Nat} {Q : Int × Int × Nat -> Shared -> Prop} (hs : s.heap.IsSliceOf sl vl vu .none) (pl : IsPart vl lo) (pu : IsPart vu hi)
  (h : Q (((sIx n 0 lo : Nat) : Int), 1, sIx n n hi - sIx n 0 lo) s) : wpAny (model prog w) A (Builtin.Slice.sliceApplied (.ref sl) (pure (n : Int))) Q E s := by
 obtain ⟨os, hos, hcs, hds⟩ := id hs
 unfold Builtin.Slice.sliceApplied Builtin.Slice.sliceFields
 refine wpAny_bind (wpAny_bind (wpAny_field hos hds (x := vl) rfl (wpAny_bind (wpAny_field hos hds (x := vu) rfl (wpAny_bind (wpAny_field hos hds (x := .none) rfl (wpAny_pure ?_)))))))
 refine wpAny_bind (slicePart_none ?_)
 show wpAny _ _ (if ((1 : Int) == 0) = true then _ else _) _ _ s
 rw [if_neg (by decide)]
 refine wpAny_bind (slicePart_ pl (wpAny_bind (slicePart_ pu (wpAny_bind (wpAny_pure ?_)))))
 show wpAny _ _ (match Builtin.Slice.sliceAdjust lo hi 1 (n : Int) with | (lo, hi) => pure (lo, (1 : Int), Builtin.Slice.slicePlaces lo hi 1)) _ _ s
 rw [adjust_gen lo hi n]
 show wpAny _ _ (pure (((sIx n 0 lo : Nat) : Int), (1 : Int), Builtin.Slice.slicePlaces ((sIx n 0 lo : Nat) : Int) ((sIx n n hi : Nat) : Int) 1)) _ _ s
 rw [places_gen]
 exact wpAny_pure h
theorem pick_gen (xs : Array Value) (i k : Nat) : ((List.range k).filterMap fun (m : Nat) => xs[((i : Int) + (m : Int) * 1).toNat]?).toArray = ((xs.toList.drop i).take k).toArray := by
 have e : (fun (m : Nat) => xs[((i : Int) + (m : Int) * 1).toNat]?) = fun m => xs[i + m]? := by
  funext m
  have : ((i : Int) + (m : Int) * 1).toNat = i + m := by omega
  rw [this]
 rw [e]
 have := pick_run xs i k
 rw [List.filterMap_map] at this
 have e2 : ((fun x => xs[x]?) ∘ fun x => i + x) = fun m => xs[i + m]? := rfl
 rw [e2] at this
 rw [this]
theorem getItem_tuple_cut {t sl : Addr} {items : Array Value} {vl vu : Value} {lo hi : Option Int} {Q : Value -> Shared -> Prop} (ht : IsTup s.heap t items) (hs : s.heap.IsSliceOf sl vl vu .none) (pl : IsPart vl lo) (pu : IsPart vu hi)
  (hw : ¬ (sIx items.size 0 lo = 0 /\ sIx items.size items.size hi = items.size))
  (h : Q (.ref s.heap.objs.size) { s with heap := s.heap.push { cls := .type "tuple", data := .seq ((items.toList.drop (sIx items.size 0 lo)).take (sIx items.size items.size hi - sIx items.size 0 lo)).toArray } })
  (hsz : items.size <= sizeLine) : wpAny (model prog w) A (getItem (.ref t) (.ref sl)) Q E s := by
 have htake : sizeOk (.seq ((items.toList.drop (sIx items.size 0 lo)).take (sIx items.size items.size hi - sIx items.size 0 lo)).toArray) := by
  show ((items.toList.drop (sIx items.size 0 lo)).take (sIx items.size items.size hi - sIx items.size 0 lo)).toArray.size <= sizeLine
  rw [List.size_toArray, List.length_take, List.length_drop, Array.length_toList]
  omega
 have hj : sIx items.size items.size hi <= items.size := sIx_le _ _ (Nat.le_refl _) hi
 obtain ⟨os, hos, hcs, hds⟩ := id hs
 have hTs : s.TypeIs (.ref sl) "slice" := ⟨os, hos, hcs⟩
 unfold getItem
 try with_reducible refine wpAny_holding ?_
 first | refine wpAny_bind (wpAny_pure ?_) | skip
 refine wpAny_bind (wpAny_sequenceKey ht.typeIs (by decide) ?_)
 refine wpAny_bind (wpAny_callSpecial?_slot (name := Str.ofString "__getitem__") ht.typeIs PyProof.Rows.slot_tuple_getitem
  (wpAny_call_entry PyProof.Rows.slot_tuple_getitem ht.typeIs entry_tuple_getitem ?_ (args_tuple_getitem _ _)))
 show wpAny _ _ (Builtin.Tuple.tupleItemsOf (.ref t) >>= _) _ _ s
 refine wpAny_bind (tupleItemsOf_ ht ?_)
 refine wpAny_bind (wpAny_typeOf hTs ?_)
 rw [if_pos (by decide)]
 refine wpAny_bind (sliceApplied_gen hs pl pu ?_)
 have hno : ¬ ((((sIx items.size 0 lo : Nat) : Int) == 0 && (1 : Int) == 1 && (sIx items.size items.size hi - sIx items.size 0 lo) == items.size) = true) := by
  intro q
  rw [Bool.and_eq_true, Bool.and_eq_true] at q
  have q1 : ((sIx items.size 0 lo : Nat) : Int) = 0 := eq_of_beq q.1.1
  have q2 : sIx items.size items.size hi - sIx items.size 0 lo = items.size := eq_of_beq q.2
  exact hw ⟨by omega, by omega⟩
 show wpAny _ _ (if (((sIx items.size 0 lo : Nat) : Int) == 0 && (1 : Int) == 1 && (sIx items.size items.size hi - sIx items.size 0 lo) == items.size) = true then _ else _) _ _ s
 rw [if_neg hno, pick_gen]
 first
  | exact wpAny_bind (m := Builtin.Tuple.tupleExact _) (wpAny_newObj_type (wpAny_pure ⟨_, rfl, wpAny_pure h⟩) htake)
  | exact wpAny_bind (m := Builtin.Tuple.tupleExact _) (wpAny_newObj_type (wpAny_bind (wpAny_pure (wpAny_pure ⟨_, rfl, wpAny_pure h⟩))) htake)
  | exact wpAny_bind (wpAny_bind (m := Builtin.Tuple.tupleExact _) (wpAny_newObj_type (wpAny_pure (wpAny_pure ⟨_, rfl, wpAny_pure h⟩)) htake))
  | exact wpAny_bind (wpAny_bind (m := Builtin.Tuple.tupleExact _) (wpAny_newObj_type (wpAny_pure ⟨_, rfl, wpAny_pure h⟩) htake))
end
end HT
namespace L2
open PySem PySem.Spec PyProof.Rows
abbrev TO := St -> Hp -> (Option Int -> Hp -> Prop) -> Prop
def PO (X : Cx) (e : Option Expr) (t : TO) : Prop :=
 ∀ (pins : List (Addr × Obj)) (s : Shared) (σ : St) (H : Hp) (Q : Option Int -> Hp -> Prop), Inv X pins σ H s -> t σ H Q ->
  wpAny (model X.prog X.w) X.A (evalPart e X.env) (fun u s' => ∃ o H', Inv X pins σ H' s' /\ IsPart u o /\ Q o H') X.xe s
def tNoPart : TO := fun _ H Q => Q none H
def tPart (t : TE) : TO := fun σ H Q => t σ H fun x H1 => ∃ i, x = .int i /\ Q (some i) H1
section
variable {X : Cx} {e : Expr} {te : TE} {lo hi : Option Expr} {tl th : TO} {pos p2 : Pos}
theorem po_none : PO X none tNoPart := by
 intro pins s σ H Q I h
 rw [evalPart_none]
 exact wpAny_pure ⟨none, H, I, .none, h⟩
theorem po_some (h : PE X e te) : PO X (some e) (tPart te) := by
 intro pins s σ H Q I hw
 rw [evalPart_some]
 refine thn (h pins s σ H _ I hw) fun u s1 ⟨x, H1, I1, r1, q1⟩ => ?_
 obtain ⟨i, rfl, q⟩ := q1
 obtain ⟨t, rfl⟩ := r1
 exact ⟨some i, H1, I1, .int i t, q⟩
def SlR (X : Cx) (r : V -> Option Int -> Option Int -> Hp -> VK -> Prop) : Prop :=
 ∀ (pins : List (Addr × Obj)) (s : Shared) (σ : St) (H : Hp) (x : V) (v vl vu : Value) (lo hi : Option Int) (sl : Addr) (Q : VK), Inv X pins σ H s -> RelV x v -> s.heap.IsSliceOf sl vl vu .none -> IsPart vl lo -> IsPart vu hi -> r x lo hi H Q ->
  ∃ T id, typeLookup (.type T) "__getitem__" = pure (some (.builtin id)) /\ s.TypeIs v T /\ wpAny (model X.prog X.w) X.A (getItem v (.ref sl)) (EP X pins σ Q) X.xe s
def tSl (r : V -> Option Int -> Option Int -> Hp -> VK -> Prop) (te : TE) (tl th : TO) : TE := fun σ H Q => te σ H fun x H1 => tl σ H1 fun l H2 => th σ H2 fun u H3 => r x l u H3 Q
theorem pe_slice {r : V -> Option Int -> Option Int -> Hp -> VK -> Prop} (hr : SlR X r) (he : PE X e te) (hl : PO X lo tl) (hu : PO X hi th) : PE X (.Subscript e (.Slice lo hi none p2) pos) (tSl r te tl th) := by
 intro pins s σ H Q I h
 refine Subscript_ (thn (he pins s σ H _ I h) fun v s1 ⟨x, H1, I1, r1, q1⟩ => ?_)
 refine wpAny_Slice (thn (hl pins s1 σ H1 _ I1 q1) fun vl s2 ⟨l, H2, I2, pl, q2⟩ => thn (hu pins s2 σ H2 _ I2 q2) fun vu s3 ⟨u, H3, I3, pu, q3⟩ => ?_)
 rw [evalPart_none]
 refine wpAny_pure ?_
 have I4 : Inv X pins σ H3 { s3 with heap := s3.heap.push { cls := .type "slice", data := .fields #[vl, vu, .none] } } := I3.kept (t' := s3.toks) fun b ob q => Heap.get?_push_of_some _ q
 obtain ⟨T, id, hT, ht, hg⟩ := hr pins { s3 with heap := s3.heap.push { cls := .type "slice", data := .fields #[vl, vu, .none] } } σ H3 x v vl vu l u s3.heap.objs.size Q I4 r1 (Heap.IsSliceOf.new ..) pl pu q3
 show wpAny (model X.prog X.w) X.A (subscriptTail e (.Slice lo hi none p2) v (.ref s3.heap.objs.size)) (EP X pins σ Q) X.xe { s3 with heap := s3.heap.push { cls := .type "slice", data := .fields #[vl, vu, .none] } }
 exact tail_any (ops := [.ref s3.heap.objs.size, v]) ht hT hg (by with_unfolding_all rfl)
def cutV (xs : List V) (lo hi : Option Int) : List V := (xs.drop (HT.sIx xs.length 0 lo)).take (HT.sIx xs.length xs.length hi - HT.sIx xs.length 0 lo)
theorem cutV_length (xs : List V) (lo hi : Option Int) : (cutV xs lo hi).length <= xs.length := by
 unfold cutV
 rw [List.length_take, List.length_drop]
 omega
def rSlT (K : PySem.W.Frag) : V -> Option Int -> Option Int -> Hp -> VK -> Prop := fun x lo hi H Q => ∃ a xs, x = .ref a /\ SqT K H a xs /\
 ¬ (HT.sIx xs.length 0 lo = 0 /\ HT.sIx xs.length xs.length hi = xs.length) /\ ∀ p, H p = none -> Q (.ref p) (upd H p (.tup (cutV xs lo hi)))
theorem sl_tup : SlR X (rSlT X.K) := by
 intro pins s σ H x v vl vu lo hi sl Q I rx hs pl pu h
 obtain ⟨a, xs, rfl, hx, hw, q⟩ := h
 cases rx
 obtain ⟨its, r, ht, hz⟩ := I.tuple hx
 have hlen : its.toArray.size = xs.length := by rw [List.size_toArray]; exact r.length.symm
 refine ⟨"tuple", _, PyProof.Rows.slot_tuple_getitem.lookup, ht.typeIs, ?_⟩
 refine HT.getItem_tuple_cut ht hs pl pu (by rw [hlen]; exact hw) ?_ (by rw [hlen]; exact hz)
 rw [hlen]
 refine ⟨.ref s.heap.objs.size, _, I.laid (t' := s.toks) (o := .tup (cutV xs lo hi)) (fun b ob q => Heap.get?_push_of_some _ q) (Nat.le_refl _) ?_, rfl, q _ (I.hok.fresh (Nat.le_refl _))⟩
 exact ⟨Nat.le_trans (cutV_length xs lo hi) hz, _, (r.drop (HT.sIx xs.length 0 lo)).take (HT.sIx xs.length xs.length hi - HT.sIx xs.length 0 lo), IsTup.new _ _⟩
def rCatT (K : PySem.W.Frag) : R2 := fun x y H Q => ∃ a b xs ys, x = .ref a /\ y = .ref b /\ SqT K H a xs /\ SqT K H b ys /\ xs ≠ [] /\ xs.length + ys.length <= sizeLine /\
 (ys = [] -> Q (.ref a) H) /\ (ys ≠ [] -> ∀ p, H p = none -> Q (.ref p) (upd H p (.tup (xs ++ ys))))
theorem Vals.nil_iff {xs : List V} {us : List Value} (r : Vals xs us) : us = [] ↔ xs = [] := by
 cases r with
 | nil => simp
 | cons _ _ => simp
theorem op_catT : OpR X (binaryOp .Add) (rCatT X.K) := by
 intro pins s σ H x y v u Q I rx ry h
 obtain ⟨a, b, xs, ys, rfl, rfl, ha, hb, hx, hz, q1, q2⟩ := h
 cases rx
 cases ry
 obtain ⟨its, r1, p1, _⟩ := I.tuple ha
 obtain ⟨its2, r2, p2, _⟩ := I.tuple hb
 refine HT.cat_tup p1 p2 (fun z => hx (r1.nil_iff.mp z)) (fun z => ⟨.ref a, H, I, rfl, q1 (r2.nil_iff.mp z)⟩) (fun z => ?_) (by rw [← r1.length, ← r2.length]; exact hz)
 refine ⟨.ref s.heap.objs.size, _, I.laid (t' := s.toks) (o := .tup (xs ++ ys)) (fun b ob q => Heap.get?_push_of_some _ q) (Nat.le_refl _) ?_, rfl, q2 (fun w => z (r2.nil_iff.mpr w)) _ (I.hok.fresh (Nat.le_refl _))⟩
 exact ⟨by rw [List.length_append]; exact hz, _, r1.append r2, IsTup.new _ _⟩
end
end L2
namespace L2
open PySem PySem.Spec PyProof.Rows
def ixN (n : Nat) (i : Int) : Option Nat := if 0 <= i then (if i < n then some i.toNat else none) else if -(n : Int) <= i then some (i + n).toNat else none
def atI {α : Type} (xs : List α) (i : Int) : Option α := (ixN xs.length i).bind fun j => xs[j]?
theorem ixN_seq {n : Nat} {i : Int} {j : Nat} (h : ixN n i = some j) : seqIndex? i n = some j /\ j < n /\ -(n : Int) <= i /\ i < n := by
 unfold ixN at h
 by_cases h0 : 0 <= i
 · rw [if_pos h0] at h
   by_cases h1 : i < n
   · rw [if_pos h1] at h
     have e : i.toNat = j := Option.some.inj h
     exact ⟨by rw [seqIndex_of h0 h1, e], by omega, by omega, h1⟩
   · rw [if_neg h1] at h; cases h
 · rw [if_neg h0] at h
   by_cases h1 : -(n : Int) <= i
   · rw [if_pos h1] at h
     have e : (i + n).toNat = j := Option.some.inj h
     exact ⟨by rw [seqIndex_neg (by omega) h1, e], by omega, h1, by omega⟩
   · rw [if_neg h1] at h; cases h
theorem atI_get {α : Type} {xs : List α} {i : Int} {v : α} (h : atI xs i = some v) : ∃ j, seqIndex? i xs.length = some j /\ xs[j]? = some v /\ j < xs.length /\ -(xs.length : Int) <= i /\ i < xs.length := by
 unfold atI at h
 cases e : ixN xs.length i with
 | none => rw [e] at h; cases h
 | some j =>
  rw [e] at h
  obtain ⟨h1, h2, h3, h4⟩ := ixN_seq e
  exact ⟨j, h1, h, h2, h3, h4⟩
theorem atI_nat {α : Type} {xs : List α} {j : Nat} {v : α} (h : xs[j]? = some v) : atI xs (j : Int) = some v := by
 have hj : j < xs.length := (List.getElem?_eq_some_iff.mp h).1
 have e : ixN xs.length (j : Int) = some j := by
  unfold ixN
  rw [if_pos (by omega), if_pos (by omega)]; simp
 unfold atI; rw [e]; exact h
def PlainIx (b : Expr) : Prop := ∀ o i, subscripted b false o i = operate [o, i] (getItem o i)
def IxR (X : Cx) (r : R2) : Prop :=
 ∀ (value slice : Expr) (pins : List (Addr × Obj)) (s : Shared) (σ : St) (H : Hp) (x y : V) (v u : Value) (Q : VK), Inv X pins σ H s -> RelV x v -> RelV y u -> r x y H Q ->
  subscripted slice false v u = operate [v, u] (getItem v u) -> wpAny (model X.prog X.w) X.A (subscriptTail value slice v u) (EP X pins σ Q) X.xe s
def MtR (X : Cx) (id : String) (r : V -> List V -> Hp -> VK -> Prop) : Prop :=
 ∀ (pins : List (Addr × Obj)) (s : Shared) (σ : St) (H : Hp) (x : V) (xs : List V) (v : Value) (us : List Value) (Q : VK), Inv X pins σ H s -> RelV x v -> Vals xs us -> r x xs H Q ->
  wpAny (model X.prog X.w) X.A (call (.builtin id) (v :: us)) (EP X pins σ Q) X.xe s
section
variable {X : Cx} {a b : Expr} {ta tb : TE} {pos : Pos}
theorem pe_ix {r : R2} (hr : IxR X r) (ha : PE X a ta) (hb : PE X b tb) (hs : PlainIx b) : PE X (.Subscript a b pos) (tOp r ta tb) := by
 intro pins s σ H Q I h
 exact Subscript_ (binT ha hb I h fun v u s2 x y H2 I2 rx ry q => hr a b pins s2 σ H2 x y v u Q I2 rx ry q (hs _ _))
def rIxL (K : PySem.W.Frag) : R2 := fun x y H Q => ∃ p xs i v, x = .ref p /\ y = .int i /\ SqL K H p xs /\ atI xs i = some v /\ Q v H
def rIxT (K : PySem.W.Frag) : R2 := fun x y H Q => ∃ p xs i v, x = .ref p /\ y = .int i /\ SqT K H p xs /\ atI xs i = some v /\ Q v H
theorem ix_list : IxR X (rIxL X.K) := by
 intro value slice pins s σ H x y v u Q I rx ry h hs
 obtain ⟨p, xs, i, z, rfl, rfl, hq, he, q⟩ := h
 cases rx
 obtain ⟨t, rfl⟩ := ry
 obtain ⟨its, r, pl, hz⟩ := I.list hq
 obtain ⟨j, h1, h2, h3, h4, h5⟩ := atI_get he
 obtain ⟨w, ew, rw'⟩ := r.get h2
 have hl := r.length
 have hn := line63
 have fin : EP X pins σ Q w s := ⟨z, H, I, rw', q⟩
 by_cases h0 : 0 <= i
 · have hj : i.toNat = j := by
    rw [seqIndex_of h0 h5] at h1
    exact Option.some.inj h1
   exact item_listR pl.isList h0 (by omega) (by rw [hj]; simpa using ew) fin hs
 · have hj : (i + (its.toArray.size : Int)).toNat = j := by
    rw [seqIndex_neg (by omega) h4] at h1
    rw [List.size_toArray, ← hl]
    exact Option.some.inj h1
   exact subscriptTail_builtinR (x := w) pl.isList.typeIs slot_list_getitem.lookup
    (wpAny_getItem_list_neg (Q := fun r s' => r = w /\ EP X pins σ Q r s') pl.isList (by omega) (by rw [List.size_toArray] <;> omega) (by omega) (by rw [hj]; simpa using ew) ⟨rfl, fin⟩) hs
theorem ix_tup : IxR X (rIxT X.K) := by
 intro value slice pins s σ H x y v u Q I rx ry h hs
 obtain ⟨p, xs, i, z, rfl, rfl, hq, he, q⟩ := h
 cases rx
 obtain ⟨t, rfl⟩ := ry
 obtain ⟨its, r, pl, hz⟩ := I.tuple hq
 obtain ⟨j, h1, h2, h3, h4, h5⟩ := atI_get he
 obtain ⟨w, ew, rw'⟩ := r.get h2
 have hl := r.length
 have hn := line63
 have fin : EP X pins σ Q w s := ⟨z, H, I, rw', q⟩
 exact subscriptTail_builtinR (x := w) pl.typeIs slot_tuple_getitem.lookup
  (getItem_tuple (j := j) (Q := fun r s' => r = w /\ EP X pins σ Q r s') pl (by omega) (by omega) (by rw [List.size_toArray, ← hl]; exact h1) (by simpa using ew) ⟨rfl, fin⟩) hs
theorem mapSeq_set (its : List Value) (n j : Nat) (u : Value) : Obj.mapSeq (·.setIfInBounds j u) { cls := .type "list", data := .seq its.toArray n } = { cls := .type "list", data := .seq (its.set j u).toArray n } := by
 simp [Obj.mapSeq]
theorem Inv.lst {pins : List (Addr × Obj)} {σ : St} {H : Hp} {s : Shared} {p : Addr} {xs : List V} (I : Inv X pins σ H s) (h : H p = some (.lst xs)) :
  ∃ (its : List Value) (n : Nat), Vals xs its /\ s.heap.get? p = some { cls := .type "list", data := .seq its.toArray n } /\ xs.length <= sizeLine := by
 obtain ⟨z, its, n, r, e⟩ := I.hok p _ h
 exact ⟨its, n, r, e, z⟩
theorem Inv.lstUpd {pins : List (Addr × Obj)} {σ : St} {H : Hp} {s : Shared} {p : Addr} {xs ys : List V} {its its' : List Value} {n n' : Nat} {f : Obj -> Obj} (I : Inv X pins σ H s) (h : H p = some (.lst xs))
  (ho : s.heap.get? p = some { cls := .type "list", data := .seq its.toArray n }) (hf : f { cls := .type "list", data := .seq its.toArray n } = { cls := .type "list", data := .seq its'.toArray n' }) (r : Vals ys its') (hz : ys.length <= sizeLine) (t : Nat) :
  Inv X pins σ (upd H p (.lst ys)) { s with heap := s.heap.update p f, toks := t } := by
 have e : (s.heap.update p f).get? p = some { cls := .type "list", data := .seq its'.toArray n' } := by
  rw [Heap.get?_update_self f ho (by rw [hf] <;> rfl), hf]
 refine I.write (x := p) (e := p) (by rw [h]; trivial) (.inl rfl) (fun b u hb q => (Heap.get?_update_other _ _ (Ne.symm hb)).trans q) ⟨_, e⟩ ?_
 exact ⟨hz, its', n', r, e⟩
def rSetL : V -> V -> V -> Hp -> (Hp -> Prop) -> Prop := fun o i v H Q => ∃ p xs k j, o = .ref p /\ i = .int k /\ H p = some (.lst xs) /\ ixN xs.length k = some j /\ Q (upd H p (.lst (xs.set j v)))
theorem set_list : PSet X rSetL := by
 intro pins s σ H o i v ov iv u Q I ro ri rv h
 obtain ⟨p, xs, k, j, rfl, rfl, hp, hj, q⟩ := h
 cases ro
 obtain ⟨t, rfl⟩ := ri
 obtain ⟨its, n, r, ho, hz⟩ := I.lst hp
 obtain ⟨h1, h2, h3, h4⟩ := ixN_seq hj
 have hl := r.length
 have hn := line63
 have I' : Inv X pins σ (upd H p (.lst (xs.set j v))) { s with heap := s.heap.update p (Obj.mapSeq (·.setIfInBounds j u)) } :=
  I.lstUpd hp ho (mapSeq_set its n j u) (r.set rv j) (by rw [List.length_set]; exact hz) s.toks
 by_cases h0 : 0 <= k
 · have hk : k.toNat = j := by
    rw [seqIndex_of h0 h4] at h1
    exact Option.some.inj h1
   exact PySem.W.ki_setAt ho h0 (by omega) (by rw [List.size_toArray, ← hl]; exact h4) (by rw [hk]; exact ⟨_, I', q⟩)
 · have hk : (k + (its.toArray.size : Int)).toNat = j := by
    rw [seqIndex_neg (by omega) h3] at h1
    rw [List.size_toArray, ← hl]
    exact Option.some.inj h1
   exact PySem.W.ki_setBack ho (by omega) (by rw [List.size_toArray, ← hl]; exact h3) (by omega) (by rw [hk]; exact ⟨_, I', q⟩)
theorem slice_bounds (lo hi : Option Int) (n : Nat) : (sliceBounds lo hi none n).1 = ((HT.sIx n 0 lo : Nat) : Int) /\ (sliceBounds lo hi none n).2.1 = ((HT.sIx n n hi : Nat) : Int) /\ (sliceBounds lo hi none n).2.2 = 1 := by
 refine ⟨?_, ?_, rfl⟩
 · cases lo with
   | none => simp [sliceBounds, HT.sIx]
   | some i =>
    simp only [sliceBounds, HT.sIx, Option.getD_none, show (1 : Int) > 0 by decide, if_true]
    by_cases h : i < 0
    · simp only [h, if_true] <;> omega
    · simp only [h, if_false] <;> omega
 · cases hi with
   | none => simp [sliceBounds, HT.sIx]
   | some i =>
    simp only [sliceBounds, HT.sIx, Option.getD_none, show (1 : Int) > 0 by decide, if_true]
    by_cases h : i < 0
    · simp only [h, if_true] <;> omega
    · simp only [h, if_false] <;> omega
theorem slicePick_cut (its : List Value) (lo hi : Option Int) : slicePick its.toArray lo hi none = ((its.drop (HT.sIx its.length 0 lo)).take (HT.sIx its.length its.length hi - HT.sIx its.length 0 lo)).toArray := by
 obtain ⟨h1, h2, h3⟩ := slice_bounds lo hi its.toArray.size
 unfold slicePick
 rw [h1, h2, h3]
 simp only [sliceRange_one, pick_run, List.size_toArray] <;> rfl
def rSlL (K : PySem.W.Frag) : V -> Option Int -> Option Int -> Hp -> VK -> Prop := fun x lo hi H Q => ∃ a xs, x = .ref a /\ SqL K H a xs /\ ∀ p, H p = none -> Q (.ref p) (upd H p (.lst (cutV xs lo hi)))
theorem sl_list : SlR X (rSlL X.K) := by
 intro pins s σ H x v vl vu lo hi sl Q I rx hs pl pu h
 obtain ⟨a, xs, rfl, hx, q⟩ := h
 cases rx
 obtain ⟨its, r, ht, hz⟩ := I.list hx
 have hlen := r.length
 refine ⟨"list", _, slot_list_getitem.lookup, ht.isList.typeIs, ?_⟩
 refine wpAny_getItem_list_slice ht.isList hs pl pu .none (by simp) ?_ (by rw [List.size_toArray] <;> omega)
 rw [slicePick_cut, ← hlen]
 refine ⟨.ref s.heap.objs.size, _, I.laid (t' := s.toks) (o := .lst (cutV xs lo hi)) (fun b ob q => Heap.get?_push_of_some _ q) (Nat.le_refl _) ?_, rfl, q _ (I.hok.fresh (Nat.le_refl _))⟩
 exact ⟨Nat.le_trans (cutV_length xs lo hi) hz, _, 0, (r.drop (HT.sIx xs.length 0 lo)).take (HT.sIx xs.length xs.length hi - HT.sIx xs.length 0 lo), Heap.get?_push_size _ rfl⟩
theorem call_len_seq : CallR X (.builtin "len") (fun xs H Q => ∃ p ys, xs = [.ref p] /\ (SqL X.K H p ys \/ SqT X.K H p ys) /\ Q (.int ys.length) H) := by
 intro pins s σ H xs us Q I r h
 obtain ⟨p, ys, rfl, hq, q⟩ := h
 obtain ⟨u, rfl, rx⟩ := vals1 r
 cases rx
 have hn := line63
 rcases hq with hq | hq
 · obtain ⟨its, r', pl, hz⟩ := I.list hq
   have hlen := r'.length
   exact Calls.call_len_list pl.isList (by simp only [List.size_toArray] <;> omega) ⟨.int ys.length, H, I.tok _, ⟨s.toks + 1, by rw [List.size_toArray, hlen]⟩, q⟩
 · obtain ⟨its, r', pl, hz⟩ := I.tuple hq
   have hlen := r'.length
   exact len_tuple pl (by simp only [List.size_toArray] <;> omega) ⟨.int ys.length, H, I.tok _, ⟨s.toks + 1, by rw [List.size_toArray, hlen]⟩, q⟩
theorem call_list_of : CallR X (.type "list") (fun xs H Q => ∃ p ys, xs = [.ref p] /\ (SqL X.K H p ys \/ SqT X.K H p ys) /\ ∀ l, H l = none -> Q (.ref l) (upd H l (.lst ys))) := by
 intro pins s σ H xs us Q I r h
 obtain ⟨p, ys, rfl, hq, q⟩ := h
 obtain ⟨u, rfl, rx⟩ := vals1 r
 cases rx
 have fin : ∀ (its : List Value), Vals ys its -> ys.length <= sizeLine -> ∀ (h' : Heap) (c' : Nat), (∀ b o', s.heap.get? b = some o' -> h'.get? b = some o') ->
   h'.get? s.heap.objs.size = some { cls := .type "list", dict := none, data := .seq its.toArray c', slots := #[] } -> EP X pins σ Q (.ref s.heap.objs.size) { s with heap := h' } := fun its r' hz h' c' kp e =>
  ⟨.ref s.heap.objs.size, _, I.laid (t' := s.toks) kp (Nat.le_refl _) (show ObjOk X.prog X.w _ h' _ (.lst ys) from ⟨hz, its, c', r', e⟩), rfl, q _ (I.hok.fresh (Nat.le_refl _))⟩
 rcases hq with hq | hq
 · obtain ⟨its, r', pl, hz⟩ := I.list hq
   have hlen := r'.length
   obtain ⟨o, ho, hc, n, hd⟩ := pl.isList
   exact call_list_seq p (.inl rfl) ho hc hd (fun h' c' kp e => fin its r' hz h' c' kp e) (by simp only [List.size_toArray] <;> omega)
 · obtain ⟨its, r', pl, hz⟩ := I.tuple hq
   have hlen := r'.length
   obtain ⟨o, ho, hc, n, hd⟩ := pl
   exact call_list_seq p (.inr rfl) ho hc hd (fun h' c' kp e => fin its r' hz h' c' kp e) (by simp only [List.size_toArray] <;> omega)
theorem call_tuple_of : CallR X (.type "tuple") (fun xs H Q => ∃ p ys, xs = [.ref p] /\ ((SqL X.K H p ys /\ ∀ l, H l = none -> Q (.ref l) (upd H l (.tup ys))) \/ (SqT X.K H p ys /\ Q (.ref p) H))) := by
 intro pins s σ H xs us Q I r h
 obtain ⟨p, ys, rfl, h⟩ := h
 obtain ⟨u, rfl, rx⟩ := vals1 r
 cases rx
 rcases h with ⟨hq, q⟩ | ⟨hq, q⟩
 · obtain ⟨its, r', pl, hz⟩ := I.list hq
   have hlen := r'.length
   refine call_tuple_list pl.isList (fun h' kp => ?_) (by simp only [List.size_toArray] <;> omega)
   have I1 : Inv X pins σ H { s with heap := h' } := I.kept (t' := s.toks) kp
   have I2 : Inv X pins σ (upd H h'.objs.size (.tup ys)) { s with heap := h'.push { cls := .type "tuple", data := .seq its.toArray } } :=
    I1.laid (t' := s.toks) (fun b o e => Heap.get?_push_of_some _ e) (Nat.le_refl _) (show ObjOk X.prog X.w _ _ _ (.tup ys) from ⟨hz, its, r', IsTup.new _ _⟩)
   exact ⟨.ref h'.objs.size, _, I2, rfl, q _ (I1.hok.fresh (Nat.le_refl _))⟩
 · obtain ⟨its, r', pl, hz⟩ := I.tuple hq
   exact call_tuple_same pl ⟨.ref p, H, I, rfl, q⟩
def tyV (K : PySem.W.Frag) (T : String) (x : V) (H : Hp) : Prop := match x with
 | .str _ => T = "str"
 | .int _ => T = "int"
 | .ref p => (T = "list" /\ ∃ xs, SqL K H p xs) \/ (T = "tuple" /\ ∃ o, K.lookup p = some o /\ o.cls = .type "tuple" /\ o.dict = none) \/
   (T = "dict" /\ ((∃ kvs, H p = some (.dK kvs)) \/ ∃ kvs, H p = some (.dT kvs))) \/ (T = "set" /\ ∃ S n, H p = some (.set S n))
 | _ => False
theorem tyV_is {pins : List (Addr × Obj)} {σ : St} {H : Hp} {s : Shared} {T : String} {x : V} {v : Value} (I : Inv X pins σ H s) (r : RelV x v) (ty : tyV X.K T x H) :
  s.TypeIs v T /\ ∀ a, v = .ref a -> ∃ ob, s.heap.get? a = some ob /\ ob.dict = none := by
 cases x with
 | str z =>
  obtain ⟨t, rfl⟩ := r
  cases (show T = "str" from ty)
  exact ⟨typeIs_str s z t, fun _ e => nomatch e⟩
 | int i =>
  obtain ⟨t, rfl⟩ := r
  cases (show T = "int" from ty)
  exact ⟨typeIs_int s i t, fun _ e => nomatch e⟩
 | ref p =>
  cases r
  rcases ty with ⟨rfl, xs, hq⟩ | ⟨rfl, o, hk, hc, hd⟩ | ⟨rfl, hk⟩ | ⟨rfl, S, n, hk⟩
  · obtain ⟨its, _, pl, _⟩ := I.list hq
    refine ⟨pl.isList.typeIs, fun a e => ?_⟩
    cases e
    obtain ⟨o, n, e, c, hd, _⟩ := pl
    exact ⟨o, e, hd⟩
  · refine ⟨⟨o, I.kIn p o hk, hc⟩, fun a e => ?_⟩
    cases e
    exact ⟨o, I.kIn _ o hk, hd⟩
  · have z : ∃ o, s.heap.get? p = some o /\ o.ExactDict := by
     rcases hk with ⟨kvs, hk⟩ | ⟨kvs, hk⟩
     · obtain ⟨_, _, _, _, o, _, _, e, ex, _⟩ := I.hok p _ hk
       exact ⟨o, e, ex⟩
     · obtain ⟨_, _, _, _, o, _, _, e, ex, _⟩ := I.hok p _ hk
       exact ⟨o, e, ex⟩
    obtain ⟨o, e, ex⟩ := z
    refine ⟨⟨o, e, ex.1⟩, fun a e2 => ?_⟩
    cases e2
    exact ⟨o, e, ex.2.1⟩
  · obtain ⟨o, _, _, _, e, ex, _⟩ := I.hok p _ hk
    refine ⟨⟨o, e, ex.1⟩, fun a e2 => ?_⟩
    cases e2
    exact ⟨o, e, ex.2.1⟩
 | _ => exact False.elim ty
def tBM0 (K : PySem.W.Frag) (T : String) (r : V -> List V -> Hp -> VK -> Prop) (to : TE) : TE := fun σ H Q => to σ H fun x H1 => tyV K T x H1 /\ r x [] H1 Q
def tBM (K : PySem.W.Frag) (T : String) (r : V -> List V -> Hp -> VK -> Prop) (to : TE) (t : TA) : TE := fun σ H Q => to σ H fun x H1 => tyV K T x H1 /\ t σ H1 fun xs H2 => r x xs H2 Q
variable {o e : Expr} {es : List Expr} {to : TE} {t : TA} {name : Str} {apos cpos : Pos} {T id : String} {r : V -> List V -> Hp -> VK -> Prop}
theorem pe_bm0 (pa : PlainAttrs T) (slot : Slot T name id) (hty : typeOf (.builtin id) = pure (.type "method_descriptor")) (hm : MtR X id r) (ho : PE X o to)
  (hbase : attributeBase o name X.env (eval o X.env) = eval o X.env := by rfl) (hline : (apos.endLine == cpos.line) = true := by rfl) : PE X (.Call (.Attribute o name apos) [] [] cpos) (tBM0 X.K T r to) := by
 intro pins s σ H Q I h
 refine wpAny_Call_method0_late hbase hline (thn (ho pins s σ H _ I h) fun v s1 ⟨x, H1, I1, r1, ty, q1⟩ => ?_)
 obtain ⟨h1, h2⟩ := tyV_is I1 r1 ty
 exact ⟨T, id, pa, slot, hty, h1, h2, Calls.callWith_builtin rfl (PySem.evalArgs_none (hm pins s1 σ H1 x [] v [] Q I1 r1 .nil q1))⟩
theorem pe_bm (pa : PlainAttrs T) (slot : Slot T name id) (hty : typeOf (.builtin id) = pure (.type "method_descriptor")) (hm : MtR X id r) (ho : PE X o to) (ha : PA X (e :: es) t)
  (hbase : attributeBase o name X.env (eval o X.env) = eval o X.env := by rfl)
  (hfew : ((backTo cpos (starEach (e :: es) X.env)).all (fun x => !x.1) && (backToKw cpos (keywordEach [] X.env)).all (fun x => x.1.isSome)
   && decide ((e :: es).length + ([] : List Keyword).length + (if ([] : List Keyword).isEmpty then 0 else 1) < 30)) = true := by rfl)
  (hline : (apos.endLine == cpos.line) = true := by rfl) (hs : starEach (e :: es) X.env = (false, eval e X.env) :: starEach es X.env := by rfl) (hplain : (backTo cpos (starEach es X.env)).any (·.1) = false := by rfl) :
  PE X (.Call (.Attribute o name apos) (e :: es) [] cpos) (tBM X.K T r to t) := by
 intro pins s σ H Q I h
 refine wpAny_Call_method_late hbase hfew hline rfl (thn (ho pins s σ H _ I h) fun v s1 ⟨x, H1, I1, r1, ty, q1⟩ => ?_)
 obtain ⟨h1, h2⟩ := tyV_is I1 r1 ty
 refine ⟨T, id, pa, slot, hty, h1, h2, ?_⟩
 have hA := ha cpos pins s1 σ H1 _ I1 q1
 rw [hs] at hA ⊢
 refine Calls.callWith_builtin (by show (false || (backTo cpos (starEach es X.env)).any (·.1)) = false; rw [hplain] <;> rfl) (Calls.evalArgs_plain ?_)
 exact thn hA fun us s2 ⟨vs, H2, I2, r2, q2⟩ => hm pins s2 σ H2 x vs v us Q I2 r1 r2 q2
end
end L2
namespace L2
open PySem PySem.Spec PyProof.Rows
def MtM (X : Cx) (id : String) (r : V -> List V -> Hp -> VK -> Prop) : Prop :=
 ∀ (pins : List (Addr × Obj)) (s : Shared) (σ : St) (H : Hp) (x : V) (xs : List V) (v : Value) (us : List Value) (Q : VK), Inv X pins σ H s -> RelV x v -> Vals xs us -> r x xs H Q ->
  wpAny (model X.prog X.w) X.A (call (.builtin id) (v :: us)) (EP X pins σ Q) X.xe s
theorem Vals.one : ∀ {x : V} {us : List Value}, Vals [x] us -> ∃ u, us = [u] /\ RelV x u
 | _, _, .cons r .nil => ⟨_, rfl, r⟩
theorem Vals.two : ∀ {x y : V} {us : List Value}, Vals [x, y] us -> ∃ u v, us = [u, v] /\ RelV x u /\ RelV y v
 | _, _, _, .cons r (.cons q .nil) => ⟨_, _, rfl, r, q⟩
theorem Vals.zero : ∀ {us : List Value}, Vals [] us -> us = []
 | _, .nil => rfl
theorem Vals.rep {xs : List V} {us : List Value} (h : Vals xs us) : ∀ k : Nat, Vals (List.replicate k xs).flatten (List.replicate k us).flatten
 | 0 => .nil
 | k + 1 => by
  rw [List.replicate_succ, List.replicate_succ, List.flatten_cons, List.flatten_cons]
  exact Vals.append h (Vals.rep h k)
theorem foldl_rep (its : List Value) : ∀ (k : Nat) (acc : List Value),
  List.foldl (fun x1 x2 => x1 ++ x2) acc.toArray (List.replicate k its.toArray) = (acc ++ (List.replicate k its).flatten).toArray
 | 0, acc => by simp
 | k + 1, acc => by
  have e : acc.toArray ++ its.toArray = (acc ++ its).toArray := by simp
  have e2 : (acc ++ its) ++ (List.replicate k its).flatten = acc ++ (List.replicate (k + 1) its).flatten := by
   rw [List.replicate_succ, List.flatten_cons, List.append_assoc]
  rw [← e2, ← foldl_rep its k (acc ++ its), ← e, List.replicate_succ, List.foldl_cons]
section
variable {X : Cx} {pins : List (Addr × Obj)} {σ : St} {H : Hp} {s : Shared} {l b : Addr} {xs ys zs : List V}
theorem Inv.lset {its its' : List Value} {n : Nat} {f : Array Value -> Array Value} {t' : Nat} (I : Inv X pins σ H s) (hH : H l = some (.lst xs))
  (e : s.heap.get? l = some { cls := .type "list", data := .seq its.toArray n }) (hf : f its.toArray = its'.toArray) (hv : Vals ys its') (hz : ys.length <= sizeLine) :
  Inv X pins σ (upd H l (.lst ys)) { s with heap := s.heap.update l (Obj.mapSeq f), toks := t' } := by
 have q := PySem.IsL.update e f
 rw [hf] at q
 refine I.write (x := l) (e := l) (by rw [hH]; exact trivial) (.inl rfl) (fun b' u hb hu => (Heap.get?_update_other s.heap (Obj.mapSeq f) (Ne.symm hb)).trans hu) ⟨_, q⟩ ?_
 exact ⟨hz, its', _, hv, q⟩
theorem Inv.lnew {its : List Value} {t' : Nat} (I : Inv X pins σ H s) (hv : Vals ys its) (hz : ys.length <= sizeLine) :
  Inv X pins σ (upd H s.heap.objs.size (.lst ys)) { s with heap := s.heap.push { cls := .type "list", data := .seq its.toArray }, toks := t' } :=
 I.laid (fun _ _ q => Heap.get?_push_of_some _ q) (Nat.le_refl _) ⟨hz, its, 0, hv, Heap.get?_push_size _ rfl⟩
theorem Inv.fresh (I : Inv X pins σ H s) : H s.heap.objs.size = none := I.hok.fresh (Nat.le_refl _)
theorem Inv.lstM (I : Inv X pins σ H s) (hH : H l = some (.lst xs)) : xs.length <= sizeLine /\ ∃ (its : List Value) (n : Nat), Vals xs its /\ xs.length = its.length /\ s.heap.get? l = some { cls := .type "list", data := .seq its.toArray n } := by
 obtain ⟨z, its, n, r, e⟩ := I.hok l _ hH
 exact ⟨z, its, n, r, r.length, e⟩
theorem notLongL {n : Nat} (h : n <= sizeLine) : Builtin.List.listTooLong n = false := by
 unfold Builtin.List.listTooLong
 exact decide_eq_false (by omega)
end
section
variable {X : Cx}
def rAppend : V -> List V -> Hp -> VK -> Prop := fun x vs H Q => ∃ l xs y, x = .ref l /\ vs = [y] /\ H l = some (.lst xs) /\ xs.length < sizeLine /\ Q .non (upd H l (.lst (xs ++ [y])))
theorem mt_append : MtM X "list.append" rAppend := by
 intro pins s σ H x vs v us Q I rx rv h
 obtain ⟨l, xs, y, rfl, rfl, hH, hz, q⟩ := h
 cases rx
 obtain ⟨u, rfl, ru⟩ := rv.one
 obtain ⟨z, its, n, r, hl, e⟩ := I.lstM hH
 refine call_meets F.slot_list_append ⟨_, e, rfl⟩ F.entry_list_append (F.args_list_append_2 _ _) (PySem.list_append l its.toArray n u (by rw [List.size_toArray]; omega)) ⟨e, ?_⟩
 refine ⟨.non, _, I.lset (its' := its ++ [u]) hH e (by simp) (r.append (.cons ru .nil)) ?_, rfl, q⟩
 rw [List.length_append, List.length_singleton]
 omega
def rClear : V -> List V -> Hp -> VK -> Prop := fun x vs H Q => ∃ l xs, x = .ref l /\ vs = [] /\ H l = some (.lst xs) /\ Q .non (upd H l (.lst []))
theorem mt_clear : MtM X "list.clear" rClear := by
 intro pins s σ H x vs v us Q I rx rv h
 obtain ⟨l, xs, rfl, rfl, hH, q⟩ := h
 cases rx
 have hus := rv.zero
 subst hus
 obtain ⟨z, its, n, r, hl, e⟩ := I.lstM hH
 refine call_meets F.slot_list_clear ⟨_, e, rfl⟩ F.entry_list_clear (F.args_list_clear_1 _) (AutoSeq1.list_clear_list_0 l its.toArray n (by rw [List.size_toArray]; omega)) ⟨e, ?_⟩
 exact ⟨.non, _, I.lset (its' := []) (ys := []) hH e rfl .nil (Nat.zero_le _), rfl, q⟩
def rCat : R2 := fun x y H Q => ∃ l b xs zs, x = .ref l /\ y = .ref b /\ H l = some (.lst xs) /\ H b = some (.lst zs) /\ xs.length + zs.length <= sizeLine /\ ∀ p, H p = none -> Q (.ref p) (upd H p (.lst (xs ++ zs)))
theorem op_cat : OpR X (binaryOp .Add) rCat := by
 intro pins s σ H x y v u Q I rx ry h
 obtain ⟨l, b, xs, zs, rfl, rfl, hH, hB, hz, q⟩ := h
 cases rx
 cases ry
 obtain ⟨z, its, n, r, hl, e⟩ := I.lstM hH
 obtain ⟨z2, its2, n2, r2, hl2, e2⟩ := I.lstM hB
 refine PySem.P.add_list e e2 ?_ (by rw [List.size_toArray, List.size_toArray]; omega)
 have ea : its.toArray ++ its2.toArray = (its ++ its2).toArray := by simp
 rw [ea]
 exact ⟨.ref _, _, I.lnew (t' := s.toks) (r.append r2) (by rw [List.length_append]; omega), rfl, q _ I.fresh⟩
def rRep : R2 := fun x y H Q => ∃ l k xs, x = .ref l /\ y = .int k /\ H l = some (.lst xs) /\ -(2 ^ 63) <= k /\ k < 2 ^ 63 /\ xs.length * k.toNat <= sizeLine /\
 ∀ p, H p = none -> Q (.ref p) (upd H p (.lst (List.replicate k.toNat xs).flatten))
theorem len_rep {α : Type} (xs : List α) (k : Nat) : (List.replicate k xs).flatten.length = k * xs.length := by
 induction k with
 | zero => simp
 | succ k ih => rw [List.replicate_succ, List.flatten_cons, List.length_append, ih, Nat.succ_mul, Nat.add_comm]
theorem op_rep : OpR X (binaryOp .Mult) rRep := by
 intro pins s σ H x y v u Q I rx ry h
 obtain ⟨l, k, xs, rfl, rfl, hH, h1, h2, hz, q⟩ := h
 cases rx
 obtain ⟨t, rfl⟩ := ry
 obtain ⟨z, its, n, r, hl, e⟩ := I.lstM hH
 have hlen : its.toArray.size * k.toNat <= sizeLine := by rw [List.size_toArray, ← hl]; exact hz
 have hcap : ¬ its.toArray.size * k.toNat > (2 ^ 63 - 1) / 8 := by
  have : (sizeLine : Nat) <= (2 ^ 63 - 1) / 8 := by decide
  omega
 have hfit : ¬ (!Builtin.List.listFitsIndex k) = true := by
  rw [fitsIndex_both h1 h2]
  exact Bool.false_ne_true
 have hlong : ¬ Builtin.List.listTooLong (its.toArray.size * k.toNat) = true := by
  rw [notLongL hlen]
  exact Bool.false_ne_true
 have hnew : List.foldl (fun x1 x2 => x1 ++ x2) #[] (List.replicate (if its.toArray.isEmpty = true then 0 else k.toNat) its.toArray) = (List.replicate k.toNat its).flatten.toArray := by
  have f0 : ∀ m : Nat, List.foldl (fun x1 x2 => x1 ++ x2) #[] (List.replicate m its.toArray) = (List.replicate m its).flatten.toArray := fun m => by
   have := foldl_rep its m []
   rw [List.nil_append] at this
   exact this
  rw [f0]
  cases its with
  | nil => simp
  | cons a r' => rw [if_neg (by simp)]
 refine wpAny_binaryOp_repeat_ref (T := "list") (U := "int") (by decide) ⟨_, e, rfl⟩ (fun s' => typeIs_int s' k t) noFill_list_mul F.fills_int_mul F.slot_int_rmul repeat_list F.slot_int_index.lookup
  (call_meets F.slot_int_rmul (typeIs_int s k t) F.entry_int_rmul (F.args_int_rmul_2 _ _) (int___rmul___int_list k t l its.toArray n)
   ⟨e, rfl, ⟨_, e, rfl⟩, call_meets F.slot_list_mul ⟨_, e, rfl⟩ F.entry_list_mul (F.args_list_mul_2 _ _) (AutoListH.list___mul___list_int_3 l its.toArray n k t hfit hcap hlong) ⟨e, ?_⟩⟩)
 rw [hnew]
 exact ⟨.ref _, _, I.lnew (t' := s.toks) (r.rep k.toNat) (by rw [len_rep, Nat.mul_comm]; exact hz), rfl, q _ I.fresh⟩
end
section
variable {prog : Program} {w : World} {A : Around} {E : Value -> Shared -> Prop} {s : Shared}
end
section
variable {X : Cx}
end
end L2
namespace Att
open PySem PySem.W PySem.Calls PyProof.Rows
theorem ints_of_wellAll {P : Params} {h : Heap} : ∀ (ns : List Int) (vs : List Value), WellAll P h vs (ns.map WData.int) -> IntsAre vs ns := by
 intro ns
 induction ns with
 | nil =>
  intro vs w
  rw [List.map_nil] at w
  cases w
  exact .nil
 | cons n ns ih =>
  intro vs w
  rw [List.map_cons] at w
  cases w with
  | cons a b =>
   cases a
   exact .cons _ _ (ih _ b)
theorem script_of {l : OpenLaw} {n : Nat} (hn : l.most = some n) {P : Params} {h : Heap} {args : List WData} {vals : List Value}
  (hpre : l.row.toRowW.claim.pre args = true) (hwl : WellAll P h vals args) :
  ∃ a vs ns, vals = [Value.ref a] /\ args = [WData.list (ns.map WData.int)] /\ h.get? a = some { cls := .type "list", data := .seq vs.toArray } /\ IntsAre vs ns /\ ns.length <= n := by
 have hsh : WShape.hasAll [] args [.list .int] = true := (pre_splitW hpre).1
 have hc : l.pre.holds [] { args := args } = true := (pre_splitW hpre).2
 obtain ⟨d, r, rfl, h1, h2⟩ := hasAllW_cons hsh
 obtain rfl := hasAllW_nil h2
 obtain ⟨xs, rfl, h3⟩ := hasW_list h1
 obtain ⟨ns, rfl⟩ := items_int h3
 have hlen : ns.length <= n := by
  unfold OpenLaw.pre at hc
  have h4 : (WTm.not (.lt (.lit (.int (n : Int))) (.len (.arg 0)))).holds [] { args := [.list (ns.map .int)] } = true := by
   have h4 := (holds_andW hc).1
   rw [hn] at h4
   exact h4
  have h5 := condW_of h4 (w_not (w_lt w_lit (w_len_list (w_arg rfl))))
  rw [List.length_map] at h5
  refine Nat.le_of_not_lt fun q => ?_
  have q' : (n : Int) < ((ns.length : Nat) : Int) := by omega
  first
   | (rw [decide_eq_true q'] at h5; exact absurd h5 (by decide))
   | (simp at h5; omega)
 cases hwl with
 | cons w1 w2 =>
  cases w2
  cases w1 with
  | list ho hall => exact ⟨_, _, ns, rfl, rfl, ho, ints_of_wellAll ns _ hall, hlen⟩
theorem post_true (l : OpenLaw) (args : List WData) : l.row.toRowW.claim.post args (.bool true) args = true :=
 postW_of (r := l.row.toRowW) (X := (true == true))
  (show WShape.has [] (.bool true) .bool = true by first | rfl | decide | simp [WShape.has, WShape.arms, WShape.armsAll])
  (show (WTm.eq .res (.lit (.bool true))).value [] { args := args, res := some (.bool true), after := args } = some (.bool (true == true)) from w_eq_bool (w_res rfl) w_lit) rfl
theorem attach_call {l : OpenLaw} {n : Nat} {q : Program} {loose : List Str} {XP : (Str -> Option Value) -> Heap -> Prop} {YP : World -> Heap -> Prop} {d : DefRec}
  (hn : l.most = some n) (hdf : d.params.defaults = [])
  (call : ∀ (w : World) (s₀ s₁ : Shared) (mg mb : Str -> Option Value) (fa : Addr) (o : Obj) (pm cd doc : Value) (a : Addr) (vs : List Value) (ns : List Int),
   Ground q loose [] XP w s₀ mg mb s₁.heap -> YP w s₁.heap ->
   s₁.heap.get? fa = some o -> o.data = .func (docDef d.name d.params d.body d.scope pm cd doc) -> s₁.heap.CodeRec cd d.name -> mg d.name = some (.ref fa) ->
   s₁.heap.get? a = some { cls := .type "list", data := .seq vs.toArray } -> IntsAre vs ns -> ns.length <= n -> s₁.gens = #[] ->
   codeAny (model l.prog w) callerA (.call (.ref fa) ⟨[.ref a], []⟩) (fun r s' => r = .ok (.ret (.bool true)) /\ OldK s₁.heap s'.heap /\ s'.os = s₁.os /\ AllBare s'.gens) s₁) :
  WalkO q loose XP YP l.row.toRowW d [] (fun f vs => PySem.call f vs) := by
 intro w s₀ s₁ mg mb G Y fa o pm cd doc dV kV ho hd hcd hD hmg hg args vals as hpre hlay hrd hwl hlo
 obtain rfl : dV = .none := Dflts.none hD hdf
 obtain rfl : kV = .none := Dflts.noKw hD
 obtain ⟨a, vs, ns, rfl, rfl, hobj, hints, hlen⟩ := script_of hn hpre hwl
 refine enter_call (codeAny_mono (call w s₀ s₁ mg mb fa o pm cd doc a vs ns G Y ho (fd_plain hd) hcd hmg hobj hints hlen hg) fun r s' hq => ?_)
 obtain ⟨rfl, h2, h3, h4⟩ := hq
 exact ⟨.inl ⟨.bool true, .bool true, [], rfl, fun _ => rfl, .bool true, post_true l _, fun _ => ⟨List.Pairwise.nil, fun _ hm => (nomatch hm)⟩⟩, h2, h3, h4⟩
section
variable {prog : Program} {w : World} {A : Around} {E : Value -> Shared -> Prop} {s : Shared} {K : Frag}
end
end Att
namespace L2
open PySem PySem.Spec PyProof.Rows
theorem vals_ints : ∀ {vs : List Value} {ns : List Int}, IntsAre vs ns -> Vals (ns.map V.int) vs
 | _, _, .nil => .nil
 | _, _, .cons n t h => .cons ⟨t, rfl⟩ (vals_ints h)
def Only (H : Hp) : Prop := ∀ b, H b = none \/ ∃ o xs, H b = some (.frz o (.lst xs))
theorem law_call {P : Program} {w : World} {K : PySem.W.Frag} {mg mb : Str -> Option Value} {CX : CXT} {k : Nat} {fa a : Addr} {fd : FuncData} {x : Str} {sp : Sp} {s₁ : Shared} {vs : List Value} {ns : List Int}
  (KX : K.In s₁.heap) (hns : s₁.heap.Ns mainGlobals mg) (hb : s₁.heap.Ns builtinsNs mb) (hbb : ∀ x : Str, x ≠ "__name__" -> mb x = bootBuiltins x) (hlim : s₁.heap.NoLimit) (hg : s₁.gens = #[])
  (ha : s₁.heap.get? a = some { cls := .type "list", data := .seq vs.toArray }) (hi : IntsAre vs ns) (hl : ns.length <= sizeLine) (hr : Room k callerA)
  (F : ∀ base : Heap, K.In base -> base.Ns mainGlobals mg -> FnOk P w K mg base CX k fa fd [x] sp) (hbind : ∀ (s : Shared) (u : Value), BindsTo s fd ⟨[u], []⟩ [(x, u)])
  (hsp : ∀ H : Hp, Only H -> SqL K H a (ns.map V.int) -> sp [.ref a] H (fun v _ => v = .bl true) fun _ _ _ => False)
  (hCX : ∀ H e s', CX [] H s₁ (fun _ _ _ => False) e s' -> False) :
  codeAny (model P w) callerA (.call (.ref fa) ⟨[.ref a], []⟩) (fun r s' => r = .ok (.ret (.bool true)) /\ OldK s₁.heap s'.heap /\ s'.os = s₁.os /\ AllBare s'.gens) s₁ := by
 have rv := vals_ints hi
 have lenV := hi.length
 -- from an abstract heap in which nothing but the script may be tracked
 have core : ∀ H : Hp, Only H -> SqL K H a (ns.map V.int) -> HOk P w H s₁.heap -> (∀ b, H b ≠ none -> b = a) -> (H a ≠ none -> K.lookup a = none) ->
   codeAny (model P w) callerA (.call (.ref fa) ⟨[.ref a], []⟩) (fun r s' => r = .ok (.ret (.bool true)) /\ OldK s₁.heap s'.heap /\ s'.os = s₁.os /\ AllBare s'.gens) s₁ := by
  intro H hO hS hok hA hK
  have base_of : ∀ {b : Addr} {o : Obj}, s₁.heap.get? b = some o -> H b = none -> (hidT s₁.heap H).get? b = some o := fun e n => hidT_get e n
  have noA : ∀ {b : Addr} {o : Obj} {es : Array DictEntry} {ep : Nat}, s₁.heap.get? b = some o -> o.data = .dict es ep -> H b = none := fun {b o es ep} e d => by
   cases q : H b with
   | none => rfl
   | some u =>
    have e' : b = a := hA b (by rw [q]; simp)
    subst e'
    rw [ha] at e; cases e
    have d' : Data.seq vs.toArray _ = Data.dict es ep := d
    cases d'
  have nsK : ∀ {b : Addr} {m : Str -> Option Value}, s₁.heap.Ns b m -> (hidT s₁.heap H).Ns b m := fun {b m} ⟨o, es, ep, e, d, r⟩ => ⟨o, es, ep, base_of e (noA e d), d, r⟩
  have hKb : K.In (hidT s₁.heap H) := fun b o e => base_of (KX b o e) (by
   cases q : H b with
   | none => rfl
   | some u =>
    have e' : b = a := hA b (by rw [q]; simp)
    subst e'
    rw [hK (by rw [q]; simp)] at e; cases e)
  have hM : Mod K mg (hidT s₁.heap H) := ⟨hKb, nsK hns, ⟨mb, nsK hb, hbb⟩, let ⟨mc, h1, h2⟩ := hlim; ⟨mc, nsK h1, h2⟩⟩
  have e0 : Env0 P w K mg (hidT s₁.heap H) callerA [] s₁ H := ⟨rfl, hM, fun b o e => of_hidT e, Nat.le_of_eq (hidT_size _ _), trivial, fun b hb => absurd (show b ∈ ([] : List Addr) from hb) (by simp), hok, .of_eq hg⟩
  refine codeAny_mono ((F _ hKb (nsK hns)).run callerA [] s₁ H ⟨[.ref a], []⟩ [.ref a] [.ref a] _ _ hr e0 (hbind s₁ (.ref a)) (.cons rfl .nil) (hsp H hO hS)) fun r s' h => ?_
  cases r with
  | error e => exact (hCX H e s' h).elim
  | ok fl =>
   cases fl with
   | next => exact False.elim h
   | brk => exact False.elim h
   | cont => exact False.elim h
   | ret u =>
    obtain ⟨v, H', os, bare, un, hok', r', q⟩ := h
    have q' : v = .bl true := q
    subst q'
    obtain rfl : u = Value.bool true := r'
    refine ⟨rfl, OldK.of_keep fun b o e => ?_, os, bare⟩
    cases q : H b with
    | none => exact un.keep b o e q (by intro z; exact absurd (show b ∈ ([] : List Addr) from z) (by simp)) (by simp)
    | some u =>
     rcases hO b with z | ⟨ob, xs, z⟩
     · rw [q] at z; cases z
     · have z2 := un.frzs b ob _ z
       obtain ⟨e1, _⟩ := hok b _ z
       obtain ⟨e2, _⟩ := hok' b _ z2
       rw [e] at e1; cases e1
       exact e2
 cases hk : K.lookup a with
 | some o =>
  -- the script is one of the module's own objects
  have e := KX a o hk
  rw [ha] at e
  cases e
  refine core (fun _ => none) (fun _ => .inl rfl) (.inr ⟨_, vs.toArray, _, hk, rfl, rfl, rfl, by rw [List.size_toArray, lenV]; exact hl, by simpa using rv⟩) (fun b u z => by have z' : (none : Option HO) = some u := z; cases z') (fun b z => absurd rfl z) fun z => absurd rfl z
 | none =>
  refine core (fun b => if b = a then some (.frz { cls := .type "list", data := .seq vs.toArray } (.lst (ns.map V.int))) else none) (fun b => ?_) (.inl (.inr ⟨{ cls := .type "list", data := .seq vs.toArray }, if_pos rfl⟩)) (fun b u z => ?_) (fun b z => ?_) fun _ => hk
  · by_cases hb : b = a
    · exact .inr ⟨_, _, if_pos hb⟩
    · exact .inl (if_neg hb)
  · by_cases hb : b = a
    · have z' := (if_pos hb).symm.trans z
      cases z'
      subst hb
      exact ⟨ha, by rw [List.length_map]; exact hl, vs, _, rv, ha⟩
    · have z' := (if_neg hb).symm.trans z
      cases z'
  · by_cases hb : b = a
    · exact hb
    · exact absurd (if_neg hb) z
end L2
namespace L2
open PySem PySem.Spec PyProof.Rows
abbrev KOf {K : PySem.W.Frag} {h : Heap} (_ : K.In h) : PySem.W.Frag := K
theorem walk_of {l : PySem.W.OpenLaw} {n k : Nat} {q : Program} {loose : List Str} {XP : (Str -> Option Value) -> Heap -> Prop} {YP : World -> Heap -> Prop} {d : DefRec} {K : Params -> PySem.W.Frag} {CX : World -> CXT} {sp : World -> Sp} {x : Str}
  (hn : l.most = some n) (hn2 : n <= sizeLine) (hdf : d.params.defaults = []) (hr : Room k callerA)
  (hY : ∀ (w : World) (h : Heap), YP w h -> (K w.params).In h)
  (F : ∀ (w : World) (mg : Str -> Option Value) (fa : Addr) (h : Heap), (K w.params).In h -> h.Ns mainGlobals mg -> mg d.name = some (.ref fa) ->
   ∃ fd : FuncData, (∀ (s : Shared) (u : Value), BindsTo s fd ⟨[u], []⟩ [(x, u)]) /\
    ∀ base : Heap, (K w.params).In base -> base.Ns mainGlobals mg -> FnOk l.prog w (K w.params) mg base (CX w) k fa fd [x] (sp w))
  (hsp : ∀ (w : World) (H : Hp) (a : Addr) (ns : List Int), ns.length <= n -> Only H -> SqL (K w.params) H a (ns.map V.int) -> sp w [.ref a] H (fun v _ => v = .bl true) fun _ _ _ => False)
  (hCX : ∀ (w : World) (H : Hp) (s : Shared) (e : Value) (s' : Shared), CX w [] H s (fun _ _ _ => False) e s' -> False) :
  PySem.W.WalkO q loose XP YP l.row.toRowW d [] (fun f vs => PySem.call f vs) := by
 refine Att.attach_call hn hdf fun w s₀ s₁ mg mb fa o pm cd doc a vs ns G Y ho hd hcd hmg hobj hints hlen hg => ?_
 have KX := hY w _ Y
 obtain ⟨fd, hb, hF⟩ := F w mg fa _ KX G.T.g hmg
 exact law_call KX G.T.g G.T.b G.T.builtins G.T.nolimit hg hobj hints (Nat.le_trans hlen hn2) hr hF hb (fun H hO hS => hsp w H a ns hlen hO hS) fun H e s' => hCX w H s₁ e s'
end L2
namespace L2
open PySem PySem.Spec PyProof.Rows
def defArgs (s : Stmt) : Arguments := match s with
 | .FunctionDef _ a _ _ _ _ _ _ _ _ => a
 | _ => { posonlyargs := [], args := [], vararg := none, kwonlyargs := [], kw_defaults := [], kwarg := none, defaults := [] }
def defBody (s : Stmt) : List Stmt := match s with
 | .FunctionDef _ _ b _ _ _ _ _ _ _ => b
 | _ => []
def defScope (s : Stmt) : Scope := match s with
 | .FunctionDef _ _ _ _ _ _ sc _ _ _ => sc
 | _ => { kind := .function, names := [], isGenerator := false, isCoroutine := false }
abbrev CX0 : CXT := fun _ _ _ _ _ _ => False
abbrev E0 : XK := fun _ _ _ => False
theorem pass0 {X : Cx} : Passes CX0 X E0 := fun _ _ _ _ _ _ _ h => h.elim
structure Fun (K : PySem.W.Frag) (x qual : Str) (st : Stmt) (f : Addr) (fd : FuncData) : Prop where
 ex : ∃ (oc : Value) (od : Option Addr) (kV doc pm : Value) (an : Option Addr) (cdv ct : Value) (osl : Array (Option Value)),
  fd = PySem.W.fnOf x qual (defArgs st) (defBody st) (defScope st) .none kV doc pm an cdv ct /\ K.lookup f = some ⟨oc, od, .func fd, osl⟩ /\ PySem.W.codeIn K cdv qual = true
 kp : PySem.W.keepIn K (.ref f) = true
section
variable {P : Program} {w : World} {K : PySem.W.Frag} {mg : Str -> Option Value} {base : Heap}
theorem Fun.ok {x qual : Str} {st : Stmt} {f : Addr} {fd : FuncData} {N ps : List Str} {k : Nat} {sp : Sp} (F : Fun K x qual st f fd) (S : FnScope N ps (defScope st)) (len : ∀ vs H Q E, sp vs H Q E -> vs.length = ps.length)
  (hbody : ∀ (cdv : Value) (A : Around) (outer : List Env) (s : Shared) (H : Hp) (vs : List V) (Q : VK) (E : XK), Room k (A.deeper (envOfC qual (defScope st) s.heap.objs.size f cdv)) -> sp vs H Q E ->
   ∃ t, PSs (cxOf CX0 P w K mg base N qual (defScope st) f cdv A outer s H E).nox (defBody st) t /\ t { nx := fun _ H' => Q .non H', rt := Q } (start N vs) H) : FnOk P w K mg base CX0 (k + 1) f fd ps sp := by
 obtain ⟨oc, od, kV, doc, pm, an, cdv, ct, osl, rfl, lk, hcd⟩ := F.ex
 refine fn_of lk hcd S len fun A outer s H vs Q E hr hsp => ?_
 obtain ⟨t, h, q⟩ := hbody cdv A outer s H vs Q E hr hsp
 exact ⟨t, h.nox, q⟩
theorem Fun.binds {x qual : Str} {st : Stmt} {f : Addr} {fd : FuncData} {ps : List Str} (F : Fun K x qual st f fd)
  (h : ∀ (kV doc pm : Value) (an : Option Addr) (cdv ct : Value) (us : List Value), us.length = ps.length -> bindArgs (PySem.W.fnOf x qual (defArgs st) (defBody st) (defScope st) .none kV doc pm an cdv ct) ⟨us, []⟩ = pure (ps.zip us)) : Binds K fd ps [] := by
 obtain ⟨oc, od, kV, doc, pm, an, cdv, ct, osl, rfl, lk, hcd⟩ := F.ex
 exact .all (h kV doc pm an cdv ct)
theorem fun_mk {x qual : Str} {st : Stmt} {f : Addr} {oc : Value} {od an : Option Addr} {osl : Array (Option Value)} {kV doc pm cdv ct : Value} (l : K.lookup f = some ⟨oc, od, .func (PySem.W.fnOf x qual (defArgs st) (defBody st) (defScope st) .none kV doc pm an cdv ct), osl⟩)
  (c : PySem.W.codeIn K cdv qual = true) (k : PySem.W.keepIn K (.ref f) = true) : Fun K x qual st f (PySem.W.fnOf x qual (defArgs st) (defBody st) (defScope st) .none kV doc pm an cdv ct) := ⟨⟨oc, od, kV, doc, pm, an, cdv, ct, osl, rfl, l, c⟩, k⟩
end
theorem small1000 {n : Nat} (h : n <= 1000) : n < sizeLine := Nat.lt_of_le_of_lt h (by decide)
section
variable {X : Cx}
theorem pv (i : Nat) {x : Str} {pos : Pos} (hN : X.N[i]? = some x := by rfl) (hv : Vis X.env.scope x := by first | exact Or.inl rfl | exact Or.inr (Or.inl rfl) | exact Or.inr (Or.inr rfl)) (hd : (x == ("__debug__" : Str)) = false := by decide)
  (hcd : (x == ("__classdict__" : Str)) = false := by decide) : PE X (.Name x pos) (tVar i) := pe_var hN hv hd hcd
end
theorem iteF {A B : Prop} (h : B) : if false = true then A else B := by
 rw [if_neg Bool.false_ne_true]
 exact h
theorem iteT {A B : Prop} (h : A) : if true = true then A else B := by
 rw [if_pos rfl]
 exact h
theorem ite2 {c A B : Prop} [Decidable c] (h1 : c -> A) (h2 : ¬ c -> B) : if c then A else B := by
 by_cases h : c
 · rw [if_pos h]
   exact h1 h
 · rw [if_neg h]
   exact h2 h
theorem iteNS {c A B : Prop} [Decidable c] (hc : c) (h : B) : if (!decide c) = true then A else B := by
 rw [decide_eq_true hc]
 exact iteF h
def Same (H H' : Hp) : Prop := ∀ b o, H b = some o -> H' b = some o
theorem Same.refl (H : Hp) : Same H H := fun _ _ h => h
theorem Same.trans {H H1 H2 : Hp} (a : Same H H1) (b : Same H1 H2) : Same H H2 := fun c o h => b c o (a c o h)
theorem Same.free {H H' : Hp} (e : Same H H') {l : Addr} (h : H' l = Option.none) : H l = Option.none := by
 cases q : H l with
 | none => rfl
 | some o =>
  rw [e l o q] at h
  cases h
theorem Same.seq {K : PySem.W.Frag} {H H' : Hp} {a : Addr} {xs : List V} (e : Same H H') (h : SqL K H a xs) : SqL K H' a xs := by
 rcases h with (h | ⟨o, h⟩) | h
 · exact .inl (.inl (e _ _ h))
 · exact .inl (.inr ⟨o, e _ _ h⟩)
 · exact .inr h
end L2
set_option Elab.async false
set_option linter.all false
set_option maxRecDepth 100000
set_option maxHeartbeats 4000000
namespace L2
open PySem PySem.Spec PyProof.Rows
theorem of_pure {α β : Type} {M : Model} {A : Around} {a : α} {t : Sem β} {Q : α -> Shared -> Prop} {E : Value -> Shared -> Prop} {Q' : β -> Shared -> Prop} {E' : Value -> Shared -> Prop} {s : Shared}
  (h : wpAny M A (pure a) Q E s) (k : Q a s -> wpAny M A t Q' E' s) : wpAny M A t Q' E' s := fun Γ p hΓ => k (h Γ p hΓ) Γ p hΓ
def clGo (env : Env) : List (Str × NameKind) -> List (Str × Addr) -> List (Str × Addr)
 | [], cs => cs
 | (n, k) :: r, cs => clGo env r (if k == .free then (n, (env.cells.lookup n).getD 0) :: cs else cs)
def clOf (scope : Scope) (env : Env) : List (Str × Addr) := clGo env scope.names []
theorem clGo_forIn (env : Env) : ∀ (names : List (Str × NameKind)) (cs : List (Str × Addr)), (∀ y ∈ names, y.2 = .free -> ∃ c, env.cells.lookup y.1 = some c) ->
  (forIn names cs (fun (y : Str × NameKind) (r : List (Str × Addr)) => (if (y.2 == NameKind.free) = true then (do let a ← cellOf env y.1; pure (ForInStep.yield ((y.1, a) :: r))) else pure (ForInStep.yield r) : Sem (ForInStep (List (Str × Addr)))))) = (pure (clGo env names cs) : Sem (List (Str × Addr)))
 | [], cs, _ => rfl
 | (n, k) :: r, cs, h => by
  have ih := fun cs' => clGo_forIn env r cs' fun y hy => h y (List.mem_cons_of_mem _ hy)
  rw [List.forIn_cons]
  by_cases hk : (k == NameKind.free) = true
  · obtain ⟨c, hc⟩ := h (n, k) List.mem_cons_self (by simpa using hk)
    have hc' : env.cells.lookup n = some c := hc
    have e : cellOf env n = pure c := by unfold cellOf; rw [hc']
    show ((if (k == NameKind.free) = true then (do let a ← cellOf env n; pure (ForInStep.yield ((n, a) :: cs))) else pure (ForInStep.yield cs) : Sem (ForInStep (List (Str × Addr)))) >>= _) = _
    rw [if_pos hk, e]
    show (forIn r ((n, c) :: cs) _ : Sem (List (Str × Addr))) = pure (clGo env r (if (k == NameKind.free) = true then (n, (env.cells.lookup n).getD 0) :: cs else cs))
    rw [if_pos hk, hc']
    exact ih _
  · show ((if (k == NameKind.free) = true then (do let a ← cellOf env n; pure (ForInStep.yield ((n, a) :: cs))) else pure (ForInStep.yield cs) : Sem (ForInStep (List (Str × Addr)))) >>= _) = _
    rw [if_neg hk]
    show (forIn r cs _ : Sem (List (Str × Addr))) = pure (clGo env r (if (k == NameKind.free) = true then (n, (env.cells.lookup n).getD 0) :: cs else cs))
    rw [if_neg hk]
    exact ih _
theorem closure_is {scope : Scope} {env : Env} (h : ∀ y ∈ scope.names, y.2 = .free -> ∃ c, env.cells.lookup y.1 = some c) : closureFor scope env = pure (clOf scope env) := by
 have q := clGo_forIn env scope.names [] h
 unfold closureFor
 show ((forIn scope.names ([] : List (Str × Addr)) _ : Sem (List (Str × Addr))) >>= fun r => pure r) = _
 have e : ∀ (m : Sem (List (Str × Addr))) , m = pure (clOf scope env) -> (m >>= fun r => pure r) = pure (clOf scope env) := fun m hm => by rw [hm]; rfl
 apply e
 rw [← show (pure (clGo env scope.names []) : Sem (List (Str × Addr))) = pure (clOf scope env) from rfl, ← q]
theorem clGo_sub {env : Env} {y : Str} {c : Addr} : ∀ (names : List (Str × NameKind)) (cs : List (Str × Addr)), (∀ z ∈ names, z.2 = .free -> ∃ c, env.cells.lookup z.1 = some c) -> (∀ c, cs.lookup y = some c -> env.cells.lookup y = some c) ->
  (clGo env names cs).lookup y = some c -> env.cells.lookup y = some c
 | [], cs, _, hc, e => hc c e
 | (n, k) :: r, cs, h, hc, e => by
  refine clGo_sub r _ (fun z hz => h z (List.mem_cons_of_mem _ hz)) ?_ e
  intro c' e'
  by_cases hk : (k == NameKind.free) = true
  · rw [if_pos hk] at e'
    obtain ⟨d, hd⟩ := h (n, k) List.mem_cons_self (by simpa using hk)
    have hd' : env.cells.lookup n = some d := hd
    rw [List.lookup_cons] at e'
    by_cases hy : (y == n) = true
    · rw [hy] at e'
      have : y = n := by simpa using hy
      subst this
      rw [hd'] at e' ⊢
      exact e'
    · have hy' : (y == n) = false := by simpa using hy
      rw [hy'] at e'
      exact hc c' e'
  · rw [if_neg hk] at e'
    exact hc c' e'
theorem clGo_has {env : Env} {y : Str} : ∀ (names : List (Str × NameKind)) (cs : List (Str × Addr)), ((∃ c, cs.lookup y = some c) \/ (y, NameKind.free) ∈ names) -> ∃ c, (clGo env names cs).lookup y = some c
 | [], cs, h => by
  rcases h with h | h
  · exact h
  · exact absurd h (by simp)
 | (n, k) :: r, cs, h => by
  refine clGo_has r _ ?_
  rcases h with ⟨c, h⟩ | h
  · refine .inl ?_
    by_cases hk : (k == NameKind.free) = true
    · rw [if_pos hk, List.lookup_cons]
      by_cases hy : (y == n) = true
      · rw [hy]; exact ⟨_, rfl⟩
      · have hy' : (y == n) = false := by simpa using hy
        rw [hy']; exact ⟨c, h⟩
    · rw [if_neg hk]; exact ⟨c, h⟩
  · rcases List.mem_cons.mp h with h | h
    · refine .inl ?_
      cases h
      rw [if_pos (by rfl), List.lookup_cons]
      rw [show (y == y) = true by simp]
      exact ⟨_, rfl⟩
    · exact .inr h
theorem lookup_relabel {scope : Scope} {env : Env} {y : Str} : (relabel scope env).names.lookup y = (scope.names.lookup y).map fun k => if (k == NameKind.free && env.scope.kind == .function && env.kindOf y == some .cell) then NameKind.cell else k := by
 show List.lookup y (scope.names.map _) = _
 induction scope.names with
 | nil => rfl
 | cons a r ih =>
  obtain ⟨n, k⟩ := a
  rw [List.map_cons]
  by_cases hy : (y == n) = true
  · have : y = n := by simpa using hy
    subst this
    by_cases hc : (k == NameKind.free && env.scope.kind == .function && env.kindOf y == some .cell) = true
    · dsimp only
      rw [if_pos hc, List.lookup_cons, List.lookup_cons, hy]
      dsimp only [Option.map]
      rw [if_pos hc]
    · dsimp only
      rw [if_neg hc, List.lookup_cons, List.lookup_cons, hy]
      dsimp only [Option.map]
      rw [if_neg hc]
  · have hy' : (y == n) = false := by simpa using hy
    by_cases hc : (k == NameKind.free && env.scope.kind == .function && env.kindOf n == some .cell) = true
    · dsimp only
      rw [if_pos hc, List.lookup_cons, List.lookup_cons, hy']
      exact ih
    · dsimp only
      rw [if_neg hc, List.lookup_cons, List.lookup_cons, hy']
      exact ih
structure CompScope (N : List Str) (osc : Scope) (x : Str) (sc : Scope) : Prop where
 kind : sc.kind = .function
 nocell : ∀ y ∈ sc.names, y.2 ≠ .cell
 names : ∀ y ∈ sc.names, y.2 = .local -> sc.names.lookup y.1 = some .local
 here : sc.names.lookup x = some .local
 nd : (x :: N).Nodup
 free : ∀ y ∈ sc.names, y.2 = .free -> osc.names.lookup y.1 = some .cell \/ osc.names.lookup y.1 = some .free
 own : ∀ y ∈ sc.names, y.2 = .local -> y.1 = x \/ y.1 ∉ N
def cxComp (X : Cx) (x : Str) (sc : Scope) (fp : List Addr) (s3 : Shared) (H3 : Hp) : Cx where
 prog := X.prog
 w := X.w
 K := X.K
 mg := X.mg
 base := X.base
 A := X.A
 N := x :: X.N
 s₀ := s3
 H₀ := H3
 env := compEnvC sc (clOf sc X.env) s3.heap.objs.size X.env
 outer := X.stack
 stack := X.stack
 ex := fp
 calm := X.calm
 fn := fun _ => false
 pn := []
 xe := fun _ _ => False
section
variable {X : Cx} {x : Str} {sc : Scope} {fp : List Addr} {s3 : Shared} {H3 : Hp} {pins : List (Addr × Obj)} {σ : St}
theorem CompScope.cells (S : CompScope X.N X.env.scope x sc) (ok : X.Ok) : ∀ y ∈ sc.names, y.2 = .free -> ∃ c, X.env.cells.lookup y.1 = some c := fun y hy hk => ok.has y.1 (S.free y hy hk)
theorem CompScope.sub (S : CompScope X.N X.env.scope x sc) (ok : X.Ok) {y : Str} {c : Addr} (e : (clOf sc X.env).lookup y = some c) : X.env.cells.lookup y = some c :=
 clGo_sub sc.names [] (S.cells ok) (fun c h => by cases h) e
theorem CompScope.isFree (S : CompScope X.N X.env.scope x sc) {y : Str} (h : (relabel sc X.env).names.lookup y = some .cell \/ (relabel sc X.env).names.lookup y = some .free) : (y, NameKind.free) ∈ sc.names := by
 rw [lookup_relabel] at h
 cases e : sc.names.lookup y with
 | none => rw [e] at h; rcases h with h | h <;> cases h
 | some k =>
  rw [e] at h
  have hm := PySem.mem_of_lookup e
  cases k with
  | free => exact hm
  | cell => exact absurd rfl (S.nocell _ hm)
  | _ =>
   exfalso
   rcases h with h | h
   all_goals (simp at h)
theorem FpOk.nobase (ok : X.Ok) {b : Addr} {H : Hp} (f : FpOk X pins H b) {o : Obj} : X.base.get? b = some o -> False := fun e => by
 rcases f.2.2.2.1 with z | z
 · exact ok.noex b o e z
 · exact absurd (Nat.lt_of_lt_of_le (Heap.lt_size e) (Nat.le_trans ok.bsz z)) (Nat.lt_irrefl _)
theorem ok_comp (S : CompScope X.N X.env.scope x sc) (I : Inv X pins σ H3 s3) (hf : ∀ b ∈ fp, FpOk X pins H3 b) (hl : ∀ b ∈ fp, b < s3.heap.objs.size) : (cxComp X x sc fp s3 H3).Ok where
 mod := I.ok.mod
 kind := S.kind
 glob := I.ok.glob
 blt := I.ok.blt
 above := Nat.le_refl _
 inj := fun y z c h1 h2 => I.ok.inj y z c (S.sub I.ok h1) (S.sub I.ok h2)
 has := fun y h => clGo_has sc.names [] (.inr (S.isFree h))
 cab := fun y c h => by cases h
 hd := I.ok.hd
 frames := I.ok.frames
 stk := .inl rfl
 exf := fun b hb => ⟨Nat.ne_of_lt (hl b hb), fun y c e => (hf b hb).2.2.2.2.1 y c (S.sub I.ok e)⟩
 bs := I.bs
 bsz := Nat.le_trans I.ok.bsz I.sz
 noex := fun b o e hb => FpOk.nobase I.ok (hf b hb) e
 exfs := fun b hb hs => by
  rcases List.mem_cons.mp (I.stkSub b hs) with z | z
  · exact (hf b hb).2.1 z
  · exact (hf b hb).2.2.1 z
 funs := I.stack
 frf := I.stkFree
theorem inv_comp {h4 : Heap} {tk : Nat} (S : CompScope X.N X.env.scope x sc) (I : Inv X pins σ H3 s3) (hf : ∀ b ∈ fp, FpOk X pins H3 b) (hl : ∀ b ∈ fp, b < s3.heap.objs.size)
  (hk : ∀ b o, s3.heap.get? b = some o -> h4.get? b = some o) {m : Str -> Option Value} (hn : h4.Ns s3.heap.objs.size m) :
  Inv (cxComp X x sc fp s3 H3) [] (none :: σ) H3 { s3 with heap := h4, toks := tk } := by
 refine ⟨ok_comp S I hf hl, rfl, I.bare, Un.kept hk, ⟨m, hn, fun i y v h1 h2 h3 => ?_⟩, fun y c e => ?_, I.fresh, fun y c e => I.freeC y c (S.sub I.ok e), fun p hp => absurd (show p ∈ ([] : List (Addr × Obj)) from hp) (by simp), I.hok.kept hk, by show σ.length + 1 = X.N.length + 1; rw [I.len]⟩
 · cases i with
   | zero => exact absurd (Option.some.inj h2) (by simp)
   | succ i =>
    have h1' : X.N[i]? = some y := h1
    have h2' : σ[i]? = some (some v) := h2
    have hyN : y ∈ X.N := List.mem_of_getElem? h1'
    have hfree : (y, NameKind.free) ∈ sc.names := by
     rcases h3 with h3 | h3 | h3
     · exfalso
       have h3' : (relabel sc X.env).names.lookup y = some .local := h3
       rw [lookup_relabel] at h3'
       cases e : sc.names.lookup y with
       | none => rw [e] at h3'; cases h3'
       | some k =>
        rw [e] at h3'
        have hm := PySem.mem_of_lookup e
        cases k with
        | «local» =>
         rcases S.own _ hm rfl with z | z
         · have z' : y = x := z
           exact (List.nodup_cons.mp S.nd).1 (z' ▸ hyN)
         · exact z hyN
        | _ =>
         revert h3'
         simp
         try (split <;> simp)
     · exact S.isFree (.inl h3)
     · exact S.isFree (.inr h3)
    have hk0 := S.free _ hfree rfl
    obtain ⟨m0, hn0, hl0⟩ := I.loc
    obtain ⟨u, r, l⟩ := hl0 i y v h1' h2' (hk0.elim (fun z => .inr (.inl z)) (fun z => .inr (.inr z)))
    refine ⟨u, r, .inr ?_⟩
    have hv : (cxComp X x sc fp s3 H3).env.kindOf y = some .cell \/ (cxComp X x sc fp s3 H3).env.kindOf y = some .free := by
     rcases h3 with h3 | h3 | h3
     · exfalso
       have h3' : (relabel sc X.env).names.lookup y = some .local := h3
       rw [lookup_relabel] at h3'
       cases e : sc.names.lookup y with
       | none => rw [e] at h3'; cases h3'
       | some k =>
        rw [e] at h3'
        have hm := PySem.mem_of_lookup e
        cases k with
        | «local» =>
         rcases S.own _ hm rfl with z | z
         · have z' : y = x := z
           exact (List.nodup_cons.mp S.nd).1 (z' ▸ hyN)
         · exact z hyN
        | _ =>
         revert h3'
         simp
         try (split <;> simp)
     · exact .inl h3
     · exact .inr h3
    refine ⟨hv, ?_⟩
    obtain ⟨c, hc⟩ := clGo_has (env := X.env) (y := y) sc.names [] (.inr hfree)
    refine ⟨c, hc, ?_⟩
    have hc' := S.sub I.ok hc
    rcases l with ⟨hk1, _⟩ | ⟨_, c2, e2, z2⟩
    · exfalso
      have hk1' : X.env.scope.names.lookup y = some .local := hk1
      have hk0' : X.env.scope.names.lookup y = some .cell \/ X.env.scope.names.lookup y = some .free := hk0
      rw [hk1'] at hk0'
      rcases hk0' with z | z <;> cases z
    · rw [hc'] at e2; cases e2
      exact z2.keeps hk
 · obtain ⟨v, z⟩ := I.cell y c (S.sub I.ok e)
   exact ⟨v, z.keeps hk⟩
end
end L2
set_option Elab.async false
set_option linter.all false
set_option maxRecDepth 100000
set_option maxHeartbeats 4000000
namespace L2
open PySem PySem.Spec PyProof.Rows
def PIf (X : Cx) (ifs : List Expr) (t : TT) : Prop :=
 ∀ (pins : List (Addr × Obj)) (s : Shared) (σ : St) (H : Hp) (Q : Bool -> Hp -> Prop), Inv X pins σ H s -> t σ H Q ->
  wpAny (model X.prog X.w) X.A (forIn ifs true fun d b => if b = true then do let z ← isTrue d X.env (eval d X.env); pure (ForInStep.yield z) else pure (ForInStep.yield b)) (TP X pins σ Q) X.xe s
def tYes : TT := fun _ H Q => Q true H
theorem pif_nil {X : Cx} : PIf X [] tYes := fun pins s σ H Q I h => wpAny_tests_nil ⟨H, I, h⟩
def tComp (wi : TI) (tc : TT) (te : TE) : TE := fun σ H Q => wi σ H fun J H1 => ∀ p, H1 p = none ->
 ∃ W : Nat -> Nat -> List V -> Hp -> Prop, (∃ m, W 0 m [] (upd H1 p (.lst []))) /\ ∀ i m ys H, W i m ys H ->
  (J.stop i H /\ Q (.ref p) H) \/ (J.go i H /\ ∀ x H', J.yld i H x H' -> tc (some x :: σ) H' fun b H2 =>
   if b = true then te (some x :: σ) H2 fun v H3 => H3 p = some (.lst ys) /\ ys.length < sizeLine /\ ∃ m', m' < m /\ W (i + 1) m' (ys ++ [v]) (upd H3 p (.lst (ys ++ [v])))
   else ∃ m', m' < m /\ W (i + 1) m' ys H2)
section
variable {X : Cx} {x : Str} {sc : Scope} {px pos : Pos} {elt iter : Expr} {ifs : List Expr} {wi : TI} {tc : TT} {te : TE}
theorem Inv.back {fp : List Addr} {s3 s' : Shared} {H3 H' : Hp} {pins : List (Addr × Obj)} {σ σ' : St} {pl : List (Addr × Obj)} {h' : Heap} (I : Inv X pins σ H3 s3) (hf : ∀ b ∈ fp, FpOk X pins H3 b)
  (J : Inv (cxComp X x sc fp s3 H3) pl σ' H' s') (hs : Heap.SameBut s3.heap.objs.size s'.heap h') : Inv X pins σ H' { s' with heap := h' } := by
 have I1 : Inv X pins σ H' s' := I.call' (ch := fp) J.os J.base J.hok J.bare fun b hb => ⟨(hf b hb).2.2.2.1, (hf b hb).2.1, (hf b hb).2.2.2.2.1, (hf b hb).2.2.2.2.2⟩
 refine I1.turned (t' := s'.toks) (it := s3.heap.objs.size) (fun b o hb e => (hs.2 b hb).trans e) J.free ?_ (.inr I.sz) ?_ ?_
 · exact Nat.ne_of_gt I.lt
 · intro y c e z
   obtain ⟨v, q⟩ := I.cell y c e
   exact absurd q.lt (by rw [z]; exact Nat.lt_irrefl _)
 · intro p hp z
   exact absurd (Heap.lt_size (I.pin p hp).1) (by rw [z]; exact Nat.lt_irrefl _)
theorem comp_core {pins : List (Addr × Obj)} {σ : St} {s2 : Shared} {H2 : Hp} {it : Addr} {fp : List Addr} {tn : Nat -> Heap -> Prop} {J : It} {Q : VK} {E : Value -> Shared -> Prop} {RR : Value -> Addr -> Result -> Shared -> Prop}
  (S : CompScope X.N X.env.scope x sc) (hc : X.calm = true) (hif : ∀ fp s3 H3, PIf (cxComp X x sc fp s3 H3) ifs tc) (he : ∀ fp s3 H3, PE (cxComp X x sc fp s3 H3) elt te)
  (I2 : Inv X pins σ H2 s2) (T : Turn X.prog X.w X.K (.Name x px) J fp it tn) (st2 : tn 0 s2.heap) (f2 : ∀ b ∈ fp, FpOk X pins H2 b)
  (h : ∀ p, H2 p = none -> ∃ W : Nat -> Nat -> List V -> Hp -> Prop, (∃ m, W 0 m [] (upd H2 p (.lst []))) /\ ∀ i m ys H, W i m ys H ->
   (J.stop i H /\ Q (.ref p) H) \/ (J.go i H /\ ∀ x H', J.yld i H x H' -> tc (some x :: σ) H' fun b H2 =>
    if b = true then te (some x :: σ) H2 fun v H3 => H3 p = some (.lst ys) /\ ys.length < sizeLine /\ ∃ m', m' < m /\ W (i + 1) m' (ys ++ [v]) (upd H3 p (.lst (ys ++ [v])))
    else ∃ m', m' < m /\ W (i + 1) m' ys H2))
  (hRR : ∀ (s3 : Shared) (H3 : Hp) (s' : Shared) (σ' : St) (H' : Hp), Inv X pins σ H3 s3 -> (∀ b ∈ fp, FpOk X pins H3 b) -> Inv (cxComp X x sc fp s3 H3) [] σ' H' s' -> Q (.ref s2.heap.objs.size) H' -> RR (.ref s2.heap.objs.size) s3.heap.objs.size (.ok .next) s') :
  wpAny (model X.prog X.w) X.A (newList []) (fun acc s₃ => wpAny (model X.prog X.w) X.A (newFunctionEnv sc X.env.globals (clOf sc X.env) [] X.env.qual none .none (some X.env)) (fun cenv s₄ =>
   codeAny (model X.prog X.w) X.A (.compStart (.ListComp elt [⟨.Name x px, iter, ifs, 0⟩] sc pos) 0 (.ref it) acc { cenv with scope := relabel sc X.env }) (RR acc cenv.locals) s₄) E s₃) E s2 := by
 obtain ⟨W, ⟨m0, w0⟩, turn⟩ := h s2.heap.objs.size I2.fresh
 refine wpAny_newList ?_
 have I3 : Inv X pins σ (upd H2 s2.heap.objs.size (.lst [])) { s2 with heap := s2.heap.push { cls := .type "list", data := .seq ([] : List Value).toArray } } := I2.lnew (ys := []) (t' := s2.toks) .nil (Nat.zero_le _)
 have fpl : ∀ b ∈ fp, b < s2.heap.objs.size := fun b hb => by
  obtain ⟨o, e, _⟩ := T.obj _ _ st2 b hb
  exact Heap.lt_size e
 have f3 : ∀ b ∈ fp, FpOk X pins (upd H2 s2.heap.objs.size (.lst [])) b := fun b hb => ⟨by rw [upd_ne (Nat.ne_of_lt (fpl b hb))]; exact (f2 b hb).1, (f2 b hb).2⟩
 have st3 : tn 0 (s2.heap.push { cls := .type "list", data := .seq ([] : List Value).toArray }) := T.keep _ _ _ st2 fun b _ o e => Heap.get?_push_of_some _ e
 generalize hs3 : ({ s2 with heap := s2.heap.push { cls := .type "list", data := .seq ([] : List Value).toArray } } : Shared) = s3 at *
 have st3' : tn 0 s3.heap := by rw [← hs3]; exact st3
 have fpl3 : ∀ b ∈ fp, b < s3.heap.objs.size := fun b hb => by
  obtain ⟨o, e, _⟩ := T.obj _ _ st3' b hb
  exact Heap.lt_size e
 refine wpAny_newFunctionEnv S.nocell (by intro y hy; simp at hy) (fun h₁ hns₁ hsb₁ => ?_) S.kind
 have keep4 : ∀ b o, s3.heap.get? b = some o -> h₁.get? b = some o := fun b o e => (hsb₁.2 b (Nat.ne_of_lt (Heap.lt_size e))).trans (Heap.get?_push_of_some _ e)
 have I4 := inv_comp (fp := fp) (tk := s3.toks + ([] : List (Str × Value)).length) S I3 f3 fpl3 keep4 hns₁
 have st4 : tn 0 h₁ := T.keep _ _ _ st3' fun b _ o e => keep4 b o e
 generalize hs4 : ({ s3 with heap := h₁, toks := s3.toks + ([] : List (Str × Value)).length } : Shared) = s4 at *
 have st4' : tn 0 s4.heap := by rw [← hs4]; exact st4
 generalize hH3 : upd H2 s2.heap.objs.size (.lst []) = H3 at *
 have stat : ∀ {H' : Hp}, (∀ b ∈ fp, H' b = none) -> ∀ b ∈ fp, FpOk (cxComp X x sc fp s3 H3) [] H' b := fun hn b hb =>
  ⟨hn b hb, Nat.ne_of_lt (fpl3 b hb), I4.ok.exfs b hb, .inl hb, fun y c e => (f3 b hb).2.2.2.2.1 y c (S.sub I3.ok e), fun p hp => absurd (show p ∈ ([] : List (Addr × Obj)) from hp) (by simp)⟩
 have loop : codeAny (model X.prog X.w) X.A (.compLoop (.ListComp elt [⟨.Name x px, iter, ifs, 0⟩] sc pos) 0 (.ref it) (.ref s2.heap.objs.size) (cxComp X x sc fp s3 H3).env) (RR (.ref s2.heap.objs.size) s3.heap.objs.size) s4 := by
  refine codeAny_compLoop_tests (fun n s' => ∃ i o ys H', Inv (cxComp X x sc fp s3 H3) [] (o :: σ) H' s' /\ tn i s'.heap /\ (∀ b ∈ fp, H' b = none) /\ W i n ys H') ?_ m0 ⟨0, none, [], H3, I4, st4', fun b hb => (f3 b hb).1, w0⟩
  rintro n s5 ⟨i, o, ys, H5, I5, st5, fr5, w5⟩
  rcases turn i n ys H5 w5 with ⟨stop, q⟩ | ⟨go, step⟩
  · refine wpAny_mono (T.done (cxComp X x sc fp s3 H3) rfl rfl rfl hc i [] s5 (o :: σ) H5 (fun _ _ => False) I5 (stat fr5) st5 stop) (fun r s6 ⟨hr, I6⟩ => ?_) fun _ _ z => z.elim
    subst hr
    exact hRR s3 H3 s6 _ H5 I3 f3 I6 q
  · refine wpAny_mono (T.item (cxComp X x sc fp s3 H3) rfl rfl rfl hc i [] s5 (o :: σ) H5 (fun _ _ => False) I5 (stat fr5) st5 go) (fun r s6 ⟨u, hr, h6⟩ => ?_) fun _ _ z => z.elim
    subst hr
    refine of_pure (a := ()) h6 fun ⟨xv, H6, I6, r6, y6, st6, fr6⟩ => ?_
    have I6' := I6.pinned (stat fr6) (T.obj _ _ st6)
    have hx : (relabel sc X.env).names.lookup x = some .local := lookup_relabel_local S.here
    refine wpAny_mono (pg_name (X := cxComp X x sc fp s3 H3) (i := 0) (pos := px) S.nd rfl (.inl hx) (.inr hx) _ s6 (o :: σ) H6 xv u (fun σ' H' => σ' = some xv :: σ /\ H' = H6) I6' r6 ⟨rfl, rfl⟩) (fun _ s7 ⟨σ7, H7, I7, e7, e7'⟩ => ?_) fun _ _ z => z.elim
    subst e7 e7'
    have again : ∀ {H' : Hp} {s' : Shared} {ys' : List V}, Inv (cxComp X x sc fp s3 H3) ([] ++ pinsAt fp s6.heap) (some xv :: σ) H' s' -> (∃ m', m' < n /\ W (i + 1) m' ys' H') ->
      ∃ m, m < n /\ ∃ i o ys H', Inv (cxComp X x sc fp s3 H3) [] (o :: σ) H' s' /\ tn i s'.heap /\ (∀ b ∈ fp, H' b = none) /\ W i m ys H' := fun {H' s' ys'} I' ⟨m', hm, w'⟩ => by
     refine ⟨m', hm, i + 1, some xv, ys', H', I'.unpinned, T.keep _ _ _ st6 fun b hb ob e => (I'.pin (b, ob) (List.mem_append_right _ (List.mem_append_right _ (mem_pinsAt hb e)))).1, fun b hb => ?_, w'⟩
     obtain ⟨ob, e, d⟩ := T.obj _ _ st6 b hb
     exact (I'.pin (b, ob) (List.mem_append_right _ (List.mem_append_right _ (mem_pinsAt hb e)))).2.1
    refine wpAny_mono (hif fp s3 H3 _ s7 _ H7 _ I7 (step xv H7 y6)) (fun ok s8 ⟨H8, I8, q8⟩ => ?_) fun _ _ z => z.elim
    cases ok with
    | false =>
     rw [if_neg Bool.false_ne_true] at q8 ⊢
     exact again I8 q8
    | true =>
     rw [if_pos rfl] at q8 ⊢
     refine wpAny_mono (he fp s3 H3 _ s8 _ H8 _ I8 q8) (fun v s9 ⟨y, H9, I9, r9, hp, hz, q9⟩ => ?_) fun _ _ z => z.elim
     refine wpAny_mono (mt_append (X := cxComp X x sc fp s3 H3) _ s9 _ H9 (.ref s2.heap.objs.size) [y] (.ref s2.heap.objs.size) [v] (fun _ H' => H' = upd H9 s2.heap.objs.size (.lst (ys ++ [y]))) I9 rfl (.cons r9 .nil) ⟨_, ys, y, rfl, rfl, hp, hz, rfl⟩) (fun _ s10 ⟨_, H10, I10, _, e10⟩ => ?_) fun _ _ z => z.elim
     subst e10
     exact again I10 q9
 exact codeAny_compStart_list loop (T.self _ 0 _ _ _ st4' loop)
theorem pe_comp (S : CompScope X.N X.env.scope x sc) (hc : X.calm = true) (hi : PI X (.Name x px) iter wi) (hif : ∀ fp s3 H3, PIf (cxComp X x sc fp s3 H3) ifs tc) (he : ∀ fp s3 H3, PE (cxComp X x sc fp s3 H3) elt te)
  (hs : ∀ x, foldedSetIterable iter X.env x = pure x := by intro _; rfl) : PE X (.ListComp elt [⟨.Name x px, iter, ifs, 0⟩] sc pos) (tComp wi tc te) := by
 intro pins s σ H Q I h
 rw [eval_ListComp]
 refine wpAny_comprehension_free (use := none) (cl := clOf sc X.env) rfl hs (closure_is (S.cells I.ok)) S.kind S.names (thn (hi pins s σ H _ I h) fun v s1 h1 => thn h1 fun itv s2 h2 => ?_)
 obtain ⟨it, fp, tn, J, H2, e, I2, T, st2, f2, q2⟩ := h2
 subst e
 refine comp_core (RR := fun acc C => compPost (model X.prog X.w) X.A X.xe none (EP X pins σ Q) acc C) (Q := Q) S hc hif he I2 T st2 f2 q2 ?_
 intro s3 H3 s' σ' H' I3 f3 J' q'
 obtain ⟨m, hn, _⟩ := J'.loc
 exact ⟨m, hn, fun h' hs' => ⟨.ref s2.heap.objs.size, H', I3.back f3 J' hs', rfl, q'⟩⟩
theorem ps_setC {i : Nat} {y : Str} {py spos : Pos} (S : CompScope X.N X.env.scope x sc) (hc : X.calm = true) (hi : PI X (.Name x px) iter wi) (hif : ∀ fp s3 H3, PIf (cxComp X x sc fp s3 H3) ifs tc) (he : ∀ fp s3 H3, PE (cxComp X x sc fp s3 H3) elt te)
  (hN : X.N.Nodup) (hy : X.N[i]? = some y) (hl : Loc X.env.scope y) (hsw : swapsWith (.ListComp elt [⟨.Name x px, iter, ifs, 0⟩] sc pos) (some (.Name y py)) spos.line X.env = pure true)
  (hs : ∀ x, foldedSetIterable iter X.env x = pure x := by intro _; rfl) (hf : X.fn y = true \/ X.env.scope.names.lookup y = some .local := by first | exact .inl rfl | exact .inr rfl | assumption) :
  PS X (.Assign [.Name y py] (.ListComp elt [⟨.Name x px, iter, ifs, 0⟩] sc pos) spos) (tAsg (tComp wi tc te) (gName i)) := by
 intro pins s σ H D I h
 rw [exec_Assign_Name_used _ _ _ _ hsw]
 refine wpAny_bind (wpAny_standAt (wpAny_bind ?_))
 show wpAny _ X.A (do let _ ← comprehension (.ListComp elt [⟨.Name x px, iter, ifs, 0⟩] sc pos) sc X.env _ (newList []) false (eval iter X.env) (some (assign (.Name y py) X.env))) _ _ s
 refine wpAny_bind (wpAny_mono (wpAny_comprehension_free (use := some (assign (.Name y py) X.env)) (cl := clOf sc X.env) (Q := fun _ s' => SP X pins D .next s') rfl hs (closure_is (S.cells I.ok)) S.kind S.names
  (thn (hi pins s σ H _ I h) fun v s1 h1 => thn h1 fun itv s2 h2 => ?_)) (fun _ s' hq => wpAny_pure (wpAny_pure hq)) fun _ _ e => e)
 obtain ⟨it, fp, tn, J, H2, e, I2, T, st2, f2, q2⟩ := h2
 subst e
 refine comp_core (RR := fun acc C => compPost (model X.prog X.w) X.A X.xe (some (assign (.Name y py) X.env)) (fun _ s' => SP X pins D .next s') acc C) (Q := fun v H' => D.nx (σ.set i (some v)) H') S hc hif he I2 T st2 f2 q2 ?_
 intro s3 H3 s' σ' H' I3 f3 J' q'
 obtain ⟨m, hn, _⟩ := J'.loc
 have I1 : Inv X pins σ H' s' := I3.call' (ch := fp) J'.os J'.base J'.hok J'.bare fun b hb => ⟨(f3 b hb).2.2.2.1, (f3 b hb).2.1, (f3 b hb).2.2.2.2.1, (f3 b hb).2.2.2.2.2⟩
 have cL : s3.heap.objs.size ≠ X.env.locals := Nat.ne_of_gt I3.lt
 have cC : ∀ z c, X.env.cells.lookup z = some c -> c ≠ s3.heap.objs.size := fun z c e q => by
  obtain ⟨v, w⟩ := I3.cell z c e
  exact absurd w.lt (by rw [q]; exact Nat.lt_irrefl _)
 have cP : ∀ p ∈ X.pn ++ pins, p.1 ≠ s3.heap.objs.size := fun p hp z => absurd (Heap.lt_size (I3.pin p hp).1) (by rw [z]; exact Nat.lt_irrefl _)
 show wpAny _ X.A (assign (.Name y py) X.env (.ref s2.heap.objs.size)) _ _ s'
 refine wpAny_assign_Name (store_ok2 (v := .ref s2.heap.objs.size) I1 hN hy hl rfl (fun s4 I4 ⟨a, sb, ha⟩ => ?_) hf)
 have ne : s3.heap.objs.size ≠ a := by
  rcases ha with z | z
  · rw [z]; exact cL
  · exact (cC _ _ z).symm
 refine ⟨m, hn.sameBut sb ne, fun h' hs' => ⟨_, H', ?_, q'⟩⟩
 exact I4.turned (t' := s4.toks) (it := s3.heap.objs.size) (fun b o hb e => (hs'.2 b hb).trans e) J'.free cL (.inr I3.sz) cC cP
end
end L2
set_option Elab.async false
set_option linter.all false
set_option maxRecDepth 100000
set_option maxHeartbeats 4000000
namespace L2
open PySem PySem.Spec PyProof.Rows
mutual
def Dt (K : PySem.W.Frag) (H : Hp) : PyData -> V -> Prop
 | .none, v => v = .non
 | .bool b, v => v = .bl b
 | .int i, v => v = .int i
 | .str x, v => v = .str x /\ PyData.strOk x = true
 | .list ds, v => ∃ a xs, v = .ref a /\ SqL K H a xs /\ DtAll K H ds xs
 | .tuple ds, v => ∃ a xs, v = .ref a /\ SqT K H a xs /\ DtAll K H ds xs
 | .dict _, _ => False
def DtAll (K : PySem.W.Frag) (H : Hp) : List PyData -> List V -> Prop
 | [], xs => xs = []
 | d :: ds, xs => ∃ v r, xs = v :: r /\ Dt K H d v /\ DtAll K H ds r
end
section
variable {K : PySem.W.Frag} {H H' : Hp}
mutual
theorem Dt.lay : ∀ {d : PyData} {v : V}, Dt K H d v -> d.canLay0 = true
 | .none, _, _ => rfl
 | .bool _, _, _ => rfl
 | .int _, _, _ => rfl
 | .str x, _, h => by
  rw [Dt] at h
  exact h.2
 | .list ds, _, h => by
  rw [Dt] at h
  obtain ⟨a, xs, _, _, h⟩ := h
  rw [PyData.canLay0]
  exact DtAll.lay h
 | .tuple ds, _, h => by
  rw [Dt] at h
  obtain ⟨a, xs, _, _, h⟩ := h
  rw [PyData.canLay0]
  exact DtAll.lay h
 | .dict _, _, h => by
  rw [Dt] at h
  exact h.elim
theorem DtAll.lay : ∀ {ds : List PyData} {xs : List V}, DtAll K H ds xs -> PyData.canLayAll0 ds = true
 | [], _, _ => by rw [PyData.canLayAll0]
 | d :: ds, _, h => by
  rw [DtAll] at h
  obtain ⟨v, r, _, h1, h2⟩ := h
  rw [PyData.canLayAll0, Dt.lay h1, DtAll.lay h2]
  rfl
end
theorem Same.sqL {a : Addr} {xs : List V} (e : Same H H') (h : SqL K H a xs) : SqL K H' a xs := e.seq h
theorem Same.sqT {a : Addr} {xs : List V} (e : Same H H') (h : SqT K H a xs) : SqT K H' a xs := by
 rcases h with (h | ⟨o, h⟩) | h
 · exact .inl (.inl (e _ _ h))
 · exact .inl (.inr ⟨o, e _ _ h⟩)
 · exact .inr h
mutual
theorem Dt.same (e : Same H H') : ∀ {d : PyData} {v : V}, Dt K H d v -> Dt K H' d v
 | .none, _, h => by rw [Dt] at h ⊢; exact h
 | .bool _, _, h => by rw [Dt] at h ⊢; exact h
 | .int _, _, h => by rw [Dt] at h ⊢; exact h
 | .str x, _, h => by rw [Dt] at h ⊢; exact h
 | .list ds, _, h => by
  rw [Dt] at h ⊢
  obtain ⟨a, xs, h1, h2, h⟩ := h
  exact ⟨a, xs, h1, e.sqL h2, DtAll.same e h⟩
 | .tuple ds, _, h => by
  rw [Dt] at h ⊢
  obtain ⟨a, xs, h1, h2, h⟩ := h
  exact ⟨a, xs, h1, e.sqT h2, DtAll.same e h⟩
 | .dict _, _, h => by
  rw [Dt] at h
  exact h.elim
theorem DtAll.same (e : Same H H') : ∀ {ds : List PyData} {xs : List V}, DtAll K H ds xs -> DtAll K H' ds xs
 | [], _, h => by rw [DtAll] at h ⊢; exact h
 | d :: ds, _, h => by
  rw [DtAll] at h ⊢
  obtain ⟨v, r, h0, h1, h2⟩ := h
  exact ⟨v, r, h0, Dt.same e h1, DtAll.same e h2⟩
end
theorem DtAll.nil : DtAll K H [] [] := by rw [DtAll]
theorem DtAll.cons {d : PyData} {ds : List PyData} {v : V} {r : List V} (h1 : Dt K H d v) (h2 : DtAll K H ds r) : DtAll K H (d :: ds) (v :: r) := by rw [DtAll]; exact ⟨v, r, rfl, h1, h2⟩
theorem Dt.int {i : Int} : Dt K H (.int i) (.int i) := by rw [Dt]
theorem Dt.str {x : Str} (h : PyData.strOk x = true) : Dt K H (.str x) (.str x) := by rw [Dt]; exact ⟨rfl, h⟩
theorem Dt.lst {a : Addr} {xs : List V} {ds : List PyData} (h : SqL K H a xs) (q : DtAll K H ds xs) : Dt K H (.list ds) (.ref a) := by rw [Dt]; exact ⟨a, xs, rfl, h, q⟩
theorem Dt.tup {a : Addr} {xs : List V} {ds : List PyData} (h : SqT K H a xs) (q : DtAll K H ds xs) : Dt K H (.tuple ds) (.ref a) := by rw [Dt]; exact ⟨a, xs, rfl, h, q⟩
theorem DtAll.ints : ∀ (ns : List Int), DtAll K H (ns.map PyData.int) (ns.map V.int)
 | [] => DtAll.nil
 | n :: ns => DtAll.cons Dt.int (DtAll.ints ns)
theorem DtAll.length : ∀ {ds : List PyData} {xs : List V}, DtAll K H ds xs -> xs.length = ds.length
 | [], xs, h => by rw [DtAll] at h; subst h; rfl
 | d :: ds, xs, h => by
  rw [DtAll] at h
  obtain ⟨v, r, rfl, h1, h2⟩ := h
  rw [List.length_cons, List.length_cons, DtAll.length h2]
end
section
variable {X : Cx} {pins : List (Addr × Obj)} {σ : St} {H : Hp} {s : Shared}
mutual
theorem Dt.reads (I : Inv X pins σ H s) : ∀ {d : PyData} {v : V} {u : Value}, Dt X.K H d v -> RelV v u -> ∃ as, Reads s.heap u d as
 | .none, _, _, h, r => by rw [Dt] at h; subst h; cases r; exact ⟨[], .none⟩
 | .bool b, _, _, h, r => by rw [Dt] at h; subst h; cases r; exact ⟨[], .bool b⟩
 | .int i, _, _, h, r => by rw [Dt] at h; subst h; obtain ⟨t, rfl⟩ := r; exact ⟨[], .int i t⟩
 | .str x, _, _, h, r => by
  rw [Dt] at h
  obtain ⟨h, _⟩ := h
  subst h
  obtain ⟨t, rfl⟩ := r
  exact ⟨[], .str x t⟩
 | .list ds, _, _, h, r => by
  rw [Dt] at h
  obtain ⟨a, xs, h1, h2, h⟩ := h
  subst h1
  cases r
  obtain ⟨its, rv, ⟨o, n, e, hc, _, hd⟩, _⟩ := I.list h2
  obtain ⟨as, q⟩ := DtAll.reads I h rv
  exact ⟨_, .list e hc hd (by simpa using q)⟩
 | .tuple ds, _, _, h, r => by
  rw [Dt] at h
  obtain ⟨a, xs, h1, h2, h⟩ := h
  subst h1
  cases r
  obtain ⟨its, rv, ⟨o, e, hc, n, hd⟩, _⟩ := I.tuple h2
  obtain ⟨as, q⟩ := DtAll.reads I h rv
  exact ⟨_, .tuple e hc hd (by simpa using q)⟩
 | .dict _, _, _, h, _ => by
  rw [Dt] at h
  exact h.elim
theorem DtAll.reads (I : Inv X pins σ H s) : ∀ {ds : List PyData} {xs : List V} {us : List Value}, DtAll X.K H ds xs -> Vals xs us -> ∃ as, ReadsAll s.heap us ds as
 | [], _, _, h, r => by rw [DtAll] at h; subst h; cases r; exact ⟨[], .nil⟩
 | d :: ds, _, _, h, r => by
  rw [DtAll] at h
  obtain ⟨v, r', h0, h1, h2⟩ := h
  subst h0
  cases r with
  | cons ra rb =>
   obtain ⟨as, q1⟩ := Dt.reads I h1 ra
   obtain ⟨bs, q2⟩ := DtAll.reads I h2 rb
   exact ⟨_, .cons q1 q2⟩
end
end
section
variable {X : Cx}
def rEqD (K : PySem.W.Frag) : R2 := fun x y H Q => ∃ d e, Dt K H d x /\ Dt K H e y /\ d.depth <= 60 /\ Q (.bl (PyData.eqv d e)) H
def rNeD (K : PySem.W.Frag) : R2 := fun x y H Q => ∃ d e, Dt K H d x /\ Dt K H e y /\ d.depth <= 60 /\ Q (.bl (!PyData.eqv d e)) H
theorem op_eqD {k : Nat} (hr : Room k X.A) : OpR X (compareOp .Eq) (rEqD X.K) := by
 intro pins s σ H x y v u Q I rx ry h
 obtain ⟨d, e, h1, h2, hd, q⟩ := h
 obtain ⟨as, r1⟩ := Dt.reads I h1 rx
 obtain ⟨bs, r2⟩ := Dt.reads I h2 ry
 have hu := hr.units
 exact SeqAt.compareEq_reads r1 r2 h1.lay h2.lay (by have : min d.depth e.depth <= d.depth := Nat.min_le_left _ _; omega) ⟨.bl _, H, I, rfl, q⟩
theorem op_neD {k : Nat} (hr : Room k X.A) : OpR X (compareOp .NotEq) (rNeD X.K) := by
 intro pins s σ H x y v u Q I rx ry h
 obtain ⟨d, e, h1, h2, hd, q⟩ := h
 obtain ⟨as, r1⟩ := Dt.reads I h1 rx
 obtain ⟨bs, r2⟩ := Dt.reads I h2 ry
 have hu := hr.units
 exact SeqAt.compareNe_reads r1 r2 h1.lay h2.lay (by have : min d.depth e.depth <= d.depth := Nat.min_le_left _ _; omega) ⟨.bl _, H, I, rfl, q⟩
theorem call_isT : CallR X (.builtin "isinstance") (fun xs H Q => ∃ x n t b, xs = [x, .ty n] /\ TyOf X.K H x t /\ PySem.W.kitOne X.K t (.type n) = some b /\ Q (.bl b) H) := by
 intro pins s σ H xs us Q I rv h
 obtain ⟨x, n, t, b, rfl, ht, hk, q⟩ := h
 obtain ⟨u, v, rfl, ru, rv'⟩ := rv.two
 cases rv'
 exact isinst_ok I ru ht hk fun tk => ⟨.bl b, H, I.tok tk, rfl, q⟩
end
end L2
set_option Elab.async false
set_option linter.all false
set_option maxRecDepth 100000
set_option maxHeartbeats 4000000
namespace L2
open PySem PySem.Spec PyProof.Rows
def compCheck (N : List Str) (osc : Scope) (x : Str) (sc : Scope) : Bool :=
 (match sc.kind with | .function => true | _ => false) && sc.names.all (fun y => match y.2 with | .cell => false | _ => true)
 && sc.names.all (fun y => match y.2 with | .local => (match sc.names.lookup y.1 with | some .local => true | _ => false) | _ => true)
 && (match sc.names.lookup x with | some .local => true | _ => false) && N.all (fun y => !(y == x))
 && sc.names.all (fun y => match y.2 with | .free => (match osc.names.lookup y.1 with | some .cell => true | some .free => true | _ => false) | _ => true)
 && sc.names.all (fun y => match y.2 with | .local => (y.1 == x || N.all (fun z => !(z == y.1))) | _ => true)
theorem CompScope.of {N : List Str} {osc : Scope} {x : Str} {sc : Scope} (hN : N.Nodup) (h : compCheck N osc x sc = true) : CompScope N osc x sc := by
 unfold compCheck at h
 simp only [Bool.and_eq_true, List.all_eq_true] at h
 obtain ⟨⟨⟨⟨⟨⟨h1, h2⟩, h3⟩, h4⟩, h5⟩, h6⟩, h7⟩ := h
 refine ⟨?_, fun y hy e => ?_, fun y hy e => ?_, ?_, List.nodup_cons.mpr ⟨fun hx => ?_, hN⟩, fun y hy e => ?_, fun y hy e => ?_⟩
 · revert h1; cases sc.kind <;> simp
 · have := h2 y hy; rw [e] at this; exact absurd this (by simp)
 · have := h3 y hy; rw [e] at this
   revert this
   cases sc.names.lookup y.1 with
   | none => simp
   | some k => cases k <;> simp
 · revert h4
   cases sc.names.lookup x with
   | none => simp
   | some k => cases k <;> simp
 · have := h5 x hx; simp at this
 · have := h6 y hy; rw [e] at this
   revert this
   cases osc.names.lookup y.1 with
   | none => simp
   | some k => cases k <;> simp
 · have := h7 y hy; rw [e] at this
   simp only [Bool.or_eq_true, List.all_eq_true] at this
   rcases this with z | z
   · exact .inl (by simpa using z)
   · refine .inr fun q => ?_
     have := z _ q
     simp at this
structure Def (P : Program) (w : World) (K : PySem.W.Frag) (mg : Str -> Option Value) (base : Heap) (CX : CXT) (x : Str) (k : Nat) (ps : List Str) (sp : Sp) : Prop where
 ex : ∃ f fd, FnOk P w K mg base CX k f fd ps sp /\ Binds K fd ps [] /\ PySem.W.keepIn K (.ref f) = true /\ mg x = some (.ref f)
theorem Def.imp {P : Program} {w : World} {K : PySem.W.Frag} {mg : Str -> Option Value} {base : Heap} {CX : CXT} {x : Str} {k : Nat} {ps : List Str} {sp sp' : Sp} (F : Def P w K mg base CX x k ps sp) (h : ∀ vs H Q E, sp' vs H Q E -> sp vs H Q E) : Def P w K mg base CX x k ps sp' := by
 obtain ⟨f, fd, G, r⟩ := F.ex
 exact ⟨f, fd, G.imp h, r⟩
theorem pe_def {X : Cx} {CX : CXT} {k : Nat} {x : Str} {ps : List Str} {sp : Sp} {E : XK} {e : Expr} {es : List Expr} {t : TA} {p pos : Pos} (F : Def X.prog X.w X.K X.mg X.base CX x k ps sp) (hr : Room k X.A) (hg : Gl X x) (hx : Passes CX X E)
  (ha : PA X (e :: es) t) (hdb : (x == ("__debug__" : Str)) = false := by decide) (he : starEach (e :: es) X.env = (false, eval e X.env) :: starEach es X.env := by rfl) (hpl : (backTo pos (starEach es X.env)).any (·.1) = false := by rfl) :
  PE X (.Call (.Name x p) (e :: es) [] pos) (tCall sp [] E t) := by
 obtain ⟨f, fd, G, b, kp, m⟩ := F.ex
 exact pe_call G hr hg m kp b .nil hx ha hdb he hpl
def IsT (K : PySem.W.Frag) (H : Hp) (xs : List V) (b : Bool) : Prop := ∃ x n t, xs = [x, .ty n] /\ TyOf K H x t /\ PySem.W.kitOne K t (.type n) = some b
theorem call_isTy {X : Cx} : CallR X (.builtin "isinstance") (fun xs H Q => ∃ b, IsT X.K H xs b /\ Q (.bl b) H) := by
 intro pins s σ H xs us Q I rv h
 obtain ⟨b, ⟨x, n, t, e, ht, hk⟩, q⟩ := h
 exact call_isT pins s σ H xs us Q I rv ⟨x, n, t, b, e, ht, hk, q⟩
section
variable {K : PySem.W.Frag} {H : Hp}
theorem isT_int_int {i : Int} : IsT K H [.int i, .ty "int"] true := ⟨_, _, _, rfl, .int i, rfl⟩
theorem isT_int_bool {i : Int} : IsT K H [.int i, .ty "bool"] false := ⟨_, _, _, rfl, .int i, rfl⟩
theorem isT_tup {a : Addr} {xs : List V} (h : H a = some (.tup xs)) : IsT K H [.ref a, .ty "tuple"] true := ⟨_, _, _, rfl, .tup h, rfl⟩
theorem isT_lst {a : Addr} {xs : List V} (h : H a = some (.lst xs)) : IsT K H [.ref a, .ty "list"] true := ⟨_, _, _, rfl, .lst h, rfl⟩
end
theorem seq_step {t u : TS} {D : Ends} {σ : St} {H : Hp} (h : ∀ U, U = u D -> t { D with nx := U } σ H) : tSeq t u D σ H := h _ rfl
@[simp] theorem cxComp_K {X : Cx} {x : Str} {sc : Scope} {fp : List Addr} {s3 : Shared} {H3 : Hp} : (cxComp X x sc fp s3 H3).K = X.K := rfl
theorem sz (n : Nat) (h : n <= 1000 := by omega) : n <= sizeLine := Nat.le_of_lt (small1000 h)
theorem again {n i : Nat} {P : Prop} (h : i < n) (p : P) : ∃ m', m' < n - i /\ m' = n - (i + 1) /\ i + 1 <= n /\ P := ⟨_, by omega, rfl, h, p⟩
theorem same_new {H : Hp} {p : Addr} (h : H p = none) (o : HO) : Same H (upd H p o) := fun b u q => by rw [upd_ne (ne_of_none q h)]; exact q
theorem atI_int {ns : List Int} {k : Int} (h0 : 0 <= k) (h1 : k < ns.length) : atI (ns.map V.int) k = some (.int (ns.getD k.toNat 0)) := by
 have hk : k.toNat < ns.length := by omega
 have e : k = ((k.toNat : Nat) : Int) := by omega
 have q : atI (ns.map V.int) ((k.toNat : Nat) : Int) = some (.int (ns.getD k.toNat 0)) := atI_nat (by rw [List.getElem?_map, List.getElem?_eq_getElem hk, List.getD_eq_getElem?_getD, List.getElem?_eq_getElem hk]; rfl)
 rw [← e] at q
 exact q
theorem comp_listN {K : PySem.W.Frag} {a p : Addr} {xs : List V} {tc : TT} {te : TE} {σ : St} {H : Hp} {Z : Hp -> Prop} (Pv : Nat -> List V -> Hp -> Prop) (h0 : Pv 0 [] (upd H p (.lst []))) (hl : ∀ i ys H, i <= xs.length -> Pv i ys H -> SqL K H a xs)
  (hs : ∀ i x ys H, xs[i]? = some x -> Pv i ys H -> tc (some x :: σ) H fun b H2 =>
   if b = true then te (some x :: σ) H2 fun v H3 => H3 p = some (.lst ys) /\ ys.length < sizeLine /\ ∃ m', m' < xs.length - i /\ m' = xs.length - (i + 1) /\ i + 1 <= xs.length /\ Pv (i + 1) (ys ++ [v]) (upd H3 p (.lst (ys ++ [v]))) else ∃ m', m' < xs.length - i /\ m' = xs.length - (i + 1) /\ i + 1 <= xs.length /\ Pv (i + 1) ys H2)
  (hd : ∀ ys H, Pv xs.length ys H -> Z H) :
  ∃ W : Nat -> Nat -> List V -> Hp -> Prop, (∃ m, W 0 m [] (upd H p (.lst []))) /\ ∀ i m ys H, W i m ys H ->
   ((Itl K a).stop i H /\ Z H) \/ ((Itl K a).go i H /\ ∀ x H', (Itl K a).yld i H x H' -> tc (some x :: σ) H' fun b H2 =>
     if b = true then te (some x :: σ) H2 fun v H3 => H3 p = some (.lst ys) /\ ys.length < sizeLine /\ ∃ m', m' < m /\ W (i + 1) m' (ys ++ [v]) (upd H3 p (.lst (ys ++ [v])))
     else ∃ m', m' < m /\ W (i + 1) m' ys H2) := by
 refine ⟨fun i m ys H => m = xs.length - i /\ i <= xs.length /\ Pv i ys H, ⟨xs.length, by simp, Nat.zero_le _, h0⟩, ?_⟩
 rintro i m ys H ⟨rfl, hi, pv⟩
 have q := hl i ys H hi pv
 by_cases hlt : i < xs.length
 · refine .inr ⟨⟨xs, xs[i], q, by simp [hlt]⟩, fun x H' y => ?_⟩
   obtain ⟨e, y⟩ := y
   subst e
   exact hs i x ys _ (y xs q) pv
 · have e : i = xs.length := by omega
   subst e
   exact .inl ⟨⟨xs, q, Nat.le_refl _⟩, hd ys H pv⟩
theorem comp_rangeN {lo : Int} {n : Nat} {p : Addr} {tc : TT} {te : TE} {σ : St} {H : Hp} {Z : Hp -> Prop} (Pv : Nat -> List V -> Hp -> Prop) (h0 : Pv 0 [] (upd H p (.lst [])))
  (hs : ∀ i ys H, i < n -> Pv i ys H -> tc (some (.int (lo + i)) :: σ) H fun b H2 =>
   if b = true then te (some (.int (lo + i)) :: σ) H2 fun v H3 => H3 p = some (.lst ys) /\ ys.length < sizeLine /\ ∃ m', m' < n - i /\ m' = n - (i + 1) /\ i + 1 <= n /\ Pv (i + 1) (ys ++ [v]) (upd H3 p (.lst (ys ++ [v]))) else ∃ m', m' < n - i /\ m' = n - (i + 1) /\ i + 1 <= n /\ Pv (i + 1) ys H2)
  (hd : ∀ ys H, Pv n ys H -> Z H) :
  ∃ W : Nat -> Nat -> List V -> Hp -> Prop, (∃ m, W 0 m [] (upd H p (.lst []))) /\ ∀ i m ys H, W i m ys H ->
   ((Itr lo n).stop i H /\ Z H) \/ ((Itr lo n).go i H /\ ∀ x H', (Itr lo n).yld i H x H' -> tc (some x :: σ) H' fun b H2 =>
     if b = true then te (some x :: σ) H2 fun v H3 => H3 p = some (.lst ys) /\ ys.length < sizeLine /\ ∃ m', m' < m /\ W (i + 1) m' (ys ++ [v]) (upd H3 p (.lst (ys ++ [v])))
     else ∃ m', m' < m /\ W (i + 1) m' ys H2) := by
 refine ⟨fun i m ys H => m = n - i /\ i <= n /\ Pv i ys H, ⟨n, by simp, Nat.zero_le _, h0⟩, ?_⟩
 rintro i m ys H ⟨rfl, hi, pv⟩
 by_cases hlt : i < n
 · refine .inr ⟨hlt, fun x H' y => ?_⟩
   obtain ⟨e, y⟩ := y
   subst e y
   exact hs i ys _ hlt pv
 · have e : i = n := by omega
   subst e
   exact .inl ⟨Nat.le_refl _, hd ys H pv⟩
end L2
set_option Elab.async false
set_option linter.all false
set_option maxRecDepth 100000
set_option maxHeartbeats 4000000
namespace L2
open PySem PySem.Spec PyProof.Rows
section
variable {X : Cx}
end
section
variable {X : Cx} {K : PySem.W.Frag} {tg : Expr}
theorem ix_listK (h : X.K = K) : IxR X (rIxL K) := by subst h; exact ix_list
theorem ix_tupK (h : X.K = K) : IxR X (rIxT K) := by subst h; exact ix_tup
theorem sl_listK (h : X.K = K) : SlR X (rSlL K) := by subst h; exact sl_list
theorem sl_tupK (h : X.K = K) : SlR X (rSlT K) := by subst h; exact sl_tup
theorem op_eqDK {k : Nat} (hr : Room k X.A) (h : X.K = K) : OpR X (compareOp .Eq) (rEqD K) := by subst h; exact op_eqD hr
theorem op_neDK {k : Nat} (hr : Room k X.A) (h : X.K = K) : OpR X (compareOp .NotEq) (rNeD K) := by subst h; exact op_neD hr
theorem call_lenK (h : X.K = K) : CallR X (.builtin "len") (fun xs H Q => ∃ p ys, xs = [.ref p] /\ (SqL K H p ys \/ SqT K H p ys) /\ Q (.int ys.length) H) := by subst h; exact call_len_seq
theorem call_isTyK (h : X.K = K) : CallR X (.builtin "isinstance") (fun xs H Q => ∃ b, IsT K H xs b /\ Q (.bl b) H) := by subst h; exact call_isTy
theorem call_list_ofK (h : X.K = K) : CallR X (.type "list") (fun xs H Q => ∃ p ys, xs = [.ref p] /\ (SqL K H p ys \/ SqT K H p ys) /\ ∀ l, H l = none -> Q (.ref l) (upd H l (.lst ys))) := by subst h; exact call_list_of
theorem call_tuple_ofK (h : X.K = K) : CallR X (.type "tuple") (fun xs H Q => ∃ p ys, xs = [.ref p] /\ ((SqL K H p ys /\ ∀ l, H l = none -> Q (.ref l) (upd H l (.tup ys))) \/ (SqT K H p ys /\ Q (.ref p) H))) := by subst h; exact call_tuple_of
theorem pi_listK {l : Expr} {tl : TE} (h : X.K = K) (hl : PE X l tl) : PI X tg l (iList K tl) := by subst h; exact pi_list hl
theorem pi_tupK {l : Expr} {tl : TE} (h : X.K = K) (hl : PE X l tl) : PI X tg l (iTup K tl) := by subst h; exact pi_tup hl
end
end L2
set_option Elab.async false
set_option linter.all false
set_option maxRecDepth 100000
set_option maxHeartbeats 4000000
namespace L2
open PySem PySem.Spec PyProof.Rows
structure Fly (P : Program) (w : World) (outer : List Env) (H : Hp) (s : Shared) (x C t : Addr) (B : Heap) (H' : Hp) (h : Heap) : Prop where
 un : Un (frs outer) [] H H' s.heap h
 hok : HOk P w H' h
 fl : Heap.FlyingW B outer x (.ref C) (.ref t) h
 new : s.heap.get? x = none
 xfree : H' x = none
 trB : ∀ a o, H' a = some o -> ∃ ob, B.get? a = some ob
 keepB : ∀ b o, s.heap.get? b = some o -> H b = none -> b ∉ frs outer -> B.get? b = some o
 thereB : ∀ b o, s.heap.get? b = some o -> b ∉ frs outer -> ∃ ob, B.get? b = some ob
section
variable {P : Program} {w : World} {outer : List Env} {H H' : Hp} {s : Shared} {x C t : Addr} {B h h' : Heap}
end
section
variable {CX : CXT} {P : Program} {w : World} {K : PySem.W.Frag} {mg : Str -> Option Value} {base : Heap} {N : List Str} {qual : Str} {scope : Scope} {f : Addr} {cd : Value} {A : Around} {outer : List Env} {s₀ : Shared} {H₀ : Hp} {E : XK}
end
end L2
set_option Elab.async false
set_option linter.all false
set_option maxRecDepth 100000
set_option maxHeartbeats 4000000
namespace L2
open PySem PySem.Spec PyProof.Rows
section
variable {X : Cx} {x : Str} {np cpos pos : Pos} {e : Expr} {te : TE} {C : Addr} {E : XK}
end
section
variable {P : Program} {w : World} {K : PySem.W.Frag} {mg : Str -> Option Value} {base : Heap}
end
section
variable {X : Cx}
end
end L2
set_option Elab.async false
set_option linter.all false
set_option maxRecDepth 100000
set_option maxHeartbeats 4000000
namespace L2
open PySem PySem.Spec PyProof.Rows
structure ExcL (K : PySem.W.Frag) (C : Addr) : Prop where
 ga : PySem.W.findIn K (.ref C) "__getattribute__" = some (some (.builtin "BaseException.__getattribute__"))
 hk : PySem.W.findIn K (.ref C) "__getattr__" = some none
 ca : PySem.W.findIn K (.ref C) "__class__" = some (some (.builtin "object.__class__"))
 gt : PySem.W.specialIn K (.builtin "object.__class__") "__get__" = some (some (.builtin "getset_descriptor.__get__"))
 tk : PySem.W.takesIn K (.builtin "object.__class__") = some true
 ob : PySem.W.mroIn K C (.type "object") = some true
 be : PySem.W.mroIn K C (.type "BaseException") = some true
section
variable {prog : Program} {w : World} {A : Around} {E : Value -> Shared -> Prop} {K : PySem.W.Frag} {x C : Addr}
end
section
variable {X : Cx} {pins : List (Addr × Obj)} {σ : St} {H : Hp} {s : Shared}
end
end L2
set_option Elab.async false
set_option linter.all false
set_option maxRecDepth 100000
set_option maxHeartbeats 4000000
namespace L2
open PySem PySem.Spec PyProof.Rows
abbrev Ent := Option Int
def eV : Ent -> V
 | none => .non
 | some i => .int i
abbrev Tbl := List (List Ent)
def LineAt (H : Hp) (b : Addr) (r : List Ent) : Prop := H b = some (.lst (r.map eV))
structure TabAt (H : Hp) (a : Addr) (bs : List Addr) (t : Tbl) : Prop where
 at_ : H a = some (.lst (bs.map V.ref))
 nd : bs.Nodup
 ne : a ∉ bs
 lines : Paired (LineAt H) bs t
theorem paired_len {α β : Type} {R : α -> β -> Prop} : ∀ {xs : List α} {ys : List β}, Paired R xs ys -> xs.length = ys.length
 | _, _, .nil => rfl
 | _, _, .cons _ t => by simp [paired_len t]
theorem paired_get {α β : Type} {R : α -> β -> Prop} : ∀ {xs : List α} {ys : List β} {i : Nat} {y : β}, Paired R xs ys -> ys[i]? = some y -> ∃ x, xs[i]? = some x /\ R x y
 | _, _, _, _, .nil, e => by simp at e
 | _, _, 0, _, .cons r _, e => by cases e; exact ⟨_, rfl, r⟩
 | _, _, i + 1, _, .cons _ t, e => by
  obtain ⟨x, e1, r⟩ := paired_get t (by simpa using e)
  exact ⟨x, by simpa using e1, r⟩
theorem paired_get' {α β : Type} {R : α -> β -> Prop} : ∀ {xs : List α} {ys : List β} {i : Nat} {x : α}, Paired R xs ys -> xs[i]? = some x -> ∃ y, ys[i]? = some y /\ R x y
 | _, _, _, _, .nil, e => by simp at e
 | _, _, 0, _, .cons r _, e => by cases e; exact ⟨_, rfl, r⟩
 | _, _, i + 1, _, .cons _ t, e => by
  obtain ⟨x, e1, r⟩ := paired_get' t (by simpa using e)
  exact ⟨x, by simpa using e1, r⟩
theorem paired_of {α β : Type} {R : α -> β -> Prop} : ∀ {xs : List α} {ys : List β}, xs.length = ys.length -> (∀ (i : Nat) x y, xs[i]? = some x -> ys[i]? = some y -> R x y) -> Paired R xs ys
 | [], [], _, _ => .nil
 | [], _ :: _, e, _ => by simp at e
 | _ :: _, [], e, _ => by simp at e
 | x :: xs, y :: ys, e, h => .cons (h 0 x y rfl rfl) (paired_of (by simpa using e) fun i a b e1 e2 => h (i + 1) a b (by simpa using e1) (by simpa using e2))
section
variable {H H' : Hp} {a b : Addr} {bs : List Addr} {t : Tbl} {r : List Ent} {f g : Nat} {e : Ent}
theorem TabAt.len (T : TabAt H a bs t) : bs.length = t.length := paired_len T.lines
theorem TabAt.same (s : Same H H') (T : TabAt H a bs t) : TabAt H' a bs t := ⟨s _ _ T.at_, T.nd, T.ne, Paired.mapP T.lines fun _ _ z => s _ _ z⟩
theorem TabAt.line (T : TabAt H a bs t) (hr : t[f]? = some r) : ∃ b, bs[f]? = some b /\ H b = some (.lst (r.map eV)) /\ atI (bs.map V.ref) (f : Int) = some (.ref b) := by
 obtain ⟨b, eb, hb⟩ := paired_get T.lines hr
 exact ⟨b, eb, hb, atI_nat (by rw [List.getElem?_map, eb]; rfl)⟩
theorem at_line (he : r[g]? = some e) : atI (r.map eV) (g : Int) = some (eV e) := atI_nat (by rw [List.getElem?_map, he]; rfl)
theorem ixN_nat {n j : Nat} (h : j < n) : ixN n (j : Int) = some j := by
 unfold ixN
 rw [if_pos (by omega), if_pos (by omega)]
 simp
theorem map_set_eV (r : List Ent) (g : Nat) (e : Ent) : (r.map eV).set g (eV e) = (r.set g e).map eV := by
 induction r generalizing g with
 | nil => rfl
 | cons x r ih => cases g with
  | zero => rfl
  | succ g => rw [List.map_cons, List.set_cons_succ, ih g, List.set_cons_succ, List.map_cons]
theorem TabAt.put {r' : List Ent} (T : TabAt H a bs t) (eb : bs[f]? = some b) : TabAt (upd H b (.lst (r'.map eV))) a bs (t.set f r') := by
 have hb : b ∈ bs := List.mem_of_getElem? eb
 have nab : a ≠ b := fun z => T.ne (z ▸ hb)
 refine ⟨by rw [upd_ne nab]; exact T.at_, T.nd, T.ne, paired_of (by rw [List.length_set]; exact T.len) fun i x y ex ey => ?_⟩
 unfold LineAt
 by_cases hi : i = f
 · subst hi
   rw [eb] at ex; cases ex
   have hl : i < t.length := by rw [← T.len]; exact (List.getElem?_eq_some_iff.mp eb).1
   rw [List.getElem?_set_self hl] at ey
   cases ey
   exact upd_same
 · rw [List.getElem?_set_ne (Ne.symm hi)] at ey
   obtain ⟨y', ey', hy⟩ := paired_get' T.lines ex
   rw [ey] at ey'; cases ey'
   have nxb : x ≠ b := fun z => hi (by
    subst z
    obtain ⟨h1, q1⟩ := List.getElem?_eq_some_iff.mp ex
    obtain ⟨h2, q2⟩ := List.getElem?_eq_some_iff.mp eb
    exact (List.getElem_inj T.nd).mp (q1.trans q2.symm))
   rw [upd_ne nxb]
   exact hy
theorem TabAt.grow {H2 : Hp} (T : TabAt H a bs t) (hb : H b = none) (s : ∀ c o, c ≠ a -> H c = some o -> H2 c = some o) (hl : H2 b = some (.lst (r.map eV))) (ha : H2 a = some (.lst (bs.map V.ref ++ [.ref b]))) : TabAt H2 a (bs ++ [b]) (t ++ [r]) := by
 have nin : b ∉ bs := fun z => by
  obtain ⟨i, hi, q⟩ := List.getElem_of_mem z
  obtain ⟨y, _, hy⟩ := paired_get' T.lines (i := i) (x := b) (by rw [List.getElem?_eq_getElem hi, q])
  unfold LineAt at hy
  rw [hb] at hy; cases hy
 have nab : a ≠ b := fun z => by have := T.at_; rw [z, hb] at this; cases this
 refine ⟨by rw [ha]; simp, ?_, ?_, ?_⟩
 · rw [List.nodup_append]
   refine ⟨T.nd, by simp, fun x hx y hy => ?_⟩
   rw [List.mem_singleton.mp hy]
   exact fun z => nin (z ▸ hx)
 · intro z
   rcases List.mem_append.mp z with z | z
   · exact T.ne z
   · exact nab (List.mem_singleton.mp z)
 · have app : ∀ {xs : List Addr} {ys : Tbl}, Paired (LineAt H2) xs ys -> Paired (LineAt H2) (xs ++ [b]) (ys ++ [r]) := by
    intro xs ys p
    induction p with
    | nil => exact .cons hl .nil
    | cons q _ ih => exact .cons q ih
   refine app (paired_of T.len fun i x y ex ey => ?_)
   obtain ⟨y', ey', hy⟩ := paired_get' T.lines ex
   rw [ey] at ey'; cases ey'
   exact s _ _ (fun z => T.ne (z ▸ List.mem_of_getElem? ex)) hy
end
section
variable {K : PySem.W.Frag} {H : Hp}
end
end L2
set_option linter.all false
namespace Oct
abbrev E := Option Int
def leE : E -> E -> Prop
 | _, none => True
 | none, some _ => False
 | some a, some b => a <= b
def addE : E -> E -> E
 | some a, some b => some (a + b)
 | _, _ => none
def minE : E -> E -> E
 | none, b => b
 | some a, none => some a
 | some a, some b => some (min a b)
def hlf : E -> E
 | none => none
 | some a => some (a / 2)
def dbl : E -> E
 | none => none
 | some a => some (2 * a)
abbrev Tb := Nat -> Nat -> E
def fl (f : Nat) : Nat := if f % 2 = 0 then f + 1 else f - 1
theorem fl_fl (f : Nat) : fl (fl f) = f := by unfold fl; split <;> split <;> omega
theorem fl_ne (f : Nat) : fl f ≠ f := by unfold fl; split <;> omega
theorem fl_lt {f n : Nat} (h : f < 2 * n) : fl f < 2 * n := by unfold fl; split <;> omega
@[simp] theorem leE_refl (a : E) : leE a a := by cases a <;> simp [leE]
theorem leE_trans {a b c : E} (h : leE a b) (k : leE b c) : leE a c := by cases a <;> cases b <;> cases c <;> simp_all [leE] <;> omega
theorem minE_l (a b : E) : leE (minE a b) a := by cases a <;> cases b <;> simp [leE, minE] <;> omega
theorem minE_r (a b : E) : leE (minE a b) b := by cases a <;> cases b <;> simp [leE, minE] <;> omega
theorem le_minE {a b c : E} (h : leE c a) (k : leE c b) : leE c (minE a b) := by cases a <;> cases b <;> cases c <;> simp_all [leE, minE] <;> omega
theorem minE_or (a b : E) : minE a b = a \/ minE a b = b := by cases a <;> cases b <;> simp [minE] <;> omega
theorem add_mono {a b c d : E} (h : leE a b) (k : leE c d) : leE (addE a c) (addE b d) := by cases a <;> cases b <;> cases c <;> cases d <;> simp_all [leE, addE] <;> omega
theorem add_comm' (a b : E) : addE a b = addE b a := by cases a <;> cases b <;> simp [addE] <;> omega
theorem add_assoc' (a b c : E) : addE (addE a b) c = addE a (addE b c) := by cases a <;> cases b <;> cases c <;> simp [addE] <;> omega
def Sym (t : Tb) (N : Nat) : Prop := ∀ f g, f < N -> g < N -> t f g = t g f
def Thru (t : Tb) (N h : Nat) : Prop := ∀ f g, f < N -> g < N -> leE (t f g) (addE (t f h) (t (fl h) g))
def Closed (t : Tb) (N : Nat) : Prop := ∀ h, h < N -> Thru t N h
def lnk (t : Tb) (h : Nat) : Tb := fun f g => minE (t f g) (addE (t f h) (t (fl h) g))
theorem add_loop {a b c d : E} (h : leE (some 0) (addE b c)) : leE (addE a d) (addE (addE a b) (addE c d)) := by
 cases a <;> cases b <;> cases c <;> cases d <;> simp_all [leE, addE] <;> omega
theorem lnk_le (t : Tb) (h f g : Nat) : leE (lnk t h f g) (t f g) := minE_l _ _
theorem lnk_self {t : Tb} {N h : Nat} (d : leE (some 0) (t (fl h) h)) : Thru (lnk t h) N h := by
 intro f g _ _
 have e1 : leE (t f h) (lnk t h f h) := le_minE (leE_refl _) (by
  revert d; generalize t f h = a; generalize t (fl h) h = b; cases a <;> cases b <;> simp [leE, addE] <;> omega)
 have e2 : leE (t (fl h) g) (lnk t h (fl h) g) := le_minE (leE_refl _) (by
  revert d; generalize t (fl h) g = a; generalize t (fl h) h = b; cases a <;> cases b <;> simp [leE, addE] <;> omega)
 exact leE_trans (minE_r _ _) (add_mono e1 e2)
theorem lnk_thru {t : Tb} {N h i : Nat} (hh : h < N) (fh : fl h < N) (hi : i < N) (fi : fl i < N) (d : leE (some 0) (t (fl h) h)) (ti : Thru t N i) : Thru (lnk t h) N i := by
 intro f g hf hg
 have a1 := ti f g hf hg
 have a2 := ti f h hf hh
 have a3 := ti (fl h) g fh hg
 have a4 := ti (fl h) h fh hh
 unfold lnk
 rcases minE_or (t f i) (addE (t f h) (t (fl h) i)) with e1 | e1 <;> rcases minE_or (t (fl i) g) (addE (t (fl i) h) (t (fl h) g)) with e2 | e2 <;> rw [e1, e2]
 · exact leE_trans (minE_l _ _) a1
 · refine leE_trans (minE_r _ _) ?_
   rw [← add_assoc']
   exact add_mono a2 (leE_refl _)
 · refine leE_trans (minE_r _ _) ?_
   rw [add_assoc']
   exact add_mono (leE_refl _) a3
 · exact leE_trans (minE_r _ _) (add_loop (leE_trans d a4))
def hv (t : Tb) (f : Nat) : E := hlf (t f f)
def halve (t : Tb) : Tb := fun f g => if f = g then dbl (hv t f) else t f g
def strong (t : Tb) : Tb := fun f g => minE (halve t f g) (addE (hv t f) (hv t g))
theorem halve_le (t : Tb) (f g : Nat) : leE (halve t f g) (t f g) := by
 unfold halve hv
 split
 · subst f; generalize t g g = a; cases a <;> simp [leE, hlf, dbl] <;> omega
 · exact leE_refl _
theorem half_link {t : Tb} {N f g : Nat} (c : Closed t N) (s : Sym t N) (hf : f < N) (ff : fl f < N) (hg : g < N) : leE (hv t g) (addE (t (fl f) g) (hv t f)) := by
 have a1 := c (fl f) ff g g hg hg
 have a2 := c f hf f g hf hg
 rw [fl_fl, s g (fl f) hg ff] at a1
 unfold hv
 revert a1 a2
 generalize t g g = a; generalize t (fl f) g = b; generalize t f g = d; generalize t f f = e
 cases a <;> cases b <;> cases d <;> cases e <;> simp [leE, addE, hlf] <;> omega
theorem strong_closed {t : Tb} {N : Nat} (even : ∀ f, f < N -> fl f < N) (c : Closed t N) (s : Sym t N) (d : ∀ f, f < N -> leE (some 0) (addE (hv t f) (hv t (fl f)))) : Closed (strong t) N := by
 intro x hx f g hf hg
 have fx := even x hx
 have k1 := half_link c s hx fx hg
 have k2 := half_link (f := fl x) (g := f) c s fx (by rw [fl_fl]; exact hx) hf
 rw [fl_fl, s x f hx hf] at k2
 have dx := d x hx
 have b1 : leE (addE (hv t f) (hv t g)) (addE (addE (hv t f) (hv t x)) (halve t (fl x) g)) := by
  unfold halve
  split
  · rename_i e
    subst e
    revert dx
    generalize hv t f = a; generalize hv t x = b; generalize hv t (fl x) = b'
    cases a <;> cases b <;> cases b' <;> simp [leE, addE, dbl] <;> omega
  · revert k1
    generalize hv t f = a; generalize hv t x = b; generalize hv t g = e; generalize t (fl x) g = i
    cases a <;> cases b <;> cases e <;> cases i <;> simp [leE, addE] <;> omega
 have b2 : leE (addE (hv t f) (hv t g)) (addE (halve t f x) (addE (hv t (fl x)) (hv t g))) := by
  unfold halve
  split
  · rename_i e
    subst e
    revert dx
    generalize hv t f = a; generalize hv t g = b; generalize hv t (fl f) = b'
    cases a <;> cases b <;> cases b' <;> simp [leE, addE, dbl] <;> omega
  · revert k2
    generalize hv t f = a; generalize hv t (fl x) = b; generalize hv t g = e; generalize t f x = i
    cases a <;> cases b <;> cases e <;> cases i <;> simp [leE, addE] <;> omega
 unfold strong
 rcases minE_or (halve t f x) (addE (hv t f) (hv t x)) with e1 | e1 <;> rcases minE_or (halve t (fl x) g) (addE (hv t (fl x)) (hv t g)) with e2 | e2 <;> rw [e1, e2]
 · by_cases h1 : f = x
   · refine leE_trans (minE_r _ _) (leE_trans b1 (add_mono ?_ (leE_refl _)))
     subst h1
     unfold halve
     rw [if_pos rfl]
     generalize hv t f = a
     cases a <;> simp [leE, addE, dbl] <;> omega
   · by_cases h2 : fl x = g
     · refine leE_trans (minE_r _ _) (leE_trans b2 (add_mono (leE_refl _) ?_))
       subst h2
       unfold halve
       rw [if_pos rfl]
       generalize hv t (fl x) = a
       cases a <;> simp [leE, addE, dbl] <;> omega
     · have : leE (t f g) (addE (halve t f x) (halve t (fl x) g)) := by
        have z := c x hx f g hf hg
        unfold halve
        rw [if_neg h1, if_neg h2]
        exact z
       exact leE_trans (minE_l _ _) (leE_trans (halve_le t f g) this)
 · exact leE_trans (minE_r _ _) b2
 · exact leE_trans (minE_r _ _) b1
 · exact leE_trans (minE_r _ _) (add_loop dx)
theorem halve_sym {t : Tb} {N : Nat} (s : Sym t N) : Sym (halve t) N := by
 intro f g hf hg
 unfold halve
 by_cases e : f = g
 · subst e; rfl
 · rw [if_neg e, if_neg (Ne.symm e)]; exact s f g hf hg
theorem strong_sym {t : Tb} {N : Nat} (s : Sym t N) : Sym (strong t) N := by
 intro f g hf hg
 unfold strong
 rw [halve_sym s f g hf hg, add_comm']
theorem leE_antisymm {a b : E} (h : leE a b) (k : leE b a) : a = b := by cases a <;> cases b <;> simp_all [leE] <;> omega
def Le (c t : Tb) (N : Nat) : Prop := ∀ f g, f < N -> g < N -> leE (c f g) (t f g)
theorem Le.trans {a b c : Tb} {N : Nat} (h : Le a b N) (k : Le b c N) : Le a c N := fun f g hf hg => leE_trans (h f g hf hg) (k f g hf hg)
theorem le_lnk {c t : Tb} {N h : Nat} (cc : Closed c N) (l : Le c t N) (hh : h < N) (fh : fl h < N) : Le c (lnk t h) N := fun f g hf hg =>
 le_minE (l f g hf hg) (leE_trans (cc h hh f g hf hg) (add_mono (l f h hf hh) (l (fl h) g fh hg)))
def links (t : Tb) : List Nat -> Tb
 | [] => t
 | h :: r => links (lnk t h) r
theorem links_le : ∀ (hs : List Nat) (t : Tb) (f g : Nat), leE (links t hs f g) (t f g)
 | [], t, f, g => leE_refl _
 | h :: r, t, f, g => leE_trans (links_le r (lnk t h) f g) (lnk_le t h f g)
theorem le_links {c : Tb} {N : Nat} (cc : Closed c N) (even : ∀ f, f < N -> fl f < N) : ∀ (hs : List Nat) (t : Tb), (∀ h ∈ hs, h < N) -> Le c t N -> Le c (links t hs) N
 | [], t, _, l => l
 | h :: r, t, b, l => le_links cc even r (lnk t h) (fun i hi => b i (List.mem_cons_of_mem _ hi)) (le_lnk cc l (b h List.mem_cons_self) (even h (b h List.mem_cons_self)))
theorem links_thru {N : Nat} (even : ∀ f, f < N -> fl f < N) : ∀ (hs : List Nat) (t : Tb) (S : List Nat), (∀ h ∈ S, h < N) -> (∀ h ∈ hs, h < N) -> (∀ h ∈ hs, leE (some 0) (links t hs (fl h) h)) -> (∀ i ∈ S, Thru t N i) -> ∀ i, i ∈ S \/ i ∈ hs -> Thru (links t hs) N i
 | [], t, S, _, _, _, k, i, hi => by
  rcases hi with hi | hi
  · exact k i hi
  · cases hi
 | h :: r, t, S, bS, b, d, k, i, hi => by
  have hh := b h List.mem_cons_self
  have d0 : leE (some 0) (t (fl h) h) := leE_trans (d h List.mem_cons_self) (links_le (h :: r) t (fl h) h)
  refine links_thru even r (lnk t h) (h :: S) (fun j hj => ?_) (fun j hj => b j (List.mem_cons_of_mem _ hj)) (fun j hj => d j (List.mem_cons_of_mem _ hj)) (fun j hj => ?_) i ?_
  · rcases List.mem_cons.mp hj with rfl | hj
    · exact hh
    · exact bS j hj
  · rcases List.mem_cons.mp hj with rfl | hj
    · exact lnk_self d0
    · exact lnk_thru hh (even h hh) (bS j hj) (even j (bS j hj)) d0 (k j hj)
  · rcases hi with hi | hi
    · exact .inl (List.mem_cons_of_mem _ hi)
    · rcases List.mem_cons.mp hi with rfl | hi
      · exact .inl List.mem_cons_self
      · exact .inr hi
theorem links_closed {N : Nat} {hs : List Nat} {t : Tb} (even : ∀ f, f < N -> fl f < N) (b : ∀ h ∈ hs, h < N) (all : ∀ h, h < N -> h ∈ hs) (d : ∀ h, h < N -> leE (some 0) (links t hs (fl h) h)) : Closed (links t hs) N :=
 fun h hh => links_thru even hs t [] (fun _ z => by cases z) b (fun i hi => d i (b i hi)) (fun _ z => by cases z) h (.inr (all h hh))
theorem closed_flip {t : Tb} {N : Nat} (even : ∀ f, f < N -> fl f < N) (c : Closed t N) : Closed (fun f g => t g f) N := fun h hh f g hf hg => by
 have z := c (fl h) (even h hh) g f hg hf
 rw [fl_fl, add_comm'] at z
 exact z
theorem links_sym {N : Nat} {hs : List Nat} {t : Tb} (even : ∀ f, f < N -> fl f < N) (b : ∀ h ∈ hs, h < N) (all : ∀ h, h < N -> h ∈ hs) (d : ∀ h, h < N -> leE (some 0) (links t hs (fl h) h)) (s : Sym t N) : Sym (links t hs) N := by
 have c := links_closed even b all d
 have c' := closed_flip even c
 have l : Le (fun f g => links t hs g f) t N := fun f g hf hg => by
  have z := links_le hs t g f
  rw [s g f hg hf] at z
  exact z
 have k := le_links c' even hs t b l
 exact fun f g hf hg => leE_antisymm (k g f hg hf) (k f g hf hg)
structure Tight (c : Tb) (N : Nat) : Prop where
 sym : Sym c N
 closed : Closed c N
 even : ∀ f, f < N -> ∀ a, c f f = some a -> a % 2 = 0
 halves : ∀ f g, f < N -> g < N -> leE (dbl (c f g)) (addE (c f f) (c g g))
theorem strong_diag (t : Tb) (f : Nat) : strong t f f = dbl (hv t f) := by
 unfold strong halve
 rw [if_pos rfl]
 generalize hv t f = a
 cases a <;> simp [minE, addE, dbl] <;> omega
theorem strong_tight {t : Tb} {N : Nat} (even : ∀ f, f < N -> fl f < N) (c : Closed t N) (s : Sym t N) (d : ∀ f, f < N -> leE (some 0) (addE (hv t f) (hv t (fl f)))) : Tight (strong t) N where
 sym := strong_sym s
 closed := strong_closed even c s d
 even := fun f _ a e => by
  rw [strong_diag] at e
  revert e
  generalize hv t f = b
  cases b <;> simp [dbl] <;> omega
 halves := fun f g _ _ => by
  rw [strong_diag, strong_diag]
  unfold strong
  generalize hv t f = a; generalize hv t g = b; generalize halve t f g = e
  cases a <;> cases b <;> cases e <;> simp [leE, addE, dbl, minE] <;> omega
theorem strong_le (t : Tb) (f g : Nat) : leE (strong t f g) (t f g) := leE_trans (minE_l _ _) (halve_le t f g)
theorem le_strong {c t : Tb} {N : Nat} (k : Tight c N) (l : Le c t N) : Le c (strong t) N := fun f g hf hg => by
 have hd : ∀ x, x < N -> leE (c x x) (dbl (hv t x)) := fun x hx => by
  have z := l x x hx hx
  have ev := k.even x hx
  unfold hv
  revert z ev
  generalize c x x = a; generalize t x x = b
  cases a <;> cases b <;> simp [leE, dbl, hlf] <;> omega
 refine le_minE ?_ ?_
 · unfold halve
   split
   · rename_i e; subst e; exact hd f hf
   · exact l f g hf hg
 · have z := k.halves f g hf hg
   have a := hd f hf
   have b := hd g hg
   revert z a b
   generalize c f g = x; generalize c f f = y; generalize c g g = y'; generalize hv t f = u; generalize hv t g = v
   cases x <;> cases y <;> cases y' <;> cases u <;> cases v <;> simp [leE, dbl, addE] <;> omega
def Pt (w : Nat -> Int) (N : Nat) : Prop := ∀ f, f < N -> w (fl f) = -w f
def tab (w : Nat -> Int) : Tb := fun f g => some (w f + w g)
theorem pt_tight {w : Nat -> Int} {N : Nat} (p : Pt w N) : Tight (tab w) N where
 sym := fun f g _ _ => by simp [tab]; omega
 closed := fun h hh f g _ _ => by have := p h hh; simp [tab, leE, addE]; omega
 even := fun f _ a e => by simp [tab] at e; omega
 halves := fun f g _ _ => by simp [tab, leE, addE, dbl]; omega
def Lies (w : Nat -> Int) (t : Tb) (N : Nat) : Prop := Le (tab w) t N
theorem ends_two {c : Tb} {N f g g' : Nat} {a b : Int} (T : Tight c N) (hf : f < N) (ff : fl f < N) (hg : g < N) (hg' : g' < N) (l : leE (some (a + b)) (c g g')) : leE (some (a + b)) (addE (c f g) (c (fl f) g')) := by
 have z := T.closed f hf g g' hg hg'
 rw [T.sym g f hg hf] at z
 exact leE_trans l z
theorem ends_half {c : Tb} {N f g : Nat} {a : Int} (T : Tight c N) (hf : f < N) (ff : fl f < N) (hg : g < N) (l : leE (some (a + a)) (c g g)) : leE (some a) (addE (hv c f) (c (fl f) g)) := by
 have z := half_link T.closed T.sym hf ff hg
 rw [add_comm'] at z
 refine leE_trans ?_ z
 unfold hv
 revert l
 generalize c g g = b
 cases b <;> simp [leE, hlf] <;> omega
theorem ends_halves {c : Tb} {N f : Nat} (T : Tight c N) (hf : f < N) (ff : fl f < N) (d : leE (some 0) (c f (fl f))) : leE (some 0) (addE (hv c f) (hv c (fl f))) := by
 have z := T.halves f (fl f) hf ff
 have e1 := T.even f hf
 have e2 := T.even (fl f) ff
 unfold hv
 revert z d e1 e2
 generalize c f (fl f) = x; generalize c f f = a; generalize c (fl f) (fl f) = b
 cases x <;> cases a <;> cases b <;> simp [leE, addE, hlf, dbl] <;> omega
theorem between : ∀ (L U : List Int), (∀ l ∈ L, ∀ u ∈ U, l <= u) -> ∃ z : Int, (∀ l ∈ L, l <= z) /\ ∀ u ∈ U, z <= u := by
 have top : ∀ (U : List Int), ∃ z : Int, ∀ u ∈ U, z <= u := by
  intro U
  induction U with
  | nil => exact ⟨0, fun _ z => by cases z⟩
  | cons u r ih =>
   obtain ⟨z, hz⟩ := ih
   refine ⟨min z u, fun v hv => ?_⟩
   rcases List.mem_cons.mp hv with rfl | hv
   · omega
   · have := hz v hv; omega
 intro L
 induction L with
 | nil =>
  intro U _
  obtain ⟨z, hz⟩ := top U
  exact ⟨z, fun _ q => (by cases q), hz⟩
 | cons l r ih =>
  intro U h
  obtain ⟨z, h1, h2⟩ := ih U fun a ha u hu => h a (List.mem_cons_of_mem _ ha) u hu
  refine ⟨max z l, fun a ha => ?_, fun u hu => ?_⟩
  · rcases List.mem_cons.mp ha with rfl | ha
    · omega
    · have := h1 a ha; omega
  · have := h2 u hu
    have := h l List.mem_cons_self u hu
    omega
def LiesS (S : Nat -> Bool) (w : Nat -> Int) (c : Tb) (N : Nat) : Prop := ∀ f g, f < N -> g < N -> S (f / 2) = true -> S (g / 2) = true -> leE (tab w f g) (c f g)
def putN (w : Nat -> Int) (k : Nat) (z : Int) : Nat -> Int := fun f => if f = 2 * k then z else if f = 2 * k + 1 then -z else w f
theorem extendS {c : Tb} {n k : Nat} {S : Nat -> Bool} {w : Nat -> Int} (T : Tight c (2 * n)) (d : ∀ f, f < 2 * n -> leE (some 0) (c f (fl f))) (hk : k < n) (nk : S k = false) (l : LiesS S w c (2 * n)) :
  ∃ z : Int, LiesS (fun j => S j || j == k) (putN w k z) c (2 * n) := by
 have f0 : 2 * k < 2 * n := by omega
 have f1 : 2 * k + 1 < 2 * n := by omega
 have e0 : fl (2 * k) = 2 * k + 1 := by unfold fl; rw [if_pos (by omega)]
 have e1 : fl (2 * k + 1) = 2 * k := by unfold fl; rw [if_neg (by omega)]; omega
 let ends (f : Nat) : List Int := (hv c f).toList ++ (List.range (2 * n)).filterMap fun g => if S (g / 2) = true then (c f g).map fun x => x - w g else none
 have mem : ∀ f a, a ∈ ends f -> hv c f = some a \/ ∃ g, g < 2 * n /\ S (g / 2) = true /\ ∃ x, c f g = some x /\ a = x - w g := by
  intro f a ha
  rcases List.mem_append.mp ha with ha | ha
  · exact .inl (by simpa using ha)
  · obtain ⟨g, hg, e⟩ := List.mem_filterMap.mp ha
    split at e
    · rename_i hs
      obtain ⟨x, ex, rfl⟩ := Option.map_eq_some_iff.mp e
      exact .inr ⟨g, List.mem_range.mp hg, hs, x, ex, rfl⟩
    · cases e
 obtain ⟨z, h1, h2⟩ := between ((ends (2 * k + 1)).map fun a => -a) (ends (2 * k)) (by
  intro b hb u hu
  obtain ⟨a, ha, rfl⟩ := List.mem_map.mp hb
  rcases mem _ _ ha with ha | ⟨g, hg, sg, x, ex, rfl⟩ <;> rcases mem _ _ hu with hu | ⟨g', hg', sg', y, ey, rfl⟩
  · have q := ends_halves T f0 (by rw [e0]; exact f1) (d _ f0)
    rw [e0, ha, hu] at q
    simp [leE, addE] at q
    omega
  · have q := ends_half (a := w g') T f1 (by rw [e1]; exact f0) hg' (l g' g' hg' hg' sg' sg')
    rw [e1, ha, ey] at q
    simp [leE, addE] at q
    omega
  · have q := ends_half (a := w g) T f0 (by rw [e0]; exact f1) hg (l g g hg hg sg sg)
    rw [e0, hu, ex] at q
    simp [leE, addE] at q
    omega
  · have q := ends_two (a := w g') (b := w g) T f0 (by rw [e0]; exact f1) hg' hg (l g' g hg' hg sg' sg)
    rw [e0, ey, ex] at q
    simp [leE, addE] at q
    omega)
 have up : ∀ a, a ∈ ends (2 * k) -> z <= a := h2
 have lo : ∀ a, a ∈ ends (2 * k + 1) -> -a <= z := fun a ha => h1 _ (List.mem_map.mpr ⟨a, ha, rfl⟩)
 have up1 : ∀ g, g < 2 * n -> S (g / 2) = true -> ∀ x, c (2 * k) g = some x -> z + w g <= x := fun g hg sg x ex => by
  have := up (x - w g) (List.mem_append_right _ (List.mem_filterMap.mpr ⟨g, List.mem_range.mpr hg, by rw [if_pos sg, ex]; rfl⟩))
  omega
 have lo1 : ∀ g, g < 2 * n -> S (g / 2) = true -> ∀ x, c (2 * k + 1) g = some x -> -z + w g <= x := fun g hg sg x ex => by
  have := lo (x - w g) (List.mem_append_right _ (List.mem_filterMap.mpr ⟨g, List.mem_range.mpr hg, by rw [if_pos sg, ex]; rfl⟩))
  omega
 have up2 : ∀ x, c (2 * k) (2 * k) = some x -> z + z <= x := fun x ex => by
  have := up (x / 2) (List.mem_append_left _ (by unfold hv; rw [ex]; simp [hlf]))
  omega
 have lo2 : ∀ x, c (2 * k + 1) (2 * k + 1) = some x -> -z + -z <= x := fun x ex => by
  have := lo (x / 2) (List.mem_append_left _ (by unfold hv; rw [ex]; simp [hlf]))
  omega
 have d0 := d _ f0
 rw [e0] at d0
 have pk0 : putN w k z (2 * k) = z := by unfold putN; rw [if_pos rfl]
 have pk1 : putN w k z (2 * k + 1) = -z := by unfold putN; rw [if_neg (by omega), if_pos rfl]
 have po : ∀ g, S (g / 2) = true -> putN w k z g = w g := fun g sg => by
  have : g / 2 ≠ k := fun e => by rw [e, nk] at sg; cases sg
  unfold putN
  rw [if_neg (by omega), if_neg (by omega)]
 have of : ∀ f, (S (f / 2) || f / 2 == k) = true -> S (f / 2) = true \/ f = 2 * k \/ f = 2 * k + 1 := fun f h => by
  rcases Bool.or_eq_true_iff.mp h with h | h
  · exact .inl h
  · have := beq_iff_eq.mp h; omega
 refine ⟨z, fun f g hf hg sf sg => ?_⟩
 unfold tab
 cases e : c f g with
 | none => simp [leE]
 | some x =>
  simp only [leE]
  rcases of f sf with sf | rfl | rfl <;> rcases of g sg with sg | rfl | rfl
  · rw [po f sf, po g sg]
    have q := l f g hf hg sf sg
    unfold tab at q
    rw [e] at q
    exact q
  · rw [po f sf, pk0, Int.add_comm]
    exact up1 f hf sf x (by rw [T.sym _ _ f0 hf]; exact e)
  · rw [po f sf, pk1, Int.add_comm]
    exact lo1 f hf sf x (by rw [T.sym _ _ f1 hf]; exact e)
  · rw [po g sg, pk0]; exact up1 g hg sg x e
  · rw [pk0]; exact up2 x e
  · rw [pk0, pk1]
    rw [e] at d0
    simp [leE] at d0
    omega
  · rw [po g sg, pk1]; exact lo1 g hg sg x e
  · rw [pk0, pk1]
    rw [T.sym _ _ f1 f0] at e
    rw [e] at d0
    simp [leE] at d0
    omega
  · rw [pk1]; exact lo2 x e
theorem putN_pt {w : Nat -> Int} {k N : Nat} {z : Int} (p : Pt w N) : Pt (putN w k z) N := fun f hf => by
 have := p f hf
 unfold putN
 by_cases h0 : f = 2 * k
 · subst h0
   have : fl (2 * k) = 2 * k + 1 := by unfold fl; rw [if_pos (by omega)]
   rw [this, if_neg (by omega), if_pos rfl, if_pos rfl]
 · by_cases h1 : f = 2 * k + 1
   · subst h1
     have : fl (2 * k + 1) = 2 * k := by unfold fl; rw [if_neg (by omega)]; omega
     rw [this, if_pos rfl, if_neg (by omega), if_pos rfl]; omega
   · have a : fl f ≠ 2 * k := fun e => h1 (by have := fl_fl f; rw [e] at this; rw [← this]; unfold fl; rw [if_pos (by omega)])
     have b : fl f ≠ 2 * k + 1 := fun e => h0 (by have := fl_fl f; rw [e] at this; rw [← this]; unfold fl; rw [if_neg (by omega)]; omega)
     rw [if_neg a, if_neg b, if_neg h0, if_neg h1]
     exact this
theorem whole_point {c : Tb} {n : Nat} (T : Tight c (2 * n)) (d : ∀ f, f < 2 * n -> leE (some 0) (c f (fl f))) {S : Nat -> Bool} {w : Nat -> Int} (p : Pt w (2 * n)) (l : LiesS S w c (2 * n)) :
  ∃ w', Pt w' (2 * n) /\ Lies w' c (2 * n) /\ ∀ f, S (f / 2) = true -> w' f = w f := by
 have gen : ∀ k, k <= n -> ∃ (S' : Nat -> Bool) (w' : Nat -> Int), Pt w' (2 * n) /\ LiesS S' w' c (2 * n) /\ (∀ f, S (f / 2) = true -> w' f = w f) /\ (∀ j, S j = true -> S' j = true) /\ ∀ j, j < k -> S' j = true := by
  intro k
  induction k with
  | zero => exact fun _ => ⟨S, w, p, l, fun _ _ => rfl, fun _ h => h, fun j h => by omega⟩
  | succ k ih =>
   intro hk
   obtain ⟨S', w', p', l', a, b, e⟩ := ih (by omega)
   cases hs : S' k with
   | true => exact ⟨S', w', p', l', a, b, fun j hj => by
     by_cases z : j = k
     · rw [z]; exact hs
     · exact e j (by omega)⟩
   | false =>
    obtain ⟨z, lz⟩ := extendS T d (by omega) hs l'
    refine ⟨_, _, putN_pt p', lz, fun f hf => ?_, fun j hj => by simp [b j hj], fun j hj => ?_⟩
    · have : f / 2 ≠ k := fun q => by have := b _ hf; rw [q, hs] at this; cases this
      rw [← a f hf]
      unfold putN
      rw [if_neg (by omega), if_neg (by omega)]
    · by_cases q : j = k
      · simp [q]
      · simp [e j (by omega)]
 obtain ⟨S', w', p', l', a, b, e⟩ := gen n (Nat.le_refl _)
 exact ⟨w', p', fun f g hf hg => l' f g hf hg (e _ (by omega)) (e _ (by omega)), a⟩
theorem has_point {c : Tb} {n : Nat} (T : Tight c (2 * n)) (d : ∀ f, f < 2 * n -> leE (some 0) (c f (fl f))) : ∃ w, Pt w (2 * n) /\ Lies w c (2 * n) := by
 obtain ⟨w, p, l, _⟩ := whole_point (S := fun _ => false) (w := fun _ => 0) T d (fun _ _ => by simp) (fun f g _ _ h => by cases h)
 exact ⟨w, p, l⟩
theorem strong_zero {t : Tb} {f : Nat} (z : t f (fl f) = some 0) (d : leE (some 0) (addE (hv t f) (hv t (fl f)))) : strong t f (fl f) = some 0 := by
 unfold strong halve
 rw [if_neg (Ne.symm (fl_ne f)), z]
 revert d
 generalize hv t f = a; generalize hv t (fl f) = b
 cases a <;> cases b <;> simp [minE, addE, leE] <;> omega
theorem shape_tight {N : Nat} {hs : List Nat} {t : Tb} (even : ∀ f, f < N -> fl f < N) (b : ∀ h ∈ hs, h < N) (all : ∀ h, h < N -> h ∈ hs) (s : Sym t N) (d : ∀ h, h < N -> leE (some 0) (links t hs (fl h) h)) (e : ∀ f, f < N -> leE (some 0) (addE (hv (links t hs) f) (hv (links t hs) (fl f)))) : Tight (strong (links t hs)) N :=
 strong_tight even (links_closed even b all d) (links_sym even b all d s) e
theorem shape_greatest {N : Nat} {hs : List Nat} {t c : Tb} (even : ∀ f, f < N -> fl f < N) (b : ∀ h ∈ hs, h < N) (k : Tight c N) (l : Le c t N) : Le c (strong (links t hs)) N := le_strong k (le_links k.closed even hs t b l)
theorem shape_le (hs : List Nat) (t : Tb) (f g : Nat) : leE (strong (links t hs) f g) (t f g) := leE_trans (strong_le _ f g) (links_le hs t f g)
def wideT : Tb := fun f g => if g = fl f then some 0 else none
def low1 (c : Tb) (f g : Nat) (z : Int) : Tb := fun a b => if (a = f /\ b = g) \/ (a = g /\ b = f) then minE (c a b) (some z) else c a b
abbrev Sdn := Nat × Nat × Int
def lowL (c : Tb) : List Sdn -> Tb
 | [] => c
 | s :: r => lowL (low1 c s.1 s.2.1 s.2.2) r
def hsOf (N : Nat) : List Nat := (List.range N).map fl
def neg0 : E -> Bool
 | some z => decide (z < 0)
 | none => false
def badAt (u : Tb) (f : Nat) : Bool := neg0 (u f (fl f)) || neg0 (addE (hv u f) (hv u (fl f)))
def shapeO (N : Nat) (t : Tb) : Option Tb := if (List.range N).any (badAt (links t (hsOf N))) then none else some (strong (links t (hsOf N)))
def Agree (a b : Tb) (N : Nat) : Prop := ∀ f g, f < N -> g < N -> a f g = b f g
theorem strong_eq (t : Tb) (f g : Nat) : minE (t f g) (addE (hv t f) (hv t g)) = strong t f g := by
 unfold strong halve
 by_cases h : f = g
 · subst h
   rw [if_pos rfl]
   unfold hv
   generalize t f f = a
   cases a <;> simp [minE, addE, hlf, dbl] <;> omega
 · rw [if_neg h]
theorem neg0_iff (e : E) : neg0 e = false ↔ leE (some 0) e := by cases e <;> simp [neg0, leE]
theorem low1_le (c : Tb) (f g : Nat) (z : Int) (a b : Nat) : leE (low1 c f g z a b) (c a b) := by
 unfold low1
 split
 · exact minE_l _ _
 · exact leE_refl _
theorem low1_side (c : Tb) (f g : Nat) (z : Int) : leE (low1 c f g z f g) (some z) /\ leE (low1 c f g z g f) (some z) := by
 unfold low1
 rw [if_pos (.inl ⟨rfl, rfl⟩), if_pos (.inr ⟨rfl, rfl⟩)]
 exact ⟨minE_r _ _, minE_r _ _⟩
theorem le_low1 {c t : Tb} {N f g : Nat} {z : Int} (l : Le c t N) (h1 : leE (c f g) (some z)) (h2 : leE (c g f) (some z)) : Le c (low1 t f g z) N := fun a b ha hb => by
 unfold low1
 split
 · rename_i h
   refine le_minE (l a b ha hb) ?_
   rcases h with ⟨rfl, rfl⟩ | ⟨rfl, rfl⟩
   · exact h1
   · exact h2
 · exact l a b ha hb
theorem low1_sym {c : Tb} {N f g : Nat} {z : Int} (s : Sym c N) : Sym (low1 c f g z) N := fun a b ha hb => by
 unfold low1
 rw [s a b ha hb]
 by_cases h : (a = f /\ b = g) \/ (a = g /\ b = f)
 · rw [if_pos h, if_pos (by rcases h with ⟨x, y⟩ | ⟨x, y⟩; exact .inr ⟨y, x⟩; exact .inl ⟨y, x⟩)]
 · rw [if_neg h, if_neg (fun q => h (by rcases q with ⟨x, y⟩ | ⟨x, y⟩; exact .inr ⟨y, x⟩; exact .inl ⟨y, x⟩))]
theorem lowL_le : ∀ (ss : List Sdn) (c : Tb) (a b : Nat), leE (lowL c ss a b) (c a b)
 | [], _, _, _ => leE_refl _
 | s :: r, c, a, b => leE_trans (lowL_le r _ a b) (low1_le c _ _ _ a b)
theorem lowL_sym {N : Nat} : ∀ (ss : List Sdn) (c : Tb), Sym c N -> Sym (lowL c ss) N
 | [], _, s => s
 | _ :: r, _, s => lowL_sym r _ (low1_sym s)
theorem lowL_side : ∀ (ss : List Sdn) (c : Tb) (s : Sdn), s ∈ ss -> leE (lowL c ss s.1 s.2.1) (some s.2.2) /\ leE (lowL c ss s.2.1 s.1) (some s.2.2)
 | [], _, _, h => by simp at h
 | t :: r, c, s, h => by
  rcases List.mem_cons.mp h with e | e
  · subst e
    have q := low1_side c s.1 s.2.1 s.2.2
    exact ⟨leE_trans (lowL_le r _ _ _) q.1, leE_trans (lowL_le r _ _ _) q.2⟩
  · exact lowL_side r _ s e
def Keeps (c : Tb) (s : Sdn) : Prop := leE (c s.1 s.2.1) (some s.2.2) /\ leE (c s.2.1 s.1) (some s.2.2)
theorem le_lowL {c : Tb} {N : Nat} : ∀ (ss : List Sdn) (t : Tb), Le c t N -> (∀ s ∈ ss, Keeps c s) -> Le c (lowL t ss) N
 | [], _, l, _ => l
 | s :: r, t, l, k => le_lowL r _ (le_low1 l (k s List.mem_cons_self).1 (k s List.mem_cons_self).2) fun u hu => k u (List.mem_cons_of_mem _ hu)
theorem le_lowL_iff {c t : Tb} {N : Nat} {ss : List Sdn} (hin : ∀ s ∈ ss, s.1 < N /\ s.2.1 < N) : Le c (lowL t ss) N ↔ Le c t N /\ ∀ s ∈ ss, Keeps c s :=
 ⟨fun h => ⟨fun a b ha hb => leE_trans (h a b ha hb) (lowL_le ss t a b), fun s hs => ⟨leE_trans (h _ _ (hin s hs).1 (hin s hs).2) (lowL_side ss t s hs).1, leE_trans (h _ _ (hin s hs).2 (hin s hs).1) (lowL_side ss t s hs).2⟩⟩, fun ⟨l, k⟩ => le_lowL ss t l k⟩
theorem wide_sym (N : Nat) : Sym wideT N := fun f g _ _ => by
 unfold wideT
 by_cases h : g = fl f
 · rw [if_pos h, if_pos (by rw [h, fl_fl])]
 · rw [if_neg h, if_neg (fun q => h (by rw [q, fl_fl]))]
structure Good (c : Tb) (N : Nat) : Prop where
 tight : Tight c N
 nn : ∀ f, f < N -> leE (some 0) (c f (fl f))
theorem hsOf_lt {N : Nat} (even : ∀ f, f < N -> fl f < N) : ∀ h ∈ hsOf N, h < N := fun h hh => by
 obtain ⟨f, hf, rfl⟩ := List.mem_map.mp hh
 exact even f (List.mem_range.mp hf)
theorem hsOf_all {N : Nat} (even : ∀ f, f < N -> fl f < N) : ∀ h, h < N -> h ∈ hsOf N := fun h hh => List.mem_map.mpr ⟨fl h, List.mem_range.mpr (even h hh), fl_fl h⟩
theorem not_bad {N : Nat} {u : Tb} (h : (List.range N).any (badAt u) = false) : ∀ f, f < N -> leE (some 0) (u f (fl f)) /\ leE (some 0) (addE (hv u f) (hv u (fl f))) := fun f hf => by
 have q := List.any_eq_false.mp h f (List.mem_range.mpr hf)
 unfold badAt at q
 simp only [Bool.or_eq_true, not_or, Bool.not_eq_true] at q
 exact ⟨(neg0_iff _).mp q.1, (neg0_iff _).mp q.2⟩
theorem hv_mono {c t : Tb} {f : Nat} (h : leE (c f f) (t f f)) : leE (hv c f) (hv t f) := by
 revert h
 unfold hv
 generalize c f f = a; generalize t f f = b
 cases a <;> cases b <;> simp [leE, hlf] <;> omega
theorem Good.halves0 {c : Tb} {N f : Nat} (G : Good c N) (even : ∀ f, f < N -> fl f < N) (hf : f < N) : leE (some 0) (addE (hv c f) (hv c (fl f))) := by
 have z := G.tight.halves f (fl f) hf (even f hf)
 have n := G.nn f hf
 have e1 := G.tight.even f hf
 have e2 := G.tight.even (fl f) (even f hf)
 unfold hv
 revert z n e1 e2
 generalize c f (fl f) = x; generalize c f f = a; generalize c (fl f) (fl f) = b
 cases x <;> cases a <;> cases b <;> simp [leE, dbl, addE, hlf] <;> omega
theorem shape_good {N : Nat} {t s : Tb} (even : ∀ f, f < N -> fl f < N) (sy : Sym t N) (h : shapeO N t = some s) : Good s N /\ Le s t N /\ ∀ c, Tight c N -> Le c t N -> Le c s N := by
 unfold shapeO at h
 split at h
 · cases h
 · rename_i nb
   have nb' : (List.range N).any (badAt (links t (hsOf N))) = false := by simpa using nb
   have q := not_bad nb'
   cases h
   have d : ∀ h, h < N -> leE (some 0) (links t (hsOf N) (fl h) h) := fun h hh => by
    have := (q (fl h) (even h hh)).1
    rwa [fl_fl] at this
   have T := shape_tight even (hsOf_lt even) (hsOf_all even) sy d fun f hf => (q f hf).2
   refine ⟨⟨T, fun f hf => ?_⟩, fun f g _ _ => shape_le _ _ f g, fun c k l => shape_greatest even (hsOf_lt even) k l⟩
   have l1 := (q f hf).1
   have l2 := (q f hf).2
   unfold strong halve
   rw [if_neg (Ne.symm (fl_ne f))]
   exact le_minE l1 l2
theorem shape_zero {N : Nat} {t s : Tb} (even : ∀ f, f < N -> fl f < N) (z : ∀ f, f < N -> leE (t f (fl f)) (some 0)) (sy : Sym t N) (h : shapeO N t = some s) : ∀ f, f < N -> s f (fl f) = some 0 := fun f hf => by
 obtain ⟨G, l, _⟩ := shape_good even sy h
 exact leE_antisymm (leE_trans (l f _ hf (even f hf)) (z f hf)) (G.nn f hf)
theorem shape_of_good {N : Nat} {t c : Tb} (even : ∀ f, f < N -> fl f < N) (G : Good c N) (l : Le c t N) : ∃ s, shapeO N t = some s := by
 have l1 := le_links G.tight.closed even (hsOf N) t (hsOf_lt even) l
 unfold shapeO
 have : (List.range N).any (badAt (links t (hsOf N))) = false := by
  rw [List.any_eq_false]
  intro f hf
  have hf' := List.mem_range.mp hf
  have q1 := leE_trans (G.nn f hf') (l1 f _ hf' (even f hf'))
  have q2 := leE_trans (G.halves0 even hf') (add_mono (hv_mono (l1 f f hf' hf')) (hv_mono (l1 _ _ (even f hf') (even f hf'))))
  unfold badAt
  rw [(neg0_iff _).mpr q1, (neg0_iff _).mpr q2]
  simp
 rw [this]
 exact ⟨_, rfl⟩
inductive SameO (N : Nat) : Option Tb -> Option Tb -> Prop
 | none : SameO N none none
 | some {a b : Tb} : Agree a b N -> SameO N (some a) (some b)
theorem Agree.symm {a b : Tb} {N : Nat} (h : Agree a b N) : Agree b a N := fun f g hf hg => (h f g hf hg).symm
def ln (N : Nat) (r : Nat -> E) : List E := (List.range N).map r
def rows (i N : Nat) (c : Tb) : List (List E) := (List.range i).map fun f => ln N (c f)
abbrev toT (N : Nat) (c : Tb) : List (List E) := rows N N c
theorem ln_len (N : Nat) (r : Nat -> E) : (ln N r).length = N := by simp [ln]
theorem rows_len (i N : Nat) (c : Tb) : (rows i N c).length = i := by simp [rows]
theorem ln_get {N g : Nat} {r : Nat -> E} (h : g < N) : (ln N r)[g]? = some (r g) := by simp [ln, h]
theorem rows_get {i N f : Nat} {c : Tb} (h : f < i) : (rows i N c)[f]? = some (ln N (c f)) := by simp [rows, h]
theorem ln_succ (N : Nat) (r : Nat -> E) : ln (N + 1) r = ln N r ++ [r N] := by simp [ln, List.range_succ]
theorem rows_succ (i N : Nat) (c : Tb) : rows (i + 1) N c = rows i N c ++ [ln N (c i)] := by simp [rows, List.range_succ]
theorem ln_set (N : Nat) (r : Nat -> E) (g : Nat) (e : E) : (ln N r).set g e = ln N fun x => if x = g then e else r x := by
 apply List.ext_getElem?
 intro i
 by_cases hi : i < N
 · rw [ln_get hi]
   by_cases h : g = i
   · subst h
     rw [List.getElem?_set_self (by rw [ln_len]; exact hi), if_pos rfl]
   · rw [List.getElem?_set_ne h, ln_get hi, if_neg (Ne.symm h)]
 · rw [List.getElem?_eq_none (by rw [List.length_set, ln_len]; omega), List.getElem?_eq_none (by rw [ln_len]; omega)]
theorem rows_set (i N : Nat) (c : Tb) (f : Nat) (r : Nat -> E) : (rows i N c).set f (ln N r) = rows i N fun a => if a = f then r else c a := by
 apply List.ext_getElem?
 intro j
 by_cases hj : j < i
 · rw [rows_get hj]
   by_cases h : f = j
   · subst h
     rw [List.getElem?_set_self (by rw [rows_len]; exact hj), if_pos rfl]
   · rw [List.getElem?_set_ne h, rows_get hj, if_neg (Ne.symm h)]
 · rw [List.getElem?_eq_none (by rw [List.length_set, rows_len]; omega), List.getElem?_eq_none (by rw [rows_len]; omega)]
theorem low1_rows (N : Nat) (c : Tb) (f g : Nat) (z : Int) :
  (fun a => if a = g then (fun x => if x = f then minE ((if g = f then (fun y => if y = g then minE (c f g) (some z) else c f y) else c g) f) (some z) else (if g = f then (fun y => if y = g then minE (c f g) (some z) else c f y) else c g) x) else (if a = f then (fun y => if y = g then minE (c f g) (some z) else c f y) else c a)) = low1 c f g z := by
 funext a b
 unfold low1
 by_cases hgf : g = f
 · subst hgf
   by_cases ha : a = g
   · subst ha
     by_cases hb : b = a
     · subst hb
       simp
       generalize c b b = e
       cases e <;> simp [minE]
     · simp [hb]
   · simp [ha]
 · by_cases ha : a = g
   · subst ha
     by_cases hb : b = f
     · subst hb; simp [hgf]
     · simp [hgf, hb]
   · by_cases ha2 : a = f
     · subst ha2
       by_cases hb : b = g
       · subst hb; simp [ha]
       · simp [ha, hb]
     · simp [ha, ha2]
structure Shp (c : Tb) (N : Nat) : Prop where
 good : Good c N
 zero : ∀ f, f < N -> c f (fl f) = some 0
theorem pt_good {w : Nat -> Int} {N : Nat} (p : Pt w N) : Good (tab w) N := ⟨pt_tight p, fun f hf => by have := p f hf; simp [tab, leE]; omega⟩
theorem shape_shp {N : Nat} {t s : Tb} (even : ∀ f, f < N -> fl f < N) (z : ∀ f, f < N -> leE (t f (fl f)) (some 0)) (sy : Sym t N) (h : shapeO N t = some s) : Shp s N := ⟨(shape_good even sy h).1, shape_zero even z sy h⟩
end Oct
set_option Elab.async false
set_option linter.all false
set_option maxRecDepth 100000
set_option maxHeartbeats 4000000
namespace L2
open PySem PySem.Spec PyProof.Rows
section
variable {X : Cx} {pins : List (Addr × Obj)} {σ : St} {H : Hp} {s : Shared} {h' : Heap}
theorem Inv.turnedL {t' : Nat} {ch : List Addr} (I : Inv X pins σ H s) (hf : ∀ b ∈ ch, FpOk X pins H b) (k : ∀ b o, b ∉ ch -> s.heap.get? b = some o -> h'.get? b = some o) : Inv X pins σ H { s with heap := h', toks := t' } := by
 have nch : ∀ b u, H b = some u -> b ∉ ch := fun b u e z => by rw [(hf b z).1] at e; cases e
 refine I.step (g' := s.gens) (d' := s.drawn) (ch := ch) (fun b hb => ⟨(hf b hb).2.2.2.1, (hf b hb).2.1, (hf b hb).2.2.2.2.1, (hf b hb).2.2.2.2.2⟩) (fun b o _ _ hc e _ => k b o hc e) (fun b o _ _ hc e _ => ⟨o.slots, k b o hc e⟩)
  (fun b o hc e n => n) (fun b o hc e => ⟨o, k b o hc e⟩) (fun b ys e => e) (fun b o u e => e) (fun b ps e => ⟨#[], by rw [e]; simp⟩) (fun m hm => ?_) (fun b u e => ?_) I.bare
 · obtain ⟨o, es, ep, ho, r⟩ := hm
   exact ⟨o, es, ep, k _ o (fun z => (hf _ z).2.1 rfl) ho, r⟩
 · refine (I.hok b u e).stay (fun c v hc q => k c v ?_ q) (fun c q => q) fun c ys q => q
   rcases hc with z | z
   · rw [z]; exact nch b u e
   · exact nch c _ z
theorem Inv.turnedT {t' : Nat} {ch : List Addr} {T : Addr} {xs : List V} {us : List Value} (I : Inv X pins σ H s) (hf : ∀ b ∈ ch, FpOk X pins H b)
  (k : ∀ b o, b ∉ ch -> s.heap.get? b = some o -> h'.get? b = some o) (hp : s.heap.objs.size <= T) (new : IsTup h' T us.toArray) (r : Vals xs us) (hz : xs.length <= sizeLine) :
  Inv X pins σ (upd H T (.tup xs)) { s with heap := h', toks := t' } := by
 have hT : H T = none := I.hok.fresh hp
 have nch : ∀ b u, H b = some u -> b ∉ ch := fun b u e z => by rw [(hf b z).1] at e; cases e
 refine I.step (g' := s.gens) (d' := s.drawn) (ch := ch) (fun b hb => ⟨(hf b hb).2.2.2.1, (hf b hb).2.1, (hf b hb).2.2.2.2.1, (hf b hb).2.2.2.2.2⟩) (fun b o _ _ hc e _ => k b o hc e) (fun b o _ _ hc e _ => ⟨o.slots, k b o hc e⟩)
  (fun b o hc e n => by rw [upd_ne (Nat.ne_of_lt (Nat.lt_of_lt_of_le (Heap.lt_size e) hp))]; exact n)
  (fun b o hc e => ⟨o, k b o hc e⟩) (fun b ys e => by rw [upd_ne (ne_of_none e hT)]; exact e) (fun b o u e => by rw [upd_ne (ne_of_none e hT)]; exact e) (fun b ps e => ⟨#[], by rw [upd_ne (ne_of_none e hT), e]; simp⟩) (fun m hm => ?_) (fun b u e => ?_) I.bare
 · obtain ⟨o, es, ep, ho, r⟩ := hm
   exact ⟨o, es, ep, k _ o (fun z => (hf _ z).2.1 rfl) ho, r⟩
 · by_cases hb : b = T
   · subst hb
     rw [upd_same] at e
     cases e
     exact ⟨hz, us, r, new⟩
   · rw [upd_ne hb] at e
     refine (I.hok b u e).stay (fun c v hc q => k c v ?_ q) (fun c q => by rw [upd_ne (ne_of_none q hT)]; exact q) fun c ys q => by rw [upd_ne (ne_of_none q hT)]; exact q
     rcases hc with z | z
     · rw [z]; exact nch b u e
     · exact nch c _ z
end
def Itn (K : PySem.W.Frag) (a : Addr) : It :=
 ⟨fun i H => ∃ xs x, SqL K H a xs /\ xs[i]? = some x, fun i H v H' => ∃ T x, v = .ref T /\ H T = none /\ H' = upd H T (.tup [.int i, x]) /\ ∀ xs, SqL K H a xs -> xs[i]? = some x, fun i H => ∃ xs, SqL K H a xs /\ xs.length <= i⟩
theorem turn_enum {P : Program} {w : World} {K : PySem.W.Frag} {elts : List Expr} {k : Nat} {tp : Pos} (a e it : Addr) (hne : e ≠ it) : Turn P w K (.Tuple elts k tp) (Itn K a) [e, it] e (fun i h => (∃ old, IsEnum h e it i old) /\ h.IsListIter it a i) where
 mem := by simp
 obj := fun i h st b hb => by
  obtain ⟨⟨old, he⟩, o, eo, c, d⟩ := st
  have hb' : b = e \/ b = it := by simpa using hb
  rcases hb' with z | z
  · subst z
    exact ⟨_, he, fun v z => by
     have z' : Data.fields _ = Data.cell v := z
     cases z'⟩
  · subst z
    exact ⟨o, eo, fun v z => by rw [d] at z; cases z⟩
 keep := fun i h h' st k => ⟨⟨st.1.choose, k e (by simp) _ st.1.choose_spec⟩, st.2.at fun o eo => k it (by simp) o eo⟩
 item := by
  intro X hP hw hK hc i pins s σ H E I hf st hg
  subst hP hw hK
  obtain ⟨⟨old, he⟩, st⟩ := st
  obtain ⟨xs, x, hq, hx⟩ := hg
  obtain ⟨its, rv, p, hz⟩ := I.list hq
  obtain ⟨u, hu, ru⟩ := rv.get hx
  refine wpAny_pyNext_enum_item he st p.isList (x := u) (by simpa using hu) hne fun h' ho hit' hT hsz hk => ?_
  refine ⟨_, rfl, wpAny_letOwnedTupleGo_enum ho fun h2 he2 hs2 => ?_⟩
  have helt : e < s.heap.objs.size := Heap.lt_size he
  have kk : ∀ b o, b ∉ [e, it] -> s.heap.get? b = some o -> h2.get? b = some o := fun b o hb q => by
   have hb' : b ≠ e /\ b ≠ it := by simpa using hb
   exact (hs2.2 b hb'.1).trans (hk b o hb'.1 hb'.2 q)
  have I2 : Inv X pins σ (upd H s.heap.objs.size (.tup [.int i, x])) { s with heap := h2, toks := s.toks + 1 } := I.turnedT (xs := [.int i, x]) (us := [.int i s.toks, u]) hf kk (Nat.le_refl _) ⟨_, (hs2.2 _ (Nat.ne_of_gt helt)).trans hT, rfl, _, rfl⟩ (.cons ⟨_, rfl⟩ (.cons ru .nil)) (sz 2)
  refine ⟨.ref s.heap.objs.size, _, I2, rfl, ⟨_, x, rfl, I.hok.fresh (Nat.le_refl _), rfl, fun ys hy => by rw [I.list_inj hy hq]; exact hx⟩, ?_, fun b hb => ?_⟩
  · exact ⟨⟨u, by simpa using he2⟩, hit'.at fun o y => (hs2.2 it hne.symm).trans y⟩
  · have : b < s.heap.objs.size := by
     have hb' : b = e \/ b = it := by simpa using hb
     rcases hb' with z | z
     · rw [z]; exact helt
     · obtain ⟨o, eo, _⟩ := st
       rw [z]; exact Heap.lt_size eo
    rw [upd_ne (Nat.ne_of_lt this)]
    exact (hf b hb).1
 done := by
  intro X hP hw hK hc i pins s σ H E I hf st hg
  subst hP hw hK
  obtain ⟨⟨old, he⟩, st⟩ := st
  obtain ⟨xs, hq, hx⟩ := hg
  obtain ⟨its, rv, p, hz⟩ := I.list hq
  have hl := rv.length
  exact wpAny_pyNext_enum_end (I.ok.hd hc) he st p.isList (by simp; omega) fun h' eb => ⟨rfl, I.turnedL (t' := s.toks) hf fun b o hb q => eb b o (fun z => hb (by simp [z])) q⟩
 self := fun _ _ _ _ _ st h => by
  obtain ⟨⟨old, he⟩, _⟩ := st
  exact wpAny_pyIter_enum he h
def iEnum (K : PySem.W.Frag) (ta : TA) : TI := fun σ H R => ta σ H fun vs H1 => ∃ a, vs = [.ref a] /\ (∃ xs, SqL K H1 a xs) /\ R (Itn K a) H1
theorem pi_enum {X : Cx} {elts : List Expr} {k : Nat} {tp : Pos} {a : Expr} {ta : TA} {p pos : Pos} (hg : Gl X "enumerate") (hm : X.mg "enumerate" = none) (ha : PA X [a] ta) (hs : starEach [a] X.env = [(false, eval a X.env)] := by rfl) :
  PI X (.Tuple elts k tp) (.Call (.Name "enumerate" p) [a] [] pos) (iEnum X.K ta) := by
 intro pins s σ H R I h
 refine Call_ (ld_blt I hg hm boot_enumerate (PyProof.Rows.callWith_type1 (thn (ha pos pins s σ H _ I h) fun us s1 ⟨vs, H1, I1, r1, q1⟩ => ?_) hs rfl))
 obtain ⟨l, e, ⟨xs, hq⟩, q⟩ := q1
 subst e
 obtain ⟨u, rfl, ru⟩ := r1.one
 cases ru
 obtain ⟨its, rv, pl, hz⟩ := I1.list hq
 refine call_enumerate_list pl.isList fun h' he hit hsz hk => wpAny_pyIter_enum he ?_
 refine ⟨s1.heap.objs.size + 1, [s1.heap.objs.size + 1, s1.heap.objs.size], _, _, H1, rfl, I1.kept (t' := s1.toks) hk, turn_enum l _ _ (Nat.succ_ne_self _), ⟨⟨_, he⟩, hit⟩, fun b hb => ?_, q⟩
 have hb' : b = s1.heap.objs.size + 1 \/ b = s1.heap.objs.size := by simpa using hb
 have hle : s1.heap.objs.size <= b := by rcases hb' with z | z <;> rw [z]; exact Nat.le_succ _; exact Nat.le_refl _
 exact I1.fpOk hle (I1.hok.fresh hle)
def Itz (K : PySem.W.Frag) (a b : Addr) : It :=
 ⟨fun i H => ∃ xs ys x y, SqL K H a xs /\ SqL K H b ys /\ xs[i]? = some x /\ ys[i]? = some y,
  fun i H v H' => ∃ T x y, v = .ref T /\ H T = none /\ H' = upd H T (.tup [x, y]) /\ (∀ xs, SqL K H a xs -> xs[i]? = some x) /\ ∀ ys, SqL K H b ys -> ys[i]? = some y,
  fun i H => ∃ xs ys, SqL K H a xs /\ SqL K H b ys /\ (xs.length <= i \/ ys.length <= i)⟩
structure Z5 (z TI TO i1 i2 : Addr) : Prop where
 TIz : TI ≠ z
 TOz : TO ≠ z
 i1z : i1 ≠ z
 i2z : i2 ≠ z
 TITO : TI ≠ TO
 TIi1 : TI ≠ i1
 TIi2 : TI ≠ i2
 TOi1 : TO ≠ i1
 TOi2 : TO ≠ i2
 i12 : i1 ≠ i2
theorem list_off {h : Heap} {l b : Addr} {items : Array Value} {o : Obj} (hl : h.IsList l items) (hb : h.get? b = some o) (hc : o.cls ≠ .type "list") : l ≠ b := fun z => by
 subst z
 obtain ⟨o', e, c, _⟩ := hl
 rw [hb] at e
 cases e
 exact hc c
theorem Z5.apart {h : Heap} {z TI TO i1 i2 l1 l2 : Addr} {u v : Value} {k1 k2 : Nat} {xs ys : Array Value} (D : Z5 z TI TO i1 i2) (hz : IsZip h z TI TO .none) (hTO : IsPair h TO u v) (h1 : h.IsListIter i1 l1 k1) (h2 : h.IsListIter i2 l2 k2)
  (hl1 : h.IsList l1 xs) (hl2 : h.IsList l2 ys) : ZipApart z TI TO i1 i2 l1 l2 := by
 obtain ⟨o1, e1, c1, _⟩ := h1
 obtain ⟨o2, e2, c2, _⟩ := h2
 have n1 : o1.cls ≠ .type "list" := by rw [c1]; simp
 have n2 : o2.cls ≠ .type "list" := by rw [c2]; simp
 exact ⟨D.TIz, D.TOz, D.i1z, D.i2z, D.TITO, D.TIi1, D.TIi2, D.TOi1, D.TOi2, D.i12, list_off hl1 hz (by simp), list_off hl1 hTO (by simp), list_off hl1 e1 n1, list_off hl1 e2 n2,
  list_off hl2 hz (by simp), list_off hl2 hTO (by simp), list_off hl2 e1 n1, list_off hl2 e2 n2⟩
theorem turn_zip {P : Program} {w : World} {K : PySem.W.Frag} {elts : List Expr} {k : Nat} {tp : Pos} (a b z TI TO i1 i2 : Addr) (D : Z5 z TI TO i1 i2) :
  Turn P w K (.Tuple elts k tp) (Itz K a b) [z, TI, TO, i1, i2] z (fun i h => IsZip h z TI TO .none /\ IsPair h TI (.ref i1) (.ref i2) /\ (∃ u v, IsPair h TO u v) /\ h.IsListIter i1 a i /\ h.IsListIter i2 b i) where
 mem := by simp
 obj := fun i h st c hc => by
  obtain ⟨hz, hTI, ⟨u, v, hTO⟩, ⟨o1, e1, c1, d1⟩, ⟨o2, e2, c2, d2⟩⟩ := st
  have hc' : c = z \/ c = TI \/ c = TO \/ c = i1 \/ c = i2 := by simpa using hc
  rcases hc' with q | q | q | q | q
  · subst q
    exact ⟨_, hz, fun v q => by have q' : Data.fields _ = Data.cell v := q; cases q'⟩
  · subst q
    exact ⟨_, hTI, fun v q => by have q' : Data.seq _ _ = Data.cell v := q; cases q'⟩
  · subst q
    exact ⟨_, hTO, fun v q => by have q' : Data.seq _ _ = Data.cell v := q; cases q'⟩
  · subst q
    exact ⟨o1, e1, fun v q => by rw [d1] at q; cases q⟩
  · subst q
    exact ⟨o2, e2, fun v q => by rw [d2] at q; cases q⟩
 keep := fun i h h' st k => by
  obtain ⟨hz, hTI, ⟨u, v, hTO⟩, h1, h2⟩ := st
  exact ⟨k z (by simp) _ hz, k TI (by simp) _ hTI, ⟨u, v, k TO (by simp) _ hTO⟩, h1.at fun o e => k i1 (by simp) o e, h2.at fun o e => k i2 (by simp) o e⟩
 item := by
  intro X hP hw hK hc i pins s σ H E I hf st hg
  subst hP hw hK
  obtain ⟨hz, hTI, ⟨u, v, hTO⟩, h1, h2⟩ := st
  obtain ⟨xs, ys, x, y, hqa, hqb, hx, hy⟩ := hg
  obtain ⟨itx, rvx, px, zx⟩ := I.list hqa
  obtain ⟨ity, rvy, py, zy⟩ := I.list hqb
  obtain ⟨ux, hux, rux⟩ := rvx.get hx
  obtain ⟨uy, huy, ruy⟩ := rvy.get hy
  have Z := D.apart hz hTO h1 h2 px.isList py.isList
  refine wpAny_pyNext_zip_item Z hz hTI hTO h1 h2 px.isList py.isList (x := ux) (y := uy) (by simpa using hux) (by simpa using huy) fun h' a1 a2 a3 a4 a5 a6 hk => ?_
  refine ⟨_, rfl, wpAny_letOwnedTupleGo_zip a1 fun h3 hz3 hs3 => ?_⟩
  have lt : ∀ c ∈ [z, TI, TO, i1, i2], c < s.heap.objs.size := fun c hc => by
   have hc' : c = z \/ c = TI \/ c = TO \/ c = i1 \/ c = i2 := by simpa using hc
   obtain ⟨o1, e1, _⟩ := h1
   obtain ⟨o2, e2, _⟩ := h2
   rcases hc' with q | q | q | q | q
   · rw [q]; exact Heap.lt_size hz
   · rw [q]; exact Heap.lt_size hTI
   · rw [q]; exact Heap.lt_size hTO
   · rw [q]; exact Heap.lt_size e1
   · rw [q]; exact Heap.lt_size e2
  have kk : ∀ c o, c ∉ [z, TI, TO, i1, i2] -> s.heap.get? c = some o -> h3.get? c = some o := fun c o hc q => by
   have hc' : c ≠ z /\ c ≠ TI /\ c ≠ TO /\ c ≠ i1 /\ c ≠ i2 := by simpa using hc
   exact (hs3.2 c hc'.1).trans (hk c o hc'.1 hc'.2.2.1 hc'.2.2.2.1 hc'.2.2.2.2 q)
  have zs : s.heap.objs.size ≠ z := Nat.ne_of_gt (lt z (by simp))
  have I2 : Inv X pins σ (upd H s.heap.objs.size (.tup [x, y])) { s with heap := h3 } := I.turnedT (t' := s.toks) (xs := [x, y]) (us := [ux, uy]) hf kk (Nat.le_refl _) ⟨_, (hs3.2 _ zs).trans a5, rfl, _, rfl⟩ (.cons rux (.cons ruy .nil)) (sz 2)
  refine ⟨.ref s.heap.objs.size, _, I2, rfl, ⟨_, x, y, rfl, I.hok.fresh (Nat.le_refl _), rfl, fun ys hy' => by rw [I.list_inj hy' hqa]; exact hx, fun ys hy' => by rw [I.list_inj hy' hqb]; exact hy⟩, ?_, fun c hc => ?_⟩
  · exact ⟨hz3, (hs3.2 _ D.TIz).trans (hk _ _ D.TIz D.TITO D.TIi1 D.TIi2 hTI), ⟨_, _, (hs3.2 _ D.TOz).trans a2⟩, a3.at fun o e => (hs3.2 _ D.i1z).trans e, a4.at fun o e => (hs3.2 _ D.i2z).trans e⟩
  · rw [upd_ne (Nat.ne_of_lt (lt c hc))]
    exact (hf c hc).1
 done := by
  intro X hP hw hK hc i pins s σ H E I hf st hg
  subst hP hw hK
  obtain ⟨hz, hTI, ⟨u, v, hTO⟩, h1, h2⟩ := st
  obtain ⟨xs, ys, hqa, hqb, hx⟩ := hg
  obtain ⟨itx, rvx, px, zx⟩ := I.list hqa
  obtain ⟨ity, rvy, py, zy⟩ := I.list hqb
  have lx := rvx.length
  have ly := rvy.length
  have Z := D.apart hz hTO h1 h2 px.isList py.isList
  refine wpAny_pyNext_zip_end (I.ok.hd hc) Z hz hTI hTO h1 h2 px.isList py.isList ?_ fun h' hk => ⟨rfl, I.turnedL (t' := s.toks) hf fun c o hc q => ?_⟩
  · rcases hx with hx | hx
    · exact .inl (by simp; omega)
    · exact .inr (by simp; omega)
  · have hc' : c ≠ z /\ c ≠ TI /\ c ≠ TO /\ c ≠ i1 /\ c ≠ i2 := by simpa using hc
    exact hk c o hc'.1 hc'.2.2.1 hc'.2.2.2.1 hc'.2.2.2.2 q
 self := fun _ _ _ _ _ st h => wpAny_pyIter_zip st.1 h
def iZip (K : PySem.W.Frag) (ta : TA) : TI := fun σ H R => ta σ H fun vs H1 => ∃ a b, vs = [.ref a, .ref b] /\ (∃ xs, SqL K H1 a xs) /\ (∃ ys, SqL K H1 b ys) /\ R (Itz K a b) H1
theorem pi_zip {X : Cx} {elts : List Expr} {k : Nat} {tp : Pos} {a b : Expr} {ta : TA} {p pos : Pos} (hg : Gl X "zip") (hm : X.mg "zip" = none) (ha : PA X [a, b] ta) (hs : starEach [a, b] X.env = [(false, eval a X.env), (false, eval b X.env)] := by rfl)
  (hs2 : starEach [b] X.env = [(false, eval b X.env)] := by rfl) : PI X (.Tuple elts k tp) (.Call (.Name "zip" p) [a, b] [] pos) (iZip X.K ta) := by
 intro pins s σ H R I h
 refine Call_ (ld_blt I hg hm boot_zip (PyProof.Rows.callWith_type1 (thn (ha pos pins s σ H _ I h) fun us s1 ⟨vs, H1, I1, r1, q1⟩ => ?_) (by rw [hs, hs2]) (by rw [hs2]; rfl)))
 obtain ⟨l1, l2, e, ⟨xs, hqa⟩, ⟨ys, hqb⟩, q⟩ := q1
 subst e
 obtain ⟨u, v, rfl, ru, rv⟩ := r1.two
 cases ru
 cases rv
 obtain ⟨itx, rvx, px, zx⟩ := I1.list hqa
 obtain ⟨ity, rvy, py, zy⟩ := I1.list hqb
 refine call_zip_2 px.isList py.isList fun h' hz hTI hTO h1 h2 hsz hk => wpAny_pyIter_zip hz ?_
 generalize en : s1.heap.objs.size = n at *
 refine ⟨n + 4, [n + 4, n + 2, n + 3, n, n + 1], _, _, H1, rfl, I1.kept (t' := s1.toks) hk, turn_zip l1 l2 (n + 4) (n + 2) (n + 3) n (n + 1) ⟨?_, ?_, ?_, ?_, ?_, ?_, ?_, ?_, ?_, ?_⟩, ⟨hz, hTI, ⟨_, _, hTO⟩, h1, h2⟩, fun b hb => ?_, q⟩
 iterate 10 (show (_ : Nat) ≠ _; omega)
 have hle : s1.heap.objs.size <= b := by
  rw [en]
  have hb' : b = n + 4 \/ b = n + 2 \/ b = n + 3 \/ b = n \/ b = n + 1 := by simpa using hb
  rcases hb' with q | q | q | q | q <;> rw [q] <;> first | exact Nat.le_refl _ | exact Nat.le_add_right _ _
 exact I1.fpOk hle (I1.hok.fresh hle)
def gPair (K : PySem.W.Frag) (i j : Nat) : TG := gTup K 2 (gCons (gName i) (gCons (gName j) gNil))
theorem pg_pair {X : Cx} {x y : Str} {i j k : Nat} {p q pos : Pos} (hc : X.calm = true) (h1 : PG X (.Name x p) (gName i)) (h2 : PG X (.Name y q) (gName j)) : PG X (.Tuple [.Name x p, .Name y q] k pos) (gPair X.K i j) := pg_tup hc (pgs_cons h1 (pgs_cons h2 pgs_nil))
theorem for_enum {K : PySem.W.Frag} {a : Addr} {xs : List V} {u v : Nat} {tb : TS} {D : Ends} {σ : St} {H : Hp} (Pv : Nat -> St -> Hp -> Prop) (h0 : Pv 0 σ H) (hl : ∀ i σ H, i <= xs.length -> Pv i σ H -> SqL K H a xs)
  (hs : ∀ i x σ H H', xs[i]? = some x -> Pv i σ H -> Same H H' -> tb { D with nx := Pv (i + 1), ct := Pv (i + 1), bk := D.nx } ((σ.set u (some (.int i))).set v (some x)) H') (hd : ∀ σ H, Pv xs.length σ H -> D.nx σ H) :
  ∃ W : Nat -> Nat -> St -> Hp -> Prop, (∃ m, W 0 m σ H) /\ ∀ i m σ H, W i m σ H ->
   ((Itn K a).stop i H /\ D.nx σ H) \/ ((Itn K a).go i H /\ ∃ N : St -> Hp -> Prop, (∀ σ' H', N σ' H' -> ∃ m', m' < m /\ W (i + 1) m' σ' H') /\ ∀ x H', (Itn K a).yld i H x H' -> gPair K u v x σ H' fun σ2 H2 => tb { D with nx := N, ct := N, bk := D.nx } σ2 H2) := by
 refine ⟨fun i m σ H => m = xs.length - i /\ i <= xs.length /\ Pv i σ H, ⟨xs.length, by simp, Nat.zero_le _, h0⟩, ?_⟩
 rintro i m σ H ⟨rfl, hi, p⟩
 have q := hl i σ H hi p
 by_cases hlt : i < xs.length
 · refine .inr ⟨⟨xs, xs[i], q, by simp [hlt]⟩, Pv (i + 1), fun σ' H' p' => ⟨xs.length - (i + 1), by omega, rfl, hlt, p'⟩, fun x H' y => ?_⟩
   obtain ⟨T, x, rfl, hT, rfl, y⟩ := y
   exact ⟨T, [.int i, x], rfl, SqT.of upd_same, rfl, _, _, rfl, _, _, rfl, rfl, hs i x σ H _ (y xs q) p (same_new hT _)⟩
 · have e : i = xs.length := by omega
   subst e
   exact .inl ⟨⟨xs, q, Nat.le_refl _⟩, hd σ H p⟩
theorem compLoop_any {prog : Program} {w : World} {A : Around} {s : Shared} {elt iter target : Expr} {scope : Scope} {pos : Pos} {it acc : Value} {env : Env} {R : Result -> Shared -> Prop} (I : Nat -> Shared -> Prop)
  (turn : ∀ n s, I n s -> wpAny (model prog w) A (pyNext it) (fun r s₁ => match r with
   | none => R (.ok .next) s₁
   | some v => wpAny (model prog w) A (letOwnedTupleGo target it v) (fun _ s₁' => wpAny (model prog w) A (assign target env v) (fun _ s₂ =>
     wpAny (model prog w) A (eval elt env) (fun x s₄ =>
       wpAny (model prog w) A (call (.builtin "list.append") [acc, x]) (fun _ s₅ => ∃ m, m < n /\ I m s₅) (notedBy (model prog w) A env fun e s' => R (.error e) s') s₄) (notedBy (model prog w) A env fun e s' => R (.error e) s') s₂)
     (notedBy (model prog w) A env fun e s' => R (.error e) s') s₁') (notedBy (model prog w) A env fun e s' => R (.error e) s') s₁) (notedBy (model prog w) A env fun e s' => R (.error e) s') s)
  (n : Nat) (h : I n s) : codeAny (model prog w) A (.compLoop (.ListComp elt [⟨target, iter, [], 0⟩] scope pos) 0 it acc env) R s := by
 refine codeAny_loop rfl I (fun n s hI => ?_) n h
 show wpAny _ A ((compTurn (.ListComp elt [⟨target, iter, [], 0⟩] scope pos) 0 it acc env).onRaise (fun x => do noteFrame x env; theTreesLotGoes x)) _ _ s
 refine wpAny_noted ?_
 rw [compTurn_list]
 refine wpAny_bind (wpAny_standAt (wpAny_bind (wpAny_mono (turn n s hI) (fun r s₁ h₁ => ?_) fun _ _ h' => h')))
 cases r with
 | none => exact wpAny_pure h₁
 | some v =>
  refine wpAny_bind (wpAny_mono h₁ (fun _ s₁' h₁' => ?_) fun _ _ h' => h')
  refine wpAny_bind (wpAny_mono h₁' (fun _ s₂ h₂ => wpAny_bind (wpAny_mono (wpAny_tests_nil (Q := fun ok s₃ => ok = true /\ s₃ = s₂) ⟨rfl, rfl⟩) (fun ok s₃ h₃ => ?_) fun _ _ h' => h')) fun _ _ h' => h')
  obtain ⟨rfl, rfl⟩ := h₃
  exact wpAny_bind (wpAny_bind (wpAny_mono h₂ (fun x s₄ h₄ => wpAny_bind (wpAny_mono h₄ (fun _ s₅ h₅ => wpAny_pure (wpAny_pure ⟨rfl, h₅⟩)) fun _ _ h' => h')) fun _ _ h' => h'))
structure CompScope2 (N M : List Str) (osc : Scope) (x y : Str) (sc : Scope) : Prop where
 kind : sc.kind = .function
 nocell : ∀ z ∈ sc.names, z.2 ≠ .cell
 names : ∀ z ∈ sc.names, z.2 = .local -> sc.names.lookup z.1 = some .local
 here : sc.names.lookup x = some .local
 here2 : sc.names.lookup y = some .local
 nd : (x :: y :: M).Nodup
 len : M.length = N.length
 hide : ∀ (i : Nat) z, M[i]? = some z -> N[i]? = some z \/ sc.names.lookup z = none
 free : ∀ z ∈ sc.names, z.2 = .free -> osc.names.lookup z.1 = some .cell \/ osc.names.lookup z.1 = some .free
 own : ∀ z ∈ sc.names, z.2 = .local -> z.1 = x \/ z.1 = y \/ z.1 ∉ M
def cxComp2 (X : Cx) (M : List Str) (x y : Str) (sc : Scope) (fp : List Addr) (s3 : Shared) (H3 : Hp) : Cx where
 prog := X.prog
 w := X.w
 K := X.K
 mg := X.mg
 base := X.base
 A := X.A
 N := x :: y :: M
 s₀ := s3
 H₀ := H3
 env := compEnvC sc (clOf sc X.env) s3.heap.objs.size X.env
 outer := X.stack
 stack := X.stack
 ex := fp
 calm := X.calm
 fn := fun _ => false
 pn := []
 xe := fun _ _ => False
section
variable {X : Cx} {M : List Str} {x y : Str} {sc : Scope} {fp : List Addr} {s3 : Shared} {H3 : Hp} {pins : List (Addr × Obj)} {σ : St}
theorem CompScope2.cells (S : CompScope2 X.N M X.env.scope x y sc) (ok : X.Ok) : ∀ z ∈ sc.names, z.2 = .free -> ∃ c, X.env.cells.lookup z.1 = some c := fun z hz hk => ok.has z.1 (S.free z hz hk)
theorem CompScope2.sub (S : CompScope2 X.N M X.env.scope x y sc) (ok : X.Ok) {z : Str} {c : Addr} (e : (clOf sc X.env).lookup z = some c) : X.env.cells.lookup z = some c :=
 clGo_sub sc.names [] (S.cells ok) (fun c h => by cases h) e
theorem CompScope2.isFree (S : CompScope2 X.N M X.env.scope x y sc) {z : Str} (h : (relabel sc X.env).names.lookup z = some .cell \/ (relabel sc X.env).names.lookup z = some .free) : (z, NameKind.free) ∈ sc.names := by
 rw [lookup_relabel] at h
 cases e : sc.names.lookup z with
 | none => rw [e] at h; rcases h with h | h <;> cases h
 | some k =>
  rw [e] at h
  have hm := PySem.mem_of_lookup e
  cases k with
  | free => exact hm
  | cell => exact absurd rfl (S.nocell _ hm)
  | _ =>
   exfalso
   rcases h with h | h
   all_goals (simp at h)
theorem CompScope2.noLocal (S : CompScope2 X.N M X.env.scope x y sc) {z : Str} (hz : z ∈ M) (h : (relabel sc X.env).names.lookup z = some .local) : False := by
 rw [lookup_relabel] at h
 cases e : sc.names.lookup z with
 | none => rw [e] at h; cases h
 | some k =>
  rw [e] at h
  have hm := PySem.mem_of_lookup e
  cases k with
  | «local» =>
   have nd := List.nodup_cons.mp S.nd
   have nd2 := List.nodup_cons.mp nd.2
   rcases S.own _ hm rfl with q | q | q
   · have q' : z = x := q
     exact nd.1 (List.mem_cons_of_mem _ (q' ▸ hz))
   · have q' : z = y := q
     exact nd2.1 (q' ▸ hz)
   · exact q hz
  | _ =>
   revert h
   simp
   try (split <;> simp)
theorem ok_comp2 (S : CompScope2 X.N M X.env.scope x y sc) (I : Inv X pins σ H3 s3) (hf : ∀ b ∈ fp, FpOk X pins H3 b) (hl : ∀ b ∈ fp, b < s3.heap.objs.size) : (cxComp2 X M x y sc fp s3 H3).Ok where
 mod := I.ok.mod
 kind := S.kind
 glob := I.ok.glob
 blt := I.ok.blt
 above := Nat.le_refl _
 inj := fun y z c h1 h2 => I.ok.inj y z c (S.sub I.ok h1) (S.sub I.ok h2)
 has := fun y h => clGo_has sc.names [] (.inr (S.isFree h))
 cab := fun y c h => by cases h
 hd := I.ok.hd
 frames := I.ok.frames
 stk := .inl rfl
 exf := fun b hb => ⟨Nat.ne_of_lt (hl b hb), fun y c e => (hf b hb).2.2.2.2.1 y c (S.sub I.ok e)⟩
 bs := I.bs
 bsz := Nat.le_trans I.ok.bsz I.sz
 noex := fun b o e hb => FpOk.nobase I.ok (hf b hb) e
 exfs := fun b hb hs => by
  rcases List.mem_cons.mp (I.stkSub b hs) with z | z
  · exact (hf b hb).2.1 z
  · exact (hf b hb).2.2.1 z
 funs := I.stack
 frf := I.stkFree
theorem inv_comp2 {h4 : Heap} {tk : Nat} (S : CompScope2 X.N M X.env.scope x y sc) (I : Inv X pins σ H3 s3) (hf : ∀ b ∈ fp, FpOk X pins H3 b) (hl : ∀ b ∈ fp, b < s3.heap.objs.size)
  (hk : ∀ b o, s3.heap.get? b = some o -> h4.get? b = some o) {m : Str -> Option Value} (hn : h4.Ns s3.heap.objs.size m) :
  Inv (cxComp2 X M x y sc fp s3 H3) [] (none :: none :: σ) H3 { s3 with heap := h4, toks := tk } := by
 refine ⟨ok_comp2 S I hf hl, rfl, I.bare, Un.kept hk, ⟨m, hn, fun i z v h1 h2 h3 => ?_⟩, fun z c e => ?_, I.fresh, fun z c e => I.freeC z c (S.sub I.ok e), fun p hp => absurd (show p ∈ ([] : List (Addr × Obj)) from hp) (by simp), I.hok.kept hk, by show σ.length + 1 + 1 = M.length + 1 + 1; rw [I.len, S.len]⟩
 · match i, h1, h2 with
   | 0, h1, h2 => exact absurd (Option.some.inj h2) (by simp)
   | 1, h1, h2 => exact absurd (Option.some.inj h2) (by simp)
   | i + 2, h1, h2 =>
    have h1m : M[i]? = some z := h1
    have h2' : σ[i]? = some (some v) := h2
    have hyN : z ∈ M := List.mem_of_getElem? h1m
    have hfree : (z, NameKind.free) ∈ sc.names := by
     rcases h3 with h3 | h3 | h3
     · exact (S.noLocal hyN h3).elim
     · exact S.isFree (.inl h3)
     · exact S.isFree (.inr h3)
    have h1' : X.N[i]? = some z := by
     rcases S.hide i z h1m with q | q
     · exact q
     · exfalso
       obtain ⟨k, hk⟩ : ∃ k, sc.names.lookup z = some k := by
        cases e : sc.names.lookup z with
        | some k => exact ⟨k, rfl⟩
        | none =>
         rw [List.lookup_eq_none_iff] at e
         exact absurd (e _ hfree) (by simp)
       rw [hk] at q; cases q
    have hk0 := S.free _ hfree rfl
    obtain ⟨m0, hn0, hl0⟩ := I.loc
    obtain ⟨u, r, l⟩ := hl0 i z v h1' h2' (hk0.elim (fun q => .inr (.inl q)) (fun q => .inr (.inr q)))
    refine ⟨u, r, .inr ?_⟩
    have hv : (cxComp2 X M x y sc fp s3 H3).env.kindOf z = some .cell \/ (cxComp2 X M x y sc fp s3 H3).env.kindOf z = some .free := by
     rcases h3 with h3 | h3 | h3
     · exact (S.noLocal hyN h3).elim
     · exact .inl h3
     · exact .inr h3
    refine ⟨hv, ?_⟩
    obtain ⟨c, hc⟩ := clGo_has (env := X.env) (y := z) sc.names [] (.inr hfree)
    refine ⟨c, hc, ?_⟩
    have hc' := S.sub I.ok hc
    rcases l with ⟨hk1, _⟩ | ⟨_, c2, e2, z2⟩
    · exfalso
      have hk1' : X.env.scope.names.lookup z = some .local := hk1
      have hk0' : X.env.scope.names.lookup z = some .cell \/ X.env.scope.names.lookup z = some .free := hk0
      rw [hk1'] at hk0'
      rcases hk0' with q | q <;> cases q
    · rw [hc'] at e2; cases e2
      exact z2.keeps hk
 · obtain ⟨v, q⟩ := I.cell z c (S.sub I.ok e)
   exact ⟨v, q.keeps hk⟩
end
def tComp2 (K : PySem.W.Frag) (wi : TI) (te : TE) : TE := fun σ H Q => wi σ H fun J H1 => ∀ p, H1 p = none ->
 ∃ W : Nat -> Nat -> List V -> Hp -> Prop, (∃ m, W 0 m [] (upd H1 p (.lst []))) /\ ∀ i m ys H, W i m ys H ->
  (J.stop i H /\ Q (.ref p) H) \/ (J.go i H /\ ∀ u H', J.yld i H u H' -> ∃ T x y, u = .ref T /\ SqT K H' T [x, y] /\
   te (some x :: some y :: σ) H' fun v H3 => H3 p = some (.lst ys) /\ ys.length < sizeLine /\ ∃ m', m' < m /\ W (i + 1) m' (ys ++ [v]) (upd H3 p (.lst (ys ++ [v]))))
section
variable {X : Cx} {M : List Str} {x y : Str} {sc : Scope} {px py tp pos : Pos} {k : Nat} {elt iter : Expr} {wi : TI} {te : TE}
theorem Inv.back2 {fp : List Addr} {s3 s' : Shared} {H3 H' : Hp} {pins : List (Addr × Obj)} {σ σ' : St} {pl : List (Addr × Obj)} {h' : Heap} (I : Inv X pins σ H3 s3) (hf : ∀ b ∈ fp, FpOk X pins H3 b)
  (J : Inv (cxComp2 X M x y sc fp s3 H3) pl σ' H' s') (hs : Heap.SameBut s3.heap.objs.size s'.heap h') : Inv X pins σ H' { s' with heap := h' } := by
 have I1 : Inv X pins σ H' s' := I.call' (ch := fp) J.os J.base J.hok J.bare fun b hb => ⟨(hf b hb).2.2.2.1, (hf b hb).2.1, (hf b hb).2.2.2.2.1, (hf b hb).2.2.2.2.2⟩
 refine I1.turned (t' := s'.toks) (it := s3.heap.objs.size) (fun b o hb e => (hs.2 b hb).trans e) J.free ?_ (.inr I.sz) ?_ ?_
 · exact Nat.ne_of_gt I.lt
 · intro y c e z
   obtain ⟨v, q⟩ := I.cell y c e
   exact absurd q.lt (by rw [z]; exact Nat.lt_irrefl _)
 · intro p hp z
   exact absurd (Heap.lt_size (I.pin p hp).1) (by rw [z]; exact Nat.lt_irrefl _)
theorem comp_core2 {pins : List (Addr × Obj)} {σ : St} {s2 : Shared} {H2 : Hp} {it : Addr} {fp : List Addr} {tn : Nat -> Heap -> Prop} {J : It} {Q : VK} {E : Value -> Shared -> Prop} {RR : Value -> Addr -> Result -> Shared -> Prop}
  (S : CompScope2 X.N M X.env.scope x y sc) (hc : X.calm = true) (he : ∀ fp s3 H3, PE (cxComp2 X M x y sc fp s3 H3) elt te)
  (I2 : Inv X pins σ H2 s2) (T : Turn X.prog X.w X.K (.Tuple [.Name x px, .Name y py] k tp) J fp it tn) (st2 : tn 0 s2.heap) (f2 : ∀ b ∈ fp, FpOk X pins H2 b)
  (h : ∀ p, H2 p = none -> ∃ W : Nat -> Nat -> List V -> Hp -> Prop, (∃ m, W 0 m [] (upd H2 p (.lst []))) /\ ∀ i m ys H, W i m ys H ->
   (J.stop i H /\ Q (.ref p) H) \/ (J.go i H /\ ∀ u H', J.yld i H u H' -> ∃ T x y, u = .ref T /\ SqT X.K H' T [x, y] /\
    te (some x :: some y :: σ) H' fun v H3 => H3 p = some (.lst ys) /\ ys.length < sizeLine /\ ∃ m', m' < m /\ W (i + 1) m' (ys ++ [v]) (upd H3 p (.lst (ys ++ [v])))))
  (hRR : ∀ (s3 : Shared) (H3 : Hp) (s' : Shared) (σ' : St) (H' : Hp), Inv X pins σ H3 s3 -> (∀ b ∈ fp, FpOk X pins H3 b) -> Inv (cxComp2 X M x y sc fp s3 H3) [] σ' H' s' -> Q (.ref s2.heap.objs.size) H' -> RR (.ref s2.heap.objs.size) s3.heap.objs.size (.ok .next) s') :
  wpAny (model X.prog X.w) X.A (newList []) (fun acc s₃ => wpAny (model X.prog X.w) X.A (newFunctionEnv sc X.env.globals (clOf sc X.env) [] X.env.qual none .none (some X.env)) (fun cenv s₄ =>
   codeAny (model X.prog X.w) X.A (.compStart (.ListComp elt [⟨(.Tuple [.Name x px, .Name y py] k tp), iter, [], 0⟩] sc pos) 0 (.ref it) acc { cenv with scope := relabel sc X.env }) (RR acc cenv.locals) s₄) E s₃) E s2 := by
 obtain ⟨W, ⟨m0, w0⟩, turn⟩ := h s2.heap.objs.size I2.fresh
 refine wpAny_newList ?_
 have I3 : Inv X pins σ (upd H2 s2.heap.objs.size (.lst [])) { s2 with heap := s2.heap.push { cls := .type "list", data := .seq ([] : List Value).toArray } } := I2.lnew (ys := []) (t' := s2.toks) .nil (Nat.zero_le _)
 have fpl : ∀ b ∈ fp, b < s2.heap.objs.size := fun b hb => by
  obtain ⟨o, e, _⟩ := T.obj _ _ st2 b hb
  exact Heap.lt_size e
 have f3 : ∀ b ∈ fp, FpOk X pins (upd H2 s2.heap.objs.size (.lst [])) b := fun b hb => ⟨by rw [upd_ne (Nat.ne_of_lt (fpl b hb))]; exact (f2 b hb).1, (f2 b hb).2⟩
 have st3 : tn 0 (s2.heap.push { cls := .type "list", data := .seq ([] : List Value).toArray }) := T.keep _ _ _ st2 fun b _ o e => Heap.get?_push_of_some _ e
 generalize hs3 : ({ s2 with heap := s2.heap.push { cls := .type "list", data := .seq ([] : List Value).toArray } } : Shared) = s3 at *
 have st3' : tn 0 s3.heap := by rw [← hs3]; exact st3
 have fpl3 : ∀ b ∈ fp, b < s3.heap.objs.size := fun b hb => by
  obtain ⟨o, e, _⟩ := T.obj _ _ st3' b hb
  exact Heap.lt_size e
 refine wpAny_newFunctionEnv S.nocell (by intro y hy; simp at hy) (fun h₁ hns₁ hsb₁ => ?_) S.kind
 have keep4 : ∀ b o, s3.heap.get? b = some o -> h₁.get? b = some o := fun b o e => (hsb₁.2 b (Nat.ne_of_lt (Heap.lt_size e))).trans (Heap.get?_push_of_some _ e)
 have I4 := inv_comp2 (fp := fp) (tk := s3.toks + ([] : List (Str × Value)).length) S I3 f3 fpl3 keep4 hns₁
 have st4 : tn 0 h₁ := T.keep _ _ _ st3' fun b _ o e => keep4 b o e
 generalize hs4 : ({ s3 with heap := h₁, toks := s3.toks + ([] : List (Str × Value)).length } : Shared) = s4 at *
 have st4' : tn 0 s4.heap := by rw [← hs4]; exact st4
 generalize hH3 : upd H2 s2.heap.objs.size (.lst []) = H3 at *
 have stat : ∀ {H' : Hp}, (∀ b ∈ fp, H' b = none) -> ∀ b ∈ fp, FpOk (cxComp2 X M x y sc fp s3 H3) [] H' b := fun hn b hb =>
  ⟨hn b hb, Nat.ne_of_lt (fpl3 b hb), I4.ok.exfs b hb, .inl hb, fun y c e => (f3 b hb).2.2.2.2.1 y c (S.sub I3.ok e), fun p hp => absurd (show p ∈ ([] : List (Addr × Obj)) from hp) (by simp)⟩
 have loop : codeAny (model X.prog X.w) X.A (.compLoop (.ListComp elt [⟨(.Tuple [.Name x px, .Name y py] k tp), iter, [], 0⟩] sc pos) 0 (.ref it) (.ref s2.heap.objs.size) (cxComp2 X M x y sc fp s3 H3).env) (RR (.ref s2.heap.objs.size) s3.heap.objs.size) s4 := by
  refine compLoop_any (fun n s' => ∃ i o o2 ys H', Inv (cxComp2 X M x y sc fp s3 H3) [] (o :: o2 :: σ) H' s' /\ tn i s'.heap /\ (∀ b ∈ fp, H' b = none) /\ W i n ys H') ?_ m0 ⟨0, none, none, [], H3, I4, st4', fun b hb => (f3 b hb).1, w0⟩
  rintro n s5 ⟨i, o, o2, ys, H5, I5, st5, fr5, w5⟩
  rcases turn i n ys H5 w5 with ⟨stop, q⟩ | ⟨go, step⟩
  · refine wpAny_mono (T.done (cxComp2 X M x y sc fp s3 H3) rfl rfl rfl hc i [] s5 (o :: o2 :: σ) H5 (fun _ _ => False) I5 (stat fr5) st5 stop) (fun r s6 ⟨hr, I6⟩ => ?_) fun _ _ z => z.elim
    subst hr
    exact hRR s3 H3 s6 _ H5 I3 f3 I6 q
  · refine wpAny_mono (T.item (cxComp2 X M x y sc fp s3 H3) rfl rfl rfl hc i [] s5 (o :: o2 :: σ) H5 (fun _ _ => False) I5 (stat fr5) st5 go) (fun r s6 ⟨u, hr, h6⟩ => ?_) fun _ _ z => z.elim
    subst hr
    refine wpAny_mono h6 (fun _ s6' ⟨tv, H6, I6, r6, y6, st6, fr6⟩ => ?_) fun _ _ z => z.elim
    have I6' := I6.pinned (stat fr6) (T.obj _ _ st6)
    have hx : (relabel sc X.env).names.lookup x = some .local := lookup_relabel_local S.here
    have nd' : (cxComp2 X M x y sc fp s3 H3).N.Nodup := S.nd
    have hy : (relabel sc X.env).names.lookup y = some .local := lookup_relabel_local S.here2
    obtain ⟨Tt, xv, yv, etv, sq6, q6⟩ := step tv H6 y6
    subst etv
    refine wpAny_mono (pg_pair (X := cxComp2 X M x y sc fp s3 H3) (i := 0) (j := 1) (p := px) (q := py) (k := k) (pos := tp) hc (pg_name nd' rfl (.inl hx) (.inr hx)) (pg_name nd' rfl (.inl hy) (.inr hy)) _ s6' (o :: o2 :: σ) H6 (.ref Tt) u (fun σ' H' => σ' = some xv :: some yv :: σ /\ H' = H6) I6' r6
     ⟨Tt, [xv, yv], rfl, sq6, rfl, _, _, rfl, _, _, rfl, rfl, rfl, rfl⟩) (fun _ s7 ⟨σ7, H7, I7, e7, e7'⟩ => ?_) fun _ _ z => z.elim
    subst e7 e7'
    have again : ∀ {H' : Hp} {s' : Shared} {ys' : List V}, Inv (cxComp2 X M x y sc fp s3 H3) ([] ++ pinsAt fp s6'.heap) (some xv :: some yv :: σ) H' s' -> (∃ m', m' < n /\ W (i + 1) m' ys' H') ->
      ∃ m, m < n /\ ∃ i o o2 ys H', Inv (cxComp2 X M x y sc fp s3 H3) [] (o :: o2 :: σ) H' s' /\ tn i s'.heap /\ (∀ b ∈ fp, H' b = none) /\ W i m ys H' := fun {H' s' ys'} I' ⟨m', hm, w'⟩ => by
     refine ⟨m', hm, i + 1, some xv, some yv, ys', H', I'.unpinned, T.keep _ _ _ st6 fun b hb ob e => (I'.pin (b, ob) (List.mem_append_right _ (List.mem_append_right _ (mem_pinsAt hb e)))).1, fun b hb => ?_, w'⟩
     obtain ⟨ob, e, d⟩ := T.obj _ _ st6 b hb
     exact (I'.pin (b, ob) (List.mem_append_right _ (List.mem_append_right _ (mem_pinsAt hb e)))).2.1
    refine wpAny_mono (he fp s3 H3 _ s7 _ H7 _ I7 q6) (fun v s9 ⟨yy, H9, I9, r9, hp, hz, q9⟩ => ?_) fun _ _ z => z.elim
    refine wpAny_mono (mt_append (X := cxComp2 X M x y sc fp s3 H3) _ s9 _ H9 (.ref s2.heap.objs.size) [yy] (.ref s2.heap.objs.size) [v] (fun _ H' => H' = upd H9 s2.heap.objs.size (.lst (ys ++ [yy]))) I9 rfl (.cons r9 .nil) ⟨_, ys, yy, rfl, rfl, hp, hz, rfl⟩) (fun _ s10 ⟨_, H10, I10, _, e10⟩ => ?_) fun _ _ z => z.elim
    subst e10
    exact again I10 q9
 exact codeAny_compStart_list loop (T.self _ 0 _ _ _ st4' loop)
theorem pe_comp2 (S : CompScope2 X.N M X.env.scope x y sc) (hc : X.calm = true) (hi : PI X (.Tuple [.Name x px, .Name y py] k tp) iter wi) (he : ∀ fp s3 H3, PE (cxComp2 X M x y sc fp s3 H3) elt te)
  (hs : ∀ x, foldedSetIterable iter X.env x = pure x := by intro _; rfl) : PE X (.ListComp elt [⟨(.Tuple [.Name x px, .Name y py] k tp), iter, [], 0⟩] sc pos) (tComp2 X.K wi te) := by
 intro pins s σ H Q I h
 rw [eval_ListComp]
 refine wpAny_comprehension_free (use := none) (cl := clOf sc X.env) rfl hs (closure_is (S.cells I.ok)) S.kind S.names (thn (hi pins s σ H _ I h) fun v s1 h1 => thn h1 fun itv s2 h2 => ?_)
 obtain ⟨it, fp, tn, J, H2, e, I2, T, st2, f2, q2⟩ := h2
 subst e
 refine comp_core2 (RR := fun acc C => compPost (model X.prog X.w) X.A X.xe none (EP X pins σ Q) acc C) (Q := Q) S hc he I2 T st2 f2 q2 ?_
 intro s3 H3 s' σ' H' I3 f3 J' q'
 obtain ⟨m, hn, _⟩ := J'.loc
 exact ⟨m, hn, fun h' hs' => ⟨.ref s2.heap.objs.size, H', I3.back2 f3 J' hs', rfl, q'⟩⟩
end
def compCheck2 (N M : List Str) (osc : Scope) (x w : Str) (sc : Scope) : Bool :=
 (match sc.kind with | .function => true | _ => false) && sc.names.all (fun y => match y.2 with | .cell => false | _ => true)
 && sc.names.all (fun y => match y.2 with | .local => (match sc.names.lookup y.1 with | some .local => true | _ => false) | _ => true)
 && (match sc.names.lookup x with | some .local => true | _ => false) && M.all (fun y => !(y == x))
 && sc.names.all (fun y => match y.2 with | .free => (match osc.names.lookup y.1 with | some .cell => true | some .free => true | _ => false) | _ => true)
 && sc.names.all (fun y => match y.2 with | .local => (y.1 == x || (y.1 == w || M.all (fun z => !(z == y.1))))| _ => true)
 && decide (M.length = N.length) && (List.range M.length).all (fun i => match M[i]?, N[i]? with | some a, some b => a == b || (match sc.names.lookup a with | none => true | _ => false) | _, _ => false)
 && (match sc.names.lookup w with | some .local => true | _ => false) && M.all (fun y => !(y == w)) && !(x == w)
theorem CompScope2.of {N M : List Str} {osc : Scope} {x w : Str} {sc : Scope} (hN : M.Nodup) (h : compCheck2 N M osc x w sc = true) : CompScope2 N M osc x w sc := by
 unfold compCheck2 at h
 simp only [Bool.and_eq_true, List.all_eq_true, decide_eq_true_eq] at h
 obtain ⟨⟨⟨⟨⟨⟨⟨⟨⟨⟨⟨h1, h2⟩, h3⟩, h4⟩, h5⟩, h6⟩, h7⟩, h8⟩, h9⟩, h10⟩, h11⟩, h12⟩ := h
 refine ⟨?_, fun y hy e => ?_, fun y hy e => ?_, ?_, ?_, List.nodup_cons.mpr ⟨fun hx => by
  rcases List.mem_cons.mp hx with q | q
  · subst q; simp at h12
  · have := h5 x q; simp at this, List.nodup_cons.mpr ⟨fun hx => by have := h11 w hx; simp at this, hN⟩⟩, h8, fun i z hz => ?_, fun y hy e => ?_, fun y hy e => ?_⟩
 · revert h1; cases sc.kind <;> simp
 · have := h2 y hy; rw [e] at this; exact absurd this (by simp)
 · have := h3 y hy; rw [e] at this
   revert this
   cases sc.names.lookup y.1 with
   | none => simp
   | some k => cases k <;> simp
 · revert h4
   cases sc.names.lookup x with
   | none => simp
   | some k => cases k <;> simp
 · revert h10
   cases sc.names.lookup w with
   | none => simp
   | some k => cases k <;> simp
 · have hl := (List.getElem?_eq_some_iff.mp hz).1
   have q := h9 i (List.mem_range.mpr hl)
   have hl' : i < N.length := by rw [← h8]; exact hl
   rw [hz, List.getElem?_eq_getElem hl'] at q
   rw [List.getElem?_eq_getElem hl']
   simp only [Bool.or_eq_true, beq_iff_eq] at q
   rcases q with q | q
   · exact .inl (by rw [q])
   · refine .inr ?_
     revert q
     cases sc.names.lookup z with
     | none => simp
     | some k => simp
 · have := h6 y hy; rw [e] at this
   revert this
   cases osc.names.lookup y.1 with
   | none => simp
   | some k => cases k <;> simp
 · have := h7 y hy; rw [e] at this
   simp only [Bool.or_eq_true, List.all_eq_true] at this
   rcases this with z | z | z
   · exact .inl (by simpa using z)
   · exact .inr (.inl (by simpa using z))
   · refine .inr (.inr fun q => ?_)
     have := z _ q
     simp at this
structure CompScope1 (N M : List Str) (osc : Scope) (x : Str) (sc : Scope) : Prop where
 kind : sc.kind = .function
 nocell : ∀ z ∈ sc.names, z.2 ≠ .cell
 names : ∀ z ∈ sc.names, z.2 = .local -> sc.names.lookup z.1 = some .local
 here : sc.names.lookup x = some .local
 nd : (x :: M).Nodup
 len : M.length = N.length
 hide : ∀ (i : Nat) z, M[i]? = some z -> N[i]? = some z \/ sc.names.lookup z = none
 free : ∀ z ∈ sc.names, z.2 = .free -> osc.names.lookup z.1 = some .cell \/ osc.names.lookup z.1 = some .free
 own : ∀ z ∈ sc.names, z.2 = .local -> z.1 = x \/ z.1 ∉ M
def cxComp1 (X : Cx) (M : List Str) (x : Str) (sc : Scope) (fp : List Addr) (s3 : Shared) (H3 : Hp) : Cx where
 prog := X.prog
 w := X.w
 K := X.K
 mg := X.mg
 base := X.base
 A := X.A
 N := x :: M
 s₀ := s3
 H₀ := H3
 env := compEnvC sc (clOf sc X.env) s3.heap.objs.size X.env
 outer := X.stack
 stack := X.stack
 ex := fp
 calm := X.calm
 fn := fun _ => false
 pn := []
 xe := fun _ _ => False
section
variable {X : Cx} {M : List Str} {x : Str} {sc : Scope} {fp : List Addr} {s3 : Shared} {H3 : Hp} {pins : List (Addr × Obj)} {σ : St}
theorem CompScope1.cells (S : CompScope1 X.N M X.env.scope x sc) (ok : X.Ok) : ∀ z ∈ sc.names, z.2 = .free -> ∃ c, X.env.cells.lookup z.1 = some c := fun z hz hk => ok.has z.1 (S.free z hz hk)
theorem CompScope1.sub (S : CompScope1 X.N M X.env.scope x sc) (ok : X.Ok) {z : Str} {c : Addr} (e : (clOf sc X.env).lookup z = some c) : X.env.cells.lookup z = some c :=
 clGo_sub sc.names [] (S.cells ok) (fun c h => by cases h) e
theorem CompScope1.isFree (S : CompScope1 X.N M X.env.scope x sc) {z : Str} (h : (relabel sc X.env).names.lookup z = some .cell \/ (relabel sc X.env).names.lookup z = some .free) : (z, NameKind.free) ∈ sc.names := by
 rw [lookup_relabel] at h
 cases e : sc.names.lookup z with
 | none => rw [e] at h; rcases h with h | h <;> cases h
 | some k =>
  rw [e] at h
  have hm := PySem.mem_of_lookup e
  cases k with
  | free => exact hm
  | cell => exact absurd rfl (S.nocell _ hm)
  | _ =>
   exfalso
   rcases h with h | h
   all_goals (simp at h)
theorem CompScope1.noLocal (S : CompScope1 X.N M X.env.scope x sc) {z : Str} (hz : z ∈ M) (h : (relabel sc X.env).names.lookup z = some .local) : False := by
 rw [lookup_relabel] at h
 cases e : sc.names.lookup z with
 | none => rw [e] at h; cases h
 | some k =>
  rw [e] at h
  have hm := PySem.mem_of_lookup e
  cases k with
  | «local» =>
   have nd := List.nodup_cons.mp S.nd
   rcases S.own _ hm rfl with q | q
   · have q' : z = x := q
     exact nd.1 (q' ▸ hz)
   · exact q hz
  | _ =>
   revert h
   simp
   try (split <;> simp)
theorem ok_comp1 (S : CompScope1 X.N M X.env.scope x sc) (I : Inv X pins σ H3 s3) (hf : ∀ b ∈ fp, FpOk X pins H3 b) (hl : ∀ b ∈ fp, b < s3.heap.objs.size) : (cxComp1 X M x sc fp s3 H3).Ok where
 mod := I.ok.mod
 kind := S.kind
 glob := I.ok.glob
 blt := I.ok.blt
 above := Nat.le_refl _
 inj := fun y z c h1 h2 => I.ok.inj y z c (S.sub I.ok h1) (S.sub I.ok h2)
 has := fun y h => clGo_has sc.names [] (.inr (S.isFree h))
 cab := fun y c h => by cases h
 hd := I.ok.hd
 frames := I.ok.frames
 stk := .inl rfl
 exf := fun b hb => ⟨Nat.ne_of_lt (hl b hb), fun y c e => (hf b hb).2.2.2.2.1 y c (S.sub I.ok e)⟩
 bs := I.bs
 bsz := Nat.le_trans I.ok.bsz I.sz
 noex := fun b o e hb => FpOk.nobase I.ok (hf b hb) e
 exfs := fun b hb hs => by
  rcases List.mem_cons.mp (I.stkSub b hs) with z | z
  · exact (hf b hb).2.1 z
  · exact (hf b hb).2.2.1 z
 funs := I.stack
 frf := I.stkFree
theorem inv_comp1 {h4 : Heap} {tk : Nat} (S : CompScope1 X.N M X.env.scope x sc) (I : Inv X pins σ H3 s3) (hf : ∀ b ∈ fp, FpOk X pins H3 b) (hl : ∀ b ∈ fp, b < s3.heap.objs.size)
  (hk : ∀ b o, s3.heap.get? b = some o -> h4.get? b = some o) {m : Str -> Option Value} (hn : h4.Ns s3.heap.objs.size m) :
  Inv (cxComp1 X M x sc fp s3 H3) [] (none :: σ) H3 { s3 with heap := h4, toks := tk } := by
 refine ⟨ok_comp1 S I hf hl, rfl, I.bare, Un.kept hk, ⟨m, hn, fun i z v h1 h2 h3 => ?_⟩, fun z c e => ?_, I.fresh, fun z c e => I.freeC z c (S.sub I.ok e), fun p hp => absurd (show p ∈ ([] : List (Addr × Obj)) from hp) (by simp), I.hok.kept hk, by show σ.length + 1 = M.length + 1; rw [I.len, S.len]⟩
 · match i, h1, h2 with
   | 0, h1, h2 => exact absurd (Option.some.inj h2) (by simp)
   | i + 1, h1, h2 =>
    have h1m : M[i]? = some z := h1
    have h2' : σ[i]? = some (some v) := h2
    have hyN : z ∈ M := List.mem_of_getElem? h1m
    have hfree : (z, NameKind.free) ∈ sc.names := by
     rcases h3 with h3 | h3 | h3
     · exact (S.noLocal hyN h3).elim
     · exact S.isFree (.inl h3)
     · exact S.isFree (.inr h3)
    have h1' : X.N[i]? = some z := by
     rcases S.hide i z h1m with q | q
     · exact q
     · exfalso
       obtain ⟨k, hk⟩ : ∃ k, sc.names.lookup z = some k := by
        cases e : sc.names.lookup z with
        | some k => exact ⟨k, rfl⟩
        | none =>
         rw [List.lookup_eq_none_iff] at e
         exact absurd (e _ hfree) (by simp)
       rw [hk] at q; cases q
    have hk0 := S.free _ hfree rfl
    obtain ⟨m0, hn0, hl0⟩ := I.loc
    obtain ⟨u, r, l⟩ := hl0 i z v h1' h2' (hk0.elim (fun q => .inr (.inl q)) (fun q => .inr (.inr q)))
    refine ⟨u, r, .inr ?_⟩
    have hv : (cxComp1 X M x sc fp s3 H3).env.kindOf z = some .cell \/ (cxComp1 X M x sc fp s3 H3).env.kindOf z = some .free := by
     rcases h3 with h3 | h3 | h3
     · exact (S.noLocal hyN h3).elim
     · exact .inl h3
     · exact .inr h3
    refine ⟨hv, ?_⟩
    obtain ⟨c, hc⟩ := clGo_has (env := X.env) (y := z) sc.names [] (.inr hfree)
    refine ⟨c, hc, ?_⟩
    have hc' := S.sub I.ok hc
    rcases l with ⟨hk1, _⟩ | ⟨_, c2, e2, z2⟩
    · exfalso
      have hk1' : X.env.scope.names.lookup z = some .local := hk1
      have hk0' : X.env.scope.names.lookup z = some .cell \/ X.env.scope.names.lookup z = some .free := hk0
      rw [hk1'] at hk0'
      rcases hk0' with q | q <;> cases q
    · rw [hc'] at e2; cases e2
      exact z2.keeps hk
 · obtain ⟨v, q⟩ := I.cell z c (S.sub I.ok e)
   exact ⟨v, q.keeps hk⟩
end
def tComp1 (wi : TI) (te : TE) : TE := fun σ H Q => wi σ H fun J H1 => ∀ p, H1 p = none ->
 ∃ W : Nat -> Nat -> List V -> Hp -> Prop, (∃ m, W 0 m [] (upd H1 p (.lst []))) /\ ∀ i m ys H, W i m ys H ->
  (J.stop i H /\ Q (.ref p) H) \/ (J.go i H /\ ∀ u H', J.yld i H u H' ->
   te (some u :: σ) H' fun v H3 => H3 p = some (.lst ys) /\ ys.length < sizeLine /\ ∃ m', m' < m /\ W (i + 1) m' (ys ++ [v]) (upd H3 p (.lst (ys ++ [v]))))
section
variable {X : Cx} {M : List Str} {x : Str} {sc : Scope} {px pos : Pos} {k : Nat} {elt iter : Expr} {wi : TI} {te : TE}
theorem Inv.back1 {fp : List Addr} {s3 s' : Shared} {H3 H' : Hp} {pins : List (Addr × Obj)} {σ σ' : St} {pl : List (Addr × Obj)} {h' : Heap} (I : Inv X pins σ H3 s3) (hf : ∀ b ∈ fp, FpOk X pins H3 b)
  (J : Inv (cxComp1 X M x sc fp s3 H3) pl σ' H' s') (hs : Heap.SameBut s3.heap.objs.size s'.heap h') : Inv X pins σ H' { s' with heap := h' } := by
 have I1 : Inv X pins σ H' s' := I.call' (ch := fp) J.os J.base J.hok J.bare fun b hb => ⟨(hf b hb).2.2.2.1, (hf b hb).2.1, (hf b hb).2.2.2.2.1, (hf b hb).2.2.2.2.2⟩
 refine I1.turned (t' := s'.toks) (it := s3.heap.objs.size) (fun b o hb e => (hs.2 b hb).trans e) J.free ?_ (.inr I.sz) ?_ ?_
 · exact Nat.ne_of_gt I.lt
 · intro y c e z
   obtain ⟨v, q⟩ := I.cell y c e
   exact absurd q.lt (by rw [z]; exact Nat.lt_irrefl _)
 · intro p hp z
   exact absurd (Heap.lt_size (I.pin p hp).1) (by rw [z]; exact Nat.lt_irrefl _)
theorem comp_core1 {pins : List (Addr × Obj)} {σ : St} {s2 : Shared} {H2 : Hp} {it : Addr} {fp : List Addr} {tn : Nat -> Heap -> Prop} {J : It} {Q : VK} {E : Value -> Shared -> Prop} {RR : Value -> Addr -> Result -> Shared -> Prop}
  (S : CompScope1 X.N M X.env.scope x sc) (hc : X.calm = true) (he : ∀ fp s3 H3, PE (cxComp1 X M x sc fp s3 H3) elt te)
  (I2 : Inv X pins σ H2 s2) (T : Turn X.prog X.w X.K (.Name x px) J fp it tn) (st2 : tn 0 s2.heap) (f2 : ∀ b ∈ fp, FpOk X pins H2 b)
  (h : ∀ p, H2 p = none -> ∃ W : Nat -> Nat -> List V -> Hp -> Prop, (∃ m, W 0 m [] (upd H2 p (.lst []))) /\ ∀ i m ys H, W i m ys H ->
   (J.stop i H /\ Q (.ref p) H) \/ (J.go i H /\ ∀ u H', J.yld i H u H' ->
    te (some u :: σ) H' fun v H3 => H3 p = some (.lst ys) /\ ys.length < sizeLine /\ ∃ m', m' < m /\ W (i + 1) m' (ys ++ [v]) (upd H3 p (.lst (ys ++ [v])))))
  (hRR : ∀ (s3 : Shared) (H3 : Hp) (s' : Shared) (σ' : St) (H' : Hp), Inv X pins σ H3 s3 -> (∀ b ∈ fp, FpOk X pins H3 b) -> Inv (cxComp1 X M x sc fp s3 H3) [] σ' H' s' -> Q (.ref s2.heap.objs.size) H' -> RR (.ref s2.heap.objs.size) s3.heap.objs.size (.ok .next) s') :
  wpAny (model X.prog X.w) X.A (newList []) (fun acc s₃ => wpAny (model X.prog X.w) X.A (newFunctionEnv sc X.env.globals (clOf sc X.env) [] X.env.qual none .none (some X.env)) (fun cenv s₄ =>
   codeAny (model X.prog X.w) X.A (.compStart (.ListComp elt [⟨(.Name x px), iter, [], 0⟩] sc pos) 0 (.ref it) acc { cenv with scope := relabel sc X.env }) (RR acc cenv.locals) s₄) E s₃) E s2 := by
 obtain ⟨W, ⟨m0, w0⟩, turn⟩ := h s2.heap.objs.size I2.fresh
 refine wpAny_newList ?_
 have I3 : Inv X pins σ (upd H2 s2.heap.objs.size (.lst [])) { s2 with heap := s2.heap.push { cls := .type "list", data := .seq ([] : List Value).toArray } } := I2.lnew (ys := []) (t' := s2.toks) .nil (Nat.zero_le _)
 have fpl : ∀ b ∈ fp, b < s2.heap.objs.size := fun b hb => by
  obtain ⟨o, e, _⟩ := T.obj _ _ st2 b hb
  exact Heap.lt_size e
 have f3 : ∀ b ∈ fp, FpOk X pins (upd H2 s2.heap.objs.size (.lst [])) b := fun b hb => ⟨by rw [upd_ne (Nat.ne_of_lt (fpl b hb))]; exact (f2 b hb).1, (f2 b hb).2⟩
 have st3 : tn 0 (s2.heap.push { cls := .type "list", data := .seq ([] : List Value).toArray }) := T.keep _ _ _ st2 fun b _ o e => Heap.get?_push_of_some _ e
 generalize hs3 : ({ s2 with heap := s2.heap.push { cls := .type "list", data := .seq ([] : List Value).toArray } } : Shared) = s3 at *
 have st3' : tn 0 s3.heap := by rw [← hs3]; exact st3
 have fpl3 : ∀ b ∈ fp, b < s3.heap.objs.size := fun b hb => by
  obtain ⟨o, e, _⟩ := T.obj _ _ st3' b hb
  exact Heap.lt_size e
 refine wpAny_newFunctionEnv S.nocell (by intro y hy; simp at hy) (fun h₁ hns₁ hsb₁ => ?_) S.kind
 have keep4 : ∀ b o, s3.heap.get? b = some o -> h₁.get? b = some o := fun b o e => (hsb₁.2 b (Nat.ne_of_lt (Heap.lt_size e))).trans (Heap.get?_push_of_some _ e)
 have I4 := inv_comp1 (fp := fp) (tk := s3.toks + ([] : List (Str × Value)).length) S I3 f3 fpl3 keep4 hns₁
 have st4 : tn 0 h₁ := T.keep _ _ _ st3' fun b _ o e => keep4 b o e
 generalize hs4 : ({ s3 with heap := h₁, toks := s3.toks + ([] : List (Str × Value)).length } : Shared) = s4 at *
 have st4' : tn 0 s4.heap := by rw [← hs4]; exact st4
 generalize hH3 : upd H2 s2.heap.objs.size (.lst []) = H3 at *
 have stat : ∀ {H' : Hp}, (∀ b ∈ fp, H' b = none) -> ∀ b ∈ fp, FpOk (cxComp1 X M x sc fp s3 H3) [] H' b := fun hn b hb =>
  ⟨hn b hb, Nat.ne_of_lt (fpl3 b hb), I4.ok.exfs b hb, .inl hb, fun y c e => (f3 b hb).2.2.2.2.1 y c (S.sub I3.ok e), fun p hp => absurd (show p ∈ ([] : List (Addr × Obj)) from hp) (by simp)⟩
 have loop : codeAny (model X.prog X.w) X.A (.compLoop (.ListComp elt [⟨(.Name x px), iter, [], 0⟩] sc pos) 0 (.ref it) (.ref s2.heap.objs.size) (cxComp1 X M x sc fp s3 H3).env) (RR (.ref s2.heap.objs.size) s3.heap.objs.size) s4 := by
  refine compLoop_any (fun n s' => ∃ i o ys H', Inv (cxComp1 X M x sc fp s3 H3) [] (o :: σ) H' s' /\ tn i s'.heap /\ (∀ b ∈ fp, H' b = none) /\ W i n ys H') ?_ m0 ⟨0, none, [], H3, I4, st4', fun b hb => (f3 b hb).1, w0⟩
  rintro n s5 ⟨i, o, ys, H5, I5, st5, fr5, w5⟩
  rcases turn i n ys H5 w5 with ⟨stop, q⟩ | ⟨go, step⟩
  · refine wpAny_mono (T.done (cxComp1 X M x sc fp s3 H3) rfl rfl rfl hc i [] s5 (o :: σ) H5 (fun _ _ => False) I5 (stat fr5) st5 stop) (fun r s6 ⟨hr, I6⟩ => ?_) fun _ _ z => z.elim
    subst hr
    exact hRR s3 H3 s6 _ H5 I3 f3 I6 q
  · refine wpAny_mono (T.item (cxComp1 X M x sc fp s3 H3) rfl rfl rfl hc i [] s5 (o :: σ) H5 (fun _ _ => False) I5 (stat fr5) st5 go) (fun r s6 ⟨u, hr, h6⟩ => ?_) fun _ _ z => z.elim
    subst hr
    refine wpAny_mono h6 (fun _ s6' ⟨tv, H6, I6, r6, y6, st6, fr6⟩ => ?_) fun _ _ z => z.elim
    have I6' := I6.pinned (stat fr6) (T.obj _ _ st6)
    have hx : (relabel sc X.env).names.lookup x = some .local := lookup_relabel_local S.here
    have nd' : (cxComp1 X M x sc fp s3 H3).N.Nodup := S.nd
    have q6 := step tv H6 y6
    refine wpAny_mono (pg_name (X := cxComp1 X M x sc fp s3 H3) (i := 0) (pos := px) nd' rfl (.inl hx) (.inr hx) _ s6' (o :: σ) H6 tv u (fun σ' H' => σ' = some tv :: σ /\ H' = H6) I6' r6 ⟨rfl, rfl⟩) (fun _ s7 ⟨σ7, H7, I7, e7, e7'⟩ => ?_) fun _ _ z => z.elim
    subst e7 e7'
    have again : ∀ {H' : Hp} {s' : Shared} {ys' : List V}, Inv (cxComp1 X M x sc fp s3 H3) ([] ++ pinsAt fp s6'.heap) (some tv :: σ) H' s' -> (∃ m', m' < n /\ W (i + 1) m' ys' H') ->
      ∃ m, m < n /\ ∃ i o ys H', Inv (cxComp1 X M x sc fp s3 H3) [] (o :: σ) H' s' /\ tn i s'.heap /\ (∀ b ∈ fp, H' b = none) /\ W i m ys H' := fun {H' s' ys'} I' ⟨m', hm, w'⟩ => by
     refine ⟨m', hm, i + 1, some tv, ys', H', I'.unpinned, T.keep _ _ _ st6 fun b hb ob e => (I'.pin (b, ob) (List.mem_append_right _ (List.mem_append_right _ (mem_pinsAt hb e)))).1, fun b hb => ?_, w'⟩
     obtain ⟨ob, e, d⟩ := T.obj _ _ st6 b hb
     exact (I'.pin (b, ob) (List.mem_append_right _ (List.mem_append_right _ (mem_pinsAt hb e)))).2.1
    refine wpAny_mono (he fp s3 H3 _ s7 _ H7 _ I7 q6) (fun v s9 ⟨yy, H9, I9, r9, hp, hz, q9⟩ => ?_) fun _ _ z => z.elim
    refine wpAny_mono (mt_append (X := cxComp1 X M x sc fp s3 H3) _ s9 _ H9 (.ref s2.heap.objs.size) [yy] (.ref s2.heap.objs.size) [v] (fun _ H' => H' = upd H9 s2.heap.objs.size (.lst (ys ++ [yy]))) I9 rfl (.cons r9 .nil) ⟨_, ys, yy, rfl, rfl, hp, hz, rfl⟩) (fun _ s10 ⟨_, H10, I10, _, e10⟩ => ?_) fun _ _ z => z.elim
    subst e10
    exact again I10 q9
 exact codeAny_compStart_list loop (T.self _ 0 _ _ _ st4' loop)
theorem pe_comp1 (S : CompScope1 X.N M X.env.scope x sc) (hc : X.calm = true) (hi : PI X (.Name x px) iter wi) (he : ∀ fp s3 H3, PE (cxComp1 X M x sc fp s3 H3) elt te)
  (hs : ∀ x, foldedSetIterable iter X.env x = pure x := by intro _; rfl) : PE X (.ListComp elt [⟨(.Name x px), iter, [], 0⟩] sc pos) (tComp1 wi te) := by
 intro pins s σ H Q I h
 rw [eval_ListComp]
 refine wpAny_comprehension_free (use := none) (cl := clOf sc X.env) rfl hs (closure_is (S.cells I.ok)) S.kind S.names (thn (hi pins s σ H _ I h) fun v s1 h1 => thn h1 fun itv s2 h2 => ?_)
 obtain ⟨it, fp, tn, J, H2, e, I2, T, st2, f2, q2⟩ := h2
 subst e
 refine comp_core1 (RR := fun acc C => compPost (model X.prog X.w) X.A X.xe none (EP X pins σ Q) acc C) (Q := Q) S hc he I2 T st2 f2 q2 ?_
 intro s3 H3 s' σ' H' I3 f3 J' q'
 obtain ⟨m, hn, _⟩ := J'.loc
 exact ⟨m, hn, fun h' hs' => ⟨.ref s2.heap.objs.size, H', I3.back1 f3 J' hs', rfl, q'⟩⟩
end
def compCheck1 (N M : List Str) (osc : Scope) (x : Str) (sc : Scope) : Bool :=
 (match sc.kind with | .function => true | _ => false) && sc.names.all (fun y => match y.2 with | .cell => false | _ => true)
 && sc.names.all (fun y => match y.2 with | .local => (match sc.names.lookup y.1 with | some .local => true | _ => false) | _ => true)
 && (match sc.names.lookup x with | some .local => true | _ => false) && M.all (fun y => !(y == x))
 && sc.names.all (fun y => match y.2 with | .free => (match osc.names.lookup y.1 with | some .cell => true | some .free => true | _ => false) | _ => true)
 && sc.names.all (fun y => match y.2 with | .local => (y.1 == x || (M.all (fun z => !(z == y.1))))| _ => true)
 && decide (M.length = N.length) && (List.range M.length).all (fun i => match M[i]?, N[i]? with | some a, some b => a == b || (match sc.names.lookup a with | none => true | _ => false) | _, _ => false)
theorem CompScope1.of {N M : List Str} {osc : Scope} {x : Str} {sc : Scope} (hN : M.Nodup) (h : compCheck1 N M osc x sc = true) : CompScope1 N M osc x sc := by
 unfold compCheck1 at h
 simp only [Bool.and_eq_true, List.all_eq_true, decide_eq_true_eq] at h
 obtain ⟨⟨⟨⟨⟨⟨⟨⟨h1, h2⟩, h3⟩, h4⟩, h5⟩, h6⟩, h7⟩, h8⟩, h9⟩ := h
 refine ⟨?_, fun y hy e => ?_, fun y hy e => ?_, ?_, List.nodup_cons.mpr ⟨fun hx => by have := h5 x hx; simp at this, hN⟩, h8, fun i z hz => ?_, fun y hy e => ?_, fun y hy e => ?_⟩
 · revert h1; cases sc.kind <;> simp
 · have := h2 y hy; rw [e] at this; exact absurd this (by simp)
 · have := h3 y hy; rw [e] at this
   revert this
   cases sc.names.lookup y.1 with
   | none => simp
   | some k => cases k <;> simp
 · revert h4
   cases sc.names.lookup x with
   | none => simp
   | some k => cases k <;> simp
 · have hl := (List.getElem?_eq_some_iff.mp hz).1
   have q := h9 i (List.mem_range.mpr hl)
   have hl' : i < N.length := by rw [← h8]; exact hl
   rw [hz, List.getElem?_eq_getElem hl'] at q
   rw [List.getElem?_eq_getElem hl']
   simp only [Bool.or_eq_true, beq_iff_eq] at q
   rcases q with q | q
   · exact .inl (by rw [q])
   · refine .inr ?_
     revert q
     cases sc.names.lookup z with
     | none => simp
     | some k => simp
 · have := h6 y hy; rw [e] at this
   revert this
   cases osc.names.lookup y.1 with
   | none => simp
   | some k => cases k <;> simp
 · have := h7 y hy; rw [e] at this
   simp only [Bool.or_eq_true, List.all_eq_true] at this
   rcases this with z | z
   · exact .inl (by simpa using z)
   · refine .inr fun q => ?_
     have := z _ q
     simp at this
theorem comp_range1 {lo : Int} {n : Nat} {p : Addr} {te : TE} {σ : St} {H : Hp} {Z : Hp -> Prop} (Pv : Nat -> List V -> Hp -> Prop) (h0 : Pv 0 [] (upd H p (.lst [])))
  (hs : ∀ i ys H, i < n -> Pv i ys H -> te (some (.int (lo + i)) :: σ) H fun v H3 => H3 p = some (.lst ys) /\ ys.length < sizeLine /\ ∃ m', m' < n - i /\ m' = n - (i + 1) /\ i + 1 <= n /\ Pv (i + 1) (ys ++ [v]) (upd H3 p (.lst (ys ++ [v]))))
  (hd : ∀ ys H, Pv n ys H -> Z H) :
  ∃ W : Nat -> Nat -> List V -> Hp -> Prop, (∃ m, W 0 m [] (upd H p (.lst []))) /\ ∀ i m ys H, W i m ys H ->
   ((Itr lo n).stop i H /\ Z H) \/ ((Itr lo n).go i H /\ ∀ u H', (Itr lo n).yld i H u H' ->
     te (some u :: σ) H' fun v H3 => H3 p = some (.lst ys) /\ ys.length < sizeLine /\ ∃ m', m' < m /\ W (i + 1) m' (ys ++ [v]) (upd H3 p (.lst (ys ++ [v])))) := by
 refine ⟨fun i m ys H => m = n - i /\ i <= n /\ Pv i ys H, ⟨n, by simp, Nat.zero_le _, h0⟩, ?_⟩
 rintro i m ys H ⟨rfl, hi, pv⟩
 by_cases hlt : i < n
 · refine .inr ⟨hlt, fun x H' y => ?_⟩
   obtain ⟨e, y⟩ := y
   subst e y
   exact hs i ys _ hlt pv
 · have e : i = n := by omega
   subst e
   exact .inl ⟨Nat.le_refl _, hd ys H pv⟩
theorem comp_enumN {K : PySem.W.Frag} {a p : Addr} {xs : List V} {te : TE} {σ : St} {H : Hp} {Z : Hp -> Prop} (Pv : Nat -> List V -> Hp -> Prop) (h0 : Pv 0 [] (upd H p (.lst []))) (hl : ∀ i ys H, i <= xs.length -> Pv i ys H -> SqL K H a xs)
  (hs : ∀ i x ys H H', xs[i]? = some x -> Pv i ys H -> Same H H' -> te (some (.int i) :: some x :: σ) H' fun v H3 => H3 p = some (.lst ys) /\ ys.length < sizeLine /\ ∃ m', m' < xs.length - i /\ m' = xs.length - (i + 1) /\ i + 1 <= xs.length /\ Pv (i + 1) (ys ++ [v]) (upd H3 p (.lst (ys ++ [v]))))
  (hd : ∀ ys H, Pv xs.length ys H -> Z H) :
  ∃ W : Nat -> Nat -> List V -> Hp -> Prop, (∃ m, W 0 m [] (upd H p (.lst []))) /\ ∀ i m ys H, W i m ys H ->
   ((Itn K a).stop i H /\ Z H) \/ ((Itn K a).go i H /\ ∀ u H', (Itn K a).yld i H u H' -> ∃ T x y, u = .ref T /\ SqT K H' T [x, y] /\
     te (some x :: some y :: σ) H' fun v H3 => H3 p = some (.lst ys) /\ ys.length < sizeLine /\ ∃ m', m' < m /\ W (i + 1) m' (ys ++ [v]) (upd H3 p (.lst (ys ++ [v])))) := by
 refine ⟨fun i m ys H => m = xs.length - i /\ i <= xs.length /\ Pv i ys H, ⟨xs.length, by simp, Nat.zero_le _, h0⟩, ?_⟩
 rintro i m ys H ⟨rfl, hi, pv⟩
 have q := hl i ys H hi pv
 by_cases hlt : i < xs.length
 · refine .inr ⟨⟨xs, xs[i], q, by simp [hlt]⟩, fun u H' y => ?_⟩
   obtain ⟨T, x, rfl, hT, rfl, y⟩ := y
   exact ⟨T, .int i, x, rfl, SqT.of upd_same, hs i x ys H _ (y xs q) pv (same_new hT _)⟩
 · have e : i = xs.length := by omega
   subst e
   exact .inl ⟨⟨xs, q, Nat.le_refl _⟩, hd ys H pv⟩
theorem comp_zipN {K : PySem.W.Frag} {a b p : Addr} {xs zs : List V} {te : TE} {σ : St} {H : Hp} {Z : Hp -> Prop} (hlz : xs.length = zs.length) (Pv : Nat -> List V -> Hp -> Prop) (h0 : Pv 0 [] (upd H p (.lst []))) (hl : ∀ i ys H, i <= xs.length -> Pv i ys H -> SqL K H a xs /\ SqL K H b zs)
  (hs : ∀ i x z ys H H', xs[i]? = some x -> zs[i]? = some z -> Pv i ys H -> Same H H' -> te (some x :: some z :: σ) H' fun v H3 => H3 p = some (.lst ys) /\ ys.length < sizeLine /\ ∃ m', m' < xs.length - i /\ m' = xs.length - (i + 1) /\ i + 1 <= xs.length /\ Pv (i + 1) (ys ++ [v]) (upd H3 p (.lst (ys ++ [v]))))
  (hd : ∀ ys H, Pv xs.length ys H -> Z H) :
  ∃ W : Nat -> Nat -> List V -> Hp -> Prop, (∃ m, W 0 m [] (upd H p (.lst []))) /\ ∀ i m ys H, W i m ys H ->
   ((Itz K a b).stop i H /\ Z H) \/ ((Itz K a b).go i H /\ ∀ u H', (Itz K a b).yld i H u H' -> ∃ T x y, u = .ref T /\ SqT K H' T [x, y] /\
     te (some x :: some y :: σ) H' fun v H3 => H3 p = some (.lst ys) /\ ys.length < sizeLine /\ ∃ m', m' < m /\ W (i + 1) m' (ys ++ [v]) (upd H3 p (.lst (ys ++ [v])))) := by
 refine ⟨fun i m ys H => m = xs.length - i /\ i <= xs.length /\ Pv i ys H, ⟨xs.length, by simp, Nat.zero_le _, h0⟩, ?_⟩
 rintro i m ys H ⟨rfl, hi, pv⟩
 obtain ⟨qa, qb⟩ := hl i ys H hi pv
 by_cases hlt : i < xs.length
 · have hlt' : i < zs.length := by omega
   refine .inr ⟨⟨xs, zs, xs[i], zs[i], qa, qb, by simp [hlt], by simp [hlt']⟩, fun u H' y => ?_⟩
   obtain ⟨T, x, z, rfl, hT, rfl, yx, yz⟩ := y
   exact ⟨T, x, z, rfl, SqT.of upd_same, hs i x z ys H _ (yx xs qa) (yz zs qb) pv (same_new hT _)⟩
 · have e : i = xs.length := by omega
   subst e
   exact .inl ⟨⟨xs, zs, qa, qb, .inl (Nat.le_refl _)⟩, hd ys H pv⟩
theorem pi_enumK {X : Cx} {K : PySem.W.Frag} {elts : List Expr} {k : Nat} {tp : Pos} {a : Expr} {ta : TA} {p pos : Pos} (h : X.K = K) (hg : Gl X "enumerate") (hm : X.mg "enumerate" = none) (ha : PA X [a] ta) (hs : starEach [a] X.env = [(false, eval a X.env)] := by rfl) :
  PI X (.Tuple elts k tp) (.Call (.Name "enumerate" p) [a] [] pos) (iEnum K ta) := by subst h; exact pi_enum hg hm ha hs
theorem pi_zipK {X : Cx} {K : PySem.W.Frag} {elts : List Expr} {k : Nat} {tp : Pos} {a b : Expr} {ta : TA} {p pos : Pos} (h : X.K = K) (hg : Gl X "zip") (hm : X.mg "zip" = none) (ha : PA X [a, b] ta) (hs : starEach [a, b] X.env = [(false, eval a X.env), (false, eval b X.env)] := by rfl)
  (hs2 : starEach [b] X.env = [(false, eval b X.env)] := by rfl) : PI X (.Tuple elts k tp) (.Call (.Name "zip" p) [a, b] [] pos) (iZip K ta) := by subst h; exact pi_zip hg hm ha hs hs2
theorem pg_pairK {X : Cx} {K : PySem.W.Frag} {x y : Str} {i j k : Nat} {p q pos : Pos} (h : X.K = K) (hc : X.calm = true) (h1 : PG X (.Name x p) (gName i)) (h2 : PG X (.Name y q) (gName j)) : PG X (.Tuple [.Name x p, .Name y q] k pos) (gPair K i j) := by subst h; exact pg_pair hc h1 h2
theorem pe_comp2K {X : Cx} {K : PySem.W.Frag} {M : List Str} {x y : Str} {sc : Scope} {px py tp pos : Pos} {k : Nat} {elt iter : Expr} {wi : TI} {te : TE} (h : X.K = K) (S : CompScope2 X.N M X.env.scope x y sc) (hc : X.calm = true) (hi : PI X (.Tuple [.Name x px, .Name y py] k tp) iter wi)
  (he : ∀ fp s3 H3, PE (cxComp2 X M x y sc fp s3 H3) elt te) (hs : ∀ x, foldedSetIterable iter X.env x = pure x := by intro _; rfl) : PE X (.ListComp elt [⟨.Tuple [.Name x px, .Name y py] k tp, iter, [], 0⟩] sc pos) (tComp2 K wi te) := by subst h; exact pe_comp2 S hc hi he hs
def rCat0 (K : PySem.W.Frag) : R2 := fun x y H Q => ∃ a b ys, x = .ref a /\ y = .ref b /\ SqT K H a [] /\ SqT K H b ys /\ Q (.ref b) H
theorem op_catT0 {X : Cx} : OpR X (binaryOp .Add) (rCat0 X.K) := by
 intro pins s σ H x y v u Q I rx ry h
 obtain ⟨a, b, ys, rfl, rfl, ha, hb, q⟩ := h
 cases rx
 cases ry
 obtain ⟨its, r1, p1, _⟩ := I.tuple ha
 obtain ⟨its2, r2, p2, _⟩ := I.tuple hb
 have e0 : its = [] := r1.nil_iff.mpr rfl
 subst e0
 obtain ⟨⟨c, dd, dt, sl⟩, ho, hc, n, hd⟩ := p1
 obtain ⟨⟨c2, dd2, dt2, sl2⟩, ho2, hc2, n2, hd2⟩ := p2
 replace hc : c = .type "tuple" := hc
 replace hd : dt = .seq ([] : List Value).toArray n := hd
 replace hc2 : c2 = .type "tuple" := hc2
 replace hd2 : dt2 = .seq its2.toArray n2 := hd2
 subst hc hd hc2 hd2
 exact concat_meets ⟨_, ho, rfl⟩ ⟨_, ho2, rfl⟩ noFill_tuple_add seq_tuple_add PySem.F.slot_tuple_add PySem.F.entry_tuple_add (PySem.F.args_tuple_add_2 _ _) (tuple_addW0 a b ([] : List Value).toArray its2.toArray n n2 dd dd2 sl sl2 rfl) ⟨ho, ho2, ⟨.ref b, H, I, rfl, q⟩⟩
def rCatA (K : PySem.W.Frag) : R2 := fun x y H Q => rCatT K x y H Q \/ rCat0 K x y H Q
theorem op_catTA {X : Cx} {K : PySem.W.Frag} (h : X.K = K) : OpR X (binaryOp .Add) (rCatA K) := by subst h; exact OpR.or op_catT op_catT0
end L2
set_option Elab.async false
set_option linter.all false
set_option maxRecDepth 100000
set_option maxHeartbeats 4000000
namespace L2
open PySem PySem.Spec PyProof.Rows
def flipI (f : Int) : Int := if f % 2 = 0 then f + 1 else f - 1
def worthI (ns : List Int) (f : Int) : Int := if f % 2 = 0 then ns.getD (f / 2).toNat 0 else -(ns.getD (f / 2).toNat 0)
def hashI (k seed : Int) : Int := (seed * 48271 % 65537) * (seed * 48271 % 65537 + 2 * k + 1) / 7 % 65521
def cellI (ns : List Int) (k : Int) : Int :=
 if k < ns.length then ns.getD k.toNat 0 else hashI k (if 0 < ns.length then k * 7919 + ns.getD (k % ns.length).toNat 0 % 65537 else k * 7919)
def bigI (c : Int) : Int := if c % 4 = 3 then c / 4 % (2 * 10 ^ 60 + 1) - 10 ^ 60 else c / 4 % 21 - 10
def pointI (ns : List Int) (k : Int) (n : Nat) : List Int := (List.range n).map fun (i : Nat) => bigI (cellI ns (k + (i : Int)))
theorem pointI_length (ns : List Int) (k : Int) (n : Nat) : (pointI ns k n).length = n := by simp [pointI]
theorem pointI_succ (ns : List Int) (k : Int) (n : Nat) : pointI ns k (n + 1) = pointI ns k n ++ [bigI (cellI ns (k + (n : Int)))] := by simp [pointI, List.range_succ]
theorem flipI_eq (f : Int) : f + 1 - f % 2 * 2 = flipI f := by unfold flipI; split <;> omega
theorem worthI_flip (ns : List Int) {f : Int} : worthI ns (flipI f) = -worthI ns f := by
 unfold worthI flipI
 by_cases h : f % 2 = 0
 · have e : (f + 1) / 2 = f / 2 := by omega
   rw [if_pos h, if_neg (by omega), if_pos h, e]
 · have e : (f - 1) / 2 = f / 2 := by omega
   rw [if_neg h, if_pos (by omega), if_neg h, e, Int.neg_neg]
theorem worthI_eq (ns : List Int) (f : Int) : ns.getD (f / 2).toNat 0 * (1 - f % 2 * 2) = worthI ns f := by
 unfold worthI
 by_cases h : f % 2 = 0
 · rw [if_pos h, h]; simp
 · have e : f % 2 = 1 := by omega
   rw [if_neg h, e]; omega
theorem eqvAll_ints : ∀ (a b : List Int), PyData.eqvAll (a.map PyData.int) (b.map PyData.int) = decide (a = b)
 | [], [] => by simp [PyData.eqvAll]
 | [], _ :: _ => by simp [PyData.eqvAll]
 | _ :: _, [] => by simp [PyData.eqvAll]
 | x :: a, y :: b => by
  rw [List.map_cons, List.map_cons, PyData.eqvAll, eqvAll_ints a b, PyData.eqv, Bool.eq_iff_iff]
  simp
theorem depth_ints : ∀ (a : List Int), PyData.depthAll (a.map PyData.int) <= 1
 | [] => by simp [PyData.depthAll]
 | x :: a => by
  have := depth_ints a
  simp [PyData.depthAll, PyData.depth]
  omega
structure Bl (mg : Str -> Option Value) : Prop where
 len : mg "len" = none
 isinstance : mg "isinstance" = none
 int : mg "int" = none
 bool : mg "bool" = none
 tuple : mg "tuple" = none
 range : mg "range" = none
 list : mg "list" = none
 sum : mg "sum" = none
 str : mg "str" = none
 enumerate : mg "enumerate" = none
 zip : mg "zip" = none
 min : mg "min" = none
 max : mg "max" = none
def sp_flipped (K : PySem.W.Frag) : Sp := fun vs H Q _ => ∃ f, vs = [.int f] /\ Q (.int (flipI f)) H
abbrev sp__law_flip := sp_flipped
def sp_worth (K : PySem.W.Frag) : Sp := fun vs H Q _ => ∃ (a : Addr) (ns : List Int) (f : Int), vs = [.ref a, .int f] /\ SqT K H a (ns.map V.int) /\ 0 <= f /\ f < 2 * ns.length /\ Q (.int (worthI ns f)) H
abbrev sp__law_worth := sp_worth
def sp__law_cell (K : PySem.W.Frag) : Sp := fun vs H Q _ => ∃ (a : Addr) (ns : List Int) (k : Int), vs = [.ref a, .int k] /\ SqL K H a (ns.map V.int) /\ 0 <= k /\ Q (.int (cellI ns k)) H
def sp__law_whole (K : PySem.W.Frag) : Sp := fun vs H Q _ => ∃ i, vs = [.int i] /\ Q (.bl true) H
def sp__law_big (K : PySem.W.Frag) : Sp := fun vs H Q _ => ∃ c, vs = [.int c] /\ Q (.int (bigI c)) H
def sp__law_point (K : PySem.W.Frag) : Sp := fun vs H Q _ => ∃ (a : Addr) (ns : List Int) (k : Int) (n : Nat), vs = [.ref a, .int k, .int n] /\ SqL K H a (ns.map V.int) /\ 0 <= k /\ n <= 100 /\
 ∀ p H', H p = none -> Same H H' -> H' p = some (.tup ((pointI ns k n).map V.int)) -> Q (.ref p) H'
def sp__law_side_like (K : PySem.W.Frag) : Sp := fun vs H Q _ => ∃ (a b : Addr) (ms ns : List Int), vs = [.ref a, .ref b] /\ H a = some (.tup (ms.map V.int)) /\ SqT K H b (ns.map V.int) /\ Q (.bl (decide (ms = ns))) H
def sp_law (K : PySem.W.Frag) : Sp := fun vs H Q _ => ∃ (a : Addr) (ns : List Int), vs = [.ref a] /\ SqL K H a (ns.map V.int) /\ ns.length <= 63 /\ ∀ H', Q (.bl true) H'
def cellAt (K : PySem.W.Frag) (a : Addr) (ns : List Int) : Sp := fun vs H Q _ => ∃ k, vs = [.ref a, .int k] /\ 0 <= k /\ SqL K H a (ns.map V.int) /\ Q (.int (cellI ns k)) H
theorem cellAt_of {K : PySem.W.Frag} {a : Addr} {ns : List Int} : ∀ vs H Q E, cellAt K a ns vs H Q E -> sp__law_cell K vs H Q E := fun vs H Q E ⟨k, e, h0, hS, q⟩ => ⟨a, ns, k, e, hS, h0, q⟩
theorem pt_of (ns : List Int) (k : Int) (n : Nat) : ∃ xs : List Int, pointI ns k n = xs /\ xs.length = n := ⟨_, rfl, pointI_length ns k n⟩
abbrev Tb := Oct.Tb
abbrev Sdn := Oct.Sdn
def sideV (s : Sdn) : List V := [.int (s.1 : Nat), .int (s.2.1 : Nat), .int s.2.2]
def SideAt (H : Hp) (v : V) (s : Sdn) : Prop := ∃ a, v = .ref a /\ H a = some (.tup (sideV s))
theorem SideAt.same {H H' : Hp} (e : Same H H') {v : V} {s : Sdn} (h : SideAt H v s) : SideAt H' v s := let ⟨a, h1, h2⟩ := h; ⟨a, h1, e _ _ h2⟩
theorem SideAt.put {H : Hp} {p : Addr} {zs ws : List V} (hp : H p = some (.lst zs)) {v : V} {s : Sdn} (h : SideAt H v s) : SideAt (upd H p (.lst ws)) v s := let ⟨a, h1, h2⟩ := h; ⟨a, h1, by rw [upd_ne (ne_of h2 hp (by intro z; cases z))]; exact h2⟩
theorem sides_same {H H' : Hp} (e : Same H H') {xs : List V} {ss : List Sdn} (h : Paired (SideAt H) xs ss) : Paired (SideAt H') xs ss := Paired.mapP h fun _ _ z => z.same e
theorem sides_put {H : Hp} {p : Addr} {zs ws : List V} (hp : H p = some (.lst zs)) {xs : List V} {ss : List Sdn} (h : Paired (SideAt H) xs ss) : Paired (SideAt (upd H p (.lst ws))) xs ss := Paired.mapP h fun _ _ z => z.put hp
theorem paired_snoc {α β : Type} {R : α -> β -> Prop} {a : α} {b : β} : ∀ {xs : List α} {ys : List β}, Paired R xs ys -> R a b -> Paired R (xs ++ [a]) (ys ++ [b])
 | _, _, .nil, r => .cons r .nil
 | _, _, .cons q t, r => .cons q (paired_snoc t r)
theorem same_over {H H' : Hp} {p : Addr} {o : HO} (h : H p = none) (s : Same H H') : Same H (upd H' p o) := fun b u q => by
 rw [upd_ne (ne_of_none q h)]; exact s b u q
structure TabNew (H H' : Hp) (p : Addr) (bs : List Addr) (t : Tbl) : Prop where
 tab : TabAt H' p bs t
 newT : H p = none
 newL : ∀ b ∈ bs, H b = none
theorem TabNew.of {H H1 H' : Hp} {p : Addr} {bs : List Addr} {t : Tbl} (s : Same H H1) (T : TabNew H1 H' p bs t) : TabNew H H' p bs t := ⟨T.tab, s.free T.newT, fun b hb => s.free (T.newL b hb)⟩
def ShapeAt (H : Hp) (v : V) (N : Nat) : Option Tb -> Prop
 | none => v = .non
 | some c => ∃ a bs, v = .ref a /\ TabAt H a bs (Oct.toT N c)
def ShapeNew (H H' : Hp) (v : V) (N : Nat) : Option Tb -> Prop
 | none => v = .non
 | some c => ∃ a bs, v = .ref a /\ TabNew H H' a bs (Oct.toT N c)
theorem ShapeNew.at {H H' : Hp} {v : V} {N : Nat} : ∀ {o : Option Tb}, ShapeNew H H' v N o -> ShapeAt H' v N o
 | none, h => h
 | some _, ⟨a, bs, e, T⟩ => ⟨a, bs, e, T.tab⟩
theorem ShapeNew.of {H H1 H' : Hp} (s : Same H H1) {v : V} {N : Nat} : ∀ {o : Option Tb}, ShapeNew H1 H' v N o -> ShapeNew H H' v N o
 | none, h => h
 | some _, ⟨a, bs, e, T⟩ => ⟨a, bs, e, T.of s⟩
theorem flip_nat (f : Nat) : flipI (f : Int) = ((Oct.fl f : Nat) : Int) := by unfold flipI Oct.fl; split <;> split <;> omega
theorem mod_nat (c : Int) {n : Nat} (h : 1 <= n) : ∃ f : Nat, c % (2 * (n : Int)) = (f : Int) /\ f < 2 * n :=
 ⟨(c % (2 * (n : Int))).toNat, by have := Int.emod_nonneg c (b := 2 * (n : Int)) (by omega); omega, by have := Int.emod_nonneg c (b := 2 * (n : Int)) (by omega); have := Int.emod_lt_of_pos c (b := 2 * (n : Int)) (by omega); omega⟩
def wN (xs : List Int) : Nat -> Int := fun f => worthI xs (f : Int)
theorem wN_pt (xs : List Int) (N : Nat) : Oct.Pt (wN xs) N := fun f _ => by unfold wN; rw [← flip_nat]; exact worthI_flip xs
theorem TabAt.rd {H : Hp} {a : Addr} {bs : List Addr} {N f : Nat} {c : Tb} (T : TabAt H a bs (Oct.toT N c)) (h : f < N) : ∃ b, bs[f]? = some b /\ H b = some (.lst ((Oct.ln N (c f)).map eV)) /\ atI (bs.map V.ref) (f : Int) = some (.ref b) := T.line (Oct.rows_get h)
theorem ln_at {N g : Nat} {r : Nat -> Ent} (h : g < N) : atI ((Oct.ln N r).map eV) (g : Int) = some (eV (r g)) := at_line (Oct.ln_get h)
theorem TabAt.lenN {H : Hp} {a : Addr} {bs : List Addr} {i N : Nat} {c : Tb} (T : TabAt H a bs (Oct.rows i N c)) : bs.length = i := by rw [T.len, Oct.rows_len]
theorem TabAt.store {H : Hp} {a b : Addr} {bs : List Addr} {N f : Nat} {c : Tb} {r : Nat -> Ent} (T : TabAt H a bs (Oct.toT N c)) (eb : bs[f]? = some b) : TabAt (upd H b (.lst ((Oct.ln N r).map eV))) a bs (Oct.toT N fun x => if x = f then r else c x) := by
 have := T.put (r' := Oct.ln N r) eb
 rwa [Oct.toT, Oct.rows_set] at this
theorem TabAt.stepL {H : Hp} {a : Addr} {bs : List Addr} {i : Nat} {x : V} {t : Tbl} (T : TabAt H a bs t) (hx : (bs.map V.ref)[i]? = some x) : ∃ b r, x = .ref b /\ bs[i]? = some b /\ t[i]? = some r /\ H b = some (.lst (r.map eV)) := by
 rw [List.getElem?_map] at hx
 cases e : bs[i]? with
 | none => rw [e] at hx; cases hx
 | some b =>
  rw [e] at hx
  obtain ⟨r, er, hb⟩ := paired_get' T.lines e
  exact ⟨b, r, (Option.some.inj hx).symm, rfl, er, hb⟩
theorem TabAt.rowN {H : Hp} {a : Addr} {bs : List Addr} {i N : Nat} {c : Tb} {x : V} (T : TabAt H a bs (Oct.toT N c)) (hx : (bs.map V.ref)[i]? = some x) : i < N /\ ∃ b, x = .ref b /\ bs[i]? = some b /\ H b = some (.lst ((Oct.ln N (c i)).map eV)) := by
 obtain ⟨b, r, e1, e2, e3, e4⟩ := T.stepL hx
 have hi : i < N := by have := (List.getElem?_eq_some_iff.mp e3).1; rwa [Oct.rows_len] at this
 rw [Oct.rows_get hi] at e3
 cases e3
 exact ⟨hi, b, e1, e2, e4⟩
theorem ln_item {N i : Nat} {r : Nat -> Ent} {x : V} (hx : ((Oct.ln N r).map eV)[i]? = some x) : i < N /\ x = eV (r i) := by
 rw [List.getElem?_map] at hx
 by_cases hi : i < N
 · rw [Oct.ln_get hi] at hx
   exact ⟨hi, (Option.some.inj hx).symm⟩
 · rw [List.getElem?_eq_none (by rw [Oct.ln_len]; omega)] at hx; cases hx
theorem ln_lenV (N : Nat) (r : Nat -> Ent) : ((Oct.ln N r).map eV).length = N := by rw [List.length_map, Oct.ln_len]
theorem ln_snocV (N : Nat) (r : Nat -> Ent) : (Oct.ln N r).map eV ++ [eV (r N)] = (Oct.ln (N + 1) r).map eV := by rw [Oct.ln_succ, List.map_append]; rfl
theorem lowL_snoc (s : Sdn) : ∀ (ss : List Sdn) (c : Tb), Oct.lowL c (ss ++ [s]) = Oct.low1 (Oct.lowL c ss) s.1 s.2.1 s.2.2
 | [], _ => rfl
 | t :: r, c => lowL_snoc s r _
theorem links_snoc (h : Nat) : ∀ (hs : List Nat) (c : Tb), Oct.links c (hs ++ [h]) = Oct.lnk (Oct.links c hs) h
 | [], _ => rfl
 | t :: r, c => links_snoc h r _
theorem hsOf_succ (N : Nat) : Oct.hsOf (N + 1) = Oct.hsOf N ++ [Oct.fl N] := by simp [Oct.hsOf, List.range_succ]
def belowE (e : Ent) (z : Int) : Bool := match e with
 | some x => decide (x < z)
 | none => false
def sp_below (K : PySem.W.Frag) : Sp := fun vs H Q _ => ∃ (e : Ent) (z : Int), vs = [eV e, .int z] /\ Q (.bl (belowE e z)) H
def sp_lesser (K : PySem.W.Frag) : Sp := fun vs H Q _ => ∃ a b : Ent, vs = [eV a, eV b] /\ Q (eV (Oct.minE a b)) H
def sp_summed (K : PySem.W.Frag) : Sp := fun vs H Q _ => ∃ a b : Ent, vs = [eV a, eV b] /\ Q (eV (Oct.addE a b)) H
def sp_half (K : PySem.W.Frag) : Sp := fun vs H Q _ => ∃ a : Ent, vs = [eV a] /\ Q (eV (Oct.hlf a)) H
def sp_wide_row (K : PySem.W.Frag) : Sp := fun vs H Q _ => ∃ f N : Nat, vs = [.int f, .int N] /\ N <= 1000 /\ ∀ p H', H p = none -> Same H H' -> H' p = some (.lst ((Oct.ln N (Oct.wideT f)).map eV)) -> Q (.ref p) H'
def sp_wide (K : PySem.W.Frag) : Sp := fun vs H Q _ => ∃ n : Nat, vs = [.int n] /\ n <= 100 /\ ∀ p bs H', Same H H' -> TabNew H H' p bs (Oct.toT (2 * n) Oct.wideT) -> Q (.ref p) H'
def sp_linked_row (K : PySem.W.Frag) : Sp := fun vs H Q _ => ∃ (a : Addr) (e : Ent) (b : Addr) (N : Nat) (r o : Nat -> Ent), vs = [.ref a, eV e, .ref b] /\ SqL K H a ((Oct.ln N r).map eV) /\ SqL K H b ((Oct.ln N o).map eV) /\ N <= 1000 /\
 ∀ p H', H p = none -> Same H H' -> H' p = some (.lst ((Oct.ln N fun g => Oct.minE (r g) (Oct.addE e (o g))).map eV)) -> Q (.ref p) H'
abbrev sp_row_within_halves := sp_linked_row
def sp_linked_through (K : PySem.W.Frag) : Sp := fun vs H Q _ => ∃ (a : Addr) (bs : List Addr) (N : Nat) (c : Tb) (m : Nat), vs = [.ref a, .int m] /\ TabAt H a bs (Oct.toT N c) /\ N <= 1000 /\ m < N /\ Oct.fl m < N /\
 ∀ p bs' H', Same H H' -> TabNew H H' p bs' (Oct.toT N (Oct.lnk c (Oct.fl m))) -> Q (.ref p) H'
def sp_linked_through_all (K : PySem.W.Frag) : Sp := fun vs H Q _ => ∃ (a : Addr) (bs : List Addr) (n : Nat) (c : Tb), vs = [.ref a] /\ TabAt H a bs (Oct.toT (2 * n) c) /\ n <= 100 /\
 ∀ p bs' H', Same H H' -> TabAt H' p bs' (Oct.toT (2 * n) (Oct.links c (Oct.hsOf (2 * n)))) -> Q (.ref p) H'
def sp_tightened (K : PySem.W.Frag) : Sp := fun vs H Q _ => ∃ (a : Addr) (bs : List Addr) (n : Nat) (c : Tb), vs = [.ref a] /\ TabAt H a bs (Oct.toT (2 * n) c) /\ n <= 100 /\ (∀ f, f < 2 * n -> Oct.leE (c f (Oct.fl f)) (some 0)) /\
 ∀ v H', Same H H' -> ShapeNew H H' v (2 * n) (Oct.shapeO (2 * n) c) -> Q v H'
def sp_lowered (K : PySem.W.Frag) : Sp := fun vs H Q _ => ∃ (a b : Addr) (bs : List Addr) (n : Nat) (c : Tb) (ys : List V) (ss : List Sdn), vs = [.ref a, .ref b] /\ TabAt H a bs (Oct.toT (2 * n) c) /\ SqL K H b ys /\ Paired (SideAt H) ys ss /\ (∀ s ∈ ss, s.1 < 2 * n /\ s.2.1 < 2 * n) /\ n <= 100 /\
 ∀ p bs' H', Same H H' -> TabNew H H' p bs' (Oct.toT (2 * n) (Oct.lowL c ss)) -> Q (.ref p) H'
def heldO (N : Nat) (o : Option Tb) (ss : List Sdn) : Option Tb := o.bind fun c => Oct.shapeO N (Oct.lowL c ss)
def DiagO (N : Nat) : Option Tb -> Prop
 | none => True
 | some c => ∀ f, f < N -> Oct.leE (c f (Oct.fl f)) (some 0)
def sp_held_by_all (K : PySem.W.Frag) : Sp := fun vs H Q _ => ∃ (v : V) (b : Addr) (n : Nat) (o : Option Tb) (ys : List V) (ss : List Sdn), vs = [v, .ref b] /\ ShapeAt H v (2 * n) o /\ DiagO (2 * n) o /\ SqL K H b ys /\ Paired (SideAt H) ys ss /\ (∀ s ∈ ss, s.1 < 2 * n /\ s.2.1 < 2 * n) /\ n <= 100 /\
 ∀ u H', Same H H' -> ShapeNew H H' u (2 * n) (heldO (2 * n) o ss) -> Q u H'
def closedO (n : Nat) (ss : List Sdn) : Option Tb := Oct.shapeO (2 * n) (Oct.lowL Oct.wideT ss)
def sp_closed (K : PySem.W.Frag) : Sp := fun vs H Q _ => ∃ (b : Addr) (n : Nat) (ys : List V) (ss : List Sdn), vs = [.int n, .ref b] /\ SqL K H b ys /\ Paired (SideAt H) ys ss /\ (∀ s ∈ ss, s.1 < 2 * n /\ s.2.1 < 2 * n) /\ n <= 100 /\
 ∀ u H', Same H H' -> ShapeNew H H' u (2 * n) (closedO n ss) -> Q u H'
def Grow (H H' : Hp) (p : Addr) (ys : List V) (t : Tbl) : Prop := ∃ bs, ys = bs.map V.ref /\ TabNew H H' p bs t /\ Same H H'
theorem Grow.start {H : Hp} {p : Addr} (hp : H p = none) : Grow H (upd H p (.lst [])) p [] [] :=
 ⟨[], rfl, ⟨⟨upd_same, List.nodup_nil, by simp, .nil⟩, hp, by simp⟩, same_new hp _⟩
theorem Grow.same {H H' : Hp} {p : Addr} {ys : List V} {t : Tbl} (G : Grow H H' p ys t) : Same H H' := let ⟨_, _, _, s⟩ := G; s
theorem Grow.len {H H' : Hp} {p : Addr} {ys : List V} {t : Tbl} (G : Grow H H' p ys t) : ys.length = t.length := by
 obtain ⟨bs, rfl, T, _⟩ := G
 rw [List.length_map, T.tab.len]
theorem Grow.step {H H1 H2 : Hp} {p b : Addr} {ys : List V} {t : Tbl} {r : List Ent} (G : Grow H H1 p ys t) (hb : H1 b = none) (sm : Same H1 H2) (hl : H2 b = some (.lst (r.map eV))) :
  H2 p = some (.lst ys) /\ Grow H (upd H2 p (.lst (ys ++ [.ref b]))) p (ys ++ [.ref b]) (t ++ [r]) := by
 obtain ⟨bs, rfl, T, s⟩ := G
 have hpb : p ≠ b := ne_of_none T.tab.at_ hb
 refine ⟨sm _ _ T.tab.at_, bs ++ [b], by simp, ⟨T.tab.grow hb (fun c o hc e => by rw [upd_ne hc]; exact sm c o e) (by rw [upd_ne (Ne.symm hpb)]; exact hl) upd_same, T.newT, fun c hc => ?_⟩, same_over T.newT (s.trans sm)⟩
 rcases List.mem_append.mp hc with z | z
 · exact T.newL c z
 · rw [List.mem_singleton.mp z]; exact s.free hb
theorem belowE_neg0 (e : Ent) : belowE e 0 = Oct.neg0 e := by cases e <;> rfl
theorem at_nat {xs : List V} {j : Nat} {v : V} (h : xs[j]? = some v) : atI xs (j : Int) = some v := atI_nat h
theorem take_succ_of {α : Type} {l : List α} {i : Nat} {x : α} (h : l[i]? = some x) : l.take (i + 1) = l.take i ++ [x] := by rw [List.take_add_one, h]; rfl
theorem low1_tab {H : Hp} {p b1 : Addr} {bs : List Addr} {N f g : Nat} {c : Tb} {z : Int} (T : TabAt H p bs (Oct.toT N c)) (hf : f < N) (hg : g < N) (e1 : bs[f]? = some b1) :
  ∃ b2 r2, bs[g]? = some b2 /\ upd H b1 (.lst ((Oct.ln N fun y => if y = g then Oct.minE (c f g) (some z) else c f y).map eV)) b2 = some (.lst ((Oct.ln N r2).map eV)) /\
   TabAt (upd (upd H b1 (.lst ((Oct.ln N fun y => if y = g then Oct.minE (c f g) (some z) else c f y).map eV))) b2 (.lst ((Oct.ln N fun x => if x = f then Oct.minE (r2 f) (some z) else r2 x).map eV))) p bs (Oct.toT N (Oct.low1 c f g z)) /\
   TabAt (upd H b1 (.lst ((Oct.ln N fun y => if y = g then Oct.minE (c f g) (some z) else c f y).map eV))) p bs (Oct.toT N fun a => if a = f then (fun y => if y = g then Oct.minE (c f g) (some z) else c f y) else c a) := by
 have T1 := T.store (r := fun y => if y = g then Oct.minE (c f g) (some z) else c f y) e1
 obtain ⟨b2, e2, h2, _⟩ := T1.rd hg
 refine ⟨b2, _, e2, h2, ?_, T1⟩
 have T2 := T1.store (f := g) (r := fun x => if x = f then Oct.minE ((if g = f then (fun y => if y = g then Oct.minE (c f g) (some z) else c f y) else c g) f) (some z) else (if g = f then (fun y => if y = g then Oct.minE (c f g) (some z) else c f y) else c g) x) e2
 rw [Oct.low1_rows N c f g z] at T2
 exact T2
theorem at_of {fs : List Int} {i : Nat} {y : V} (hi : (fs.map V.int)[i]? = some y) : ∃ h : i < fs.length, y = .int fs[i] := by
 have hil : i < fs.length := by
  have := (List.getElem?_eq_some_iff.mp hi).1
  rwa [List.length_map] at this
 refine ⟨hil, ?_⟩
 rw [List.getElem?_map, List.getElem?_eq_getElem hil] at hi
 exact (Option.some.inj hi).symm
theorem cut_ints (ns : List Int) (lo hi : Option Int) : ∃ cs : List Int, cutV (ns.map V.int) lo hi = cs.map V.int /\ cs.length <= ns.length := by
 refine ⟨(ns.drop (HT.sIx ns.length 0 lo)).take (HT.sIx ns.length ns.length hi - HT.sIx ns.length 0 lo), ?_, ?_⟩
 · simp [cutV, List.map_take, List.map_drop]
 · simp; omega
def sp__law_cells (K : PySem.W.Frag) : Sp := fun vs H Q _ => ∃ (a : Addr) (ns : List Int) (at_ room : Nat), vs = [.ref a, .int at_, .int room] /\ SqL K H a (ns.map V.int) /\ ns.length <= 63 /\ ∀ p H' (cs : List Int), Same H H' -> H p = none -> H' p = some (.lst (cs.map V.int)) -> 4 <= cs.length -> cs.length <= 100 -> Q (.ref p) H'
def sp__law_sides (K : PySem.W.Frag) : Sp := fun vs H Q _ => ∃ (a pt : Addr) (cs xs : List Int) (n : Nat) (lo : Int), vs = [.ref a, .int n, .ref pt, .int lo] /\ SqL K H a (cs.map V.int) /\ SqT K H pt (xs.map V.int) /\ xs.length = n /\ 1 <= n /\ n <= 6 /\ cs.length <= 100 /\
 ∀ p H' ys ss, Same H H' -> H p = none -> H' p = some (.lst ys) -> Paired (SideAt H') ys ss -> (∀ s ∈ ss, s.1 < 2 * n /\ s.2.1 < 2 * n) -> (0 <= lo -> ∀ s ∈ ss, wN xs s.1 + wN xs s.2.1 <= s.2.2) -> ss.length = cs.length -> Q (.ref p) H'
def sdD (s : Sdn) : PyData := .tuple [.int (s.1 : Nat), .int (s.2.1 : Nat), .int s.2.2]
theorem dt_sides {K : PySem.W.Frag} {H : Hp} : ∀ {xs : List V} {ss : List Sdn}, Paired (SideAt H) xs ss -> DtAll K H (ss.map sdD) xs
 | _, _, .nil => DtAll.nil
 | _, _, .cons ⟨a, e, h⟩ t => by subst e; exact DtAll.cons (Dt.tup (SqT.of h) (.cons .int (.cons .int (.cons .int .nil)))) (dt_sides t)
theorem lay_sides : ∀ (ss : List Sdn), PyData.canLayAll0 (ss.map sdD) = true
 | [] => by simp [PyData.canLayAll0]
 | s :: r => by simp [PyData.canLayAll0, PyData.canLay0, sdD]; simpa using lay_sides r
theorem depth_sides : ∀ (ss : List Sdn), PyData.depthAll (ss.map sdD) <= 10
 | [] => by simp [PyData.depthAll]
 | s :: r => by
  have := depth_sides r
  simp [PyData.depthAll, PyData.depth, sdD]
  omega
theorem eqv_sides (ss : List Sdn) : PyData.eqv (.list (ss.map sdD)) (.list (ss.map sdD)) = true := SeqAt.eqv_refl _ (by rw [PyData.canLay0]; exact lay_sides _)
theorem depth_sidesL (ss : List Sdn) : (PyData.list (ss.map sdD)).depth <= 60 := by
 have := depth_sides ss
 simp only [PyData.depth]
 omega
theorem dt_sidesL {K : PySem.W.Frag} {H : Hp} {a : Addr} {xs : List V} {ss : List Sdn} (h : SqL K H a xs) (p : Paired (SideAt H) xs ss) : Dt K H (.list (ss.map sdD)) (.ref a) := .lst h (dt_sides p)
theorem closed_some {n : Nat} {ss : List Sdn} {w : Nat -> Int} (p : Oct.Pt w (2 * n)) (hk : ∀ s ∈ ss, w s.1 + w s.2.1 <= s.2.2) : ∃ c, closedO n ss = some c := by
 have l0 : Oct.Lies w Oct.wideT (2 * n) := fun f g hf hg => by
  unfold Oct.wideT Oct.tab
  by_cases h : g = Oct.fl f
  · rw [if_pos h, h, p f hf]; simp [Oct.leE]; omega
  · rw [if_neg h]; trivial
 exact Oct.shape_of_good (fun f hf => Oct.fl_lt hf) (Oct.pt_good p) (Oct.le_lowL ss _ l0 fun s hs => by
  have := hk s hs
  constructor <;> simp [Oct.tab, Oct.leE] <;> omega)
theorem closed_facts {n : Nat} {ss : List Sdn} {c : Tb} (hin : ∀ s ∈ ss, s.1 < 2 * n /\ s.2.1 < 2 * n) (h : closedO n ss = some c) : Oct.Shp c (2 * n) /\ ∀ s ∈ ss, Oct.Keeps c s := by
 have even : ∀ f, f < 2 * n -> Oct.fl f < 2 * n := fun f hf => Oct.fl_lt hf
 have sy := Oct.lowL_sym ss _ (Oct.wide_sym (2 * n))
 have z : ∀ f, f < 2 * n -> Oct.leE (Oct.lowL Oct.wideT ss f (Oct.fl f)) (some 0) := fun f hf => Oct.leE_trans (Oct.lowL_le ss _ f _) (by unfold Oct.wideT; rw [if_pos rfl]; exact Oct.leE_refl _)
 exact ⟨Oct.shape_shp even z sy h, ((Oct.le_lowL_iff hin).mp (Oct.shape_good even sy h).2.1).2⟩
end L2
set_option Elab.async false
set_option linter.all false
set_option maxRecDepth 100000
set_option maxHeartbeats 4000000
namespace L2
open PySem PySem.Spec PyProof.Rows
end L2
set_option linter.all false
namespace Oct
end Oct
set_option Elab.async false
set_option linter.all false
set_option maxRecDepth 100000
set_option maxHeartbeats 4000000
namespace L2
open PySem PySem.Spec PyProof.Rows
section
variable {X : Cx}
end
section
variable {X : Cx} {es : List Expr} {te : TE} {t : TA}
theorem pa_Constant {c : Const} {k : Nat} {p : Pos} (ha : PE X (.Constant c k p) te) (hr : PA X es t) : PA X (.Constant c k p :: es) (tCons te t) := pa_cons ha hr (by rfl)
theorem pa_Name {x : Str} {p : Pos} (ha : PE X (.Name x p) te) (hr : PA X es t) : PA X (.Name x p :: es) (tCons te t) := pa_cons ha hr (by rfl)
theorem pa_BinOp {a b : Expr} {o : Operator} {p : Pos} (ha : PE X (.BinOp a o b p) te) (hr : PA X es t) : PA X (.BinOp a o b p :: es) (tCons te t) := pa_cons ha hr (by rfl)
theorem pa_UnaryOp {a : Expr} {o : UnaryOp} {p : Pos} (ha : PE X (.UnaryOp o a p) te) (hr : PA X es t) : PA X (.UnaryOp o a p :: es) (tCons te t) := pa_cons ha hr (by rfl)
theorem pa_Call {f : Expr} {as : List Expr} {ks : List Keyword} {p : Pos} (ha : PE X (.Call f as ks p) te) (hr : PA X es t) : PA X (.Call f as ks p :: es) (tCons te t) := pa_cons ha hr (by rfl)
theorem pa_Subscript {a b : Expr} {p : Pos} (ha : PE X (.Subscript a b p) te) (hr : PA X es t) : PA X (.Subscript a b p :: es) (tCons te t) := pa_cons ha hr (by rfl)
theorem pa_List {as : List Expr} {p : Pos} (ha : PE X (.List as p) te) (hr : PA X es t) : PA X (.List as p :: es) (tCons te t) := pa_cons ha hr (by rfl)
theorem pa_Tuple {as : List Expr} {k : Nat} {p : Pos} (ha : PE X (.Tuple as k p) te) (hr : PA X es t) : PA X (.Tuple as k p :: es) (tCons te t) := pa_cons ha hr (by rfl)
end
def intsOf : List Expr -> Option (List Int)
 | [] => some []
 | .Constant (.int i) _ _ :: es => (intsOf es).map (i :: ·)
 | _ :: _ => none
def tVals (vs : List V) : TA := fun _ H Q => Q vs H
theorem pa_ints {X : Cx} : ∀ {es : List Expr} {ns : List Int}, intsOf es = some ns -> PA X es (tVals (ns.map V.int))
 | [], ns, h => by
  cases h
  exact pa_nil
 | x :: es, ns, h => by
  unfold intsOf at h
  split at h
  · rename_i e; cases e
  · rename_i i k p es' e
    cases e
    cases e2 : intsOf es with
    | none => rw [e2] at h; cases h
    | some ms =>
     rw [e2] at h
     have h' : i :: ms = ns := Option.some.inj h
     subst h'
     exact pa_cons (te := tC (.int i)) pe_int (pa_ints e2) (by rfl)
  · cases h
theorem ps_pick (X : Cx) (K : PySem.W.Frag) (i : Nat) (x : Str) (es : List Expr) (ns : List Int) (idx : Expr) (ti : TE) (p p2 p3 pos : Pos) (hK : X.K = K) (hN : X.N.Nodup) (hi : X.N[i]? = some x) (hx : Loc X.env.scope x) (he : intsOf es = some ns) (hidx : PE X idx ti) (hpl : PlainIx idx)
  (hf : X.fn x = true \/ X.env.scope.names.lookup x = some .local) : PS X (.Assign [.Name x p] (.Subscript (.List es p2) idx p3) pos) (tAsg (tOp (rIxL K) (tLst (tVals (ns.map V.int))) ti) (gName i)) :=
 ps_set hN hi hx (pe_ix (ix_listK hK) (pe_lst (pa_ints he)) hidx hpl) (by rfl) hf
end L2
set_option linter.all false
set_option maxHeartbeats 4000000
namespace Oct
end Oct
set_option Elab.async false
set_option linter.all false
set_option maxRecDepth 100000
set_option maxHeartbeats 4000000
namespace L2
open PySem PySem.Spec PyProof.Rows
section
variable {P : Program} {w : World} {A : Around} {R : Result -> Shared -> Prop}
end
section
variable {P : Program} {w : World} {A : Around} {s : Shared} {E : Value -> Shared -> Prop} {Q : Value -> Shared -> Prop}
end
section
variable {P : Program} {w : World} {A : Around} {R : Result -> Shared -> Prop}
end
section
variable {P : Program} {w : World} {A : Around} {s : Shared} {E : Value -> Shared -> Prop} {Q : Value -> Shared -> Prop}
end
section
variable {X : Cx} {K : PySem.W.Frag} {e d : Expr} {ta tk : TA} {p kp pos : Pos}
end
end L2
set_option Elab.async false
set_option linter.all false
set_option maxRecDepth 100000
set_option maxHeartbeats 4000000
namespace L2
open PySem PySem.Spec PyProof.Rows
open Sem (wp)
open Builtin Builtin.Str
section
variable {prog : Program} {w : World} {A : Around} {E : Value -> Shared -> Prop} {s : Shared}
open AutoSeq1 (wpAny_loadPart')
end
end L2
set_option Elab.async false
set_option linter.all false
set_option maxRecDepth 100000
set_option maxHeartbeats 4000000
namespace L2
open PySem PySem.Spec PyProof.Rows
end L2
set_option Elab.async false
set_option linter.all false
set_option maxRecDepth 100000
set_option maxHeartbeats 4000000
namespace L2
open PySem PySem.Spec PyProof.Rows
end L2
set_option Elab.async false
set_option linter.all false
set_option maxRecDepth 100000
set_option maxHeartbeats 4000000
namespace L2
open PySem PySem.Spec PyProof.Rows
section
variable {X : Cx} {CX : CXT} {k : Nat} {m x : Str} {ps : List Str} {sp : Sp} {E : XK} {e o : Expr} {es : List Expr} {t : TA} {ta : TE} {p pos apos : Pos} {f C : Addr} {K : PySem.W.Frag}
end
theorem comp_tupN {K : PySem.W.Frag} {a p : Addr} {xs : List V} {tc : TT} {te : TE} {σ : St} {H : Hp} {Z : Hp -> Prop} (Pv : Nat -> List V -> Hp -> Prop) (h0 : Pv 0 [] (upd H p (.lst []))) (hl : ∀ i ys H, i <= xs.length -> Pv i ys H -> SqT K H a xs)
  (hs : ∀ i x ys H, xs[i]? = some x -> Pv i ys H -> tc (some x :: σ) H fun b H2 =>
   if b = true then te (some x :: σ) H2 fun v H3 => H3 p = some (.lst ys) /\ ys.length < sizeLine /\ ∃ m', m' < xs.length - i /\ m' = xs.length - (i + 1) /\ i + 1 <= xs.length /\ Pv (i + 1) (ys ++ [v]) (upd H3 p (.lst (ys ++ [v]))) else ∃ m', m' < xs.length - i /\ m' = xs.length - (i + 1) /\ i + 1 <= xs.length /\ Pv (i + 1) ys H2)
  (hd : ∀ ys H, Pv xs.length ys H -> Z H) :
  ∃ W : Nat -> Nat -> List V -> Hp -> Prop, (∃ m, W 0 m [] (upd H p (.lst []))) /\ ∀ i m ys H, W i m ys H ->
   ((Itt K a).stop i H /\ Z H) \/ ((Itt K a).go i H /\ ∀ x H', (Itt K a).yld i H x H' -> tc (some x :: σ) H' fun b H2 =>
     if b = true then te (some x :: σ) H2 fun v H3 => H3 p = some (.lst ys) /\ ys.length < sizeLine /\ ∃ m', m' < m /\ W (i + 1) m' (ys ++ [v]) (upd H3 p (.lst (ys ++ [v])))
     else ∃ m', m' < m /\ W (i + 1) m' ys H2) := by
 refine ⟨fun i m ys H => m = xs.length - i /\ i <= xs.length /\ Pv i ys H, ⟨xs.length, by simp, Nat.zero_le _, h0⟩, ?_⟩
 rintro i m ys H ⟨rfl, hi, pv⟩
 have q := hl i ys H hi pv
 by_cases hlt : i < xs.length
 · refine .inr ⟨⟨xs, xs[i], q, by simp [hlt]⟩, fun x H' y => ?_⟩
   obtain ⟨e, y⟩ := y
   subst e
   exact hs i x ys _ (y xs q) pv
 · have e : i = xs.length := by omega
   subst e
   exact .inl ⟨⟨xs, q, Nat.le_refl _⟩, hd ys H pv⟩
section
variable {X : Cx} {x : Str} {px pos : Pos} {sc : Scope} {M : List Str} {elt iter : Expr} {wi : TI} {te : TE}
end
end L2
set_option Elab.async false
set_option linter.all false
set_option maxRecDepth 100000
set_option maxHeartbeats 4000000
namespace L2
open PySem PySem.Spec PyProof.Rows
section
variable {P : Program} {w : World} {A : Around} {s : Shared} {E : Value -> Shared -> Prop} {Q : Value -> Shared -> Prop}
end
variable {X : Cx}
end L2
set_option Elab.async false
set_option linter.all false
set_option maxRecDepth 100000
set_option maxHeartbeats 4000000
namespace L2
open PySem PySem.Spec PyProof.Rows
section
variable {prog : Program} {w : World} {A : Around} {E : Value -> Shared -> Prop} {s : Shared}
end
section
variable {X : Cx} {pos : Pos}
end
end L2
set_option Elab.async false
set_option linter.all false
set_option maxRecDepth 100000
set_option maxHeartbeats 4000000
namespace L2
open PySem PySem.Spec PyProof.Rows
section
variable {X : Cx} {M : List Str} {x : Str} {sc : Scope} {px pos : Pos} {elt iter : Expr} {ifs : List Expr} {wi : TI} {tc : TT} {te : TE}
end
section
variable {X : Cx} {K : PySem.W.Frag} {n k : Nat} {x : Str} {ps : List Str} {sp : Sp} {a b e : Expr} {es : List Expr} {t : TA} {ta tb te : TE} {p pos pos' : Pos}
theorem pe_dz (F : Def X.prog X.w X.K X.mg X.base CX0 x k ps sp) (hr : Room n X.A) (ha : PA X (e :: es) t) (hk : k <= n := by decide) (hg : Gl X x := by rfl)
  (hdb : (x == ("__debug__" : Str)) = false := by decide) (he : starEach (e :: es) X.env = (false, eval e X.env) :: starEach es X.env := by rfl) (hpl : (backTo pos (starEach es X.env)).any (·.1) = false := by rfl) :
  PE X (.Call (.Name x p) (e :: es) [] pos) (tCall sp [] E0 t) := pe_def F (hr.mono hk) hg pass0 ha hdb he hpl
theorem ps_sz (i : Nat) (hN : X.N.Nodup) (he : PE X e te) (hi : X.N[i]? = some x := by rfl) (hx : Loc X.env.scope x := by first | exact Or.inl rfl | exact Or.inr rfl) (hs : swapsWith e (some (.Name x pos')) pos.line X.env = pure false := by rfl) (hf : X.fn x = true \/ X.env.scope.names.lookup x = some .local := by first | exact .inl rfl | exact .inr rfl | assumption) :
  PS X (.Assign [.Name x pos'] e pos) (tAsg te (gName i)) := ps_set hN hi hx he hs hf
theorem pg_nz (i : Nat) (hN : X.N.Nodup) (hi : X.N[i]? = some x := by rfl) (hx : Loc X.env.scope x := by first | exact Or.inl rfl | exact Or.inr rfl) (hf : X.fn x = true \/ X.env.scope.names.lookup x = some .local := by first | exact .inl rfl | exact .inr rfl | assumption) : PG X (.Name x pos) (gName i) := pg_name hN hi hx hf
theorem pe_xL (ha : PE X a ta) (hb : PE X b tb) (h : X.K = K := by rfl) (hs : PlainIx b := by exact fun _ _ => rfl) : PE X (.Subscript a b pos) (tOp (rIxL K) ta tb) := pe_ix (ix_listK h) ha hb hs
theorem pe_xT (ha : PE X a ta) (hb : PE X b tb) (h : X.K = K := by rfl) (hs : PlainIx b := by exact fun _ _ => rfl) : PE X (.Subscript a b pos) (tOp (rIxT K) ta tb) := pe_ix (ix_tupK h) ha hb hs
end
abbrev Ha (K : PySem.W.Frag) (x : Str) (f : Addr) : Prop := PySem.W.nsIn K mainGlobals x = some (some (.ref f))
abbrev Hl (K : PySem.W.Frag) (f : Addr) (x q : Str) (st : Stmt) (oc : Value) (od : Option Addr) (kV dc pm : Value) (an : Option Addr) (cd ct : Value) (sl : Array (Option Value)) : Prop := K.lookup f = some ⟨oc, od, .func (PySem.W.fnOf x q (defArgs st) (defBody st) (defScope st) .none kV dc pm an cd ct), sl⟩
abbrev Hc (K : PySem.W.Frag) (cd : Value) (x : Str) : Prop := PySem.W.codeIn K cd x = true
abbrev Hk (K : PySem.W.Frag) (f : Addr) : Prop := PySem.W.keepIn K (.ref f) = true
abbrev Hm (K : PySem.W.Frag) (Z : Addr) (m : Str) (f : Addr) : Prop := PySem.W.findIn K (.ref Z) m = some (some (.ref f))
abbrev Hi (K : PySem.W.Frag) (f : Addr) : Prop := PySem.W.isFn K (.ref f) = true
abbrev Hz (K : PySem.W.Frag) (x : Str) : Prop := PySem.W.nsIn K mainGlobals x = some none
end L2
set_option Elab.async false
set_option linter.all false
set_option maxRecDepth 100000
set_option maxHeartbeats 4000000
namespace L2
open PySem PySem.Spec PyProof.Rows
structure ICls (K : PySem.W.Frag) (C : Addr) : Prop where
 ga : PySem.W.plainGet K C "__class__" = true
 hd : PySem.W.hasDictIn K C = true
 ca : PySem.W.findIn K (.ref C) "__class__" = some (some (.builtin "object.__class__"))
 gt : PySem.W.specialIn K (.builtin "object.__class__") "__get__" = some (some (.builtin "getset_descriptor.__get__"))
 tk : PySem.W.takesIn K (.builtin "object.__class__") = some true
 ob : PySem.W.mroIn K C (.type "object") = some true
end L2
set_option linter.all false
namespace Ring
abbrev Ent := Option Int
theorem pigeon : ∀ (N : Nat) (p : Nat -> Nat), (∀ i, i <= N -> p i < N) -> ∃ i j, i < j /\ j <= N /\ p i = p j
 | 0, p, h => absurd (h 0 (Nat.le_refl _)) (by omega)
 | N + 1, p, h => by
  by_cases e : ∃ i, i <= N /\ p i = p (N + 1)
  · obtain ⟨i, hi, e⟩ := e
    exact ⟨i, N + 1, by omega, Nat.le_refl _, e⟩
  · have ne : ∀ i, i <= N -> p i ≠ p (N + 1) := fun i hi q => e ⟨i, hi, q⟩
    have ha := h (N + 1) (Nat.le_refl _)
    obtain ⟨i, j, h1, h2, h3⟩ := pigeon N (fun i => if p i > p (N + 1) then p i - 1 else p i) (fun i hi => by
     have := ne i hi
     have := h i (by omega)
     split <;> omega)
    refine ⟨i, j, h1, by omega, ?_⟩
    have n1 := ne i (by omega)
    have n2 := ne j (by omega)
    split at h3 <;> split at h3 <;> omega
def sumTo (v : Nat -> Int) : Nat -> Int
 | 0 => 0
 | k + 1 => sumTo v k + v k
theorem sumTo_add (v : Nat -> Int) (i : Nat) : ∀ k, sumTo v (i + k) = sumTo v i + sumTo (fun t => v (i + t)) k
 | 0 => by simp [sumTo]
 | k + 1 => by
  show sumTo v (i + k) + v (i + k) = sumTo v i + (sumTo (fun t => v (i + t)) k + v (i + k))
  rw [sumTo_add v i k]
  omega
theorem sumTo_congr {v u : Nat -> Int} : ∀ {k : Nat}, (∀ i, i < k -> v i = u i) -> sumTo v k = sumTo u k
 | 0, _ => rfl
 | k + 1, h => by
  show sumTo v k + v k = sumTo u k + u k
  rw [sumTo_congr fun i hi => h i (by omega), h k (by omega)]
def Walk (e : Nat -> Nat -> Ent) (N k x y : Nat) (s : Int) : Prop := ∃ (p : Nat -> Nat) (v : Nat -> Int), p 0 = x /\ p k = y /\ (∀ i, i <= k -> p i < N) /\ (∀ i, i < k -> e (p i) (p (i + 1)) = some (v i)) /\ s = sumTo v k
variable {e : Nat -> Nat -> Ent} {N : Nat}
theorem Walk.stand {x : Nat} (h : x < N) : Walk e N 0 x x 0 := ⟨fun _ => x, fun _ => 0, rfl, rfl, fun _ _ => h, fun i hi => absurd hi (by omega), rfl⟩
theorem Walk.snoc {k x m y : Nat} {s w : Int} (W : Walk e N k x m s) (hy : y < N) (he : e m y = some w) : Walk e N (k + 1) x y (s + w) := by
 obtain ⟨p, v, p0, pk, hp, hv, rfl⟩ := W
 refine ⟨fun i => if i <= k then p i else y, fun i => if i < k then v i else w, by simp [p0], by show (if k + 1 <= k then p (k + 1) else y) = y; rw [if_neg (by omega)], fun i hi => ?_, fun i hi => ?_, ?_⟩
 · dsimp only
   split
   · exact hp i ‹_›
   · exact hy
 · dsimp only
   by_cases h : i < k
   · rw [if_pos (by omega), if_pos (by omega), if_pos h]; exact hv i h
   · have : i = k := by omega
     subst this
     rw [if_pos (Nat.le_refl _), if_neg (by omega), if_neg h, pk]; exact he
 · show sumTo v k + w = sumTo (fun i => if i < k then v i else w) k + (if k < k then v k else w)
   rw [if_neg (Nat.lt_irrefl _), sumTo_congr (v := fun i => if i < k then v i else w) (u := v) fun i hi => by simp [hi]]
theorem Walk.last {k x y : Nat} {s : Int} (W : Walk e N (k + 1) x y s) : ∃ m t w, Walk e N k x m t /\ m < N /\ y < N /\ e m y = some w /\ s = t + w := by
 obtain ⟨p, v, p0, pk, hp, hv, rfl⟩ := W
 exact ⟨p k, sumTo v k, v k, ⟨p, v, p0, rfl, fun i hi => hp i (by omega), fun i hi => hv i (by omega), rfl⟩, hp k (by omega), by rw [← pk]; exact hp (k + 1) (Nat.le_refl _), by rw [← pk]; exact hv k (by omega), rfl⟩
theorem Walk.app {k j x m y : Nat} {s t : Int} (W : Walk e N k x m s) (V : Walk e N j m y t) : Walk e N (k + j) x y (s + t) := by
 induction j generalizing y t with
 | zero =>
  obtain ⟨p, v, p0, pk, hp, hv, rfl⟩ := V
  have : m = y := by rw [← p0, ← pk]
  subst this
  simpa [sumTo] using W
 | succ j ih =>
  obtain ⟨z, u, w, V', _, hy, he, rfl⟩ := V.last
  have := (ih V').snoc hy he
  rw [Int.add_assoc] at this
  exact this
def NoRing (e : Nat -> Nat -> Ent) (N : Nat) : Prop := ∀ k x s, k <= N -> Walk e N k x x s -> 0 <= s
theorem Walk.cut (h : NoRing e N) : ∀ (k : Nat) {x y : Nat} {s : Int}, Walk e N k x y s -> ∃ k' s', k' <= N /\ s' <= s /\ Walk e N k' x y s' := by
 intro k
 induction k using Nat.strongRecOn with
 | ind k ih =>
  intro x y s W
  by_cases hk : k <= N
  · exact ⟨k, s, hk, Int.le_refl _, W⟩
  · obtain ⟨p, v, p0, pk, hp, hv, rfl⟩ := W
    obtain ⟨i, j, hij, hj, pij⟩ := pigeon N p fun i hi => hp i (by omega)
    have ring : Walk e N (j - i) (p i) (p i) (sumTo (fun t => v (i + t)) (j - i)) :=
     ⟨fun t => p (i + t), fun t => v (i + t), rfl, by show p (i + (j - i)) = p i; rw [show i + (j - i) = j by omega, pij], fun t ht => hp _ (by omega), fun t ht => hv (i + t) (by omega), rfl⟩
    have r0 := h _ _ _ (by omega) ring
    have head : Walk e N i x (p i) (sumTo v i) := ⟨p, v, p0, rfl, fun t ht => hp t (by omega), fun t ht => hv t (by omega), rfl⟩
    have tail : Walk e N (k - j) (p i) y (sumTo (fun t => v (j + t)) (k - j)) :=
     ⟨fun t => p (j + t), fun t => v (j + t), pij.symm, by show p (j + (k - j)) = y; rw [show j + (k - j) = k by omega, pk], fun t ht => hp _ (by omega), fun t ht => hv (j + t) (by omega), rfl⟩
    obtain ⟨k', s', h1, h2, W'⟩ := ih (i + (k - j)) (by omega) (head.app tail)
    refine ⟨k', s', h1, ?_, W'⟩
    have e1 := sumTo_add v i (j - i)
    have e2 := sumTo_add v j (k - j)
    rw [show i + (j - i) = j by omega] at e1
    rw [show j + (k - j) = k by omega] at e2
    omega
structure Least (e : Nat -> Nat -> Ent) (N t : Nat) (c : Nat -> Nat -> Ent) : Prop where
 is : ∀ x y s, x < N -> y < N -> c x y = some s -> ∃ k, k <= t /\ Walk e N k x y s
 le : ∀ k x y s, x < N -> y < N -> k <= t -> Walk e N k x y s -> Oct.leE (c x y) (some s)
theorem Least.tri {c : Nat -> Nat -> Ent} (L : Least e N N c) (h : NoRing e N) {x m y : Nat} (hx : x < N) (hm : m < N) (hy : y < N) : Oct.leE (c x y) (Oct.addE (c x m) (c m y)) := by
 cases e1 : c x m with
 | none => cases c x y <;> simp [Oct.addE, Oct.leE]
 | some s =>
  cases e2 : c m y with
  | none => cases c x y <;> simp [Oct.addE, Oct.leE]
  | some t =>
   obtain ⟨k, _, W⟩ := L.is x m s hx hm e1
   obtain ⟨j, _, V⟩ := L.is m y t hm hy e2
   obtain ⟨k', s', h1, h2, W'⟩ := Walk.cut h _ (W.app V)
   exact Oct.leE_trans (L.le k' x y s' hx hy h1 W') h2
theorem Least.zero {c : Nat -> Nat -> Ent} {t : Nat} (L : Least e N t c) (h : NoRing e N) (ht : t <= N) {x : Nat} (hx : x < N) : c x x = some 0 := by
 have z := L.le 0 x x 0 hx hx (Nat.zero_le _) (Walk.stand hx)
 cases e1 : c x x with
 | none => rw [e1] at z; exact absurd z (by simp [Oct.leE])
 | some s =>
  rw [e1] at z
  have z' : s <= 0 := z
  obtain ⟨k, hk, W⟩ := L.is x x s hx hx e1
  have := h k x s (by omega) W
  rw [show s = 0 by omega]
open Oct (fl)
def edge (d : Nat -> Nat -> Ent) : Nat -> Nat -> Ent := fun x y => d x (fl y)
theorem Walk.cons {k x m y : Nat} {s w : Int} (W : Walk e N k m y s) (hx : x < N) (he : e x m = some w) : Walk e N (k + 1) x y (w + s) := by
 have hm : m < N := by obtain ⟨p, v, p0, _, hp, _⟩ := W; rw [← p0]; exact hp 0 (Nat.zero_le _)
 have := (Walk.stand (e := e) hx).snoc hm he
 have := this.app W
 rw [Int.zero_add, Nat.zero_add, Nat.add_comm] at this
 exact this
theorem Walk.rev {d : Nat -> Nat -> Ent} (even : ∀ f, f < N -> fl f < N) (sy : ∀ f g, f < N -> g < N -> d f g = d g f) : ∀ (k : Nat) {x y : Nat} {s : Int}, x < N -> Walk (edge d) N k x y s -> Walk (edge d) N k (fl y) (fl x) s
 | 0, x, y, s, hx, W => by
  obtain ⟨p, v, p0, pk, hp, hv, rfl⟩ := W
  have : x = y := by rw [← p0, ← pk]
  subst this
  exact Walk.stand (even _ hx)
 | k + 1, x, y, s, hx, W => by
  obtain ⟨m, t, w, V, hm, hy, he, rfl⟩ := W.last
  have R := Walk.rev even sy k hx V
  have : edge d (fl y) (fl m) = some w := by
   show d (fl y) (fl (fl m)) = some w
   rw [Oct.fl_fl, sy _ _ (even _ hy) hm]
   exact he
  have := R.cons (even _ hy) this
  rw [Int.add_comm] at this
  exact this
theorem point_of {n : Nat} {d : Nat -> Nat -> Ent} {c : Nat -> Nat -> Ent} (sy : ∀ f g, f < 2 * n -> g < 2 * n -> d f g = d g f) (L : Least (edge d) (2 * n) (2 * n) c) (nr : NoRing (edge d) (2 * n))
  (hh : ∀ f, f < 2 * n -> Oct.leE (some 0) (Oct.addE (Oct.hlf (c f (fl f))) (Oct.hlf (c (fl f) f)))) : ∃ w, Oct.Pt w (2 * n) /\ ∀ f g, f < 2 * n -> g < 2 * n -> Oct.leE (some (w f + w g)) (d f g) := by
 have even : ∀ f, f < 2 * n -> fl f < 2 * n := fun f hf => Oct.fl_lt hf
 have leS : ∀ f g, f < 2 * n -> g < 2 * n -> Oct.leE (c f (fl g)) (c g (fl f)) := fun f g hf hg => by
  cases e1 : c g (fl f) with
  | none => cases c f (fl g) <;> simp [Oct.leE]
  | some s =>
   obtain ⟨k, hk, W⟩ := L.is g (fl f) s hg (even _ hf) e1
   have := W.rev even sy k hg
   rw [Oct.fl_fl] at this
   exact L.le k f (fl g) s hf (even _ hg) hk this
 have S : Oct.Sym (fun f g => c f (fl g)) (2 * n) := fun f g hf hg => Oct.leE_antisymm (leS f g hf hg) (leS g f hg hf)
 have C : Oct.Closed (fun f g => c f (fl g)) (2 * n) := fun h hh f g hf hg => L.tri nr hf (even _ hh) (even _ hg)
 have hz : ∀ f, f < 2 * n -> c f (fl (fl f)) = some 0 := fun f hf => by rw [Oct.fl_fl]; exact L.zero nr (Nat.le_refl _) hf
 have H : ∀ f, f < 2 * n -> Oct.leE (some 0) (Oct.addE (Oct.hv (fun f g => c f (fl g)) f) (Oct.hv (fun f g => c f (fl g)) (fl f))) := fun f hf => by
  show Oct.leE (some 0) (Oct.addE (Oct.hlf (c f (fl f))) (Oct.hlf (c (fl f) (fl (fl f)))))
  rw [Oct.fl_fl]
  exact hh f hf
 have T := Oct.strong_tight even C S H
 obtain ⟨w, p, l⟩ := Oct.has_point T fun f hf => by rw [Oct.strong_zero (t := fun f g => c f (fl g)) (hz f hf) (H f hf)]; exact Oct.leE_refl _
 refine ⟨w, p, fun f g hf hg => ?_⟩
 have l1 : Oct.leE (some (w f + w g)) (c f (fl g)) := Oct.leE_trans (l f g hf hg) (Oct.strong_le _ f g)
 cases e1 : d f g with
 | none => trivial
 | some z =>
  have W := (Walk.stand (e := edge d) hf).snoc (even _ hg) (show edge d f (fl g) = some z by show d f (fl (fl g)) = some z; rw [Oct.fl_fl]; exact e1)
  rw [Int.zero_add] at W
  have n0 : 0 < 2 * n := by omega
  exact Oct.leE_trans l1 (L.le 1 f (fl g) z hf (even _ hg) (by omega) W)
end Ring
set_option Elab.async false
set_option linter.all false
set_option maxRecDepth 100000
set_option maxHeartbeats 4000000
namespace T
open PySem L2
def top (i : Nat) : Stmt := PySem.Challenge.pw_eightsides_k14_ring_walked.main.body.getD i (.Pass ⟨0, 0, 0, 0⟩)
abbrev s_flipped : Stmt := top 1
abbrev s_ring : Stmt := top 3
abbrev s_standing_walks : Stmt := top 4
abbrev s_standing_row : Stmt := top 5
abbrev s_single_walks : Stmt := top 6
abbrev s_take_leg : Stmt := top 7
abbrev s_is_less : Stmt := top 8
abbrev s_lengthened_row : Stmt := top 9
abbrev s_lengthened : Stmt := top 10
abbrev s_ring_of_one : Stmt := top 11
abbrev s_ring_of_two : Stmt := top 12
abbrev s_below : Stmt := top 14
abbrev s_lesser : Stmt := top 15
abbrev s_summed : Stmt := top 16
abbrev s_half : Stmt := top 17
abbrev s_wide : Stmt := top 19
abbrev s_wide_row : Stmt := top 20
abbrev s_closed : Stmt := top 21
abbrev s_held_by_all : Stmt := top 22
abbrev s_lowered : Stmt := top 23
abbrev s_tightened : Stmt := top 24
abbrev s_row_within_halves : Stmt := top 25
abbrev s_linked_through_all : Stmt := top 26
abbrev s_linked_through : Stmt := top 27
abbrev s_linked_row : Stmt := top 28
abbrev s__law_cell : Stmt := top 30
abbrev s__law_whole : Stmt := top 31
abbrev s__law_big : Stmt := top 32
abbrev s__law_point : Stmt := top 33
abbrev s__law_worth : Stmt := top 34
abbrev s__law_flip : Stmt := top 35
abbrev s__law_side_like : Stmt := top 36
abbrev s__law_cells : Stmt := top 37
abbrev s__law_sides : Stmt := top 38
abbrev s__law_chain : Stmt := top 39
abbrev s__law_bells : Stmt := top 40
abbrev s__law_between : Stmt := top 41
abbrev s__law_walked : Stmt := top 42
abbrev s__law_ring_good : Stmt := top 43
abbrev s_law : Stmt := top 44
abbrev Leg := Nat × Nat × Nat
abbrev Wk := Int × List Leg
abbrev Wt := Nat -> Nat -> Option Wk
def smW (o : Option Wk) : Ent := o.map Prod.fst
def lessW (s : Int) : Option Wk -> Bool
 | none => true
 | some w => decide (s < w.1)
def KeptS (w : Nat -> Int) (ss : List Sdn) : Prop := ∀ s ∈ ss, w s.1 + w s.2.1 <= s.2.2
def LegOk (ss : List Sdn) (l : Leg) (c : Int) : Prop := ∃ sd, ss[l.1]? = some sd /\ ((sd.1 = l.2.1 /\ sd.2.1 = l.2.2) \/ (sd.1 = l.2.2 /\ sd.2.1 = l.2.1)) /\ sd.2.2 = c
def numS (ss : List Sdn) (l : List Leg) : Int := (l.map fun g => ((ss[g.1]?).getD (0, 0, 0)).2.2).sum
structure Wky (ss : List Sdn) (N f g : Nat) (s : Int) (l : List Leg) : Prop where
 ok : ∀ x ∈ l, ∃ c, LegOk ss x c
 lnk : ∀ (k : Nat) (a b : Leg), l[k]? = some a -> l[k + 1]? = some b -> b.2.1 = Oct.fl a.2.2
 emp : l = [] -> g = Oct.fl f /\ s = 0
 fst : ∀ a, l[0]? = some a -> a.2.1 = f
 lst : ∀ a, l[l.length - 1]? = some a -> a.2.2 = g
 sum : s = numS ss l
 pt : ∀ w, Oct.Pt w N -> KeptS w ss -> w f + w g <= s
theorem Wky.stand {ss : List Sdn} {N f : Nat} (hf : f < N) : Wky ss N f (Oct.fl f) 0 [] where
 ok := fun x h => (by cases h)
 lnk := fun k a b h => (by simp at h)
 emp := fun _ => ⟨rfl, rfl⟩
 fst := fun a h => (by simp at h)
 lst := fun a h => (by simp at h)
 sum := rfl
 pt := fun w p _ => by have := p f hf; omega
theorem Wky.snoc {ss : List Sdn} {N f m g p : Nat} {s c : Int} {l : List Leg} (W : Wky ss N f m s l) (hm : m < N) (h : LegOk ss (p, Oct.fl m, g) c) : Wky ss N f g (s + c) (l ++ [(p, Oct.fl m, g)]) where
 ok := fun x hx => by
  rcases List.mem_append.mp hx with z | z
  · exact W.ok x z
  · rw [List.mem_singleton.mp z]; exact ⟨c, h⟩
 lnk := fun k a b h1 h2 => by
  by_cases hk : k + 1 < l.length
  · rw [List.getElem?_append_left (by omega)] at h1
    rw [List.getElem?_append_left hk] at h2
    exact W.lnk k a b h1 h2
  · have hl : k + 1 = l.length := by
     have := (List.getElem?_eq_some_iff.mp h2).1
     simp at this
     omega
    rw [List.getElem?_append_left (by omega)] at h1
    rw [List.getElem?_append_right (by omega), hl, Nat.sub_self] at h2
    cases h2
    have := W.lst a (by rw [show l.length - 1 = k by omega]; exact h1)
    show Oct.fl m = Oct.fl a.2.2
    rw [this]
 emp := fun e => absurd e (by simp)
 fst := fun a ha => by
  cases l with
  | nil =>
   cases ha
   obtain ⟨e, _⟩ := W.emp rfl
   show Oct.fl m = f
   rw [e, Oct.fl_fl]
  | cons x r =>
   exact W.fst a (by simpa using ha)
 lst := fun a ha => by
  simp at ha
  subst ha
  rfl
 sum := by
  obtain ⟨sd, e, _, rfl⟩ := h
  rw [numS, List.map_append, List.sum_append, W.sum, numS]
  simp [e]
 pt := fun w p k => by
  have h1 := W.pt w p k
  obtain ⟨sd, e, h2, rfl⟩ := h
  have h3 := k sd (List.mem_of_getElem? e)
  have h4 := p m hm
  rcases h2 with ⟨e1, e2⟩ | ⟨e1, e2⟩ <;> dsimp only at e1 e2 <;> rw [e1, e2] at h3 <;> omega
def tk (sg : Wt) (p f g : Nat) (c : Int) : Wt := fun a b => if a = f /\ b = g then (if lessW c (sg f g) = true then some (c, [(p, f, g)]) else sg f g) else sg a b
theorem tk_at (sg : Wt) (p f g : Nat) (c : Int) : tk sg p f g c f g = if lessW c (sg f g) = true then some (c, [(p, f, g)]) else sg f g := by unfold tk; rw [if_pos ⟨rfl, rfl⟩]
theorem tk_off {sg : Wt} {p f g a b : Nat} {c : Int} (h : ¬ (a = f /\ b = g)) : tk sg p f g c a b = sg a b := by unfold tk; rw [if_neg h]
theorem tk_sm (sg : Wt) (p f g : Nat) (c : Int) : smW (tk sg p f g c f g) = Oct.minE (smW (sg f g)) (some c) := by
 rw [tk_at]
 cases e : sg f g with
 | none => simp [lessW, smW, Oct.minE]
 | some w =>
  by_cases h : c < w.1
  · rw [if_pos (by simp [lessW, h])]
    simp [smW, Oct.minE]
    omega
  · rw [if_neg (by simp [lessW, h])]
    simp [smW, Oct.minE]
    omega
structure SgI (ss : List Sdn) (k : Nat) (sg : Wt) : Prop where
 ok : ∀ f g c l, sg f g = some (c, l) -> ∃ p, p < k /\ l = [(p, f, g)] /\ LegOk ss (p, f, g) c
 le : ∀ (i : Nat) s, i < k -> ss[i]? = some s -> Oct.leE (smW (sg s.1 s.2.1)) (some s.2.2)
 sy : ∀ f g, smW (sg f g) = smW (sg g f)
theorem SgI.start (ss : List Sdn) : SgI ss 0 (fun _ _ => none) := ⟨fun _ _ _ _ e => (by cases e), fun i s h => absurd h (by omega), fun _ _ => rfl⟩
theorem SgI.step {ss : List Sdn} {k : Nat} {sg : Wt} {s : Sdn} (I : SgI ss k sg) (e : ss[k]? = some s) : SgI ss (k + 1) (tk (tk sg k s.1 s.2.1 s.2.2) k s.2.1 s.1 s.2.2) := by
 have le1 : ∀ (sg : Wt) (f g a b : Nat), Oct.leE (smW (tk sg k f g s.2.2 a b)) (smW (sg a b)) := fun sg f g a b => by
  by_cases h : a = f /\ b = g
  · obtain ⟨rfl, rfl⟩ := h
    rw [tk_sm]; exact Oct.minE_l _ _
  · rw [tk_off h]; exact Oct.leE_refl _
 have okk : ∀ (sg : Wt) (f g : Nat), LegOk ss (k, f, g) s.2.2 -> (∀ a b c l, sg a b = some (c, l) -> ∃ p, p < k + 1 /\ l = [(p, a, b)] /\ LegOk ss (p, a, b) c) -> ∀ a b c l, tk sg k f g s.2.2 a b = some (c, l) -> ∃ p, p < k + 1 /\ l = [(p, a, b)] /\ LegOk ss (p, a, b) c := fun sg f g hl h a b c l ea => by
  by_cases q : a = f /\ b = g
  · obtain ⟨rfl, rfl⟩ := q
    rw [tk_at] at ea
    split at ea
    · cases ea; exact ⟨k, by omega, rfl, hl⟩
    · exact h a b c l ea
  · rw [tk_off q] at ea; exact h a b c l ea
 refine ⟨okk _ _ _ ⟨s, e, .inr ⟨rfl, rfl⟩, rfl⟩ (okk _ _ _ ⟨s, e, .inl ⟨rfl, rfl⟩, rfl⟩ fun a b c l h => ?_), fun i t hi et => ?_, fun f g => ?_⟩
 · obtain ⟨p, hp, h1, h2⟩ := I.ok a b c l h
   exact ⟨p, by omega, h1, h2⟩
 · by_cases hk : i < k
   · exact Oct.leE_trans (le1 _ _ _ _ _) (Oct.leE_trans (le1 _ _ _ _ _) (I.le i t hk et))
   · have : i = k := by omega
     subst this
     rw [e] at et
     cases et
     refine Oct.leE_trans (le1 _ _ _ _ _) ?_
     rw [tk_sm]; exact Oct.minE_r _ _
 · have base := I.sy
   by_cases hfg : s.1 = s.2.1
   · have two : ∀ a b, smW (tk (tk sg k s.1 s.2.1 s.2.2) k s.2.1 s.1 s.2.2 a b) = if a = s.1 /\ b = s.1 then Oct.minE (smW (sg s.1 s.1)) (some s.2.2) else smW (sg a b) := fun a b => by
      rw [← hfg]
      by_cases h : a = s.1 /\ b = s.1
      · obtain ⟨rfl, rfl⟩ := h
        rw [if_pos ⟨rfl, rfl⟩, tk_sm, tk_sm]
        generalize smW (sg s.1 s.1) = x
        cases x <;> simp [Oct.minE] <;> omega
      · rw [if_neg h, tk_off h, tk_off h]
     rw [two, two]
     by_cases h : f = s.1 /\ g = s.1
     · rw [if_pos h, if_pos ⟨h.2, h.1⟩]
     · rw [if_neg h, if_neg (fun z => h ⟨z.2, z.1⟩)]; exact base f g
   · have two : ∀ a b, smW (tk (tk sg k s.1 s.2.1 s.2.2) k s.2.1 s.1 s.2.2 a b) = if (a = s.1 /\ b = s.2.1) \/ (a = s.2.1 /\ b = s.1) then Oct.minE (smW (sg a b)) (some s.2.2) else smW (sg a b) := fun a b => by
      by_cases h : a = s.2.1 /\ b = s.1
      · obtain ⟨rfl, rfl⟩ := h
        rw [if_pos (.inr ⟨rfl, rfl⟩), tk_sm, tk_off (fun z => hfg z.2)]
      · rw [tk_off h]
        by_cases h2 : a = s.1 /\ b = s.2.1
        · obtain ⟨rfl, rfl⟩ := h2
          rw [if_pos (.inl ⟨rfl, rfl⟩), tk_sm]
        · rw [if_neg (fun z => z.elim h2 h), tk_off h2]
     rw [two, two, base g f]
     by_cases h : (f = s.1 /\ g = s.2.1) \/ (f = s.2.1 /\ g = s.1)
     · rw [if_pos h, if_pos (h.elim (fun z => .inr ⟨z.2, z.1⟩) fun z => .inl ⟨z.2, z.1⟩)]
     · rw [if_neg h, if_neg (fun z => h (z.elim (fun y => .inr ⟨y.2, y.1⟩) fun y => .inl ⟨y.2, y.1⟩))]
def bestN (row : Nat -> Option Wk) (sg : Wt) (g : Nat) : Nat -> Option Wk
 | 0 => row g
 | m + 1 => match row m, sg (Oct.fl m) g with
  | some w, some l => if lessW (w.1 + l.1) (bestN row sg g m) = true then some (w.1 + l.1, w.2 ++ l.2) else bestN row sg g m
  | _, _ => bestN row sg g m
theorem less_sm {s : Int} {o : Option Wk} : (lessW s o = true -> Oct.leE (some s) (smW o)) /\ (¬ lessW s o = true -> Oct.leE (smW o) (some s)) := by
 cases o with
 | none => exact ⟨fun _ => trivial, fun h => absurd rfl h⟩
 | some w =>
  constructor
  · intro h
    have : s < w.1 := of_decide_eq_true h
    show s <= w.1
    omega
  · intro h
    have : ¬ s < w.1 := fun z => h (decide_eq_true z)
    show w.1 <= s
    omega
theorem best_down (row : Nat -> Option Wk) (sg : Wt) (g m : Nat) : Oct.leE (smW (bestN row sg g (m + 1))) (smW (bestN row sg g m)) := by
 show Oct.leE (smW (match row m, sg (Oct.fl m) g with | some w, some l => if lessW (w.1 + l.1) (bestN row sg g m) = true then some (w.1 + l.1, w.2 ++ l.2) else bestN row sg g m | _, _ => bestN row sg g m)) _
 split
 · split
   · exact less_sm.1 ‹_›
   · exact Oct.leE_refl _
 · exact Oct.leE_refl _
theorem best_row (row : Nat -> Option Wk) (sg : Wt) (g : Nat) : ∀ k, Oct.leE (smW (bestN row sg g k)) (smW (row g))
 | 0 => Oct.leE_refl _
 | k + 1 => Oct.leE_trans (best_down row sg g k) (best_row row sg g k)
theorem best_leg (row : Nat -> Option Wk) (sg : Wt) (g : Nat) : ∀ k m, m < k -> Oct.leE (smW (bestN row sg g k)) (Oct.addE (smW (row m)) (smW (sg (Oct.fl m) g)))
 | 0, m, h => absurd h (by omega)
 | k + 1, m, h => by
  by_cases hm : m < k
  · exact Oct.leE_trans (best_down row sg g k) (best_leg row sg g k m hm)
  · have : m = k := by omega
    subst this
    cases e1 : row m with
    | none => cases smW (bestN row sg g (m + 1)) <;> simp [smW, Oct.addE, Oct.leE]
    | some w =>
     cases e2 : sg (Oct.fl m) g with
     | none => cases smW (bestN row sg g (m + 1)) <;> simp [smW, Oct.addE, Oct.leE]
     | some l =>
      have : bestN row sg g (m + 1) = if lessW (w.1 + l.1) (bestN row sg g m) = true then some (w.1 + l.1, w.2 ++ l.2) else bestN row sg g m := by
       show (match row m, sg (Oct.fl m) g with | some w, some l => _ | _, _ => _) = _
       rw [e1, e2]
      rw [this]
      split
      · exact Oct.leE_refl _
      · exact less_sm.2 ‹_›
theorem best_is (row : Nat -> Option Wk) (sg : Wt) (g : Nat) : ∀ k w, bestN row sg g k = some w -> row g = some w \/ ∃ m u l, m < k /\ row m = some u /\ sg (Oct.fl m) g = some l /\ w = (u.1 + l.1, u.2 ++ l.2)
 | 0, w, h => .inl h
 | k + 1, w, h => by
  have ih := best_is row sg g k w
  have up : (row g = some w \/ ∃ m u l, m < k /\ row m = some u /\ sg (Oct.fl m) g = some l /\ w = (u.1 + l.1, u.2 ++ l.2)) -> row g = some w \/ ∃ m u l, m < k + 1 /\ row m = some u /\ sg (Oct.fl m) g = some l /\ w = (u.1 + l.1, u.2 ++ l.2) := fun z => z.imp id fun ⟨m, u, l, h1, h2⟩ => ⟨m, u, l, by omega, h2⟩
  cases e1 : row k with
  | none =>
   have : bestN row sg g (k + 1) = bestN row sg g k := by
    show (match row k, sg (Oct.fl k) g with | some w, some l => _ | _, _ => _) = _
    rw [e1]
   rw [this] at h
   exact up (ih h)
  | some u =>
   cases e2 : sg (Oct.fl k) g with
   | none =>
    have : bestN row sg g (k + 1) = bestN row sg g k := by
     show (match row k, sg (Oct.fl k) g with | some w, some l => _ | _, _ => _) = _
     rw [e1, e2]
    rw [this] at h
    exact up (ih h)
   | some l =>
    have : bestN row sg g (k + 1) = if lessW (u.1 + l.1) (bestN row sg g k) = true then some (u.1 + l.1, u.2 ++ l.2) else bestN row sg g k := by
     show (match row k, sg (Oct.fl k) g with | some w, some l => _ | _, _ => _) = _
     rw [e1, e2]
    rw [this] at h
    split at h
    · exact .inr ⟨k, u, l, by omega, e1, e2, (Option.some.inj h).symm⟩
    · exact up (ih h)
structure WtI (ss : List Sdn) (N : Nat) (sg : Wt) (t : Nat) (wt : Wt) : Prop where
 ch : ∀ f g s l, f < N -> g < N -> wt f g = some (s, l) -> Wky ss N f g s l /\ l.length <= t
 ls : Ring.Least (Ring.edge fun f g => smW (sg f g)) N t (fun x y => smW (wt x (Oct.fl y)))
def w0 : Wt := fun f g => if g = Oct.fl f then some (0, []) else none
theorem WtI.start {ss : List Sdn} {N : Nat} {sg : Wt} (even : ∀ f, f < N -> Oct.fl f < N) : WtI ss N sg 0 w0 where
 ch := fun f g s l hf hg e => by
  unfold w0 at e
  split at e
  · rename_i h
    cases e
    rw [h]
    exact ⟨Wky.stand hf, Nat.le_refl _⟩
  · cases e
 ls := {
  is := fun x y s hx hy e => by
   have e' : smW (if Oct.fl y = Oct.fl x then some (0, []) else none) = some s := e
   split at e'
   · rename_i h
     have : y = x := by rw [← Oct.fl_fl y, h, Oct.fl_fl]
     subst this
     cases e'
     exact ⟨0, Nat.le_refl _, Ring.Walk.stand hx⟩
   · cases e'
  le := fun k x y s hx hy hk W => by
   have : k = 0 := by omega
   subst this
   obtain ⟨p, v, p0, pk, hp, hv, rfl⟩ := W
   have : x = y := by rw [← p0, ← pk]
   subst this
   show Oct.leE (smW (if Oct.fl x = Oct.fl x then some (0, []) else none)) (some 0)
   rw [if_pos rfl]
   exact Oct.leE_refl _ }
theorem WtI.step {ss : List Sdn} {N t : Nat} {sg wt : Wt} (even : ∀ f, f < N -> Oct.fl f < N) (G : SgI ss ss.length sg) (hsg : ∀ f g w, sg f g = some w -> f < N /\ g < N) (I : WtI ss N sg t wt) : WtI ss N sg (t + 1) (fun f g => bestN (wt f) sg g N) where
 ch := fun f g s l hf hg e => by
  rcases best_is (wt f) sg g N (s, l) e with h | ⟨m, u, q, hm, h1, h2, h3⟩
  · obtain ⟨a, b⟩ := I.ch f g s l hf hg h
    exact ⟨a, by omega⟩
  · obtain ⟨u1, u2⟩ := u
    obtain ⟨q1, q2⟩ := q
    obtain ⟨a, b⟩ := I.ch f m u1 u2 hf hm h1
    obtain ⟨p, _, rfl, hl⟩ := G.ok _ _ _ _ h2
    cases h3
    refine ⟨a.snoc hm hl, ?_⟩
    show (u2 ++ [(p, Oct.fl m, g)]).length <= t + 1
    simp
    omega
 ls := {
  is := fun x y s hx hy e => by
   have e' : smW (bestN (wt x) sg (Oct.fl y) N) = some s := e
   cases eb : bestN (wt x) sg (Oct.fl y) N with
   | none => rw [eb] at e'; cases e'
   | some w =>
    rw [eb] at e'
    cases e'
    rcases best_is (wt x) sg (Oct.fl y) N w eb with h | ⟨m, u, q, hm, h1, h2, rfl⟩
    · obtain ⟨k, hk, W⟩ := I.ls.is x y w.1 hx hy (by show smW (wt x (Oct.fl y)) = _; rw [h]; rfl)
      exact ⟨k, by omega, W⟩
    · obtain ⟨k, hk, W⟩ := I.ls.is x (Oct.fl m) u.1 hx (even _ hm) (by show smW (wt x (Oct.fl (Oct.fl m))) = _; rw [Oct.fl_fl, h1]; rfl)
      refine ⟨k + 1, by omega, W.snoc hy ?_⟩
      show smW (sg (Oct.fl m) (Oct.fl y)) = some q.1
      rw [h2]
      rfl
  le := fun k x y s hx hy hk W => by
   show Oct.leE (smW (bestN (wt x) sg (Oct.fl y) N)) (some s)
   by_cases hk' : k <= t
   · exact Oct.leE_trans (best_row _ _ _ _) (I.ls.le k x y s hx hy hk' W)
   · have : k = t + 1 := by omega
     subst this
     obtain ⟨m, r, w, V, hm, _, he, rfl⟩ := W.last
     have h1 : Oct.leE (smW (wt x (Oct.fl m))) (some r) := I.ls.le t x m r hx hm (Nat.le_refl _) V
     have h2 : smW (sg m (Oct.fl y)) = some w := he
     have h3 := best_leg (wt x) sg (Oct.fl y) N (Oct.fl m) (even _ hm)
     rw [Oct.fl_fl, h2] at h3
     exact Oct.leE_trans h3 (Oct.add_mono h1 (Oct.leE_refl (some w))) }
def RingOk (ss : List Sdn) (N : Nat) (l1 l2 : List Leg) : Prop := l1 ≠ [] /\ l1.length <= N /\ l2.length <= N /\ ∃ f s1, f < N /\ ((l2 = [] /\ Wky ss N f (Oct.fl f) s1 l1 /\ s1 < 0) \/ ∃ s2, l2 ≠ [] /\ Wky ss N f f s1 l1 /\ Wky ss N (Oct.fl f) (Oct.fl f) s2 l2 /\ s1 / 2 + s2 / 2 < 0)
theorem RingOk.none {ss : List Sdn} {N : Nat} {l1 l2 : List Leg} (R : RingOk ss N l1 l2) {w : Nat -> Int} (p : Oct.Pt w N) (k : KeptS w ss) : False := by
 obtain ⟨_, _, _, f, s1, hf, h⟩ := R
 have pf := p f hf
 rcases h with ⟨_, W, h⟩ | ⟨s2, _, W1, W2, h⟩
 · have := W.pt w p k
   omega
 · have := W1.pt w p k
   have := W2.pt w p k
   omega
theorem ring_point {ss : List Sdn} {n : Nat} {sg wt : Wt} (G : SgI ss ss.length sg) (I : WtI ss (2 * n) sg (2 * n) wt) (h1 : ∀ f, f < 2 * n -> Oct.leE (some 0) (smW (wt f (Oct.fl f)))) (h2 : ∀ f, f < 2 * n -> Oct.leE (some 0) (Oct.addE (Oct.hlf (smW (wt f f))) (Oct.hlf (smW (wt (Oct.fl f) (Oct.fl f)))))) (hin : ∀ s ∈ ss, s.1 < 2 * n /\ s.2.1 < 2 * n) : ∃ w, Oct.Pt w (2 * n) /\ KeptS w ss := by
 have nr : Ring.NoRing (Ring.edge fun f g => smW (sg f g)) (2 * n) := fun k x s hk W => by
  have hx : x < 2 * n := by obtain ⟨p, v, p0, _, hp, _⟩ := W; rw [← p0]; exact hp 0 (Nat.zero_le _)
  exact Oct.leE_trans (h1 x hx) (I.ls.le k x x s hx hx hk W)
 obtain ⟨w, p, l⟩ := Ring.point_of (n := n) (d := fun f g => smW (sg f g)) (fun f g _ _ => G.sy f g) I.ls nr (fun f hf => by
  have := h2 f hf
  show Oct.leE (some 0) (Oct.addE (Oct.hlf (smW (wt f (Oct.fl (Oct.fl f))))) (Oct.hlf (smW (wt (Oct.fl f) (Oct.fl f)))))
  rw [Oct.fl_fl]
  exact this)
 refine ⟨w, p, fun s hs => ?_⟩
 obtain ⟨i, hi, e⟩ := List.getElem_of_mem hs
 have := G.le i s hi (by rw [List.getElem?_eq_getElem hi, e])
 exact Oct.leE_trans (l s.1 s.2.1 (hin s hs).1 (hin s hs).2) this
theorem ix_nat {n t : Nat} (h : t < n) : ixN n (t : Int) = some t := by
 unfold ixN
 rw [if_pos (by omega), if_pos (by omega), Int.toNat_natCast]
theorem paired_app {α β : Type} {R : α -> β -> Prop} : ∀ {xs xs' : List α} {ys ys' : List β}, Paired R xs ys -> Paired R xs' ys' -> Paired R (xs ++ xs') (ys ++ ys')
 | _, _, _, _, .nil, r => r
 | _, _, _, _, .cons q t, r => .cons q (paired_app t r)
def LegAt (H : Hp) (v : V) (l : Leg) : Prop := ∃ a, v = .ref a /\ H a = some (.tup [.int (l.1 : Nat), .int (l.2.1 : Nat), .int (l.2.2 : Nat)])
theorem legs_keep {H H' : Hp} (k : ∀ b xs, H b = some (.tup xs) -> H' b = some (.tup xs)) {vs : List V} {ls : List Leg} (h : Paired (LegAt H) vs ls) : Paired (LegAt H') vs ls := Paired.mapP h fun _ _ ⟨a, e, h⟩ => ⟨a, e, k _ _ h⟩
def WkX (H0 : Hp) (bs : List Addr) (H : Hp) (v : V) : Option Wk -> Prop
 | none => v = .non
 | some w => ∃ t b vs, v = .ref t /\ H t = some (.tup [.int w.1, .ref b]) /\ H b = some (.lst vs) /\ H0 b = none /\ b ∉ bs /\ Paired (LegAt H) vs w.2
theorem WkX.same {H0 : Hp} {bs : List Addr} {H H' : Hp} (s : Same H H') {v : V} : ∀ {o : Option Wk}, WkX H0 bs H v o -> WkX H0 bs H' v o
 | none, h => h
 | some w, ⟨t, b, vs, e, h1, h2, h3, h4, h5⟩ => ⟨t, b, vs, e, s _ _ h1, s _ _ h2, h3, h4, legs_keep (fun b xs h => s b _ h) h5⟩
theorem WkX.mono {H0 : Hp} {bs cs : List Addr} {H : Hp} {v : V} (hs : ∀ x ∈ cs, x ∈ bs) : ∀ {o : Option Wk}, WkX H0 bs H v o -> WkX H0 cs H v o
 | none, h => h
 | some w, ⟨t, b, vs, e, h1, h2, h3, h4, h5⟩ => ⟨t, b, vs, e, h1, h2, h3, fun z => h4 (hs _ z), h5⟩
theorem WkX.drop {H0 : Hp} {bs : List Addr} {H : Hp} {v : V} {o : Option Wk} (h : WkX H0 bs H v o) : WkX H0 [] H v o := h.mono (fun x hx => (by cases hx))
theorem WkX.fresh {H0 : Hp} {bs : List Addr} {H : Hp} {v : V} {p : Addr} (hp : H p = none) : ∀ {o : Option Wk}, WkX H0 bs H v o -> WkX H0 (p :: bs) H v o
 | none, h => h
 | some w, ⟨t, b, vs, e, h1, h2, h3, h4, h5⟩ => ⟨t, b, vs, e, h1, h2, h3, fun z => (List.mem_cons.mp z).elim (fun q => by rw [q, hp] at h2; cases h2) h4, h5⟩
def AllIn (bs : List Addr) (H : Hp) : Prop := ∀ x ∈ bs, ∃ o, H x = some o
theorem AllIn.same {bs : List Addr} {H H' : Hp} (h : AllIn bs H) (s : Same H H') : AllIn bs H' := fun x hx => by obtain ⟨o, e⟩ := h x hx; exact ⟨o, s _ _ e⟩
theorem AllIn.cons {bs : List Addr} {H : Hp} {p : Addr} {o : HO} (e : H p = some o) (h : AllIn bs H) : AllIn (p :: bs) H := fun x hx => by
 rcases List.mem_cons.mp hx with z | z
 · subst z; exact ⟨o, e⟩
 · exact h x z
theorem AllIn.off {bs : List Addr} {H : Hp} {l : Addr} (h : AllIn bs H) (hl : H l = none) : l ∉ bs := fun z => by obtain ⟨o, e⟩ := h l z; rw [hl] at e; cases e
theorem WkX.put {H0 : Hp} {bs : List Addr} {H : Hp} {b0 : Addr} {zs ws : List V} (hb : b0 ∈ bs) (e0 : H b0 = some (.lst zs)) {v : V} : ∀ {o : Option Wk}, WkX H0 bs H v o -> WkX H0 bs (upd H b0 (.lst ws)) v o
 | none, h => h
 | some w, ⟨t, b, vs, e, h1, h2, h3, h4, h5⟩ => ⟨t, b, vs, e, by rw [upd_ne (ne_of h1 e0 (by intro z; cases z))]; exact h1, by rw [upd_ne (fun z => h4 (by rw [z]; exact hb))]; exact h2, h3, h4, legs_keep (fun b xs h => by rw [upd_ne (ne_of h e0 (by intro z; cases z))]; exact h) h5⟩
structure Sg (H0 H : Hp) (a : Addr) (bs : List Addr) (N : Nat) (sg : Wt) : Prop where
 at_ : H a = some (.lst (bs.map V.ref))
 len : bs.length = N
 nd : bs.Nodup
 ne : a ∉ bs
 newA : H0 a = none
 newL : ∀ b ∈ bs, H0 b = none
 row : ∀ f, f < N -> ∃ b line, bs[f]? = some b /\ H b = some (.lst line) /\ line.length = N /\ ∀ g, g < N -> ∃ v, line[g]? = some v /\ WkX H0 bs H v (sg f g)
theorem Sg.same {H0 H H' : Hp} {a : Addr} {bs : List Addr} {N : Nat} {sg : Wt} (S : Sg H0 H a bs N sg) (s : Same H H') : Sg H0 H' a bs N sg :=
 ⟨s _ _ S.at_, S.len, S.nd, S.ne, S.newA, S.newL, fun f hf => by
  obtain ⟨b, line, e, h, l, r⟩ := S.row f hf
  exact ⟨b, line, e, s _ _ h, l, fun g hg => by
   obtain ⟨v, ev, hv⟩ := r g hg
   exact ⟨v, ev, hv.same s⟩⟩⟩
def RowX (H0 : Hp) (bs : List Addr) (H : Hp) (b : Addr) (N : Nat) (r : Nat -> Option Wk) : Prop := ∃ line, H b = some (.lst line) /\ line.length = N /\ ∀ g, g < N -> ∃ v, line[g]? = some v /\ WkX H0 bs H v (r g)
theorem RowX.fresh {H0 : Hp} {bs : List Addr} {H : Hp} {b p : Addr} {N : Nat} {r : Nat -> Option Wk} (hp : H p = none) : RowX H0 bs H b N r -> RowX H0 (p :: bs) H b N r := fun ⟨line, h, l, k⟩ => ⟨line, h, l, fun g hg => by
 obtain ⟨v, ev, hv⟩ := k g hg
 exact ⟨v, ev, hv.fresh hp⟩⟩
theorem RowX.same {H0 : Hp} {bs : List Addr} {H H' : Hp} {b : Addr} {N : Nat} {r : Nat -> Option Wk} (s : Same H H') : RowX H0 bs H b N r -> RowX H0 bs H' b N r := fun ⟨line, h, l, k⟩ => ⟨line, s _ _ h, l, fun g hg => by
 obtain ⟨v, ev, hv⟩ := k g hg
 exact ⟨v, ev, hv.same s⟩⟩
def Wg (H0 H : Hp) (a : Addr) (N : Nat) (wt : Wt) : Prop := ∃ bs : List Addr, H a = some (.lst (bs.map V.ref)) /\ bs.length = N /\ ∀ f, f < N -> ∃ b, bs[f]? = some b /\ RowX H0 [] H b N (wt f)
theorem Wg.same {H0 H H' : Hp} {a : Addr} {N : Nat} {wt : Wt} (s : Same H H') : Wg H0 H a N wt -> Wg H0 H' a N wt := fun ⟨bs, h, l, k⟩ => ⟨bs, s _ _ h, l, fun f hf => by
 obtain ⟨b, eb, hb⟩ := k f hf
 exact ⟨b, eb, hb.same s⟩⟩
structure GrW (H0 H H' : Hp) (p : Addr) (N : Nat) (wt : Wt) (i : Nat) (ys : List V) : Prop where
 at_ : H' p = some (.lst ys)
 len : ys.length = i
 sm : Same H H'
 rows : ∃ bs : List Addr, ys = bs.map V.ref /\ ∀ f, f < i -> ∃ b, bs[f]? = some b /\ b ≠ p /\ RowX H0 [p] H' b N (wt f)
theorem GrW.start {H0 H : Hp} {p : Addr} {N : Nat} {wt : Wt} (hp : H p = none) : GrW H0 H (upd H p (.lst [])) p N wt 0 [] := ⟨upd_same, rfl, same_new hp _, [], rfl, fun f hf => absurd hf (by omega)⟩
theorem GrW.inp {H0 H H' : Hp} {p : Addr} {N : Nat} {wt : Wt} {i : Nat} {ys : List V} (G : GrW H0 H H' p N wt i ys) : AllIn [p] H' := AllIn.cons G.at_ fun x hx => (by cases hx)
theorem GrW.step {H0 H H' H2 : Hp} {p b : Addr} {N : Nat} {wt : Wt} {i : Nat} {ys : List V} (G : GrW H0 H H' p N wt i ys) (hp : H p = none) (sm2 : Same H' H2) (hb : H' b = none) (hR : RowX H0 [p] H2 b N (wt i)) : GrW H0 H (upd H2 p (.lst (ys ++ [.ref b]))) p N wt (i + 1) (ys ++ [.ref b]) := by
 obtain ⟨bs, rfl, hr⟩ := G.rows
 have hp2 := sm2 _ _ G.at_
 have nbp : b ≠ p := Ne.symm (ne_of_none G.at_ hb)
 have lb : bs.length = i := by have := G.len; simpa using this
 have rowput : ∀ {c : Addr} {r : Nat -> Option Wk}, c ≠ p -> RowX H0 [p] H2 c N r -> RowX H0 [p] (upd H2 p (.lst (bs.map V.ref ++ [.ref b]))) c N r := fun {c r} nc ⟨line, h, l, k⟩ => ⟨line, by rw [upd_ne nc]; exact h, l, fun g hg => by
  obtain ⟨v, ev, hv⟩ := k g hg
  exact ⟨v, ev, hv.put List.mem_cons_self hp2⟩⟩
 refine ⟨upd_same, by simp [lb], same_over hp (G.sm.trans sm2), bs ++ [b], by simp, fun f hf => ?_⟩
 by_cases h : f < i
 · obtain ⟨c, ec, nc, hc⟩ := hr f h
   exact ⟨c, by rw [List.getElem?_append_left (by omega)]; exact ec, nc, rowput nc (hc.same sm2)⟩
 · have : f = i := by omega
   subst this
   exact ⟨b, by rw [List.getElem?_append_right (by omega), lb, Nat.sub_self]; rfl, nbp, rowput nbp hR⟩
theorem GrW.done {H0 H H' : Hp} {p : Addr} {N : Nat} {wt : Wt} {ys : List V} (G : GrW H0 H H' p N wt N ys) : Wg H0 H' p N wt := by
 obtain ⟨bs, rfl, hr⟩ := G.rows
 exact ⟨bs, G.at_, by have := G.len; simpa using this, fun f hf => by
  obtain ⟨b, eb, _, line, h, l, k⟩ := hr f hf
  exact ⟨b, eb, line, h, l, fun g hg => by
   obtain ⟨v, ev, hv⟩ := k g hg
   exact ⟨v, ev, hv.drop⟩⟩⟩
theorem ref_at {bs : List Addr} {f : Nat} {b : Addr} (e : bs[f]? = some b) : atI (bs.map V.ref) (f : Int) = some (.ref b) := at_nat (by rw [List.getElem?_map, e]; rfl)
def sp_is_less (K : PySem.W.Frag) : Sp := fun vs H Q _ => ∃ (H0 : Hp) (bs : List Addr) (c : Int) (v : V) (o : Option Wk), vs = [.int c, v] /\ WkX H0 bs H v o /\ Q (.bl (lessW c o)) H
def sp_standing_row (K : PySem.W.Frag) : Sp := fun vs H Q _ => ∃ (H0 : Hp) (cs : List Addr) (f N : Nat), vs = [.int f, .int N] /\ Same H0 H /\ AllIn cs H /\ f < N /\ N <= 100 /\ ∀ b H', Same H H' -> H b = none -> RowX H0 cs H' b N (w0 f) -> Q (.ref b) H'
def sp_standing_walks (K : PySem.W.Frag) : Sp := fun vs H Q _ => ∃ (H0 : Hp) (n : Nat), vs = [.int n] /\ Same H0 H /\ n <= 50 /\ ∀ a H', Same H H' -> Wg H0 H' a (2 * n) w0 -> Q (.ref a) H'
def sp_take_leg (K : PySem.W.Frag) : Sp := fun vs H Q _ => ∃ (H0 : Hp) (a t : Addr) (bs : List Addr) (N p f g : Nat) (c : Int) (sg : Wt), vs = [.ref a, .ref t, .int c] /\ Same H0 H /\ Sg H0 H a bs N sg /\ H t = some (.tup [.int (p : Nat), .int (f : Nat), .int (g : Nat)]) /\ f < N /\ g < N /\ ∀ H', Same H0 H' -> (∀ b xs, H b = some (.tup xs) -> H' b = some (.tup xs)) -> Sg H0 H' a bs N (tk sg p f g c) -> Q .non H'
def sp_single_walks (K : PySem.W.Frag) : Sp := fun vs H Q _ => ∃ (b : Addr) (n : Nat) (ys : List V) (ss : List Sdn), vs = [.int n, .ref b] /\ H b = some (.lst ys) /\ Paired (SideAt H) ys ss /\ (∀ s ∈ ss, s.1 < 2 * n /\ s.2.1 < 2 * n) /\ n <= 50 /\ ss.length <= 200 /\ ∀ a bs sg H', Same H H' -> Sg H H' a bs (2 * n) sg -> SgI ss ss.length sg -> (∀ f g w, sg f g = some w -> f < 2 * n /\ g < 2 * n) -> Q (.ref a) H'
def sp_lengthened (K : PySem.W.Frag) : Sp := fun vs H Q _ => ∃ (H0 : Hp) (cs : List Addr) (b a : Addr) (bs : List Addr) (N g : Nat) (r : Nat -> Option Wk) (sg : Wt), vs = [.ref b, .ref a, .int g] /\ Same H0 H /\ AllIn cs H /\ RowX H0 cs H b N r /\ Sg H0 H a bs N sg /\ g < N /\ N <= 100 /\ (∀ f, f < N -> Oct.fl f < N) /\ (∀ m w, m < N -> r m = some w -> w.2.length <= 200) /\ (∀ f g w, sg f g = some w -> w.2.length = 1) /\ ∀ v H', Same H H' -> WkX H0 cs H' v (bestN r sg g N) -> Q v H'
def sp_lengthened_row (K : PySem.W.Frag) : Sp := fun vs H Q _ => ∃ (H0 : Hp) (cs : List Addr) (b a : Addr) (bs : List Addr) (N : Nat) (r : Nat -> Option Wk) (sg : Wt), vs = [.ref b, .ref a] /\ Same H0 H /\ AllIn cs H /\ RowX H0 cs H b N r /\ Sg H0 H a bs N sg /\ N <= 100 /\ (∀ f, f < N -> Oct.fl f < N) /\ (∀ m w, m < N -> r m = some w -> w.2.length <= 200) /\ (∀ f g w, sg f g = some w -> w.2.length = 1) /\ ∀ b' H', Same H H' -> H b' = none -> RowX H0 cs H' b' N (fun g => bestN r sg g N) -> Q (.ref b') H'
def RgAt (H0 H : Hp) (v : V) (o : Option (List Leg × List Leg)) : Prop := match o with
 | none => v = .non
 | some (l1, l2) => ∃ p b1 b2 v1 v2, v = .ref p /\ H p = some (.tup [.ref b1, .ref b2]) /\ H b1 = some (.lst v1) /\ H b2 = some (.lst v2) /\ H0 b1 = none /\ H0 b2 = none /\ Paired (LegAt H) v1 l1 /\ Paired (LegAt H) v2 l2
def sp_ring_of_one (K : PySem.W.Frag) : Sp := fun vs H Q _ => ∃ (H0 : Hp) (a : Addr) (N : Nat) (wt : Wt), vs = [.ref a] /\ Same H0 H /\ Wg H0 H a N wt /\ (∀ f, f < N -> Oct.fl f < N) /\ (∀ f, f < N -> ∃ w, wt f (Oct.fl f) = some w) /\ N <= 100 /\ ((∀ f, f < N -> Oct.leE (some 0) (smW (wt f (Oct.fl f)))) -> ∀ H', Same H H' -> Q .non H') /\ ∀ v f w H', f < N -> wt f (Oct.fl f) = some w -> w.1 < 0 -> Same H H' -> RgAt H0 H' v (some (w.2, [])) -> Q v H'
def sp_ring_of_two (K : PySem.W.Frag) : Sp := fun vs H Q _ => ∃ (H0 : Hp) (a : Addr) (N : Nat) (wt : Wt), vs = [.ref a] /\ Same H0 H /\ Wg H0 H a N wt /\ (∀ f, f < N -> Oct.fl f < N) /\ N <= 100 /\ ((∀ f, f < N -> Oct.leE (some 0) (Oct.addE (Oct.hlf (smW (wt f f))) (Oct.hlf (smW (wt (Oct.fl f) (Oct.fl f)))))) -> ∀ H', Same H H' -> Q .non H') /\ ∀ v f w u H', f < N -> wt f f = some w -> wt (Oct.fl f) (Oct.fl f) = some u -> w.1 / 2 + u.1 / 2 < 0 -> Same H H' -> RgAt H0 H' v (some (w.2, u.2)) -> Q v H'
def sp_ring (K : PySem.W.Frag) : Sp := fun vs H Q _ => ∃ (b : Addr) (n : Nat) (ys : List V) (ss : List Sdn), vs = [.int n, .ref b] /\ H b = some (.lst ys) /\ Paired (SideAt H) ys ss /\ (∀ s ∈ ss, s.1 < 2 * n /\ s.2.1 < 2 * n) /\ 1 <= n /\ n <= 6 /\ ss.length <= 200 /\ ((∃ w, Oct.Pt w (2 * n) /\ KeptS w ss) -> ∀ H', Same H H' -> Q .non H') /\ ∀ v l1 l2 H', Same H H' -> RingOk ss (2 * n) l1 l2 -> RgAt H H' v (some (l1, l2)) -> Q v H'
def legD (l : Leg) : PyData := .tuple [.int (l.1 : Nat), .int (l.2.1 : Nat), .int (l.2.2 : Nat)]
theorem dt_legs {K : PySem.W.Frag} {H : Hp} : ∀ {vs : List V} {l : List Leg}, Paired (LegAt H) vs l -> DtAll K H (l.map legD) vs
 | _, _, .nil => .nil
 | _, _, .cons ⟨a, e, h⟩ t => by
  subst e
  exact .cons (.tup (SqT.of h) (.cons .int (.cons .int (.cons .int .nil)))) (dt_legs t)
theorem depth_legs : ∀ (l : List Leg), PyData.depthAll (l.map legD) <= 4
 | [] => by simp [PyData.depthAll]
 | x :: r => by
  have := depth_legs r
  simp only [List.map_cons, PyData.depthAll, legD, PyData.depth]
  omega
theorem numS_succ {ss : List Sdn} {l : List Leg} {i : Nat} {x : Leg} {sd : Sdn} (e : l[i]? = some x) (es : ss[x.1]? = some sd) : numS ss (l.take (i + 1)) = numS ss (l.take i) + sd.2.2 := by
 unfold numS
 rw [take_succ_of e, List.map_append, List.sum_append]
 simp [es]
def sp__law_walked (K : PySem.W.Frag) : Sp := fun vs H Q _ => ∃ (b sd : Addr) (v1 ys : List V) (l : List Leg) (ss : List Sdn) (N f g : Nat) (s : Int), vs = [.ref b, .ref sd, .int N] /\ H b = some (.lst v1) /\ Paired (LegAt H) v1 l /\ H sd = some (.lst ys) /\ Paired (SideAt H) ys ss /\ Wky ss N f g s l /\ l ≠ [] /\ l.length <= N /\ N <= 100 /\ ∀ p H', Same H H' -> H' p = some (.tup [.int (f : Nat), .int (g : Nat), .int s]) -> Q (.ref p) H'
def sp__law_ring_good (K : PySem.W.Frag) : Sp := fun vs H Q _ => ∃ (H0 : Hp) (v : V) (sd : Addr) (ys : List V) (l1 l2 : List Leg) (ss : List Sdn) (N : Nat), vs = [v, .ref sd, .int N] /\ RgAt H0 H v (some (l1, l2)) /\ RingOk ss N l1 l2 /\ H sd = some (.lst ys) /\ Paired (SideAt H) ys ss /\ N <= 100 /\ ∀ H', Same H H' -> Q (.bl true) H'
theorem cutL {α : Type} (f : Int -> V) (xs : List Int) (k : Nat) : cutV (xs.map V.int) none (some (k : Int)) = (xs.take k).map V.int := by
 have e : ∀ d, HT.sIx (xs.map V.int).length d (some (k : Int)) = min k xs.length := fun d => by
  simp only [HT.sIx, List.length_map]
  split <;> omega
 unfold cutV
 rw [e]
 simp [HT.sIx, List.map_take]
theorem cutT (ys : List V) {k : Nat} (h : k <= ys.length) : cutV ys none (some (k : Int)) = ys.take k := by
 have e : ∀ d, HT.sIx ys.length d (some (k : Int)) = k := fun d => by
  simp only [HT.sIx]
  split <;> omega
 unfold cutV
 rw [e]
 simp [HT.sIx]
theorem cutD (ys : List V) {k : Nat} (h : k <= ys.length) : cutV ys (some (k : Int)) none = ys.drop k := by
 have e : ∀ d, HT.sIx ys.length d (some (k : Int)) = k := fun d => by
  simp only [HT.sIx]
  split <;> omega
 unfold cutV
 rw [e]
 simp [HT.sIx, List.take_of_length_le]
theorem modN2 (c : Int) {n : Nat} (h : 1 <= n) : ∃ f : Nat, c % (2 * (n : Int)) = (f : Int) /\ f < 2 * n :=
 ⟨(c % (2 * (n : Int))).toNat, by have := Int.emod_nonneg c (b := 2 * (n : Int)) (by omega); omega, by have := Int.emod_nonneg c (b := 2 * (n : Int)) (by omega); have := Int.emod_lt_of_pos c (b := 2 * (n : Int)) (by omega); omega⟩
def NoPt (n : Nat) (ss : List Sdn) : Prop := ∀ w, Oct.Pt w (2 * n) -> KeptS w ss -> False
theorem kept_mem {w : Nat -> Int} {ss tt : List Sdn} (h : KeptS w ss) (m : ∀ s ∈ tt, s ∈ ss) : KeptS w tt := fun s hs => h s (m s hs)
theorem paired_take {α β : Type} {R : α -> β -> Prop} : ∀ {xs : List α} {ys : List β}, Paired R xs ys -> ∀ k, Paired R (xs.take k) (ys.take k)
 | _, _, .nil, k => by simp; exact .nil
 | _, _, .cons h t, 0 => .nil
 | _, _, .cons h t, k + 1 => .cons h (paired_take t k)
theorem paired_drop {α β : Type} {R : α -> β -> Prop} : ∀ {xs : List α} {ys : List β}, Paired R xs ys -> ∀ k, Paired R (xs.drop k) (ys.drop k)
 | _, _, .nil, k => by simp; exact .nil
 | _, _, .cons h t, 0 => .cons h t
 | _, _, .cons h t, k + 1 => paired_drop t k
def sp__law_chain (K : PySem.W.Frag) : Sp := fun vs H Q _ => ∃ (ca pt : Addr) (cs xs : List Int) (n : Nat), vs = [.ref ca, .int n, .ref pt] /\ SqL K H ca (cs.map V.int) /\ cs ≠ [] /\ SqT K H pt (xs.map V.int) /\ xs.length = n /\ 1 <= n /\ n <= 6 /\ ∀ p ys ss H', Same H H' -> H' p = some (.lst ys) -> Paired (SideAt H') ys ss -> (∀ s ∈ ss, s.1 < 2 * n /\ s.2.1 < 2 * n) -> ss.length <= 7 -> NoPt n ss -> Q (.ref p) H'
def sp__law_between (K : PySem.W.Frag) : Sp := fun vs H Q _ => ∃ (ca pt : Addr) (cs xs : List Int) (n : Nat), vs = [.ref ca, .int n, .ref pt] /\ SqL K H ca (cs.map V.int) /\ cs.length <= 100 /\ SqT K H pt (xs.map V.int) /\ xs.length = n /\ 1 <= n /\ n <= 6 /\ ∀ p ys ss H', Same H H' -> H' p = some (.lst ys) -> Paired (SideAt H') ys ss -> (∀ s ∈ ss, s.1 < 2 * n /\ s.2.1 < 2 * n) -> ss.length <= 100 -> Q (.ref p) H'
def sp__law_bells (K : PySem.W.Frag) : Sp := fun vs H Q _ => ∃ (a ca : Addr) (ns cs : List Int), vs = [.ref a, .ref ca] /\ SqL K H a (ns.map V.int) /\ SqL K H ca (cs.map V.int) /\ cs ≠ [] /\ ∀ p ys ss H', Same H H' -> H' p = some (.lst ys) -> Paired (SideAt H') ys ss -> (∀ s ∈ ss, s.1 < 2 * 4 /\ s.2.1 < 2 * 4) -> ss.length <= 7 -> NoPt 4 ss -> Q (.ref p) H'
structure GrS (H H' : Hp) (p : Addr) (n i : Nat) (ys : List V) (tt : List Sdn) : Prop where
 sm : Same H H'
 at_ : H' p = some (.lst ys)
 pr : Paired (SideAt H') ys tt
 ins : ∀ s ∈ tt, s.1 < 2 * n /\ s.2.1 < 2 * n
 len : tt.length = i
theorem GrS.start {H : Hp} {p : Addr} {n : Nat} (hp : H p = none) : GrS H (upd H p (.lst [])) p n 0 [] [] := ⟨same_new hp _, upd_same, .nil, fun s h => (by cases h), rfl⟩
theorem GrS.put {H H' H2 : Hp} {p : Addr} {n i : Nat} {ys : List V} {tt : List Sdn} {v : V} {s : Sdn} (G : GrS H H' p n i ys tt) (hp : H p = none) (st : Same H' H2) (hv : SideAt H2 v s) (hs : s.1 < 2 * n /\ s.2.1 < 2 * n) : GrS H (upd H2 p (.lst (ys ++ [v]))) p n (i + 1) (ys ++ [v]) (tt ++ [s]) := by
 have e2 := st _ _ G.at_
 refine ⟨same_over hp (G.sm.trans st), upd_same, paired_snoc (sides_put e2 (sides_same st G.pr)) (SideAt.put e2 hv), fun t ht => ?_, by simp [G.len]⟩
 rcases List.mem_append.mp ht with h | h
 · exact G.ins t h
 · rw [List.mem_singleton.mp h]; exact hs
theorem GrS.same {H H' H2 : Hp} {p : Addr} {n i : Nat} {ys : List V} {tt : List Sdn} (G : GrS H H' p n i ys tt) (st : Same H' H2) : GrS H H2 p n i ys tt := ⟨G.sm.trans st, st _ _ G.at_, sides_same st G.pr, G.ins, G.len⟩
theorem pick46 (c : Int) : ∃ n : Nat, atI (([1, 2, 3, 4, 2, 3, 4, 6] : List Int).map V.int) (c % 8) = some (.int (n : Int)) /\ 1 <= n /\ (n <= 4 \/ n = 6) := by
 have : c % 8 = 0 \/ c % 8 = 1 \/ c % 8 = 2 \/ c % 8 = 3 \/ c % 8 = 4 \/ c % 8 = 5 \/ c % 8 = 6 \/ c % 8 = 7 := by omega
 rcases this with h | h | h | h | h | h | h | h <;> rw [h]
 · exact ⟨1, rfl, by omega, by omega⟩
 · exact ⟨2, rfl, by omega, by omega⟩
 · exact ⟨3, rfl, by omega, by omega⟩
 · exact ⟨4, rfl, by omega, by omega⟩
 · exact ⟨2, rfl, by omega, by omega⟩
 · exact ⟨3, rfl, by omega, by omega⟩
 · exact ⟨4, rfl, by omega, by omega⟩
 · exact ⟨6, rfl, by omega, by omega⟩
theorem decI {i j : Int} : (decide (V.int i = V.int j) = true) ↔ i = j := by simp
theorem necI {i j : Int} (h : ¬ i = j) : (!decide (V.int i = V.int j)) = true := by simp [h]
theorem sIx_two {n d : Nat} (h : 2 <= n) : HT.sIx n d (some (2 : Int)) = 2 := by
 simp only [HT.sIx]
 split <;> omega
structure DrS (H : Hp) (n : Nat) (p0 p2 : Prop) (sd : Addr) (ys : List V) (ss : List Sdn) : Prop where
 at_ : H sd = some (.lst ys)
 pr : Paired (SideAt H) ys ss
 ins : ∀ s ∈ ss, s.1 < 2 * n /\ s.2.1 < 2 * n
 len : ss.length <= 200
 k0 : p0 -> ∃ w, Oct.Pt w (2 * n) /\ KeptS w ss
 k2 : p2 -> NoPt n ss
theorem ring_closed {n : Nat} {ss : List Sdn} {l1 l2 : List Leg} (hin : ∀ s ∈ ss, s.1 < 2 * n /\ s.2.1 < 2 * n) (R : RingOk ss (2 * n) l1 l2) : closedO n ss = none := by
 cases e : closedO n ss with
 | none => rfl
 | some c =>
  obtain ⟨S, kc⟩ := closed_facts hin e
  obtain ⟨w, pw, lw⟩ := Oct.has_point S.good.tight (fun f hf => by rw [S.zero f hf]; exact Oct.leE_refl _)
  exact (R.none pw (fun s hs => Oct.leE_trans (lw _ _ (hin s hs).1 (hin s hs).2) (kc s hs).1)).elim
theorem us1 {α : Type} : ∀ {us : List α}, us.length = 1 -> ∃ b0, us = [b0]
 | [b0], _ => ⟨b0, rfl⟩
theorem us2 {α : Type} : ∀ {us : List α}, us.length = 2 -> ∃ b0 b1, us = [b0, b1]
 | [b0, b1], _ => ⟨b0, b1, rfl⟩
theorem us3 {α : Type} : ∀ {us : List α}, us.length = 3 -> ∃ b0 b1 b2, us = [b0, b1, b2]
 | [b0, b1, b2], _ => ⟨b0, b1, b2, rfl⟩
theorem us4 {α : Type} : ∀ {us : List α}, us.length = 4 -> ∃ b0 b1 b2 b3, us = [b0, b1, b2, b3]
 | [b0, b1, b2, b3], _ => ⟨b0, b1, b2, b3, rfl⟩
section
variable {P : Program} {w : World} {K : PySem.W.Frag} {mg : Str -> Option Value} {base : Heap}
theorem sc_flipped : FnScope ["f"] ["f"] (defScope s_flipped) := ⟨rfl, rfl, rfl, by decide +kernel, rfl, by decide +kernel, by decide +kernel⟩
theorem ok_flipped {f : Addr} {fd : FuncData} (F : Fun K "flipped" "flipped" s_flipped f fd) (m : mg "flipped" = some (.ref f)) (B : Bl mg)  : Def P w K mg base CX0 "flipped" 1 ["f"] (sp_flipped K) := by
 refine ⟨f, fd, F.ok sc_flipped (fun vs H Q E h => ?_) (fun cdv A outer s H vs Q E hr h => ?_), F.binds (ps := ["f"]) fun _ _ _ _ _ _ us hl => (by obtain ⟨b0, rfl⟩ := us1 hl; rfl), F.kp, m⟩
 · obtain ⟨f, rfl, _⟩ := h
   rfl
 obtain ⟨f, rfl, q⟩ := h
 refine ⟨_, (@pss_cons _ _ _ _ _ (ps_if (pt_cmpR op_eq (pe_op op_mod (pv 0) pe_int) pe_int (nomark _)) (pss_one (ps_ret (pe_op op_add (pv 0) pe_int))) pss_nil)
  (pss_one (ps_ret (pe_op op_sub (pv 0) pe_int)))), ?_⟩
 simp [tSeq, tNext, tIfS, tRet, tAsg, gName, tTest, tOp, tUn, tVar, tC, rI, rI0, rU, rEq, rNe, scal, L2.start, tCall, tCB, tNil, tCons, tTup, tLst, tNot, tAnd, tOr, tAndV, tOrV, tNotV, tIf, tDrop, CDiv, tB, rIxT, rIxL, tSl, tPart, tNoPart, tYes, CPow]
 unfold flipI at q
 split at q
 · rw [if_pos ‹_›]; exact q
 · rw [if_neg ‹_›]; exact q
theorem sc_ring : FnScope ["count", "sides", "single", "walks", "turn", "found"] ["count", "sides"] (defScope s_ring) := ⟨rfl, rfl, rfl, by decide +kernel, rfl, by decide +kernel, by decide +kernel⟩
theorem ok_ring {f : Addr} {fd : FuncData} (F : Fun K "ring" "ring" s_ring f fd) (m : mg "ring" = some (.ref f)) (B : Bl mg) (D_single_walks : Def P w K mg base CX0 "single_walks" 3 ["count", "sides"] (sp_single_walks K)) (D_standing_walks : Def P w K mg base CX0 "standing_walks" 3 ["count"] (sp_standing_walks K)) (D_ring_of_two : Def P w K mg base CX0 "ring_of_two" 2 ["walks"] (sp_ring_of_two K)) (D_ring_of_one : Def P w K mg base CX0 "ring_of_one" 2 ["walks"] (sp_ring_of_one K)) (D_lengthened_row : Def P w K mg base CX0 "lengthened_row" 3 ["row", "single"] (sp_lengthened_row K)) : Def P w K mg base CX0 "ring" 4 ["count", "sides"] (sp_ring K) := by
 refine ⟨f, fd, F.ok sc_ring (fun vs H Q E h => ?_) (fun cdv A outer s H vs Q E hr h => ?_), F.binds (ps := ["count", "sides"]) fun _ _ _ _ _ _ us hl => (by obtain ⟨b0, b1, rfl⟩ := us2 hl; rfl), F.kp, m⟩
 · obtain ⟨b, n, ys, ss, rfl, _⟩ := h
   rfl
 obtain ⟨b, n, ys, ss, rfl, eb, hP, hin, n1, n6, l200, q1, q2⟩ := h
 refine ⟨_, (@pss_cons _ _ _ _ _ (ps_sz 2 sc_ring.nd (pe_dz D_single_walks hr (pa_Name (pv 0) (pa_Name (pv 1) pa_nil))))
  (@pss_cons _ _ _ _ _ (ps_sz 3 sc_ring.nd (pe_dz D_standing_walks hr (pa_Name (pv 0) pa_nil)))
  (@pss_cons _ _ _ _ _ (ps_for PassesOwn.never rfl (pi_range1 (by rfl) B.range (pa_BinOp (pe_op op_mul pe_int (pv 0)) pa_nil)) (pg_nz 4 sc_ring.nd) (@pss_cons _ _ _ _ _ (ps_setC (i := 3) (CompScope.of sc_ring.nd (by rfl)) rfl (pi_listK (K := K) rfl (pv 3)) (fun _ _ _ => pif_nil) (fun _ _ _ => (pe_dz D_lengthened_row hr (pa_Name (pv 0) (pa_Name (pv 3) pa_nil)))) sc_ring.nd rfl (by first | exact Or.inl rfl | exact Or.inr rfl) rfl)
  (@pss_cons _ _ _ _ _ (ps_sz 5 sc_ring.nd (pe_dz D_ring_of_one hr (pa_Name (pv 3) pa_nil)))
  (pss_one (ps_if (pt_cmpR op_notN (pv 5) pe_non (nomark _)) (pss_one (ps_ret (pv 5))) pss_nil)))))
  (pss_one (ps_ret (pe_dz D_ring_of_two hr (pa_Name (pv 3) pa_nil))))))), ?_⟩
 have even : ∀ f, f < 2 * n -> Oct.fl f < 2 * n := fun f hf => Oct.fl_lt hf
 refine seq_step fun U hU => ?_
 refine ⟨_, rfl, _, rfl, b, n, ys, ss, rfl, eb, hP, hin, by omega, l200, fun sa sbs sg H1 sm1 G I hsg => ?_⟩
 show U _ _
 subst hU
 have l1 : ∀ f g w, sg f g = some w -> w.2.length = 1 := fun f g w e => by
  obtain ⟨c, l⟩ := w
  obtain ⟨p, _, rfl, _⟩ := I.ok f g c l e
  rfl
 refine seq_step fun U hU => ?_
 refine ⟨_, rfl, H, n, rfl, sm1, by omega, fun wa H2 sm2 hW0 => ?_⟩
 show U _ _
 subst hU
 have s02 := sm1.trans sm2
 have G2 := G.same sm2
 have some_ : ∀ (t : Nat) (wt : Wt), WtI ss (2 * n) sg t wt -> ∀ f, f < 2 * n -> ∃ w, wt f (Oct.fl f) = some w := fun t wt W f hf => by
  have := W.ls.le 0 f f 0 hf hf (Nat.zero_le _) (Ring.Walk.stand hf)
  cases e : wt f (Oct.fl f) with
  | none =>
   have e' : smW (wt f (Oct.fl f)) = none := by rw [e]; rfl
   rw [e'] at this
   exact absurd this (by simp [Oct.leE])
  | some w => exact ⟨w, rfl⟩
 refine seq_step fun U hU => ?_
 refine ⟨_, rfl, _, _, rfl, rfl, .inl ⟨by decide, by decide⟩, (2 * (n : Int)), rfl, by omega, by omega, for_range (lo := 0) (n := (2 * (n : Int)).toNat) (fun i σ H' => ∃ (wa : Addr) (x y : Option V) (wt : Wt), σ = [some (.int n), some (.ref b), some (.ref sa), some (.ref wa), x, y] /\ Same H2 H' /\ Wg H H' wa (2 * n) wt /\ WtI ss (2 * n) sg i wt /\ (i = 0 \/ ∀ f, f < 2 * n -> Oct.leE (some 0) (smW (wt f (Oct.fl f))))) ⟨wa, none, none, w0, rfl, Same.refl _, hW0, WtI.start even, .inl rfl⟩ ?_ ?_⟩
 · rintro i σ H3 hi0 ⟨wa, x, y, wt, rfl, sm3, hW, WI, _⟩
   have hi : i < 2 * n := by omega
   rw [Int.zero_add]
   have G3 := G2.same sm3
   have s03 := s02.trans sm3
   obtain ⟨rb, hwa, lrb, hrows⟩ := hW
   have lm : (rb.map V.ref).length = 2 * n := by rw [List.length_map, lrb]
   refine seq_step fun U hU => ?_
   refine ⟨_, rfl, wa, rfl, ⟨_, SqL.of hwa⟩, fun p hp => comp_listN (K := K) (a := wa) (xs := rb.map V.ref) (fun j zs H' => GrW H H3 H' p (2 * n) (fun f g => bestN (wt f) sg g (2 * n)) j zs) (GrW.start hp) (fun j zs H' _ Gr => SqL.of (Gr.sm _ _ hwa)) ?_ ?_⟩
   · rintro j v zs H4 hv Gr
     have hj : j < 2 * n := by have := (List.getElem?_eq_some_iff.mp hv).1; omega
     obtain ⟨rw1, erw, hrow⟩ := hrows j hj
     have : v = .ref rw1 := by rw [List.getElem?_map, erw] at hv; cases hv; rfl
     subst this
     simp only [tYes, ↓reduceIte]
     refine ⟨_, rfl, _, rfl, H, [p], rw1, sa, sbs, 2 * n, wt j, sg, rfl, s03.trans Gr.sm, Gr.inp, (hrow.fresh hp).same Gr.sm, G3.same Gr.sm, by omega, even, fun m w hm e => ?_, l1, fun b' H5 sm5 hb' hR' => ?_⟩
     · obtain ⟨s, l⟩ := w
       have := (WI.ch j m s l hj hm e).2
       show l.length <= 200
       omega
     · exact ⟨sm5 _ _ Gr.at_, by rw [Gr.len]; exact small1000 (by omega), again (by omega) (Gr.step hp sm5 hb' hR')⟩
   · rintro zs H4 Gr
     rw [lm] at Gr
     have hW4 := Gr.done
     have s04 := s03.trans Gr.sm
     have WI' := WI.step even I hsg
     show U _ _
     subst hU
     refine seq_step fun U hU => ?_
     refine ⟨_, rfl, H, p, 2 * n, _, rfl, s04, hW4, even, some_ _ _ WI', by omega, fun h0 H5 sm5 => ?_, fun v f w H5 hf ew hn sm5 hRg => ?_⟩
     · show U _ _
       subst hU
       refine ⟨_, rfl, rfl, _, rfl, ?_⟩
       refine iteF ?_
       exact ⟨p, _, _, _, rfl, (sm3.trans Gr.sm).trans sm5, hW4.same sm5, WI', .inr h0⟩
     · show U _ _
       subst hU
       obtain ⟨ws, wl⟩ := w
       obtain ⟨W, wlen⟩ := WI'.ch f (Oct.fl f) ws wl hf (even f hf) ew
       have ne : wl ≠ [] := fun e => by
        have := (W.emp e).2
        have hn' : ws < 0 := hn
        omega
       have hR : RingOk ss (2 * n) wl [] := ⟨ne, by omega, by simp, f, ws, hf, .inl ⟨rfl, W, hn⟩⟩
       have hRg0 := hRg
       obtain ⟨pp, c1, c2, v1, v2, rfl, _⟩ := hRg0
       refine ⟨_, rfl, rfl, _, rfl, ?_⟩
       refine iteT ?_
       exact ⟨_, rfl, q2 _ _ _ H5 (s04.trans sm5) hR hRg⟩
 · rintro σ H3 ⟨wa, x, y, wt, rfl, sm3, hW, WI, h0⟩
   show U _ _
   subst hU
   have e2 : (2 * (n : Int)).toNat = 2 * n := by omega
   rw [e2] at WI h0
   have h0' := h0.resolve_left (by omega)
   have s03 := s02.trans sm3
   refine ⟨_, rfl, H, wa, 2 * n, wt, rfl, s03, hW, even, by omega, fun h2 H5 sm5 => ?_, fun v f w u H5 hf e1 e2 hn sm5 hRg => ?_⟩
   · exact q1 (ring_point I WI h0' h2 hin) H5 (s03.trans sm5)
   · obtain ⟨ws, wl⟩ := w
     obtain ⟨us, ul⟩ := u
     obtain ⟨W1, l1'⟩ := WI.ch f f ws wl hf hf e1
     obtain ⟨W2, l2'⟩ := WI.ch (Oct.fl f) (Oct.fl f) us ul (even f hf) (even f hf) e2
     have ne1 : wl ≠ [] := fun e => Oct.fl_ne f (W1.emp e).1.symm
     have ne2 : ul ≠ [] := fun e => Oct.fl_ne (Oct.fl f) (W2.emp e).1.symm
     exact q2 _ _ _ H5 (s03.trans sm5) ⟨ne1, l1', l2', f, ws, hf, .inr ⟨us, ne2, W1, W2, hn⟩⟩ hRg
theorem sc_standing_walks : FnScope ["count"] ["count"] (defScope s_standing_walks) := ⟨rfl, rfl, rfl, by decide +kernel, rfl, by decide +kernel, by decide +kernel⟩
theorem ok_standing_walks {f : Addr} {fd : FuncData} (F : Fun K "standing_walks" "standing_walks" s_standing_walks f fd) (m : mg "standing_walks" = some (.ref f)) (B : Bl mg) (D_standing_row : Def P w K mg base CX0 "standing_row" 2 ["f", "length"] (sp_standing_row K)) : Def P w K mg base CX0 "standing_walks" 3 ["count"] (sp_standing_walks K) := by
 refine ⟨f, fd, F.ok sc_standing_walks (fun vs H Q E h => ?_) (fun cdv A outer s H vs Q E hr h => ?_), F.binds (ps := ["count"]) fun _ _ _ _ _ _ us hl => (by obtain ⟨b0, rfl⟩ := us1 hl; rfl), F.kp, m⟩
 · obtain ⟨H0, n, rfl, _⟩ := h
   rfl
 obtain ⟨H0, n, rfl, s0, hn, q⟩ := h
 refine ⟨_, (pss_one (ps_ret (pe_comp (CompScope.of sc_standing_walks.nd (by rfl)) rfl (pi_range1 (by rfl) B.range (pa_BinOp (pe_op op_mul pe_int (pv 0)) pa_nil)) (fun _ _ _ => pif_nil) (fun _ _ _ => (pe_dz D_standing_row hr (pa_Name (pv 0) (pa_BinOp (pe_op op_mul pe_int (pv 1)) pa_nil))))))), ?_⟩
 refine ⟨_, rfl, _, _, rfl, rfl, .inl ⟨by decide, by decide⟩, (2 * (n : Int)), rfl, by omega, by omega, fun p hp => comp_rangeN (lo := 0) (n := (2 * (n : Int)).toNat) (fun i ys H' => GrW H0 H H' p (2 * n) w0 i ys) (GrW.start hp) ?_ ?_⟩
 · rintro i ys H' hi G
   have hi' : i < 2 * n := by omega
   simp only [tYes, ↓reduceIte]
   refine ⟨_, rfl, _, rfl, _, _, rfl, rfl, .inl ⟨by decide, by decide⟩, H0, [p], i, 2 * n, by rw [Int.zero_add]; rfl, s0.trans G.sm, G.inp, hi', by omega, fun b H2 sm2 hb hR => ?_⟩
   exact ⟨sm2 _ _ G.at_, by rw [G.len]; exact small1000 (by omega), again hi (G.step hp sm2 hb hR)⟩
 · rintro ys H1 G
   have e2 : (2 * (n : Int)).toNat = 2 * n := by omega
   rw [e2] at G
   exact q p H1 G.sm G.done
theorem sc_standing_row : FnScope ["f", "length"] ["f", "length"] (defScope s_standing_row) := ⟨rfl, rfl, rfl, by decide +kernel, rfl, by decide +kernel, by decide +kernel⟩
theorem ok_standing_row {f : Addr} {fd : FuncData} (F : Fun K "standing_row" "standing_row" s_standing_row f fd) (m : mg "standing_row" = some (.ref f)) (B : Bl mg) (D_flipped : Def P w K mg base CX0 "flipped" 1 ["f"] (sp_flipped K)) : Def P w K mg base CX0 "standing_row" 2 ["f", "length"] (sp_standing_row K) := by
 refine ⟨f, fd, F.ok sc_standing_row (fun vs H Q E h => ?_) (fun cdv A outer s H vs Q E hr h => ?_), F.binds (ps := ["f", "length"]) fun _ _ _ _ _ _ us hl => (by obtain ⟨b0, b1, rfl⟩ := us2 hl; rfl), F.kp, m⟩
 · obtain ⟨H0, cs, f1, N, rfl, _⟩ := h
   rfl
 obtain ⟨H0, cs, f1, N, rfl, s0, hcs, hf, hN, q⟩ := h
 refine ⟨_, (pss_one (ps_ret (pe_comp (CompScope.of sc_standing_row.nd (by rfl)) rfl (pi_range1 (by rfl) B.range (pa_Name (pv 1) pa_nil)) (fun _ _ _ => pif_nil) (fun _ _ _ => (pe_ifExp (pt_cmpR op_eq (pv 0) (pe_dz D_flipped hr (pa_Name (pv 1) pa_nil)) (nomark _)) (pe_tup (pa_Constant pe_int (pa_List (pe_lst pa_nil) pa_nil))) pe_non))))), ?_⟩
 refine ⟨_, rfl, (N : Int), rfl, by omega, by omega, fun p hp => comp_rangeN (lo := 0) (n := (N : Int).toNat) (fun i ys H' => H' p = some (.lst ys) /\ ys.length = i /\ Same H H' /\ ∀ g, g < i -> ∃ v, ys[g]? = some v /\ WkX H0 (p :: cs) H' v (w0 f1 g)) ⟨upd_same, rfl, same_new hp _, fun g hg => absurd hg (by omega)⟩ ?_ ?_⟩
 · rintro i ys H' hi ⟨hp', ly, sm, hr⟩
   have hi' : i < N := by omega
   simp only [tYes, ↓reduceIte]
   have hcs' : AllIn (p :: cs) H' := (hcs.same sm).cons hp'
   have fin : ∀ (v : V) (H2 : Hp), Same H' H2 -> WkX H0 (p :: cs) H2 v (w0 f1 i) -> H2 p = some (.lst ys) /\ ys.length < sizeLine /\ ∃ m', m' < (N : Int).toNat - i /\ m' = (N : Int).toNat - (i + 1) /\ i + 1 <= (N : Int).toNat /\ (upd H2 p (.lst (ys ++ [v]))) p = some (.lst (ys ++ [v])) /\ (ys ++ [v]).length = i + 1 /\ Same H (upd H2 p (.lst (ys ++ [v]))) /\ ∀ g, g < i + 1 -> ∃ u, (ys ++ [v])[g]? = some u /\ WkX H0 (p :: cs) (upd H2 p (.lst (ys ++ [v]))) u (w0 f1 g) := by
    intro v H2 sm2 hv
    have hp2 := sm2 _ _ hp'
    refine ⟨hp2, by rw [ly]; exact small1000 (by omega), again hi ⟨upd_same, by simp [ly], same_over hp (sm.trans sm2), fun g hg => ?_⟩⟩
    by_cases h : g < i
    · obtain ⟨u, eu, hu⟩ := hr g h
      exact ⟨u, by rw [List.getElem?_append_left (by omega)]; exact eu, (hu.same sm2).put List.mem_cons_self hp2⟩
    · have : g = i := by omega
      subst this
      exact ⟨v, by rw [List.getElem?_append_right (by omega), ly, Nat.sub_self]; rfl, hv.put List.mem_cons_self hp2⟩
   refine ⟨_, rfl, _, rfl, (f1 : Int), rfl, rfl, _, rfl, ?_⟩
   rw [Int.zero_add, flip_nat]
   by_cases h : i = Oct.fl f1
   · rw [decide_eq_true (show V.int (i : Int) = V.int ((Oct.fl f1 : Nat) : Int) by rw [h])]
     refine iteT ?_
     refine ⟨sz 0, fun l hl => ⟨sz 2, fun t ht => ?_⟩⟩
     have s2 := (same_new hl (.lst [])).trans (same_new ht (.tup [.int 0, .ref l]))
     have hl0 : H0 l = none := (s0.trans sm).free hl
     refine fin (.ref t) _ s2 ?_
     unfold w0
     rw [if_pos h]
     exact ⟨t, l, [], rfl, upd_same, same_new ht _ _ _ upd_same, hl0, hcs'.off hl, .nil⟩
   · rw [decide_eq_false (fun e => h (by have := V.int.inj e; omega))]
     refine iteF ?_
     refine fin .non H' (Same.refl _) ?_
     unfold w0
     rw [if_neg h]
     rfl
 · rintro ys H1 ⟨hp', ly, sm, hr⟩
   rw [Int.toNat_natCast] at ly hr
   exact q p H1 sm hp ⟨ys, hp', ly, fun g hg => by
    obtain ⟨u, eu, hu⟩ := hr g hg
    exact ⟨u, eu, hu.mono fun x hx => List.mem_cons_of_mem _ hx⟩⟩
theorem sc_single_walks : FnScope ["count", "sides", "single", "place", "side"] ["count", "sides"] (defScope s_single_walks) := ⟨rfl, rfl, rfl, by decide +kernel, rfl, by decide +kernel, by decide +kernel⟩
theorem ok_single_walks {f : Addr} {fd : FuncData} (F : Fun K "single_walks" "single_walks" s_single_walks f fd) (m : mg "single_walks" = some (.ref f)) (B : Bl mg) (D_take_leg : Def P w K mg base CX0 "take_leg" 2 ["single", "leg", "number"] (sp_take_leg K)) : Def P w K mg base CX0 "single_walks" 3 ["count", "sides"] (sp_single_walks K) := by
 refine ⟨f, fd, F.ok sc_single_walks (fun vs H Q E h => ?_) (fun cdv A outer s H vs Q E hr h => ?_), F.binds (ps := ["count", "sides"]) fun _ _ _ _ _ _ us hl => (by obtain ⟨b0, b1, rfl⟩ := us2 hl; rfl), F.kp, m⟩
 · obtain ⟨b, n, ys, ss, rfl, _⟩ := h
   rfl
 obtain ⟨b, n, ys, ss, rfl, eb, hP, hin, hn, l200, q⟩ := h
 refine ⟨_, (@pss_cons _ _ _ _ _ (ps_setC (i := 2) (CompScope.of sc_single_walks.nd (by rfl)) rfl (pi_range1 (by rfl) B.range (pa_BinOp (pe_op op_mul pe_int (pv 0)) pa_nil)) (fun _ _ _ => pif_nil) (fun _ _ _ => (pe_op op_rep (pe_lst (pa_Constant pe_non pa_nil)) (pe_op op_mul pe_int (pv 1)))) sc_single_walks.nd rfl (by first | exact Or.inl rfl | exact Or.inr rfl) rfl)
  (@pss_cons _ _ _ _ _ (ps_for PassesOwn.never rfl (pi_enumK (K := K) rfl (by rfl) B.enumerate (pa_Name (pv 1) pa_nil)) (pg_pairK (K := K) rfl rfl (pg_nz 3 sc_single_walks.nd) (pg_nz 4 sc_single_walks.nd)) (@pss_cons _ _ _ _ _ (ps_expr (pe_dz D_take_leg hr (pa_Name (pv 2) (pa_Tuple (pe_tup (pa_Name (pv 3) (pa_Subscript (pe_xT (K := K) (pv 4) pe_int) (pa_Subscript (pe_xT (K := K) (pv 4) pe_int) pa_nil)))) (pa_Subscript (pe_xT (K := K) (pv 4) pe_int) pa_nil)))))
  (pss_one (ps_expr (pe_dz D_take_leg hr (pa_Name (pv 2) (pa_Tuple (pe_tup (pa_Name (pv 3) (pa_Subscript (pe_xT (K := K) (pv 4) pe_int) (pa_Subscript (pe_xT (K := K) (pv 4) pe_int) pa_nil)))) (pa_Subscript (pe_xT (K := K) (pv 4) pe_int) pa_nil))))))))
  (pss_one (ps_ret (pv 2))))), ?_⟩
 have ly := paired_len hP
 refine seq_step fun U hU => ?_
 refine ⟨_, rfl, _, _, rfl, rfl, .inl ⟨by decide, by decide⟩, (2 * (n : Int)), rfl, by omega, by omega, fun p hp => comp_rangeN (lo := 0) (n := (2 * (n : Int)).toNat) (fun i zs H' => ∃ bs : List Addr, zs = bs.map V.ref /\ H' p = some (.lst zs) /\ bs.length = i /\ bs.Nodup /\ p ∉ bs /\ Same H H' /\ (∀ c ∈ bs, H c = none /\ H' c = some (.lst (List.replicate (2 * n) V.non)))) ⟨[], rfl, upd_same, rfl, List.nodup_nil, by simp, same_new hp _, fun c hc => (by cases hc)⟩ ?_ ?_⟩
 · rintro i zs H' hi ⟨bs, rfl, hp', lb, nd, np, sm, hr⟩
   simp only [tYes, ↓reduceIte]
   refine ⟨sz 1, fun l hl => ?_⟩
   have s1 := same_new hl (.lst [.non])
   have e2n : (2 * (n : Int)).toNat = 2 * n := by omega
   refine ⟨_, rfl, _, _, rfl, rfl, .inl ⟨by decide, by decide⟩, l, _, _, rfl, rfl, upd_same, by show -(2 ^ 63 : Int) <= 2 * (n : Int); omega, by show 2 * (n : Int) < 2 ^ 63; omega, by rw [e2n]; exact Nat.le_of_lt (small1000 (by simp; omega)), fun c hc => ?_⟩
   have ef : (List.replicate (2 * (n : Int)).toNat [V.non]).flatten = List.replicate (2 * n) V.non := by rw [e2n]; simp
   rw [ef]
   have s2 := s1.trans (same_new hc (.lst (List.replicate (2 * n) V.non)))
   have ec : upd (upd H' l (.lst [.non])) c (.lst (List.replicate (2 * n) V.non)) c = some (.lst (List.replicate (2 * n) V.non)) := upd_same
   generalize upd (upd H' l (.lst [.non])) c (.lst (List.replicate (2 * n) V.non)) = H2 at *
   have hc' : H' c = none := s1.free hc
   have ncp : c ≠ p := Ne.symm (ne_of_none hp' hc')
   have ncb : c ∉ bs := fun z => by have := (hr c z).2; rw [hc'] at this; cases this
   refine ⟨s2 _ _ hp', by rw [List.length_map, lb]; exact small1000 (by omega), again hi ⟨bs ++ [c], by simp, upd_same, by simp [lb], ?_, ?_, same_over hp (sm.trans s2), fun x hx => ?_⟩⟩
   · exact List.nodup_append.mpr ⟨nd, by simp, fun a ha b hb => by rw [List.mem_singleton.mp hb]; exact fun z => ncb (by rw [← z]; exact ha)⟩
   · intro z
     rcases List.mem_append.mp z with h | h
     · exact np h
     · exact ncp (List.mem_singleton.mp h).symm
   · rcases List.mem_append.mp hx with h | h
     · have nx : x ≠ p := fun z => np (by rw [← z]; exact h)
       exact ⟨(hr x h).1, by rw [upd_ne nx]; exact s2 _ _ (hr x h).2⟩
     · rw [List.mem_singleton.mp h]
       exact ⟨sm.free hc', by rw [upd_ne ncp]; exact ec⟩
 · rintro zs H1 ⟨bs, rfl, hp', lb, nd, np, sm1, hr⟩
   have e2n : (2 * (n : Int)).toNat = 2 * n := by omega
   rw [e2n] at lb
   show U _ _
   subst hU
   have G0 : Sg H H1 p bs (2 * n) (fun _ _ => none) := ⟨hp', lb, nd, np, hp, fun c hc => (hr c hc).1, fun f hf => by
    have e : bs[f]? = some (bs[f]'(by omega)) := List.getElem?_eq_getElem _
    exact ⟨_, _, e, (hr _ (List.getElem_mem _)).2, by simp, fun g hg => ⟨.non, by simp [hg], rfl⟩⟩⟩
   refine seq_step fun U hU => ?_
   refine ⟨_, rfl, b, rfl, ⟨_, SqL.of (sm1 _ _ eb)⟩, for_enum (K := K) (a := b) (xs := ys) (fun i σ H' => ∃ (x y : Option V) (sg : Wt), σ = [some (.int n), some (.ref b), some (.ref p), x, y] /\ Same H H' /\ Sg H H' p bs (2 * n) sg /\ SgI ss i sg /\ ∀ f g w, sg f g = some w -> f < 2 * n /\ g < 2 * n) ⟨none, none, fun _ _ => none, rfl, sm1, G0, SgI.start ss, fun _ _ _ e => (by cases e)⟩ (fun i σ H' _ ⟨_, _, _, _, sm, _⟩ => SqL.of (sm _ _ eb)) ?_ ?_⟩
   · rintro i v σ H3 H4 hv ⟨x, y, sg, rfl, sm3, G, I, hsg⟩ sm4
     obtain ⟨s, es, sa, rfl, hsa⟩ := paired_get' hP hv
     obtain ⟨hf, hg⟩ := hin s (List.mem_of_getElem? es)
     have s34 := sm3.trans sm4
     have hS : SqT K H4 sa [.int (s.1 : Nat), .int (s.2.1 : Nat), .int s.2.2] := SqT.of (s34 _ _ hsa)
     refine seq_step fun U hU => ?_
     refine ⟨_, rfl, _, rfl, _, rfl, sa, _, 0, _, rfl, rfl, hS, rfl, _, rfl, sa, _, 1, _, rfl, rfl, hS, rfl, sz 3, fun t ht => ?_⟩
     have s5 := same_new ht (.tup [.int (i : Nat), .int (s.1 : Nat), .int (s.2.1 : Nat)])
     have s45 := s34.trans s5
     refine ⟨_, rfl, sa, _, 2, _, rfl, rfl, s5.sqT hS, rfl, H, p, t, bs, 2 * n, i, s.1, s.2.1, s.2.2, sg, rfl, s45, (G.same sm4).same s5, upd_same, hf, hg, fun H6 sm6 kt6 G6 => ?_⟩
     show U _ _
     subst hU
     have hS6 : SqT K H6 sa [.int (s.1 : Nat), .int (s.2.1 : Nat), .int s.2.2] := SqT.of (sm6 _ _ hsa)
     refine ⟨_, rfl, _, rfl, _, rfl, sa, _, 1, _, rfl, rfl, hS6, rfl, _, rfl, sa, _, 0, _, rfl, rfl, hS6, rfl, sz 3, fun t2 ht2 => ?_⟩
     have s7 := same_new ht2 (.tup [.int (i : Nat), .int (s.2.1 : Nat), .int (s.1 : Nat)])
     refine ⟨_, rfl, sa, _, 2, _, rfl, rfl, s7.sqT hS6, rfl, H, p, t2, bs, 2 * n, i, s.2.1, s.1, s.2.2, _, rfl, sm6.trans s7, G6.same s7, upd_same, hg, hf, fun H8 sm8 kt8 G8 => ?_⟩
     refine ⟨_, _, _, rfl, sm8, G8, I.step es, fun f g w e => ?_⟩
     have tkin : ∀ (sg : Wt) (a b : Nat), a < 2 * n -> b < 2 * n -> (∀ f g w, sg f g = some w -> f < 2 * n /\ g < 2 * n) -> ∀ f g w, tk sg i a b s.2.2 f g = some w -> f < 2 * n /\ g < 2 * n := fun sg a b ha hb h f g w e => by
      by_cases q : f = a /\ g = b
      · rw [q.1, q.2]; exact ⟨ha, hb⟩
      · rw [tk_off q] at e; exact h f g w e
     exact tkin _ _ _ hg hf (tkin _ _ _ hf hg hsg) f g w e
   · rintro σ H3 ⟨x, y, sg, rfl, sm3, G, I, hsg⟩
     show U _ _
     subst hU
     rw [ly] at I
     exact ⟨_, rfl, q p bs sg H3 sm3 G I hsg⟩
theorem sc_take_leg : FnScope ["single", "leg", "number", "f", "g"] ["single", "leg", "number"] (defScope s_take_leg) := ⟨rfl, rfl, rfl, by decide +kernel, rfl, by decide +kernel, by decide +kernel⟩
theorem ok_take_leg {f : Addr} {fd : FuncData} (F : Fun K "take_leg" "take_leg" s_take_leg f fd) (m : mg "take_leg" = some (.ref f)) (B : Bl mg) (D_is_less : Def P w K mg base CX0 "is_less" 1 ["number", "walk"] (sp_is_less K)) : Def P w K mg base CX0 "take_leg" 2 ["single", "leg", "number"] (sp_take_leg K) := by
 refine ⟨f, fd, F.ok sc_take_leg (fun vs H Q E h => ?_) (fun cdv A outer s H vs Q E hr h => ?_), F.binds (ps := ["single", "leg", "number"]) fun _ _ _ _ _ _ us hl => (by obtain ⟨b0, b1, b2, rfl⟩ := us3 hl; rfl), F.kp, m⟩
 · obtain ⟨H0, a, t, bs, N, p, f1, g1, c, sg, rfl, _⟩ := h
   rfl
 obtain ⟨H0, a, t, bs, N, p, f1, g1, c, sg, rfl, s0, G, ht, hf, hg, q⟩ := h
 refine ⟨_, (@pss_cons _ _ _ _ _ (ps_sz 3 sc_take_leg.nd (pe_xT (K := K) (pv 1) pe_int))
  (@pss_cons _ _ _ _ _ (ps_sz 4 sc_take_leg.nd (pe_xT (K := K) (pv 1) pe_int))
  (pss_one (ps_if (pt_val (pe_dz D_is_less hr (pa_Name (pv 2) (pa_Subscript (pe_xL (K := K) (pe_xL (K := K) (pv 0) (pv 3)) (pv 4)) pa_nil)))) (pss_one (ps_asg (pe_tup (pa_Name (pv 2) (pa_List (pe_lst (pa_Name (pv 1) pa_nil)) pa_nil))) (pg_sub (pe_xL (K := K) (pv 0) (pv 3)) (pv 4) set_list))) pss_nil)))), ?_⟩
 have hT : SqT K H t [.int (p : Nat), .int (f1 : Nat), .int (g1 : Nat)] := SqT.of ht
 refine seq_step fun U hU => ?_
 refine ⟨_, rfl, t, _, 1, _, rfl, rfl, hT, rfl, ?_⟩
 show U _ _
 subst hU
 refine seq_step fun U hU => ?_
 refine ⟨_, rfl, t, _, 2, _, rfl, rfl, hT, rfl, ?_⟩
 show U _ _
 subst hU
 obtain ⟨b, line, eb, hb, ll, hr⟩ := G.row f1 hf
 obtain ⟨v, ev, hv⟩ := hr g1 hg
 have hbm : b ∈ bs := List.mem_of_getElem? eb
 refine ⟨_, rfl, _, rfl, _, rfl, a, _, _, _, rfl, rfl, SqL.of G.at_, ref_at eb, _, rfl, b, _, _, _, rfl, rfl, SqL.of hb, at_nat ev, H0, bs, c, v, sg f1 g1, rfl, hv, ?_⟩
 refine ⟨_, rfl, ?_⟩
 cases hl : lessW c (sg f1 g1) with
 | false =>
  refine iteF ?_
  refine q H s0 (fun _ _ h => h) ?_
  have : tk sg p f1 g1 c = sg := by
   funext x y
   by_cases h : x = f1 /\ y = g1
   · obtain ⟨rfl, rfl⟩ := h
     rw [tk_at, hl]
     rfl
   · exact tk_off h
  rw [this]
  exact G
 | true =>
  refine iteT ?_
  refine ⟨_, rfl, _, rfl, sz 1, fun l hl1 => ⟨sz 2, fun u hu => ?_⟩⟩
  have s1 := same_new hl1 (.lst [.ref t])
  have s2 := same_new hu (.tup [.int c, .ref l])
  have s12 := s1.trans s2
  have el : upd (upd H l (.lst [.ref t])) u (.tup [.int c, .ref l]) l = some (.lst [.ref t]) := s2 _ _ upd_same
  have eu : upd (upd H l (.lst [.ref t])) u (.tup [.int c, .ref l]) u = some (.tup [.int c, .ref l]) := upd_same
  generalize upd (upd H l (.lst [.ref t])) u (.tup [.int c, .ref l]) = H2 at *
  have G2 := G.same s12
  have hb2 := s12 _ _ hb
  have ht2 := s12 _ _ ht
  refine ⟨_, rfl, _, rfl, a, _, _, _, rfl, rfl, SqL.of G2.at_, ref_at eb, _, rfl, b, _, _, g1, rfl, rfl, hb2, by rw [ll]; exact ix_nat hg, ?_⟩
  have nl : l ∉ bs := fun z => by
   obtain ⟨i, hi, ei⟩ := List.getElem_of_mem z
   obtain ⟨b', line', eb', hb', _⟩ := G.row i (by rw [← G.len]; exact hi)
   rw [List.getElem?_eq_getElem hi, ei] at eb'
   cases eb'
   rw [hb'] at hl1
   cases hl1
  have nb := G.newL b hbm
  have kt : ∀ x xs, H x = some (.tup xs) -> upd H2 b (.lst (line.set g1 (.ref u))) x = some (.tup xs) := fun x xs h => by rw [upd_ne (ne_of (s12 _ _ h) hb2 (by intro z; cases z))]; exact s12 _ _ h
  refine q _ (same_over nb (s0.trans s12)) kt ?_
  refine ⟨by rw [upd_ne (fun z => G.ne (by rw [z]; exact hbm))]; exact G2.at_, G.len, G.nd, G.ne, G.newA, G.newL, fun x hx => ?_⟩
  obtain ⟨b', line', eb', hb', ll', hr'⟩ := G2.row x hx
  by_cases hxf : x = f1
  · subst hxf
    rw [eb] at eb'
    cases eb'
    rw [hb2] at hb'
    cases hb'
    refine ⟨b, _, eb, upd_same, by rw [List.length_set, ll], fun y hy => ?_⟩
    by_cases hyg : y = g1
    · subst hyg
      refine ⟨.ref u, by simp [ll, hy], ?_⟩
      rw [tk_at, hl]
      have wk : WkX H0 bs H2 (.ref u) (some (c, [(p, x, y)])) := ⟨u, l, _, rfl, eu, el, s0.free hl1, nl, .cons ⟨t, rfl, ht2⟩ .nil⟩
      exact wk.put hbm hb2
    · obtain ⟨w, ew, hw⟩ := hr' y hy
      exact ⟨w, by rw [List.getElem?_set_ne (Ne.symm hyg)]; exact ew, by rw [tk_off (fun z => hyg z.2)]; exact hw.put hbm hb2⟩
  · have nb' : b' ≠ b := fun z => hxf (by
     subst z
     have h1 := (List.getElem?_eq_some_iff.mp eb')
     have h2 := (List.getElem?_eq_some_iff.mp eb)
     exact (List.getElem_inj G.nd).mp (h1.2.trans h2.2.symm))
    refine ⟨b', line', eb', by rw [upd_ne nb']; exact hb', ll', fun y hy => ?_⟩
    obtain ⟨w, ew, hw⟩ := hr' y hy
    exact ⟨w, ew, by rw [tk_off (fun z => hxf z.1)]; exact hw.put hbm hb2⟩
theorem sc_is_less : FnScope ["number", "walk"] ["number", "walk"] (defScope s_is_less) := ⟨rfl, rfl, rfl, by decide +kernel, rfl, by decide +kernel, by decide +kernel⟩
theorem ok_is_less {f : Addr} {fd : FuncData} (F : Fun K "is_less" "is_less" s_is_less f fd) (m : mg "is_less" = some (.ref f)) (B : Bl mg)  : Def P w K mg base CX0 "is_less" 1 ["number", "walk"] (sp_is_less K) := by
 refine ⟨f, fd, F.ok sc_is_less (fun vs H Q E h => ?_) (fun cdv A outer s H vs Q E hr h => ?_), F.binds (ps := ["number", "walk"]) fun _ _ _ _ _ _ us hl => (by obtain ⟨b0, b1, rfl⟩ := us2 hl; rfl), F.kp, m⟩
 · obtain ⟨H0, bs, c, v, o, rfl, _⟩ := h
   rfl
 obtain ⟨H0, bs, c, v, o, rfl, hv, q⟩ := h
 refine ⟨_, (pss_one (ps_ret (pe_or (pe_cmpR op_isN (pv 1) pe_non (nomark _)) (pe_one (pe_cmpR op_lt (pv 0) (pe_xT (K := K) (pv 1) pe_int) (nomark _)))))), ?_⟩
 cases o with
 | none =>
  cases hv
  refine ⟨_, rfl, rfl, _, rfl, ?_⟩
  refine iteT ?_
  exact q
 | some w =>
  obtain ⟨t, b, vs, rfl, h1, h2, _⟩ := hv
  refine ⟨_, rfl, rfl, _, rfl, ?_⟩
  refine iteF ?_
  exact ⟨_, rfl, _, rfl, t, _, 0, _, rfl, rfl, SqT.of h1, rfl, _, _, rfl, rfl, q⟩
theorem sc_lengthened_row : FnScope ["row", "single"] ["row", "single"] (defScope s_lengthened_row) := ⟨rfl, rfl, rfl, by decide +kernel, rfl, by decide +kernel, by decide +kernel⟩
theorem ok_lengthened_row {f : Addr} {fd : FuncData} (F : Fun K "lengthened_row" "lengthened_row" s_lengthened_row f fd) (m : mg "lengthened_row" = some (.ref f)) (B : Bl mg) (D_lengthened : Def P w K mg base CX0 "lengthened" 2 ["row", "single", "g"] (sp_lengthened K)) : Def P w K mg base CX0 "lengthened_row" 3 ["row", "single"] (sp_lengthened_row K) := by
 refine ⟨f, fd, F.ok sc_lengthened_row (fun vs H Q E h => ?_) (fun cdv A outer s H vs Q E hr h => ?_), F.binds (ps := ["row", "single"]) fun _ _ _ _ _ _ us hl => (by obtain ⟨b0, b1, rfl⟩ := us2 hl; rfl), F.kp, m⟩
 · obtain ⟨H0, cs, b, a, bs, N, r1, sg, rfl, _⟩ := h
   rfl
 obtain ⟨H0, cs, b, a, bs, N, r1, sg, rfl, s0, hcs, hR, G, hN, even, l200, l1, q⟩ := h
 refine ⟨_, (pss_one (ps_ret (pe_comp (CompScope.of sc_lengthened_row.nd (by rfl)) rfl (pi_range1 (by rfl) B.range (pa_Call (pe_callB (call_lenK (K := K) rfl) (by rfl) B.len (by decide +kernel) (pa_Name (pv 0) pa_nil)) pa_nil)) (fun _ _ _ => pif_nil) (fun _ _ _ => (pe_dz D_lengthened hr (pa_Name (pv 1) (pa_Name (pv 2) (pa_Name (pv 0) pa_nil)))))))), ?_⟩
 have hR0 := hR
 obtain ⟨line, hb, ll, hw⟩ := hR0
 refine ⟨_, rfl, b, _, rfl, .inl (SqL.of hb), (line.length : Int), rfl, by omega, by omega, fun p hp => comp_rangeN (lo := 0) (n := (line.length : Int).toNat) (fun i ys H' => H' p = some (.lst ys) /\ ys.length = i /\ Same H H' /\ ∀ g, g < i -> ∃ v, ys[g]? = some v /\ WkX H0 (p :: cs) H' v (bestN r1 sg g N)) ⟨upd_same, rfl, same_new hp _, fun g hg => absurd hg (by omega)⟩ ?_ ?_⟩
 · rintro i ys H' hi ⟨hp', ly, sm, hr⟩
   have hi' : i < N := by omega
   simp only [tYes, ↓reduceIte]
   have hcs' : AllIn (p :: cs) H' := (hcs.same sm).cons hp'
   refine ⟨_, rfl, _, rfl, _, rfl, H0, p :: cs, b, a, bs, N, i, r1, sg, by rw [Int.zero_add]; rfl, s0.trans sm, hcs', (hR.fresh hp).same sm, G.same sm, hi', hN, even, l200, l1, fun v H2 sm2 hv => ?_⟩
   have hp2 := sm2 _ _ hp'
   refine ⟨hp2, by rw [ly]; exact small1000 (by omega), again hi ⟨upd_same, by simp [ly], same_over hp (sm.trans sm2), fun g hg => ?_⟩⟩
   by_cases h : g < i
   · obtain ⟨u, eu, hu⟩ := hr g h
     exact ⟨u, by rw [List.getElem?_append_left (by omega)]; exact eu, (hu.same sm2).put List.mem_cons_self hp2⟩
   · have : g = i := by omega
     subst this
     exact ⟨v, by rw [List.getElem?_append_right (by omega), ly, Nat.sub_self]; rfl, hv.put List.mem_cons_self hp2⟩
 · rintro ys H1 ⟨hp', ly, sm, hr⟩
   rw [Int.toNat_natCast, ll] at ly hr
   exact q p H1 sm hp ⟨ys, hp', ly, fun g hg => by
    obtain ⟨u, eu, hu⟩ := hr g hg
    exact ⟨u, eu, hu.mono fun x hx => List.mem_cons_of_mem _ hx⟩⟩
theorem sc_lengthened : FnScope ["row", "single", "g", "best", "m", "walk", "leg"] ["row", "single", "g"] (defScope s_lengthened) := ⟨rfl, rfl, rfl, by decide +kernel, rfl, by decide +kernel, by decide +kernel⟩
theorem ok_lengthened {f : Addr} {fd : FuncData} (F : Fun K "lengthened" "lengthened" s_lengthened f fd) (m : mg "lengthened" = some (.ref f)) (B : Bl mg) (D_is_less : Def P w K mg base CX0 "is_less" 1 ["number", "walk"] (sp_is_less K)) (D_flipped : Def P w K mg base CX0 "flipped" 1 ["f"] (sp_flipped K)) : Def P w K mg base CX0 "lengthened" 2 ["row", "single", "g"] (sp_lengthened K) := by
 refine ⟨f, fd, F.ok sc_lengthened (fun vs H Q E h => ?_) (fun cdv A outer s H vs Q E hr h => ?_), F.binds (ps := ["row", "single", "g"]) fun _ _ _ _ _ _ us hl => (by obtain ⟨b0, b1, b2, rfl⟩ := us3 hl; rfl), F.kp, m⟩
 · obtain ⟨H0, cs, b, a, bs, N, g1, r1, sg, rfl, _⟩ := h
   rfl
 obtain ⟨H0, cs, b, a, bs, N, g1, r1, sg, rfl, s0, hcs, hR, G, hg, hN, even, l200, l1, q⟩ := h
 refine ⟨_, (@pss_cons _ _ _ _ _ (ps_sz 3 sc_lengthened.nd (pe_xL (K := K) (pv 0) (pv 2)))
  (@pss_cons _ _ _ _ _ (ps_for PassesOwn.never rfl (pi_enumK (K := K) rfl (by rfl) B.enumerate (pa_Name (pv 0) pa_nil)) (pg_pairK (K := K) rfl rfl (pg_nz 4 sc_lengthened.nd) (pg_nz 5 sc_lengthened.nd)) (@pss_cons _ _ _ _ _ (ps_sz 6 sc_lengthened.nd (pe_xL (K := K) (pe_xL (K := K) (pv 1) (pe_dz D_flipped hr (pa_Name (pv 4) pa_nil))) (pv 2)))
  (pss_one (ps_if (pw_and (pt_cmpR op_notN (pv 5) pe_non (nomark _)) (pw_and (pt_cmpR op_notN (pv 6) pe_non (nomark _)) (pw_and1 (pt_val (pe_dz D_is_less hr (pa_BinOp (pe_op op_add (pe_xT (K := K) (pv 5) pe_int) (pe_xT (K := K) (pv 6) pe_int)) (pa_Name (pv 3) pa_nil))))))).pt (pss_one (ps_sz 3 sc_lengthened.nd (pe_tup (pa_BinOp (pe_op op_add (pe_xT (K := K) (pv 5) pe_int) (pe_xT (K := K) (pv 6) pe_int)) (pa_BinOp (pe_op op_cat (pe_xT (K := K) (pv 5) pe_int) (pe_xT (K := K) (pv 6) pe_int)) pa_nil))))) pss_nil))))
  (pss_one (ps_ret (pv 3))))), ?_⟩
 obtain ⟨line, hb, ll, hw⟩ := hR
 obtain ⟨v0, ev0, hv0⟩ := hw g1 hg
 refine seq_step fun U hU => ?_
 refine ⟨_, rfl, _, rfl, b, _, _, _, rfl, rfl, SqL.of hb, at_nat ev0, ?_⟩
 show U _ _
 subst hU
 refine seq_step fun U hU => ?_
 refine ⟨_, rfl, b, rfl, ⟨_, SqL.of hb⟩, for_enum (K := K) (a := b) (xs := line) (fun i σ H' => ∃ (v : V) (x y z : Option V), σ = [some (.ref b), some (.ref a), some (.int (g1 : Nat)), some v, x, y, z] /\ Same H H' /\ WkX H0 cs H' v (bestN r1 sg g1 i)) ⟨v0, none, none, none, rfl, Same.refl _, hv0⟩ (fun i σ H' _ ⟨_, _, _, _, _, sm, _⟩ => SqL.of (sm _ _ hb)) ?_ ?_⟩
 · rintro i u σ H3 H4 hu ⟨v, x, y, z, rfl, sm3, hv⟩ sm4
   have hi : i < line.length := (List.getElem?_eq_some_iff.mp hu).1
   have hi' : i < N := by omega
   have s34 := sm3.trans sm4
   obtain ⟨u', eu', hu'⟩ := hw i hi'
   have : u' = u := by rw [hu] at eu'; cases eu'; rfl
   subst this
   have hu4 := hu'.same s34
   have hv4 := hv.same sm4
   have G4 := G.same s34
   obtain ⟨b2, line2, eb2, hb2, ll2, hr2⟩ := G4.row (Oct.fl i) (even _ hi')
   obtain ⟨v2, ev2, hv2⟩ := hr2 g1 hg
   refine seq_step fun U hU => ?_
   refine ⟨_, rfl, _, rfl, (i : Int), rfl, a, _, _, _, rfl, rfl, SqL.of G4.at_, by rw [flip_nat]; exact ref_at eb2, _, rfl, b2, _, _, _, rfl, rfl, SqL.of hb2, at_nat ev2, ?_⟩
   show U _ _
   subst hU
   have stay : ∀ H5, Same H4 H5 -> bestN r1 sg g1 (i + 1) = bestN r1 sg g1 i -> ∃ (v' : V) (x y z : Option V), [some (V.ref b), some (.ref a), some (.int (g1 : Nat)), some v, some (.int (i : Nat)), some u', some v2] = [some (.ref b), some (.ref a), some (.int (g1 : Nat)), some v', x, y, z] /\ Same H H5 /\ WkX H0 cs H5 v' (bestN r1 sg g1 (i + 1)) := fun H5 s5 e => ⟨v, _, _, _, rfl, s34.trans s5, by rw [e]; exact hv4.same s5⟩
   refine ⟨_, rfl, rfl, _, rfl, ?_⟩
   cases er : r1 i with
   | none =>
    rw [er] at hu4
    cases (show u' = .non from hu4)
    refine iteF ?_
    refine iteF ?_
    exact stay H4 (Same.refl _) (by show (match r1 i, sg (Oct.fl i) g1 with | some w, some l => _ | _, _ => _) = _; rw [er])
   | some w =>
    rw [er] at hu4
    obtain ⟨t1, c1, vs1, rfl, h1, h2, h3, h4, h5⟩ := hu4
    refine iteT ?_
    refine ⟨_, rfl, rfl, _, rfl, ?_⟩
    cases es : sg (Oct.fl i) g1 with
    | none =>
     rw [es] at hv2
     cases (show v2 = .non from hv2)
     refine iteF ?_
     refine iteF ?_
     exact stay H4 (Same.refl _) (by show (match r1 i, sg (Oct.fl i) g1 with | some w, some l => _ | _, _ => _) = _; rw [er, es])
    | some l =>
     rw [es] at hv2
     obtain ⟨t2, c2, vs2, rfl, k1, k2, k3, k4, k5⟩ := hv2
     have hT1 : SqT K H4 t1 [.int w.1, .ref c1] := SqT.of h1
     have hT2 : SqT K H4 t2 [.int l.1, .ref c2] := SqT.of k1
     have eb : bestN r1 sg g1 (i + 1) = if lessW (w.1 + l.1) (bestN r1 sg g1 i) = true then some (w.1 + l.1, w.2 ++ l.2) else bestN r1 sg g1 i := by
      show (match r1 i, sg (Oct.fl i) g1 with | some w, some l => _ | _, _ => _) = _
      rw [er, es]
     refine iteT ?_
     refine ⟨_, rfl, t1, _, 0, _, rfl, rfl, hT1, rfl, _, rfl, t2, _, 0, _, rfl, rfl, hT2, rfl, _, _, rfl, rfl, _, rfl, H0, cs, w.1 + l.1, v, bestN r1 sg g1 i, rfl, hv4, ?_⟩
     refine ⟨_, rfl, ?_⟩
     cases hl : lessW (w.1 + l.1) (bestN r1 sg g1 i) with
     | false =>
      refine iteF ?_
      exact stay H4 (Same.refl _) (by rw [eb, hl]; rfl)
     | true =>
      refine iteT ?_
      have lv1 := paired_len h5
      have lv2 := paired_len k5
      have w200 := l200 i w hi' er
      have l11 := l1 _ _ _ es
      refine ⟨_, rfl, t1, _, 0, _, rfl, rfl, hT1, rfl, _, rfl, t2, _, 0, _, rfl, rfl, hT2, rfl, _, _, rfl, rfl, _, rfl, t1, _, 1, _, rfl, rfl, hT1, rfl, _, rfl, t2, _, 1, _, rfl, rfl, hT2, rfl, c1, c2, _, _, rfl, rfl, h2, k2, Nat.le_of_lt (small1000 (by omega)), fun nl hnl => ?_⟩
      have s5 := same_new hnl (.lst (vs1 ++ vs2))
      refine ⟨sz 2, fun t ht => ?_⟩
      have s6 := same_new ht (.tup [.int (w.1 + l.1), .ref nl])
      have s56 := s5.trans s6
      refine ⟨.ref t, _, _, _, rfl, s34.trans s56, ?_⟩
      rw [eb, hl]
      exact ⟨t, nl, vs1 ++ vs2, rfl, upd_same, s6 _ _ upd_same, (s0.trans s34).free hnl, (hcs.same s34).off hnl, paired_app (legs_keep (fun b xs h => s56 b _ h) h5) (legs_keep (fun b xs h => s56 b _ h) k5)⟩
 · rintro σ H3 ⟨v, x, y, z, rfl, sm3, hv⟩
   show U _ _
   subst hU
   rw [ll] at hv
   exact ⟨_, rfl, q v H3 sm3 hv⟩
theorem sc_ring_of_one : FnScope ["walks", "f", "walk"] ["walks"] (defScope s_ring_of_one) := ⟨rfl, rfl, rfl, by decide +kernel, rfl, by decide +kernel, by decide +kernel⟩
theorem ok_ring_of_one {f : Addr} {fd : FuncData} (F : Fun K "ring_of_one" "ring_of_one" s_ring_of_one f fd) (m : mg "ring_of_one" = some (.ref f)) (B : Bl mg) (D_flipped : Def P w K mg base CX0 "flipped" 1 ["f"] (sp_flipped K)) : Def P w K mg base CX0 "ring_of_one" 2 ["walks"] (sp_ring_of_one K) := by
 refine ⟨f, fd, F.ok sc_ring_of_one (fun vs H Q E h => ?_) (fun cdv A outer s H vs Q E hr h => ?_), F.binds (ps := ["walks"]) fun _ _ _ _ _ _ us hl => (by obtain ⟨b0, rfl⟩ := us1 hl; rfl), F.kp, m⟩
 · obtain ⟨H0, a, N, wt, rfl, _⟩ := h
   rfl
 obtain ⟨H0, a, N, wt, rfl, s0, hW, even, hs, hN, q1, q2⟩ := h
 refine ⟨_, (@pss_cons _ _ _ _ _ (ps_for PassesOwn.never rfl (pi_range1 (by rfl) B.range (pa_Call (pe_callB (call_lenK (K := K) rfl) (by rfl) B.len (by decide +kernel) (pa_Name (pv 0) pa_nil)) pa_nil)) (pg_nz 1 sc_ring_of_one.nd) (@pss_cons _ _ _ _ _ (ps_sz 2 sc_ring_of_one.nd (pe_xL (K := K) (pe_xL (K := K) (pv 0) (pv 1)) (pe_dz D_flipped hr (pa_Name (pv 1) pa_nil))))
  (pss_one (ps_if (pt_cmpR op_lt (pe_xT (K := K) (pv 2) pe_int) pe_int (nomark _)) (pss_one (ps_ret (pe_tup (pa_Subscript (pe_xT (K := K) (pv 2) pe_int) (pa_List (pe_lst pa_nil) pa_nil))))) pss_nil))))
  (pss_one (ps_ret pe_non))), ?_⟩
 obtain ⟨bs, ha, lb, hr⟩ := hW
 have lm : (bs.map V.ref).length = N := by rw [List.length_map, lb]
 refine seq_step fun U hU => ?_
 refine ⟨_, rfl, a, _, rfl, .inl (SqL.of ha), ((bs.map V.ref).length : Int), rfl, by omega, by omega, for_range (lo := 0) (n := ((bs.map V.ref).length : Int).toNat) (fun i σ H' => ∃ x y, σ = [some (.ref a), x, y] /\ H' = H /\ ∀ f, f < i -> f < N -> Oct.leE (some 0) (smW (wt f (Oct.fl f)))) ⟨none, none, rfl, rfl, fun f hf => absurd hf (by omega)⟩ ?_ ?_⟩
 · rintro i σ H' hi0 ⟨x, y, rfl, rfl, hl⟩
   have hi : i < N := by omega
   rw [Int.zero_add]
   obtain ⟨b, eb, line, h, ll, hw⟩ := hr i hi
   obtain ⟨v, ev, hv⟩ := hw (Oct.fl i) (even i hi)
   obtain ⟨w, ew⟩ := hs i hi
   rw [ew] at hv
   obtain ⟨t, c, vs, rfl, h1, h2, h3, h4, h5⟩ := hv
   refine seq_step fun U hU => ?_
   refine ⟨_, rfl, _, rfl, a, _, _, _, rfl, rfl, SqL.of ha, ref_at eb, _, rfl, (i : Int), rfl, b, _, _, _, rfl, rfl, SqL.of h, by rw [flip_nat]; exact at_nat ev, ?_⟩
   show U _ _
   subst hU
   have hT : SqT K H' t [.int w.1, .ref c] := SqT.of h1
   refine ⟨_, rfl, t, _, 0, _, rfl, rfl, hT, rfl, _, _, rfl, rfl, _, rfl, ?_⟩
   by_cases hn : w.1 < 0
   · rw [decide_eq_true hn]
     refine iteT ?_
     refine ⟨_, rfl, t, _, 1, _, rfl, rfl, hT, rfl, sz 0, fun l hl1 => ⟨sz 2, fun p hp => ?_⟩⟩
     have s2 := same_new hl1 (.lst [])
     have s3 := same_new hp (.tup [.ref c, .ref l])
     exact q2 (.ref p) i w _ hi ew hn (s2.trans s3) ⟨p, c, l, vs, [], rfl, upd_same, (s2.trans s3) _ _ h2, s3 _ _ upd_same, h3, s0.free hl1, legs_keep (fun b xs h => (s2.trans s3) b _ h) h5, .nil⟩
   · rw [decide_eq_false hn]
     refine iteF ?_
     refine ⟨_, _, rfl, rfl, fun f hf hfN => ?_⟩
     by_cases h : f < i
     · exact hl f h hfN
     · have : f = i := by omega
       subst this
       rw [ew]
       show (0 : Int) <= w.1
       omega
 · rintro σ H' ⟨x, y, rfl, rfl, hl⟩
   show U _ _
   subst hU
   exact q1 (fun f hf => hl f (by omega) hf) H' (Same.refl _)
theorem sc_ring_of_two : FnScope ["walks", "f", "first", "second"] ["walks"] (defScope s_ring_of_two) := ⟨rfl, rfl, rfl, by decide +kernel, rfl, by decide +kernel, by decide +kernel⟩
theorem ok_ring_of_two {f : Addr} {fd : FuncData} (F : Fun K "ring_of_two" "ring_of_two" s_ring_of_two f fd) (m : mg "ring_of_two" = some (.ref f)) (B : Bl mg) (D_flipped : Def P w K mg base CX0 "flipped" 1 ["f"] (sp_flipped K)) : Def P w K mg base CX0 "ring_of_two" 2 ["walks"] (sp_ring_of_two K) := by
 refine ⟨f, fd, F.ok sc_ring_of_two (fun vs H Q E h => ?_) (fun cdv A outer s H vs Q E hr h => ?_), F.binds (ps := ["walks"]) fun _ _ _ _ _ _ us hl => (by obtain ⟨b0, rfl⟩ := us1 hl; rfl), F.kp, m⟩
 · obtain ⟨H0, a, N, wt, rfl, _⟩ := h
   rfl
 obtain ⟨H0, a, N, wt, rfl, s0, hW, even, hN, q1, q2⟩ := h
 refine ⟨_, (@pss_cons _ _ _ _ _ (ps_for PassesOwn.never rfl (pi_range1 (by rfl) B.range (pa_Call (pe_callB (call_lenK (K := K) rfl) (by rfl) B.len (by decide +kernel) (pa_Name (pv 0) pa_nil)) pa_nil)) (pg_nz 1 sc_ring_of_two.nd) (@pss_cons _ _ _ _ _ (ps_sz 2 sc_ring_of_two.nd (pe_xL (K := K) (pe_xL (K := K) (pv 0) (pv 1)) (pv 1)))
  (@pss_cons _ _ _ _ _ (ps_sz 3 sc_ring_of_two.nd (pe_xL (K := K) (pe_xL (K := K) (pv 0) (pe_dz D_flipped hr (pa_Name (pv 1) pa_nil))) (pe_dz D_flipped hr (pa_Name (pv 1) pa_nil))))
  (pss_one (ps_if (pw_and (pt_cmpR op_notN (pv 2) pe_non (nomark _)) (pw_and (pt_cmpR op_notN (pv 3) pe_non (nomark _)) (pw_and1 (pt_cmpR op_lt (pe_op op_add (pe_op op_fdiv (pe_xT (K := K) (pv 2) pe_int) pe_int) (pe_op op_fdiv (pe_xT (K := K) (pv 3) pe_int) pe_int)) pe_int (nomark _))))).pt (pss_one (ps_ret (pe_tup (pa_Subscript (pe_xT (K := K) (pv 2) pe_int) (pa_Subscript (pe_xT (K := K) (pv 3) pe_int) pa_nil))))) pss_nil)))))
  (pss_one (ps_ret pe_non))), ?_⟩
 obtain ⟨bs, ha, lb, hr⟩ := hW
 have lm : (bs.map V.ref).length = N := by rw [List.length_map, lb]
 refine seq_step fun U hU => ?_
 refine ⟨_, rfl, a, _, rfl, .inl (SqL.of ha), ((bs.map V.ref).length : Int), rfl, by omega, by omega, for_range (lo := 0) (n := ((bs.map V.ref).length : Int).toNat) (fun i σ H' => ∃ x y z, σ = [some (.ref a), x, y, z] /\ H' = H /\ ∀ f, f < i -> f < N -> Oct.leE (some 0) (Oct.addE (Oct.hlf (smW (wt f f))) (Oct.hlf (smW (wt (Oct.fl f) (Oct.fl f)))))) ⟨none, none, none, rfl, rfl, fun f hf => absurd hf (by omega)⟩ ?_ ?_⟩
 · rintro i σ H' hi0 ⟨x, y, z, rfl, rfl, hl⟩
   have hi : i < N := by omega
   rw [Int.zero_add]
   obtain ⟨b, eb, line, h, ll, hw⟩ := hr i hi
   obtain ⟨v, ev, hv⟩ := hw i hi
   obtain ⟨b2, eb2, line2, h2, ll2, hw2⟩ := hr (Oct.fl i) (even i hi)
   obtain ⟨v2, ev2, hv2⟩ := hw2 (Oct.fl i) (even i hi)
   refine seq_step fun U hU => ?_
   refine ⟨_, rfl, _, rfl, a, _, _, _, rfl, rfl, SqL.of ha, ref_at eb, _, rfl, b, _, _, _, rfl, rfl, SqL.of h, at_nat ev, ?_⟩
   show U _ _
   subst hU
   refine seq_step fun U hU => ?_
   refine ⟨_, rfl, _, rfl, (i : Int), rfl, a, _, _, _, rfl, rfl, SqL.of ha, by rw [flip_nat]; exact ref_at eb2, _, rfl, (i : Int), rfl, b2, _, _, _, rfl, rfl, SqL.of h2, by rw [flip_nat]; exact at_nat ev2, ?_⟩
   show U _ _
   subst hU
   have go : Oct.leE (some 0) (Oct.addE (Oct.hlf (smW (wt i i))) (Oct.hlf (smW (wt (Oct.fl i) (Oct.fl i))))) -> ∃ x y z, [some (V.ref a), some (.int (i : Nat)), some v, some v2] = [some (.ref a), x, y, z] /\ H' = H' /\ ∀ f, f < i + 1 -> f < N -> Oct.leE (some 0) (Oct.addE (Oct.hlf (smW (wt f f))) (Oct.hlf (smW (wt (Oct.fl f) (Oct.fl f))))) := fun hi1 => ⟨_, _, _, rfl, rfl, fun f hf hfN => by
    by_cases h : f < i
    · exact hl f h hfN
    · have : f = i := by omega
      subst this
      exact hi1⟩
   refine ⟨_, rfl, rfl, _, rfl, ?_⟩
   cases e1 : wt i i with
   | none =>
    rw [e1] at hv go
    cases (show v = .non from hv)
    refine iteF ?_
    refine iteF ?_
    exact go (by simp [smW, Oct.hlf, Oct.addE, Oct.leE])
   | some w =>
    rw [e1] at hv go
    obtain ⟨t, c, vs, rfl, k1, k2, k3, k4, k5⟩ := hv
    refine iteT ?_
    refine ⟨_, rfl, rfl, _, rfl, ?_⟩
    cases e2 : wt (Oct.fl i) (Oct.fl i) with
    | none =>
     rw [e2] at hv2 go
     cases (show v2 = .non from hv2)
     refine iteF ?_
     refine iteF ?_
     exact go (by simp [smW, Oct.hlf, Oct.addE, Oct.leE])
    | some u =>
     rw [e2] at hv2 go
     obtain ⟨t2, c2, vs2, rfl, m1, m2, m3, m4, m5⟩ := hv2
     have hT : SqT K H' t [.int w.1, .ref c] := SqT.of k1
     have hT2 : SqT K H' t2 [.int u.1, .ref c2] := SqT.of m1
     refine iteT ?_
     refine ⟨_, rfl, t, _, 0, _, rfl, rfl, hT, rfl, _, _, rfl, rfl, ⟨by decide, by decide⟩, _, rfl, t2, _, 0, _, rfl, rfl, hT2, rfl, _, _, rfl, rfl, ⟨by decide, by decide⟩, _, _, rfl, rfl, _, _, rfl, rfl, _, rfl, ?_⟩
     by_cases hn : w.1 / 2 + u.1 / 2 < 0
     · rw [decide_eq_true hn]
       refine iteT ?_
       refine ⟨_, rfl, t, _, 1, _, rfl, rfl, hT, rfl, _, rfl, t2, _, 1, _, rfl, rfl, hT2, rfl, sz 2, fun p hp => ?_⟩
       have s3 := same_new hp (.tup [.ref c, .ref c2])
       exact q2 (.ref p) i w u _ hi e1 e2 hn s3 ⟨p, c, c2, vs, vs2, rfl, upd_same, s3 _ _ k2, s3 _ _ m2, k3, m3, legs_keep (fun b xs h => s3 b _ h) k5, legs_keep (fun b xs h => s3 b _ h) m5⟩
     · rw [decide_eq_false hn]
       refine iteF ?_
       exact go (show (0 : Int) <= w.1 / 2 + u.1 / 2 by omega)
 · rintro σ H' ⟨x, y, z, rfl, rfl, hl⟩
   show U _ _
   subst hU
   exact q1 (fun f hf => hl f (by omega) hf) H' (Same.refl _)
theorem sc_below : FnScope ["entry", "number"] ["entry", "number"] (defScope s_below) := ⟨rfl, rfl, rfl, by decide +kernel, rfl, by decide +kernel, by decide +kernel⟩
theorem ok_below {f : Addr} {fd : FuncData} (F : Fun K "below" "below" s_below f fd) (m : mg "below" = some (.ref f)) (B : Bl mg)  : Def P w K mg base CX0 "below" 1 ["entry", "number"] (sp_below K) := by
 refine ⟨f, fd, F.ok sc_below (fun vs H Q E h => ?_) (fun cdv A outer s H vs Q E hr h => ?_), F.binds (ps := ["entry", "number"]) fun _ _ _ _ _ _ us hl => (by obtain ⟨b0, b1, rfl⟩ := us2 hl; rfl), F.kp, m⟩
 · obtain ⟨e, z, rfl, _⟩ := h
   rfl
 obtain ⟨e, z, rfl, q⟩ := h
 refine ⟨_, (pss_one (ps_ret (pe_and (pe_cmpR op_notN (pv 0) pe_non (nomark _)) (pe_one (pe_cmpR op_lt (pv 0) (pv 1) (nomark _)))))), ?_⟩
 cases e with
 | none => simp [tSeq, tNext, tIfS, tRet, tAsg, gName, tTest, tOp, tUn, tVar, tC, rI, rI0, rU, rEq, rNe, scal, L2.start, tCall, tCB, tNil, tCons, tTup, tLst, tNot, tAnd, tOr, tAndV, tOrV, tNotV, tIf, tDrop, CDiv, tB, rIxT, rIxL, tSl, tPart, tNoPart, tYes, CPow, eV]; exact q
 | some x => simp [tSeq, tNext, tIfS, tRet, tAsg, gName, tTest, tOp, tUn, tVar, tC, rI, rI0, rU, rEq, rNe, scal, L2.start, tCall, tCB, tNil, tCons, tTup, tLst, tNot, tAnd, tOr, tAndV, tOrV, tNotV, tIf, tDrop, CDiv, tB, rIxT, rIxL, tSl, tPart, tNoPart, tYes, CPow, eV]; exact q
theorem sc_lesser : FnScope ["one", "other"] ["one", "other"] (defScope s_lesser) := ⟨rfl, rfl, rfl, by decide +kernel, rfl, by decide +kernel, by decide +kernel⟩
theorem ok_lesser {f : Addr} {fd : FuncData} (F : Fun K "lesser" "lesser" s_lesser f fd) (m : mg "lesser" = some (.ref f)) (B : Bl mg)  : Def P w K mg base CX0 "lesser" 1 ["one", "other"] (sp_lesser K) := by
 refine ⟨f, fd, F.ok sc_lesser (fun vs H Q E h => ?_) (fun cdv A outer s H vs Q E hr h => ?_), F.binds (ps := ["one", "other"]) fun _ _ _ _ _ _ us hl => (by obtain ⟨b0, b1, rfl⟩ := us2 hl; rfl), F.kp, m⟩
 · obtain ⟨a, b, rfl, _⟩ := h
   rfl
 obtain ⟨a, b, rfl, q⟩ := h
 refine ⟨_, (@pss_cons _ _ _ _ _ (ps_if (pt_cmpR op_isN (pv 0) pe_non (nomark _)) (pss_one (ps_ret (pv 1))) pss_nil)
  (@pss_cons _ _ _ _ _ (ps_if (pw_or (pt_cmpR op_isN (pv 1) pe_non (nomark _)) (pw_or1 (pt_cmpR op_le (pv 0) (pv 1) (nomark _)))).pt (pss_one (ps_ret (pv 0))) pss_nil)
  (pss_one (ps_ret (pv 1))))), ?_⟩
 refine seq_step fun U hU => ?_
 refine ⟨_, rfl, rfl, _, rfl, ?_⟩
 cases a with
 | none =>
  refine iteT ?_
  exact ⟨_, rfl, q⟩
 | some x =>
  refine iteF ?_
  show U _ _
  subst hU
  refine seq_step fun U hU => ?_
  refine ⟨_, rfl, rfl, _, rfl, ?_⟩
  cases b with
  | none =>
   refine iteT ?_
   refine iteT ?_
   exact ⟨_, rfl, q⟩
  | some y =>
   refine iteF ?_
   refine ⟨_, rfl, _, rfl, x, y, rfl, rfl, _, rfl, ?_⟩
   by_cases h : x <= y
   · have e : Oct.minE (some x) (some y) = some x := by simp [Oct.minE]; omega
     rw [e] at q
     rw [decide_eq_true h]
     refine iteT ?_
     exact ⟨_, rfl, q⟩
   · have e : Oct.minE (some x) (some y) = some y := by simp [Oct.minE]; omega
     rw [e] at q
     rw [decide_eq_false h]
     refine iteF ?_
     show U _ _
     subst hU
     exact ⟨_, rfl, q⟩
theorem sc_summed : FnScope ["one", "other"] ["one", "other"] (defScope s_summed) := ⟨rfl, rfl, rfl, by decide +kernel, rfl, by decide +kernel, by decide +kernel⟩
theorem ok_summed {f : Addr} {fd : FuncData} (F : Fun K "summed" "summed" s_summed f fd) (m : mg "summed" = some (.ref f)) (B : Bl mg)  : Def P w K mg base CX0 "summed" 1 ["one", "other"] (sp_summed K) := by
 refine ⟨f, fd, F.ok sc_summed (fun vs H Q E h => ?_) (fun cdv A outer s H vs Q E hr h => ?_), F.binds (ps := ["one", "other"]) fun _ _ _ _ _ _ us hl => (by obtain ⟨b0, b1, rfl⟩ := us2 hl; rfl), F.kp, m⟩
 · obtain ⟨a, b, rfl, _⟩ := h
   rfl
 obtain ⟨a, b, rfl, q⟩ := h
 refine ⟨_, (@pss_cons _ _ _ _ _ (ps_if (pw_or (pt_cmpR op_isN (pv 0) pe_non (nomark _)) (pw_or1 (pt_cmpR op_isN (pv 1) pe_non (nomark _)))).pt (pss_one (ps_ret pe_non)) pss_nil)
  (pss_one (ps_ret (pe_op op_add (pv 0) (pv 1))))), ?_⟩
 refine seq_step fun U hU => ?_
 refine ⟨_, rfl, rfl, _, rfl, ?_⟩
 cases a with
 | none =>
  refine iteT ?_
  refine iteT ?_
  exact q
 | some x =>
  refine iteF ?_
  refine ⟨_, rfl, rfl, _, rfl, ?_⟩
  cases b with
  | none =>
   refine iteT ?_
   exact q
  | some y =>
   refine iteF ?_
   show U _ _
   subst hU
   exact ⟨_, rfl, _, rfl, x, y, rfl, rfl, q⟩
theorem sc_half : FnScope ["entry"] ["entry"] (defScope s_half) := ⟨rfl, rfl, rfl, by decide +kernel, rfl, by decide +kernel, by decide +kernel⟩
theorem ok_half {f : Addr} {fd : FuncData} (F : Fun K "half" "half" s_half f fd) (m : mg "half" = some (.ref f)) (B : Bl mg)  : Def P w K mg base CX0 "half" 1 ["entry"] (sp_half K) := by
 refine ⟨f, fd, F.ok sc_half (fun vs H Q E h => ?_) (fun cdv A outer s H vs Q E hr h => ?_), F.binds (ps := ["entry"]) fun _ _ _ _ _ _ us hl => (by obtain ⟨b0, rfl⟩ := us1 hl; rfl), F.kp, m⟩
 · obtain ⟨a, rfl, _⟩ := h
   rfl
 obtain ⟨a, rfl, q⟩ := h
 refine ⟨_, (@pss_cons _ _ _ _ _ (ps_if (pt_cmpR op_isN (pv 0) pe_non (nomark _)) (pss_one (ps_ret pe_non)) pss_nil)
  (pss_one (ps_ret (pe_op op_fdiv (pv 0) pe_int)))), ?_⟩
 refine seq_step fun U hU => ?_
 refine ⟨_, rfl, rfl, _, rfl, ?_⟩
 cases a with
 | none =>
  refine iteT ?_
  exact q
 | some x =>
  refine iteF ?_
  show U _ _
  subst hU
  exact ⟨_, rfl, x, 2, rfl, rfl, ⟨by decide, by decide⟩, q⟩
theorem sc_wide : FnScope ["count"] ["count"] (defScope s_wide) := ⟨rfl, rfl, rfl, by decide +kernel, rfl, by decide +kernel, by decide +kernel⟩
theorem ok_wide {f : Addr} {fd : FuncData} (F : Fun K "wide" "wide" s_wide f fd) (m : mg "wide" = some (.ref f)) (B : Bl mg) (D_wide_row : Def P w K mg base CX0 "wide_row" 2 ["f", "length"] (sp_wide_row K)) : Def P w K mg base CX0 "wide" 3 ["count"] (sp_wide K) := by
 refine ⟨f, fd, F.ok sc_wide (fun vs H Q E h => ?_) (fun cdv A outer s H vs Q E hr h => ?_), F.binds (ps := ["count"]) fun _ _ _ _ _ _ us hl => (by obtain ⟨b0, rfl⟩ := us1 hl; rfl), F.kp, m⟩
 · obtain ⟨n, rfl, _⟩ := h
   rfl
 obtain ⟨n, rfl, hn, q⟩ := h
 refine ⟨_, (pss_one (ps_ret (pe_comp (CompScope.of sc_wide.nd (by rfl)) rfl (pi_range1 (by rfl) B.range (pa_BinOp (pe_op op_mul pe_int (pv 0)) pa_nil)) (fun _ _ _ => pif_nil) (fun _ _ _ => (pe_dz D_wide_row hr (pa_Name (pv 0) (pa_BinOp (pe_op op_mul pe_int (pv 1)) pa_nil))))))), ?_⟩
 refine ⟨_, rfl, _, _, rfl, rfl, .inl ⟨by decide, by decide⟩, (2 * (n : Int)), rfl, by omega, by omega, fun p hp => comp_rangeN (lo := 0) (n := (2 * (n : Int)).toNat) (fun i ys H' => Grow H H' p ys (Oct.rows i (2 * n) Oct.wideT)) (Grow.start hp) ?_ ?_⟩
 · rintro i ys H' hi G
   simp only [tYes, ↓reduceIte]
   refine ⟨_, rfl, _, rfl, _, _, rfl, rfl, .inl ⟨by decide, by decide⟩, i, 2 * n, by simp, by omega, fun b H2 hb sm eb => ?_⟩
   have st := G.step hb sm eb
   refine ⟨st.1, by rw [G.len, Oct.rows_len]; exact small1000 (by omega), again hi ?_⟩
   rw [Oct.rows_succ]
   exact st.2
 · rintro ys H' ⟨bs, rfl, T, sm⟩
   have en : (2 * (n : Int)).toNat = 2 * n := by omega
   rw [en] at T
   exact q p bs H' sm T
theorem sc_wide_row : FnScope ["f", "length"] ["f", "length"] (defScope s_wide_row) := ⟨rfl, rfl, rfl, by decide +kernel, rfl, by decide +kernel, by decide +kernel⟩
theorem ok_wide_row {f : Addr} {fd : FuncData} (F : Fun K "wide_row" "wide_row" s_wide_row f fd) (m : mg "wide_row" = some (.ref f)) (B : Bl mg) (D_flipped : Def P w K mg base CX0 "flipped" 1 ["f"] (sp_flipped K)) : Def P w K mg base CX0 "wide_row" 2 ["f", "length"] (sp_wide_row K) := by
 refine ⟨f, fd, F.ok sc_wide_row (fun vs H Q E h => ?_) (fun cdv A outer s H vs Q E hr h => ?_), F.binds (ps := ["f", "length"]) fun _ _ _ _ _ _ us hl => (by obtain ⟨b0, b1, rfl⟩ := us2 hl; rfl), F.kp, m⟩
 · obtain ⟨f, N, rfl, _⟩ := h
   rfl
 obtain ⟨f, N, rfl, hN, q⟩ := h
 refine ⟨_, (pss_one (ps_ret (pe_comp (CompScope.of sc_wide_row.nd (by rfl)) rfl (pi_range1 (by rfl) B.range (pa_Name (pv 1) pa_nil)) (fun _ _ _ => pif_nil) (fun _ _ _ => (pe_ifExp (pt_cmpR op_eq (pv 0) (pe_dz D_flipped hr (pa_Name (pv 1) pa_nil)) (nomark _)) pe_int pe_non))))), ?_⟩
 refine ⟨_, rfl, (N : Int), rfl, by omega, by omega, fun p hp => comp_rangeN (lo := 0) (n := (N : Int).toNat) (fun i ys H' => ys = (Oct.ln i (Oct.wideT f)).map eV /\ H' p = some (.lst ys) /\ Same H H') ⟨rfl, upd_same, same_new hp _⟩ ?_ ?_⟩
 · rintro i ys H' hi ⟨rfl, hp', sm⟩
   have fin : H' p = some (.lst ((Oct.ln i (Oct.wideT f)).map eV)) /\ ((Oct.ln i (Oct.wideT f)).map eV).length < sizeLine /\ ∃ m', m' < (N : Int).toNat - i /\ m' = (N : Int).toNat - (i + 1) /\ i + 1 <= (N : Int).toNat /\ ((Oct.ln i (Oct.wideT f)).map eV ++ [eV (Oct.wideT f i)] = (Oct.ln (i + 1) (Oct.wideT f)).map eV /\ upd H' p (.lst ((Oct.ln i (Oct.wideT f)).map eV ++ [eV (Oct.wideT f i)])) p = some (.lst ((Oct.ln i (Oct.wideT f)).map eV ++ [eV (Oct.wideT f i)])) /\ Same H (upd H' p (.lst ((Oct.ln i (Oct.wideT f)).map eV ++ [eV (Oct.wideT f i)])))) :=
    ⟨hp', by rw [ln_lenV]; exact small1000 (by omega), again hi ⟨ln_snocV i _, upd_same, same_over hp sm⟩⟩
   have ew : eV (Oct.wideT f i) = if (i : Int) = ((Oct.fl f : Nat) : Int) then V.int 0 else V.non := by
    unfold Oct.wideT
    by_cases h : i = Oct.fl f
    · rw [if_pos h, if_pos (by omega)]; rfl
    · rw [if_neg h, if_neg (by omega)]; rfl
   rw [ew] at fin
   simp only [tYes, ↓reduceIte]
   simp [tSeq, tNext, tIfS, tRet, tAsg, gName, tTest, tOp, tUn, tVar, tC, rI, rI0, rU, rEq, rNe, scal, L2.start, tCall, tCB, tNil, tCons, tTup, tLst, tNot, tAnd, tOr, tAndV, tOrV, tNotV, tIf, tDrop, CDiv, tB, rIxT, rIxL, tSl, tPart, tNoPart, tYes, CPow, sp_flipped, flip_nat]
   by_cases h : (i : Int) = ((Oct.fl f : Nat) : Int)
   · rw [if_pos h] at fin ⊢
     simpa using fin
   · rw [if_neg h] at fin ⊢
     simpa using fin
 · rintro ys H' ⟨rfl, hp', sm⟩
   have en : (N : Int).toNat = N := Int.toNat_natCast N
   rw [en] at hp'
   exact q p H' hp sm hp'
theorem sc_closed : FnScope ["count", "sides"] ["count", "sides"] (defScope s_closed) := ⟨rfl, rfl, rfl, by decide +kernel, rfl, by decide +kernel, by decide +kernel⟩
theorem ok_closed {f : Addr} {fd : FuncData} (F : Fun K "closed" "closed" s_closed f fd) (m : mg "closed" = some (.ref f)) (B : Bl mg) (D_held_by_all : Def P w K mg base CX0 "held_by_all" 6 ["shape", "sides"] (sp_held_by_all K)) (D_wide : Def P w K mg base CX0 "wide" 3 ["count"] (sp_wide K)) : Def P w K mg base CX0 "closed" 7 ["count", "sides"] (sp_closed K) := by
 refine ⟨f, fd, F.ok sc_closed (fun vs H Q E h => ?_) (fun cdv A outer s H vs Q E hr h => ?_), F.binds (ps := ["count", "sides"]) fun _ _ _ _ _ _ us hl => (by obtain ⟨b0, b1, rfl⟩ := us2 hl; rfl), F.kp, m⟩
 · obtain ⟨b, n, ys, ss, rfl, _⟩ := h
   rfl
 obtain ⟨b, n, ys, ss, rfl, hS, hP, hin, hn, q⟩ := h
 refine ⟨_, (pss_one (ps_ret (pe_dz D_held_by_all hr (pa_Call (pe_dz D_wide hr (pa_Name (pv 0) pa_nil)) (pa_Name (pv 1) pa_nil))))), ?_⟩
 refine ⟨_, rfl, n, rfl, hn, fun p bs H1 sm1 N1 => ?_⟩
 refine ⟨_, rfl, .ref p, b, n, some Oct.wideT, ys, ss, rfl, ⟨p, bs, rfl, N1.tab⟩, fun f _ => ?_, sm1.seq hS, sides_same sm1 hP, hin, hn, fun u H2 sm2 N2 => q u H2 (sm1.trans sm2) (N2.of sm1)⟩
 unfold Oct.wideT
 rw [if_pos rfl]
 exact Oct.leE_refl _
theorem sc_held_by_all : FnScope ["shape", "sides"] ["shape", "sides"] (defScope s_held_by_all) := ⟨rfl, rfl, rfl, by decide +kernel, rfl, by decide +kernel, by decide +kernel⟩
theorem ok_held_by_all {f : Addr} {fd : FuncData} (F : Fun K "held_by_all" "held_by_all" s_held_by_all f fd) (m : mg "held_by_all" = some (.ref f)) (B : Bl mg) (D_tightened : Def P w K mg base CX0 "tightened" 5 ["table"] (sp_tightened K)) (D_lowered : Def P w K mg base CX0 "lowered" 2 ["table", "sides"] (sp_lowered K)) : Def P w K mg base CX0 "held_by_all" 6 ["shape", "sides"] (sp_held_by_all K) := by
 refine ⟨f, fd, F.ok sc_held_by_all (fun vs H Q E h => ?_) (fun cdv A outer s H vs Q E hr h => ?_), F.binds (ps := ["shape", "sides"]) fun _ _ _ _ _ _ us hl => (by obtain ⟨b0, b1, rfl⟩ := us2 hl; rfl), F.kp, m⟩
 · obtain ⟨v, b, n, o, ys, ss, rfl, _⟩ := h
   rfl
 obtain ⟨v, b, n, o, ys, ss, rfl, hV, hD, hS, hP, hin, hn, q⟩ := h
 refine ⟨_, (@pss_cons _ _ _ _ _ (ps_if (pt_cmpR op_isN (pv 0) pe_non (nomark _)) (pss_one (ps_ret pe_non)) pss_nil)
  (pss_one (ps_ret (pe_dz D_tightened hr (pa_Call (pe_dz D_lowered hr (pa_Name (pv 0) (pa_Name (pv 1) pa_nil))) pa_nil))))), ?_⟩
 refine seq_step fun U hU => ?_
 cases o with
 | none =>
  cases hV
  refine ⟨_, rfl, rfl, _, rfl, ?_⟩
  refine iteT ?_
  exact q _ _ (Same.refl H) rfl
 | some c =>
  obtain ⟨a, bs, rfl, T⟩ := hV
  refine ⟨_, rfl, rfl, _, rfl, ?_⟩
  refine iteF ?_
  show U _ _
  subst hU
  refine ⟨_, rfl, _, rfl, a, b, bs, n, c, ys, ss, rfl, T, hS, hP, hin, hn, fun p bs' H1 sm1 T1 => ?_⟩
  refine ⟨p, bs', n, Oct.lowL c ss, rfl, T1.tab, hn, fun f hf => Oct.leE_trans (Oct.lowL_le ss c f _) (hD f hf), fun u H2 sm2 N2 => ?_⟩
  exact q u H2 (sm1.trans sm2) (N2.of sm1)
theorem sc_lowered : FnScope ["table", "sides", "new", "side", "f", "g"] ["table", "sides"] (defScope s_lowered) := ⟨rfl, rfl, rfl, by decide +kernel, rfl, by decide +kernel, by decide +kernel⟩
theorem ok_lowered {f : Addr} {fd : FuncData} (F : Fun K "lowered" "lowered" s_lowered f fd) (m : mg "lowered" = some (.ref f)) (B : Bl mg) (D_lesser : Def P w K mg base CX0 "lesser" 1 ["one", "other"] (sp_lesser K)) : Def P w K mg base CX0 "lowered" 2 ["table", "sides"] (sp_lowered K) := by
 refine ⟨f, fd, F.ok sc_lowered (fun vs H Q E h => ?_) (fun cdv A outer s H vs Q E hr h => ?_), F.binds (ps := ["table", "sides"]) fun _ _ _ _ _ _ us hl => (by obtain ⟨b0, b1, rfl⟩ := us2 hl; rfl), F.kp, m⟩
 · obtain ⟨a, b, bs, n, c, ys, ss, rfl, _⟩ := h
   rfl
 obtain ⟨a, b, bs, n, c, ys, ss, rfl, T, hS, hP, hin, hn, q⟩ := h
 refine ⟨_, (@pss_cons _ _ _ _ _ (ps_setC (i := 2) (CompScope.of sc_lowered.nd (by rfl)) rfl (pi_listK (K := K) rfl (pv 0)) (fun _ _ _ => pif_nil) (fun _ _ _ => (pe_callTy (call_list_ofK (K := K) rfl) (by rfl) B.list (by decide +kernel) (pa_Name (pv 0) pa_nil))) sc_lowered.nd rfl (by first | exact Or.inl rfl | exact Or.inr rfl) rfl)
  (@pss_cons _ _ _ _ _ (ps_for PassesOwn.never rfl (pi_listK (K := K) rfl (pv 1)) (pg_nz 3 sc_lowered.nd) (@pss_cons _ _ _ _ _ (ps_sz 4 sc_lowered.nd (pe_xT (K := K) (pv 3) pe_int))
  (@pss_cons _ _ _ _ _ (ps_sz 5 sc_lowered.nd (pe_xT (K := K) (pv 3) pe_int))
  (@pss_cons _ _ _ _ _ (ps_asg (pe_dz D_lesser hr (pa_Subscript (pe_xL (K := K) (pe_xL (K := K) (pv 2) (pv 4)) (pv 5)) (pa_Subscript (pe_xT (K := K) (pv 3) pe_int) pa_nil))) (pg_sub (pe_xL (K := K) (pv 2) (pv 4)) (pv 5) set_list))
  (pss_one (ps_asg (pe_dz D_lesser hr (pa_Subscript (pe_xL (K := K) (pe_xL (K := K) (pv 2) (pv 5)) (pv 4)) (pa_Subscript (pe_xT (K := K) (pv 3) pe_int) pa_nil))) (pg_sub (pe_xL (K := K) (pv 2) (pv 5)) (pv 4) set_list)))))))
  (pss_one (ps_ret (pv 2))))), ?_⟩
 refine seq_step fun U hU => ?_
 have hL : (bs.map V.ref).length = 2 * n := by rw [List.length_map, T.lenN]
 refine ⟨_, rfl, a, rfl, ⟨_, SqL.of T.at_⟩, fun p hp => comp_listN (K := K) (a := a) (xs := bs.map V.ref) (fun i zs H' => Grow H H' p zs (Oct.rows i (2 * n) c)) (Grow.start hp) (fun i ys H' _ G => G.same.seq (SqL.of T.at_)) ?_ ?_⟩
 · rintro i x zs H' hx G
   have T' := T.same G.same
   obtain ⟨hi, d, rfl, ed, hd⟩ := T'.rowN hx
   simp only [tYes, ↓reduceIte]
   refine ⟨_, rfl, d, _, rfl, .inl (SqL.of hd), fun l hl => ?_⟩
   have st := G.step hl (same_new hl (.lst ((Oct.ln (2 * n) (c i)).map eV))) upd_same
   have hlt : i < (bs.map V.ref).length := (List.getElem?_eq_some_iff.mp hx).1
   refine ⟨st.1, by rw [G.len, Oct.rows_len]; exact small1000 (by omega), again hlt ?_⟩
   rw [Oct.rows_succ]
   exact st.2
 · rintro zs H1 ⟨bs1, rfl, T1, sm1⟩
   rw [hL] at T1
   show U _ _
   subst hU
   have lx := paired_len hP
   refine seq_step fun U hU => ?_
   refine ⟨_, rfl, b, rfl, ⟨_, sm1.seq hS⟩, for_list (K := K) (a := b) (xs := ys) (fun i σ H' => ∃ x y z, σ = [some (.ref a), some (.ref b), some (.ref p), x, y, z] /\ Same H H' /\ TabAt H' p bs1 (Oct.toT (2 * n) (Oct.lowL c (ss.take i)))) ⟨none, none, none, rfl, sm1, T1.tab⟩ (fun i σ H' _ ⟨_, _, _, _, sm, _⟩ => sm.seq hS) ?_ ?_⟩
   · rintro i v σ H' hv ⟨x, y, z, rfl, sm, T2⟩
     obtain ⟨s1, es, sa, rfl, hsa⟩ := paired_get' hP hv
     have hsa' : SqT K H' sa [.int (s1.1 : Nat), .int (s1.2.1 : Nat), .int s1.2.2] := SqT.of (sm _ _ hsa)
     obtain ⟨hf, hg⟩ := hin s1 (List.mem_of_getElem? es)
     refine seq_step fun U hU => ?_
     refine ⟨_, rfl, sa, _, 0, _, rfl, rfl, hsa', rfl, ?_⟩
     show U _ _
     subst hU
     refine seq_step fun U hU => ?_
     refine ⟨_, rfl, sa, _, 1, _, rfl, rfl, hsa', rfl, ?_⟩
     show U _ _
     subst hU
     generalize hcc : Oct.lowL c (ss.take i) = cc at *
     obtain ⟨b1, e1, h1, a1⟩ := T2.rd hf
     obtain ⟨b2, r2, e2, h2, TT, Tm⟩ := low1_tab (z := s1.2.2) T2 hf hg e1
     have nb1 : H b1 = none := T1.newL b1 (List.mem_of_getElem? e1)
     have nb2 : H b2 = none := T1.newL b2 (List.mem_of_getElem? e2)
     refine seq_step fun U hU => ?_
     refine ⟨_, rfl, _, rfl, p, _, _, _, rfl, rfl, SqL.of T2.at_, a1, _, rfl, b1, _, _, _, rfl, rfl, SqL.of h1, ln_at hg, _, rfl, sa, _, 2, _, rfl, rfl, hsa', rfl, cc s1.1 s1.2.1, some s1.2.2, rfl, _, rfl, _, rfl, p, _, _, _, rfl, rfl, SqL.of T2.at_, a1, _, rfl, b1, _, _, s1.2.1, rfl, rfl, h1, by rw [ln_lenV]; exact ixN_nat hg, ?_⟩
     rw [map_set_eV, Oct.ln_set]
     show U _ _
     subst hU
     have sm2 : Same H (upd H' b1 (.lst ((Oct.ln (2 * n) fun y => if y = s1.2.1 then Oct.minE (cc s1.1 s1.2.1) (some s1.2.2) else cc s1.1 y).map eV))) := same_over nb1 sm
     have hsa2 := sm2 _ _ hsa
     generalize upd H' b1 (.lst ((Oct.ln (2 * n) fun y => if y = s1.2.1 then Oct.minE (cc s1.1 s1.2.1) (some s1.2.2) else cc s1.1 y).map eV)) = H2 at *
     have hsa2' : SqT K H2 sa [.int (s1.1 : Nat), .int (s1.2.1 : Nat), .int s1.2.2] := SqT.of hsa2
     have a2 : atI (bs1.map V.ref) (s1.2.1 : Int) = some (.ref b2) := atI_nat (by rw [List.getElem?_map, e2]; rfl)
     refine ⟨_, rfl, _, rfl, p, _, _, _, rfl, rfl, SqL.of Tm.at_, a2, _, rfl, b2, _, _, _, rfl, rfl, SqL.of h2, ln_at hf, _, rfl, sa, _, 2, _, rfl, rfl, hsa2', rfl, r2 s1.1, some s1.2.2, rfl, _, rfl, _, rfl, p, _, _, _, rfl, rfl, SqL.of Tm.at_, a2, _, rfl, b2, _, _, s1.1, rfl, rfl, h2, by rw [ln_lenV]; exact ixN_nat hf, ?_⟩
     rw [map_set_eV, Oct.ln_set]
     refine ⟨_, _, _, rfl, same_over nb2 sm2, ?_⟩
     rw [take_succ_of es, lowL_snoc, hcc]
     exact TT
   · rintro σ H' ⟨x, y, z, rfl, sm, T2⟩
     show U _ _
     subst hU
     rw [lx, List.take_length] at T2
     exact ⟨_, rfl, q p bs1 H' sm ⟨T2, T1.newT, T1.newL⟩⟩
theorem sc_tightened : FnScope ["table", "whole", "halves", "f"] ["table"] (defScope s_tightened) := ⟨rfl, rfl, rfl, by decide +kernel, rfl, by decide +kernel, by decide +kernel⟩
theorem ok_tightened {f : Addr} {fd : FuncData} (F : Fun K "tightened" "tightened" s_tightened f fd) (m : mg "tightened" = some (.ref f)) (B : Bl mg) (D_linked_through_all : Def P w K mg base CX0 "linked_through_all" 4 ["table"] (sp_linked_through_all K)) (D_half : Def P w K mg base CX0 "half" 1 ["entry"] (sp_half K)) (D_row_within_halves : Def P w K mg base CX0 "row_within_halves" 2 ["row", "own_half", "halves"] (sp_row_within_halves K)) (D_below : Def P w K mg base CX0 "below" 1 ["entry", "number"] (sp_below K)) (D_summed : Def P w K mg base CX0 "summed" 1 ["one", "other"] (sp_summed K)) (D_flipped : Def P w K mg base CX0 "flipped" 1 ["f"] (sp_flipped K)) : Def P w K mg base CX0 "tightened" 5 ["table"] (sp_tightened K) := by
 refine ⟨f, fd, F.ok sc_tightened (fun vs H Q E h => ?_) (fun cdv A outer s H vs Q E hr h => ?_), F.binds (ps := ["table"]) fun _ _ _ _ _ _ us hl => (by obtain ⟨b0, rfl⟩ := us1 hl; rfl), F.kp, m⟩
 · obtain ⟨a, bs, n, c, rfl, _⟩ := h
   rfl
 obtain ⟨a, bs, n, c, rfl, T, hn, hd, q⟩ := h
 refine ⟨_, (@pss_cons _ _ _ _ _ (ps_sz 1 sc_tightened.nd (pe_dz D_linked_through_all hr (pa_Name (pv 0) pa_nil)))
  (@pss_cons _ _ _ _ _ (ps_sz 2 sc_tightened.nd (pe_comp1 (CompScope1.of (M := ["table", "whole", "halves", "?f"]) (by decide +kernel) (by rfl)) rfl (pi_range1 (by rfl) B.range (pa_Call (pe_callB (call_lenK (K := K) rfl) (by rfl) B.len (by decide +kernel) (pa_Name (pv 1) pa_nil)) pa_nil)) (fun _ _ _ => (pe_dz D_half hr (pa_Subscript (pe_xL (K := K) (pe_xL (K := K) (pv 2) (pv 0)) (pv 0)) pa_nil)))))
  (@pss_cons _ _ _ _ _ (ps_for PassesOwn.never rfl (pi_range1 (by rfl) B.range (pa_Call (pe_callB (call_lenK (K := K) rfl) (by rfl) B.len (by decide +kernel) (pa_Name (pv 1) pa_nil)) pa_nil)) (pg_nz 3 sc_tightened.nd) (pss_one (ps_if (pw_or (pt_cmpR op_lt (pe_xL (K := K) (pe_xL (K := K) (pv 1) (pv 3)) (pe_dz D_flipped hr (pa_Name (pv 3) pa_nil))) pe_int (nomark _)) (pw_or1 (pt_val (pe_dz D_below hr (pa_Call (pe_dz D_summed hr (pa_Subscript (pe_xL (K := K) (pv 2) (pv 3)) (pa_Subscript (pe_xL (K := K) (pv 2) (pe_dz D_flipped hr (pa_Name (pv 3) pa_nil))) pa_nil))) (pa_Constant pe_int pa_nil)))))).pt (pss_one (ps_ret pe_non)) pss_nil)))
  (pss_one (ps_ret (pe_comp2K (K := K) rfl (CompScope2.of (M := ["table", "whole", "halves", "?f"]) (by decide +kernel) (by rfl)) rfl (pi_enumK (K := K) rfl (by rfl) B.enumerate (pa_Name (pv 1) pa_nil)) (fun _ _ _ => (pe_dz D_row_within_halves hr (pa_Name (pv 1) (pa_Subscript (pe_xL (K := K) (pv 4) (pv 0)) (pa_Name (pv 4) pa_nil))))))))))), ?_⟩
 refine seq_step fun U hU => ?_
 refine ⟨_, rfl, a, bs, n, c, rfl, T, hn, fun p bs1 H1 sm1 T1 => ?_⟩
 show U _ _
 subst hU
 have hd1 : ∀ f, f < 2 * n -> ∃ z : Int, Oct.links c (Oct.hsOf (2 * n)) f (Oct.fl f) = some z := fun f hf => by
  have l := Oct.leE_trans (Oct.links_le (Oct.hsOf (2 * n)) c f (Oct.fl f)) (hd f hf)
  revert l
  cases Oct.links c (Oct.hsOf (2 * n)) f (Oct.fl f) with
  | none => intro l; exact l.elim
  | some z => intro _; exact ⟨z, rfl⟩
 have hsh : Oct.shapeO (2 * n) c = if (List.range (2 * n)).any (Oct.badAt (Oct.links c (Oct.hsOf (2 * n)))) then none else some (Oct.strong (Oct.links c (Oct.hsOf (2 * n)))) := rfl
 rw [hsh] at q
 generalize Oct.links c (Oct.hsOf (2 * n)) = u at *
 have hL : (bs1.map V.ref).length = 2 * n := by rw [List.length_map, T1.lenN]
 refine seq_step fun U hU => ?_
 refine ⟨_, rfl, p, _, rfl, .inl (SqL.of T1.at_), ((bs1.map V.ref).length : Int), rfl, by omega, by omega, fun q1 hq1 => comp_range1 (lo := 0) (n := ((bs1.map V.ref).length : Int).toNat) (fun i ys H' => ys = (Oct.ln i (Oct.hv u)).map eV /\ H' q1 = some (.lst ys) /\ Same H1 H') ⟨rfl, upd_same, same_new hq1 _⟩ ?_ ?_⟩
 · rintro i ys H' hi ⟨rfl, hp', sm⟩
   have hi' : i < 2 * n := by omega
   have T2 := T1.same sm
   obtain ⟨b, eb, hb, ab⟩ := T2.rd hi'
   rw [Int.zero_add]
   refine ⟨_, rfl, _, rfl, p, _, _, _, rfl, rfl, SqL.of T2.at_, ab, _, rfl, b, _, _, _, rfl, rfl, SqL.of hb, ln_at hi', u i i, rfl, hp', by rw [ln_lenV]; exact small1000 (by omega), again hi ⟨ln_snocV i (Oct.hv u), upd_same, same_over hq1 sm⟩⟩
 · rintro ys H2 ⟨rfl, hq2, sm2⟩
   show U _ _
   subst hU
   have en : ((bs1.map V.ref).length : Int).toNat = 2 * n := by omega
   rw [en] at hq2
   have T2 := T1.same sm2
   have sm := sm1.trans sm2
   have sqh : SqL K H2 q1 ((Oct.ln (2 * n) (Oct.hv u)).map eV) := SqL.of hq2
   refine seq_step fun U hU => ?_
   refine ⟨_, rfl, p, _, rfl, .inl (SqL.of T2.at_), ((bs1.map V.ref).length : Int), rfl, by omega, by omega, for_range (lo := 0) (n := ((bs1.map V.ref).length : Int).toNat) (fun i σ H' => ∃ v, σ = [some (.ref a), some (.ref p), some (.ref q1), v] /\ H' = H2 /\ ∀ f, f < i -> Oct.badAt u f = false) ⟨none, rfl, rfl, fun f hf => absurd hf (Nat.not_lt_zero f)⟩ ?_ ?_⟩
   · rintro i σ H' hi ⟨v, rfl, rfl, hb0⟩
     have hi' : i < 2 * n := by omega
     have hfi : Oct.fl i < 2 * n := Oct.fl_lt hi'
     obtain ⟨z, ez⟩ := hd1 i hi'
     obtain ⟨b, eb, hb, ab⟩ := T2.rd hi'
     have bad : Oct.badAt u i = true -> ShapeNew H H' .non (2 * n) (if (List.range (2 * n)).any (Oct.badAt u) then none else some (Oct.strong u)) := fun h => by
      rw [if_pos (List.any_eq_true.mpr ⟨i, List.mem_range.mpr hi', h⟩)]
      rfl
     rw [Int.zero_add]
     refine ⟨_, rfl, _, rfl, p, _, _, _, rfl, rfl, SqL.of T2.at_, ab, _, rfl, (i : Int), rfl, b, _, _, eV (u i (Oct.fl i)), rfl, rfl, SqL.of hb, by rw [flip_nat]; exact ln_at hfi, z, 0, by rw [ez]; rfl, rfl, _, rfl, ?_⟩
     refine ite2 (fun h => ?_) (fun h => ?_)
     · refine iteT ?_
       refine q _ _ sm (bad ?_)
       unfold Oct.badAt
       rw [ez]
       simp only [Oct.neg0, h, Bool.true_or]
     · refine ⟨_, rfl, _, rfl, q1, _, _, _, rfl, rfl, sqh, ln_at hi', _, rfl, _, rfl, (i : Int), rfl, q1, _, _, _, rfl, rfl, sqh, by rw [flip_nat]; exact ln_at hfi, Oct.hv u i, Oct.hv u (Oct.fl i), rfl, Oct.addE (Oct.hv u i) (Oct.hv u (Oct.fl i)), 0, rfl, _, rfl, ?_⟩
       have eb2 : Oct.badAt u i = belowE (Oct.addE (Oct.hv u i) (Oct.hv u (Oct.fl i))) 0 := by
        unfold Oct.badAt
        rw [ez, belowE_neg0]
        have : decide (z < 0) = false := by simpa using h
        simp only [Oct.neg0, this, Bool.false_or]
       cases hbb : belowE (Oct.addE (Oct.hv u i) (Oct.hv u (Oct.fl i))) 0 with
       | true =>
        refine iteT ?_
        exact q _ _ sm (bad (eb2.trans hbb))
       | false =>
        refine iteF ?_
        refine ⟨_, rfl, rfl, fun f hf => ?_⟩
        by_cases hfi : f = i
        · subst hfi; exact eb2.trans hbb
        · exact hb0 f (by omega)
   · rintro σ H' ⟨v, rfl, rfl, hb0⟩
     show U _ _
     subst hU
     have nb : (List.range (2 * n)).any (Oct.badAt u) = false := by
      rw [List.any_eq_false]
      intro f hf
      have := hb0 f (by have := List.mem_range.mp hf; omega)
      simp [this]
     rw [nb] at q
     refine ⟨_, rfl, p, rfl, ⟨_, SqL.of T2.at_⟩, fun l hl => comp_enumN (K := K) (a := p) (xs := bs1.map V.ref) (fun i ys H3 => Grow H' H3 l ys (Oct.rows i (2 * n) (Oct.strong u))) (Grow.start hl) (fun i ys H3 _ G => G.same.seq (SqL.of T2.at_)) ?_ ?_⟩
     · rintro i x ys H3 H4 hx G sm4
       have s4 := G.same.trans sm4
       have T4 := T2.same s4
       obtain ⟨hi, b, rfl, eb, hb⟩ := T4.rowN hx
       have sqh4 := s4.seq sqh
       refine ⟨_, rfl, _, rfl, _, rfl, q1, _, _, _, rfl, rfl, sqh4, ln_at hi, _, rfl, b, Oct.hv u i, q1, 2 * n, u i, Oct.hv u, rfl, SqL.of hb, sqh4, by omega, fun l2 H5 hl2 sm5 el => ?_⟩
       have e1 : (fun g => Oct.minE (u i g) (Oct.addE (Oct.hv u i) (Oct.hv u g))) = Oct.strong u i := by
        funext g; exact Oct.strong_eq u i g
       rw [e1] at el
       have st := G.step (sm4.free hl2) (sm4.trans sm5) el
       have hlt : i < (bs1.map V.ref).length := (List.getElem?_eq_some_iff.mp hx).1
       refine ⟨st.1, by rw [G.len, Oct.rows_len]; exact small1000 (by omega), again hlt ?_⟩
       rw [Oct.rows_succ]
       exact st.2
     · rintro ys H3 ⟨bs', rfl, T3, sm3⟩
       rw [hL] at T3
       exact q _ _ (sm.trans sm3) ⟨l, bs', rfl, T3.of sm⟩
theorem sc_row_within_halves : FnScope ["row", "own_half", "halves"] ["row", "own_half", "halves"] (defScope s_row_within_halves) := ⟨rfl, rfl, rfl, by decide +kernel, rfl, by decide +kernel, by decide +kernel⟩
theorem ok_row_within_halves {f : Addr} {fd : FuncData} (F : Fun K "row_within_halves" "row_within_halves" s_row_within_halves f fd) (m : mg "row_within_halves" = some (.ref f)) (B : Bl mg) (D_lesser : Def P w K mg base CX0 "lesser" 1 ["one", "other"] (sp_lesser K)) (D_summed : Def P w K mg base CX0 "summed" 1 ["one", "other"] (sp_summed K)) : Def P w K mg base CX0 "row_within_halves" 2 ["row", "own_half", "halves"] (sp_row_within_halves K) := by
 refine ⟨f, fd, F.ok sc_row_within_halves (fun vs H Q E h => ?_) (fun cdv A outer s H vs Q E hr h => ?_), F.binds (ps := ["row", "own_half", "halves"]) fun _ _ _ _ _ _ us hl => (by obtain ⟨b0, b1, b2, rfl⟩ := us3 hl; rfl), F.kp, m⟩
 · obtain ⟨a, e, b, N, r, o, rfl, _⟩ := h
   rfl
 obtain ⟨a, e, b, N, r, o, rfl, hA, hB, hN, q⟩ := h
 refine ⟨_, (pss_one (ps_ret (pe_comp2K (K := K) rfl (CompScope2.of (M := ["row", "own_half", "halves"]) sc_row_within_halves.nd (by rfl)) rfl (pi_zipK (K := K) rfl (by rfl) B.zip (pa_Name (pv 0) (pa_Name (pv 2) pa_nil))) (fun _ _ _ => (pe_dz D_lesser hr (pa_Name (pv 0) (pa_Call (pe_dz D_summed hr (pa_Name (pv 3) (pa_Name (pv 1) pa_nil))) pa_nil))))))), ?_⟩
 refine ⟨_, rfl, _, rfl, a, b, rfl, ⟨_, hA⟩, ⟨_, hB⟩, fun p hp => comp_zipN (K := K) (a := a) (b := b) (xs := (Oct.ln N r).map eV) (zs := (Oct.ln N o).map eV) (by rw [ln_lenV, ln_lenV]) (fun i ys H' => ys = (Oct.ln i fun g => Oct.minE (r g) (Oct.addE e (o g))).map eV /\ H' p = some (.lst ys) /\ Same H H') ⟨rfl, upd_same, same_new hp _⟩ (fun i ys H' _ ⟨_, _, sm⟩ => ⟨sm.seq hA, sm.seq hB⟩) ?_ ?_⟩
 · rintro i x z ys H' H1 hx hz ⟨rfl, hp', sm⟩ sm1
   obtain ⟨hi, rfl⟩ := ln_item hx
   obtain ⟨_, rfl⟩ := ln_item hz
   refine ⟨_, rfl, _, rfl, _, rfl, e, o i, rfl, r i, Oct.addE e (o i), rfl, sm1 _ _ hp', by rw [ln_lenV]; exact small1000 (by omega), ?_⟩
   rw [ln_lenV]
   exact again hi ⟨ln_snocV i (fun g => Oct.minE (r g) (Oct.addE e (o g))), upd_same, same_over hp (sm.trans sm1)⟩
 · rintro ys H' ⟨rfl, hp', sm⟩
   rw [ln_lenV] at hp'
   exact q p H' hp sm hp'
theorem sc_linked_through_all : FnScope ["table", "whole", "m"] ["table"] (defScope s_linked_through_all) := ⟨rfl, rfl, rfl, by decide +kernel, rfl, by decide +kernel, by decide +kernel⟩
theorem ok_linked_through_all {f : Addr} {fd : FuncData} (F : Fun K "linked_through_all" "linked_through_all" s_linked_through_all f fd) (m : mg "linked_through_all" = some (.ref f)) (B : Bl mg) (D_linked_through : Def P w K mg base CX0 "linked_through" 3 ["table", "m"] (sp_linked_through K)) : Def P w K mg base CX0 "linked_through_all" 4 ["table"] (sp_linked_through_all K) := by
 refine ⟨f, fd, F.ok sc_linked_through_all (fun vs H Q E h => ?_) (fun cdv A outer s H vs Q E hr h => ?_), F.binds (ps := ["table"]) fun _ _ _ _ _ _ us hl => (by obtain ⟨b0, rfl⟩ := us1 hl; rfl), F.kp, m⟩
 · obtain ⟨a, bs, n, c, rfl, _⟩ := h
   rfl
 obtain ⟨a, bs, n, c, rfl, T, hn, q⟩ := h
 refine ⟨_, (@pss_cons _ _ _ _ _ (ps_sz 1 sc_linked_through_all.nd (pv 0))
  (@pss_cons _ _ _ _ _ (ps_for PassesOwn.never rfl (pi_range1 (by rfl) B.range (pa_Call (pe_callB (call_lenK (K := K) rfl) (by rfl) B.len (by decide +kernel) (pa_Name (pv 0) pa_nil)) pa_nil)) (pg_nz 2 sc_linked_through_all.nd) (pss_one (ps_sz 1 sc_linked_through_all.nd (pe_dz D_linked_through hr (pa_Name (pv 1) (pa_Name (pv 2) pa_nil))))))
  (pss_one (ps_ret (pv 1))))), ?_⟩
 refine seq_step fun U hU => ?_
 refine ⟨_, rfl, ?_⟩
 show U _ _
 subst hU
 have hL : (bs.map V.ref).length = 2 * n := by rw [List.length_map, T.lenN]
 refine seq_step fun U hU => ?_
 refine ⟨_, rfl, a, _, rfl, .inl (SqL.of T.at_), ((bs.map V.ref).length : Int), rfl, by omega, by omega, for_range (lo := 0) (n := ((bs.map V.ref).length : Int).toNat) (fun i σ H' => ∃ v p bs', σ = [some (.ref a), some (.ref p), v] /\ Same H H' /\ TabAt H' p bs' (Oct.toT (2 * n) (Oct.links c (Oct.hsOf i)))) ⟨none, a, bs, rfl, Same.refl _, T⟩ ?_ ?_⟩
 · rintro i σ H' hi ⟨v, p, bs', rfl, sm, T'⟩
   have hi' : i < 2 * n := by omega
   refine ⟨_, rfl, _, rfl, p, bs', 2 * n, Oct.links c (Oct.hsOf i), i, by simp, T', by omega, hi', Oct.fl_lt hi', fun p2 bs2 H2 sm2 N2 => ?_⟩
   refine ⟨_, p2, bs2, rfl, sm.trans sm2, ?_⟩
   rw [hsOf_succ, links_snoc]
   exact N2.tab
 · rintro σ H' ⟨v, p, bs', rfl, sm, T'⟩
   show U _ _
   subst hU
   have e : ((bs.map V.ref).length : Int).toNat = 2 * n := by omega
   rw [e] at T'
   exact ⟨_, rfl, q p bs' H' sm T'⟩
theorem sc_linked_through : FnScope ["table", "m"] ["table", "m"] (defScope s_linked_through) := ⟨rfl, rfl, rfl, by decide +kernel, rfl, by decide +kernel, by decide +kernel⟩
theorem ok_linked_through {f : Addr} {fd : FuncData} (F : Fun K "linked_through" "linked_through" s_linked_through f fd) (m : mg "linked_through" = some (.ref f)) (B : Bl mg) (D_linked_row : Def P w K mg base CX0 "linked_row" 2 ["row", "ahead", "onward"] (sp_linked_row K)) (D_flipped : Def P w K mg base CX0 "flipped" 1 ["f"] (sp_flipped K)) : Def P w K mg base CX0 "linked_through" 3 ["table", "m"] (sp_linked_through K) := by
 refine ⟨f, fd, F.ok sc_linked_through (fun vs H Q E h => ?_) (fun cdv A outer s H vs Q E hr h => ?_), F.binds (ps := ["table", "m"]) fun _ _ _ _ _ _ us hl => (by obtain ⟨b0, b1, rfl⟩ := us2 hl; rfl), F.kp, m⟩
 · obtain ⟨a, bs, N, c, m1, rfl, _⟩ := h
   rfl
 obtain ⟨a, bs, N, c, m1, rfl, T, hN, hm, hfm, q⟩ := h
 refine ⟨_, (pss_one (ps_ret (pe_comp (CompScope.of sc_linked_through.nd (by rfl)) rfl (pi_listK (K := K) rfl (pv 0)) (fun _ _ _ => pif_nil) (fun _ _ _ => (pe_dz D_linked_row hr (pa_Name (pv 0) (pa_Subscript (pe_xL (K := K) (pv 0) (pe_dz D_flipped hr (pa_Name (pv 2) pa_nil))) (pa_Subscript (pe_xL (K := K) (pv 1) (pv 2)) pa_nil)))))))), ?_⟩
 refine ⟨_, rfl, a, rfl, ⟨_, SqL.of T.at_⟩, fun p hp => comp_listN (K := K) (a := a) (xs := bs.map V.ref) (fun i ys H' => Grow H H' p ys (Oct.rows i N (Oct.lnk c (Oct.fl m1)))) (Grow.start hp) (fun i ys H' _ G => G.same.seq (SqL.of T.at_)) ?_ ?_⟩
 · rintro i x ys H' hx G
   have T' := T.same G.same
   obtain ⟨hi, b, rfl, eb, hb⟩ := T'.rowN hx
   obtain ⟨d, ed, hd, ad⟩ := T'.rd hm
   simp only [tYes, ↓reduceIte]
   refine ⟨_, rfl, _, rfl, _, rfl, (m1 : Int), rfl, b, _, _, _, rfl, rfl, SqL.of hb, by rw [flip_nat]; exact ln_at hfm, _, rfl, _, rfl, a, _, _, _, rfl, rfl, SqL.of T'.at_, ad, b, c i (Oct.fl m1), d, N, c i, c m1, rfl, SqL.of hb, SqL.of hd, hN, fun l H2 hl sm el => ?_⟩
   have e1 : (fun g => Oct.minE (c i g) (Oct.addE (c i (Oct.fl m1)) (c m1 g))) = Oct.lnk c (Oct.fl m1) i := by
    funext g; unfold Oct.lnk; rw [Oct.fl_fl]
   rw [e1] at el
   have st := G.step hl sm el
   have hlt : i < (bs.map V.ref).length := (List.getElem?_eq_some_iff.mp hx).1
   refine ⟨st.1, by rw [G.len, Oct.rows_len]; exact small1000 (by omega), again hlt ?_⟩
   rw [Oct.rows_succ]
   exact st.2
 · rintro ys H' ⟨bs', rfl, T', sm⟩
   rw [List.length_map, T.lenN] at T'
   exact q p bs' H' sm T'
theorem sc_linked_row : FnScope ["row", "ahead", "onward"] ["row", "ahead", "onward"] (defScope s_linked_row) := ⟨rfl, rfl, rfl, by decide +kernel, rfl, by decide +kernel, by decide +kernel⟩
theorem ok_linked_row {f : Addr} {fd : FuncData} (F : Fun K "linked_row" "linked_row" s_linked_row f fd) (m : mg "linked_row" = some (.ref f)) (B : Bl mg) (D_lesser : Def P w K mg base CX0 "lesser" 1 ["one", "other"] (sp_lesser K)) (D_summed : Def P w K mg base CX0 "summed" 1 ["one", "other"] (sp_summed K)) : Def P w K mg base CX0 "linked_row" 2 ["row", "ahead", "onward"] (sp_linked_row K) := by
 refine ⟨f, fd, F.ok sc_linked_row (fun vs H Q E h => ?_) (fun cdv A outer s H vs Q E hr h => ?_), F.binds (ps := ["row", "ahead", "onward"]) fun _ _ _ _ _ _ us hl => (by obtain ⟨b0, b1, b2, rfl⟩ := us3 hl; rfl), F.kp, m⟩
 · obtain ⟨a, e, b, N, r, o, rfl, _⟩ := h
   rfl
 obtain ⟨a, e, b, N, r, o, rfl, hA, hB, hN, q⟩ := h
 refine ⟨_, (pss_one (ps_ret (pe_comp2K (K := K) rfl (CompScope2.of (M := ["row", "ahead", "onward"]) sc_linked_row.nd (by rfl)) rfl (pi_zipK (K := K) rfl (by rfl) B.zip (pa_Name (pv 0) (pa_Name (pv 2) pa_nil))) (fun _ _ _ => (pe_dz D_lesser hr (pa_Name (pv 0) (pa_Call (pe_dz D_summed hr (pa_Name (pv 3) (pa_Name (pv 1) pa_nil))) pa_nil))))))), ?_⟩
 refine ⟨_, rfl, _, rfl, a, b, rfl, ⟨_, hA⟩, ⟨_, hB⟩, fun p hp => comp_zipN (K := K) (a := a) (b := b) (xs := (Oct.ln N r).map eV) (zs := (Oct.ln N o).map eV) (by rw [ln_lenV, ln_lenV]) (fun i ys H' => ys = (Oct.ln i fun g => Oct.minE (r g) (Oct.addE e (o g))).map eV /\ H' p = some (.lst ys) /\ Same H H') ⟨rfl, upd_same, same_new hp _⟩ (fun i ys H' _ ⟨_, _, sm⟩ => ⟨sm.seq hA, sm.seq hB⟩) ?_ ?_⟩
 · rintro i x z ys H' H1 hx hz ⟨rfl, hp', sm⟩ sm1
   obtain ⟨hi, rfl⟩ := ln_item hx
   obtain ⟨_, rfl⟩ := ln_item hz
   refine ⟨_, rfl, _, rfl, _, rfl, e, o i, rfl, r i, Oct.addE e (o i), rfl, sm1 _ _ hp', by rw [ln_lenV]; exact small1000 (by omega), ?_⟩
   rw [ln_lenV]
   exact again hi ⟨ln_snocV i (fun g => Oct.minE (r g) (Oct.addE e (o g))), upd_same, same_over hp (sm.trans sm1)⟩
 · rintro ys H' ⟨rfl, hp', sm⟩
   rw [ln_lenV] at hp'
   exact q p H' hp sm hp'
theorem sc__law_cell : FnScope ["_law_script", "_law_k", "_law_seed", "_law_some"] ["_law_script", "_law_k"] (defScope s__law_cell) := ⟨rfl, rfl, rfl, by decide +kernel, rfl, by decide +kernel, by decide +kernel⟩
theorem ok__law_cell {f : Addr} {fd : FuncData} (F : Fun K "_law_cell" "_law_cell" s__law_cell f fd) (m : mg "_law_cell" = some (.ref f)) (B : Bl mg)  : Def P w K mg base CX0 "_law_cell" 1 ["_law_script", "_law_k"] (sp__law_cell K) := by
 refine ⟨f, fd, F.ok sc__law_cell (fun vs H Q E h => ?_) (fun cdv A outer s H vs Q E hr h => ?_), F.binds (ps := ["_law_script", "_law_k"]) fun _ _ _ _ _ _ us hl => (by obtain ⟨b0, b1, rfl⟩ := us2 hl; rfl), F.kp, m⟩
 · obtain ⟨a, ns, k, rfl, _⟩ := h
   rfl
 obtain ⟨a, ns, k, rfl, hS, h0, q⟩ := h
 refine ⟨_, (@pss_cons _ _ _ _ _ (ps_if (pt_cmpR op_lt (pv 1) (pe_callB (call_lenK (K := K) rfl) (by rfl) B.len (by decide +kernel) (pa_Name (pv 0) pa_nil)) (nomark _)) (pss_one (ps_ret (pe_xL (K := K) (pv 0) (pv 1)))) pss_nil)
  (@pss_cons _ _ _ _ _ (ps_sz 2 sc__law_cell.nd (pe_op op_mul (pv 1) pe_int))
  (@pss_cons _ _ _ _ _ (ps_if (pt_cmpR op_gt (pe_callB (call_lenK (K := K) rfl) (by rfl) B.len (by decide +kernel) (pa_Name (pv 0) pa_nil)) pe_int (nomark _)) (pss_one (ps_sz 2 sc__law_cell.nd (pe_op op_add (pv 2) (pe_op op_mod (pe_xL (K := K) (pv 0) (pe_op op_mod (pv 1) (pe_callB (call_lenK (K := K) rfl) (by rfl) B.len (by decide +kernel) (pa_Name (pv 0) pa_nil)))) pe_int)))) pss_nil)
  (@pss_cons _ _ _ _ _ (ps_sz 3 sc__law_cell.nd (pe_op op_mod (pe_op op_mul (pv 2) pe_int) pe_int))
  (pss_one (ps_ret (pe_op op_mod (pe_op op_fdiv (pe_op op_mul (pv 3) (pe_op op_add (pe_op op_add (pv 3) (pe_op op_mul pe_int (pv 1))) pe_int)) pe_int) pe_int))))))), ?_⟩
 have hl : (ns.map V.int).length = ns.length := List.length_map _
 refine seq_step fun U hU => ?_
 refine ⟨_, rfl, _, rfl, a, _, rfl, .inl hS, _, _, rfl, rfl, _, rfl, ?_⟩
 rw [hl]
 unfold cellI at q
 refine ite2 (fun h => ?_) (fun h => ?_)
 · have c := of_decide_eq_true h
   rw [if_pos c] at q
   exact ⟨_, rfl, _, rfl, a, _, k, _, rfl, rfl, hS, atI_int h0 c, q⟩
 have c := fun z => h (decide_eq_true z)
 rw [if_neg c] at q
 show U _ _
 subst hU
 refine seq_step fun U hU => ?_
 refine ⟨_, rfl, _, _, rfl, rfl, .inr ⟨by decide, by decide⟩, ?_⟩
 show U _ _
 subst hU
 refine seq_step fun U hU => ?_
 have last : ∀ sd : Int, Q (.int (hashI k sd)) H -> U [some (V.ref a), some (.int k), some (.int sd), none] H := fun sd q => by
  subst hU
  refine seq_step fun U hU => ?_
  refine ⟨_, rfl, _, _, rfl, rfl, .inr ⟨by decide, by decide⟩, _, _, rfl, rfl, (by show (0 : Int) < 65537; decide), ?_⟩
  show U _ _
  dsimp only
  subst hU
  have m1 := Int.emod_nonneg (sd * 48271) (b := 65537) (by decide)
  have m2 := Int.emod_lt_of_pos (sd * 48271) (b := 65537) (by decide)
  unfold hashI at q
  generalize sd * 48271 % 65537 = t at *
  exact ⟨_, rfl, _, rfl, _, rfl, _, _, rfl, rfl, .inl ⟨by decide, by decide⟩, _, _, rfl, rfl, _, _, rfl, rfl, _, _, rfl, rfl, .inl ⟨by show -(2 ^ 64) < t; omega, by show t < 2 ^ 64; omega⟩, _, _, rfl, rfl, ⟨by decide, by decide⟩, _, _, rfl, rfl, (by show (0 : Int) < 65521; decide), q⟩
 refine ⟨_, rfl, a, _, rfl, .inl hS, _, _, rfl, rfl, _, rfl, ?_⟩
 rw [hl]
 refine ite2 (fun d => ?_) (fun d => ?_)
 · have d' : 0 < ns.length := by have := of_decide_eq_true d; omega
   rw [if_pos d'] at q
   have m1 := Int.emod_nonneg k (b := (ns.length : Int)) (by omega)
   have m2 := Int.emod_lt_of_pos k (b := (ns.length : Int)) (by omega)
   refine ⟨_, rfl, _, rfl, _, rfl, _, rfl, a, _, rfl, .inl hS, _, _, rfl, rfl, (by show (0 : Int) < ((ns.map V.int).length : Int); rw [hl]; omega), a, _, _, _, rfl, rfl, hS, (by show atI _ (k % ((ns.map V.int).length : Int)) = _; rw [hl]; exact atI_int m1 m2), _, _, rfl, rfl, (by show (0 : Int) < 65537; decide), _, _, rfl, rfl, ?_⟩
   exact last _ q
 · have d' : ¬ 0 < ns.length := fun z => d (decide_eq_true (by omega))
   rw [if_neg d'] at q
   exact last _ q
theorem sc__law_whole : FnScope ["_law_found"] ["_law_found"] (defScope s__law_whole) := ⟨rfl, rfl, rfl, by decide +kernel, rfl, by decide +kernel, by decide +kernel⟩
theorem ok__law_whole {f : Addr} {fd : FuncData} (F : Fun K "_law_whole" "_law_whole" s__law_whole f fd) (m : mg "_law_whole" = some (.ref f)) (B : Bl mg)  : Def P w K mg base CX0 "_law_whole" 1 ["_law_found"] (sp__law_whole K) := by
 refine ⟨f, fd, F.ok sc__law_whole (fun vs H Q E h => ?_) (fun cdv A outer s H vs Q E hr h => ?_), F.binds (ps := ["_law_found"]) fun _ _ _ _ _ _ us hl => (by obtain ⟨b0, rfl⟩ := us1 hl; rfl), F.kp, m⟩
 · obtain ⟨i, rfl, _⟩ := h
   rfl
 obtain ⟨i, rfl, q⟩ := h
 refine ⟨_, (pss_one (ps_ret (pe_and (pe_callB (call_isTyK (K := K) rfl) (by rfl) B.isinstance (by decide +kernel) (pa_Name (pv 0) (pa_Name (pe_bltn (v := .ty "int") (u := .type "int") (by rfl) B.int (by decide +kernel) rfl) pa_nil))) (pe_one (pe_not (pe_callB (call_isTyK (K := K) rfl) (by rfl) B.isinstance (by decide +kernel) (pa_Name (pv 0) (pa_Name (pe_bltn (v := .ty "bool") (u := .type "bool") (by rfl) B.bool (by decide +kernel) rfl) pa_nil)))))))), ?_⟩
 simp [tSeq, tNext, tIfS, tRet, tAsg, gName, tTest, tOp, tUn, tVar, tC, rI, rI0, rU, rEq, rNe, scal, L2.start, tCall, tCB, tNil, tCons, tTup, tLst, tNot, tAnd, tOr, tAndV, tOrV, tNotV, tIf, tDrop, CDiv, tB, rIxT, rIxL, tSl, tPart, tNoPart, tYes, CPow, -Bool.exists_bool]
 exact ⟨_, isT_int_int, by simp; exact .inl ⟨isT_int_bool, q⟩⟩
theorem sc__law_big : FnScope ["_law_cell_here"] ["_law_cell_here"] (defScope s__law_big) := ⟨rfl, rfl, rfl, by decide +kernel, rfl, by decide +kernel, by decide +kernel⟩
theorem ok__law_big {f : Addr} {fd : FuncData} (F : Fun K "_law_big" "_law_big" s__law_big f fd) (m : mg "_law_big" = some (.ref f)) (B : Bl mg)  : Def P w K mg base CX0 "_law_big" 1 ["_law_cell_here"] (sp__law_big K) := by
 refine ⟨f, fd, F.ok sc__law_big (fun vs H Q E h => ?_) (fun cdv A outer s H vs Q E hr h => ?_), F.binds (ps := ["_law_cell_here"]) fun _ _ _ _ _ _ us hl => (by obtain ⟨b0, rfl⟩ := us1 hl; rfl), F.kp, m⟩
 · obtain ⟨c, rfl, _⟩ := h
   rfl
 obtain ⟨c, rfl, q⟩ := h
 refine ⟨_, (@pss_cons _ _ _ _ _ (ps_if (pt_cmpR op_eq (pe_op op_mod (pv 0) pe_int) pe_int (nomark _)) (pss_one (ps_ret (pe_op op_sub (pe_op op_mod (pe_op op_fdiv (pv 0) pe_int) (pe_op op_add (pe_op op_mul pe_int (pe_op op_pow pe_int pe_int)) pe_int)) (pe_op op_pow pe_int pe_int)))) pss_nil)
  (pss_one (ps_ret (pe_op op_sub (pe_op op_mod (pe_op op_fdiv (pv 0) pe_int) pe_int) pe_int)))), ?_⟩
 simp [tSeq, tNext, tIfS, tRet, tAsg, gName, tTest, tOp, tUn, tVar, tC, rI, rI0, rU, rEq, rNe, scal, L2.start, tCall, tCB, tNil, tCons, tTup, tLst, tNot, tAnd, tOr, tAndV, tOrV, tNotV, tIf, tDrop, CDiv, tB, rIxT, rIxL, tSl, tPart, tNoPart, tYes, CPow, CMul]
 unfold bigI at q
 split
 · rename_i d
   rw [if_pos d] at q
   exact q
 · rename_i d
   rw [if_neg d] at q
   exact q
theorem sc__law_point : FnScope ["_law_script", "_law_at", "_law_count"] ["_law_script", "_law_at", "_law_count"] (defScope s__law_point) := ⟨rfl, rfl, rfl, by decide +kernel, rfl, by decide +kernel, by decide +kernel⟩
theorem ok__law_point {f : Addr} {fd : FuncData} (F : Fun K "_law_point" "_law_point" s__law_point f fd) (m : mg "_law_point" = some (.ref f)) (B : Bl mg) (D__law_big : Def P w K mg base CX0 "_law_big" 1 ["_law_cell_here"] (sp__law_big K)) (D__law_cell : Def P w K mg base CX0 "_law_cell" 1 ["_law_script", "_law_k"] (sp__law_cell K)) : Def P w K mg base CX0 "_law_point" 2 ["_law_script", "_law_at", "_law_count"] (sp__law_point K) := by
 refine ⟨f, fd, F.ok sc__law_point (fun vs H Q E h => ?_) (fun cdv A outer s H vs Q E hr h => ?_), F.binds (ps := ["_law_script", "_law_at", "_law_count"]) fun _ _ _ _ _ _ us hl => (by obtain ⟨b0, b1, b2, rfl⟩ := us3 hl; rfl), F.kp, m⟩
 · obtain ⟨a, ns, k, n, rfl, _⟩ := h
   rfl
 obtain ⟨a, ns, k, n, rfl, hS, h0, hn, q⟩ := h
 refine ⟨_, (pss_one (ps_ret (pe_callTy (call_tuple_ofK (K := K) rfl) (by rfl) B.tuple (by decide +kernel) (pa_cons (pe_comp (CompScope.of sc__law_point.nd (by rfl)) rfl (pi_range1 (by rfl) B.range (pa_Name (pv 2) pa_nil)) (fun _ _ _ => pif_nil) (fun _ _ _ => (pe_dz D__law_big hr (pa_Call (pe_dz D__law_cell hr (pa_Name (pv 1) (pa_BinOp (pe_op op_add (pv 2) (pv 0)) pa_nil))) pa_nil)))) pa_nil)))), ?_⟩
 refine ⟨_, rfl, (n : Int), rfl, by omega, by omega, fun p hp => comp_rangeN (lo := 0) (n := (n : Int).toNat) (fun i ys H' => ys = (pointI ns k i).map V.int /\ H' p = some (.lst ys) /\ Same H H') ⟨rfl, upd_same, same_new hp _⟩ ?_ ?_⟩
 · rintro i ys H' hi ⟨rfl, hp', sm⟩
   simp [tSeq, tNext, tIfS, tRet, tAsg, gName, tTest, tOp, tUn, tVar, tC, rI, rI0, rU, rEq, rNe, scal, L2.start, tCall, tCB, tNil, tCons, tTup, tLst, tNot, tAnd, tOr, tAndV, tOrV, tNotV, tIf, tDrop, CDiv, tB, rIxT, rIxL, tSl, tPart, tNoPart, tYes, CPow, sp__law_big, sp__law_cell]
   refine ⟨_, _, _, ⟨rfl, rfl⟩, sm.seq hS, by omega, hp', ?_, again hi ⟨?_, ?_, fun b o e => ?_⟩⟩
   · rw [pointI_length]; exact Nat.lt_of_le_of_lt (Nat.le_of_lt hi) (small1000 (by omega))
   · rw [pointI_succ]; simp
   · rw [upd_same]
   · rw [upd_ne (fun z => by subst z; rw [hp] at e; cases e)]
     exact sm b o e
 · rintro ys H' ⟨rfl, hp', sm⟩
   have en : (n : Int).toNat = n := Int.toNat_natCast n
   rw [en] at hp'
   refine ⟨p, _, rfl, .inl ⟨SqL.of hp', fun l hl => q l _ (sm.free hl) (sm.trans (same_new hl _)) upd_same⟩⟩
theorem sc__law_worth : FnScope ["_law_point_here", "_law_f"] ["_law_point_here", "_law_f"] (defScope s__law_worth) := ⟨rfl, rfl, rfl, by decide +kernel, rfl, by decide +kernel, by decide +kernel⟩
theorem ok__law_worth {f : Addr} {fd : FuncData} (F : Fun K "_law_worth" "_law_worth" s__law_worth f fd) (m : mg "_law_worth" = some (.ref f)) (B : Bl mg)  : Def P w K mg base CX0 "_law_worth" 1 ["_law_point_here", "_law_f"] (sp__law_worth K) := by
 refine ⟨f, fd, F.ok sc__law_worth (fun vs H Q E h => ?_) (fun cdv A outer s H vs Q E hr h => ?_), F.binds (ps := ["_law_point_here", "_law_f"]) fun _ _ _ _ _ _ us hl => (by obtain ⟨b0, b1, rfl⟩ := us2 hl; rfl), F.kp, m⟩
 · obtain ⟨a, ns, f, rfl, _⟩ := h
   rfl
 obtain ⟨a, ns, f, rfl, hS, h0, h1, q⟩ := h
 refine ⟨_, (pss_one (ps_ret (pe_op op_mul (pe_xT (K := K) (pv 0) (pe_op op_fdiv (pv 1) pe_int)) (pe_op op_sub pe_int (pe_op op_mul (pe_op op_mod (pv 1) pe_int) pe_int))))), ?_⟩
 simp [tSeq, tNext, tIfS, tRet, tAsg, gName, tTest, tOp, tUn, tVar, tC, rI, rI0, rU, rEq, rNe, scal, L2.start, tCall, tCB, tNil, tCons, tTup, tLst, tNot, tAnd, tOr, tAndV, tOrV, tNotV, tIf, tDrop, CDiv, tB, rIxT, rIxL, tSl, tPart, tNoPart, tYes, CPow, CMul]
 refine ⟨_, hS, _, atI_int (by omega) (by omega), ?_⟩
 simp
 rw [← worthI_eq] at q
 exact ⟨by omega, q⟩
theorem sc__law_flip : FnScope ["_law_f"] ["_law_f"] (defScope s__law_flip) := ⟨rfl, rfl, rfl, by decide +kernel, rfl, by decide +kernel, by decide +kernel⟩
theorem ok__law_flip {f : Addr} {fd : FuncData} (F : Fun K "_law_flip" "_law_flip" s__law_flip f fd) (m : mg "_law_flip" = some (.ref f)) (B : Bl mg)  : Def P w K mg base CX0 "_law_flip" 1 ["_law_f"] (sp__law_flip K) := by
 refine ⟨f, fd, F.ok sc__law_flip (fun vs H Q E h => ?_) (fun cdv A outer s H vs Q E hr h => ?_), F.binds (ps := ["_law_f"]) fun _ _ _ _ _ _ us hl => (by obtain ⟨b0, rfl⟩ := us1 hl; rfl), F.kp, m⟩
 · obtain ⟨f, rfl, _⟩ := h
   rfl
 obtain ⟨f, rfl, q⟩ := h
 refine ⟨_, (pss_one (ps_ret (pe_op op_sub (pe_op op_add (pv 0) pe_int) (pe_op op_mul (pe_op op_mod (pv 0) pe_int) pe_int)))), ?_⟩
 simp [tSeq, tNext, tIfS, tRet, tAsg, gName, tTest, tOp, tUn, tVar, tC, rI, rI0, rU, rEq, rNe, scal, L2.start, tCall, tCB, tNil, tCons, tTup, tLst, tNot, tAnd, tOr, tAndV, tOrV, tNotV, tIf, tDrop, CDiv, tB, rIxT, rIxL, tSl, tPart, tNoPart, tYes, CPow, CMul]
 rw [← flipI_eq] at q
 exact q
theorem sc__law_side_like : FnScope ["_law_found", "_law_due", "_law_part"] ["_law_found", "_law_due"] (defScope s__law_side_like) := ⟨rfl, rfl, rfl, by decide +kernel, rfl, by decide +kernel, by decide +kernel⟩
theorem ok__law_side_like {f : Addr} {fd : FuncData} (F : Fun K "_law_side_like" "_law_side_like" s__law_side_like f fd) (m : mg "_law_side_like" = some (.ref f)) (B : Bl mg) (D__law_whole : Def P w K mg base CX0 "_law_whole" 1 ["_law_found"] (sp__law_whole K)) : Def P w K mg base CX0 "_law_side_like" 2 ["_law_found", "_law_due"] (sp__law_side_like K) := by
 refine ⟨f, fd, F.ok sc__law_side_like (fun vs H Q E h => ?_) (fun cdv A outer s H vs Q E hr h => ?_), F.binds (ps := ["_law_found", "_law_due"]) fun _ _ _ _ _ _ us hl => (by obtain ⟨b0, b1, rfl⟩ := us2 hl; rfl), F.kp, m⟩
 · obtain ⟨a, b, ms, ns, rfl, _⟩ := h
   rfl
 obtain ⟨a, b, ms, ns, rfl, hA, hB, q⟩ := h
 refine ⟨_, (@pss_cons _ _ _ _ _ (ps_if (pw_or (pt_not (pt_val (pe_callB (call_isTyK (K := K) rfl) (by rfl) B.isinstance (by decide +kernel) (pa_Name (pv 0) (pa_Name (pe_bltn (v := .ty "tuple") (u := .type "tuple") (by rfl) B.tuple (by decide +kernel) rfl) pa_nil))))) (pw_or1 (pt_cmpR op_ne (pe_callB (call_lenK (K := K) rfl) (by rfl) B.len (by decide +kernel) (pa_Name (pv 0) pa_nil)) (pe_callB (call_lenK (K := K) rfl) (by rfl) B.len (by decide +kernel) (pa_Name (pv 1) pa_nil)) (nomark _)))).pt (pss_one (ps_ret pe_bl)) pss_nil)
  (@pss_cons _ _ _ _ _ (ps_for PassesOwn.never rfl (pi_tupK (K := K) rfl (pv 0)) (pg_nz 2 sc__law_side_like.nd) (pss_one (ps_if (pt_not (pt_val (pe_dz D__law_whole hr (pa_Name (pv 2) pa_nil)))) (pss_one (ps_ret pe_bl)) pss_nil)))
  (pss_one (ps_ret (pe_cmpR (op_eqDK (K := K) hr rfl) (pv 0) (pv 1) (nomark _)))))), ?_⟩
 have hlm : (ms.map V.int).length = ms.length := List.length_map _
 have hln : (ns.map V.int).length = ns.length := List.length_map _
 refine seq_step fun U hU => ?_
 simp [tSeq, tNext, tIfS, tRet, tAsg, gName, tTest, tOp, tUn, tVar, tC, rI, rI0, rU, rEq, rNe, scal, L2.start, tCall, tCB, tNil, tCons, tTup, tLst, tNot, tAnd, tOr, tAndV, tOrV, tNotV, tIf, tDrop, CDiv, tB, rIxT, rIxL, tSl, tPart, tNoPart, tYes, CPow, -Bool.exists_bool]
 refine ⟨_, isT_tup hA, ?_⟩
 simp
 refine ⟨_, .inr (SqT.of hA), _, .inr hB, ?_⟩
 by_cases hc : ms.length = ns.length
 · rw [hlm, hln]
   refine .inl ⟨by omega, ?_⟩
   subst hU
   refine ⟨_, rfl, a, rfl, ⟨_, SqT.of hA⟩, for_tup (K := K) (a := a) (xs := ms.map V.int) (fun i σ H2 => ∃ v, σ = [some (.ref a), some (.ref b), v] /\ H2 = H) ⟨none, rfl, rfl⟩ (fun i σ H2 _ ⟨_, _, e⟩ => by subst e; exact SqT.of hA) ?_ ?_⟩
   · rintro i y σ H2 hi ⟨v, rfl, rfl⟩
     obtain ⟨z, rfl⟩ : ∃ z, y = V.int z := by
      rw [List.getElem?_map] at hi
      cases e : ms[i]? with
      | none => rw [e] at hi; cases hi
      | some z => rw [e] at hi; exact ⟨z, (Option.some.inj hi).symm⟩
     simp [tSeq, tNext, tIfS, tRet, tAsg, gName, tTest, tOp, tUn, tVar, tC, rI, rI0, rU, rEq, rNe, scal, L2.start, tCall, tCB, tNil, tCons, tTup, tLst, tNot, tAnd, tOr, tAndV, tOrV, tNotV, tIf, tDrop, CDiv, tB, rIxT, rIxL, tSl, tPart, tNoPart, tYes, CPow, sp__law_whole]
   · rintro σ H2 ⟨v, rfl, rfl⟩
     refine ⟨_, rfl, _, rfl, .tuple (ms.map .int), .tuple (ns.map .int), .tup (SqT.of hA) (.ints ms), .tup hB (.ints ns), ?_, ?_⟩
     · have := depth_ints ms
       simp only [PyData.depth]
       omega
     · rw [PyData.eqv, eqvAll_ints]
       exact q
 · rw [hlm, hln]
   refine .inr ⟨by omega, ?_⟩
   have hc' : ¬ ms = ns := fun e => hc (by rw [e])
   rw [decide_eq_false hc'] at q
   exact q
theorem sc__law_cells : FnScope ["_law_script", "_law_at", "_law_room", "_law_cells_here"] ["_law_script", "_law_at", "_law_room"] (defScope s__law_cells) := ⟨rfl, rfl, rfl, by decide +kernel, rfl, by decide +kernel, by decide +kernel⟩
theorem ok__law_cells {f : Addr} {fd : FuncData} (F : Fun K "_law_cells" "_law_cells" s__law_cells f fd) (m : mg "_law_cells" = some (.ref f)) (B : Bl mg) (D__law_cell : Def P w K mg base CX0 "_law_cell" 1 ["_law_script", "_law_k"] (sp__law_cell K)) : Def P w K mg base CX0 "_law_cells" 2 ["_law_script", "_law_at", "_law_room"] (sp__law_cells K) := by
 refine ⟨f, fd, F.ok sc__law_cells (fun vs H Q E h => ?_) (fun cdv A outer s H vs Q E hr h => ?_), F.binds (ps := ["_law_script", "_law_at", "_law_room"]) fun _ _ _ _ _ _ us hl => (by obtain ⟨b0, b1, b2, rfl⟩ := us3 hl; rfl), F.kp, m⟩
 · obtain ⟨a, ns, k, room, rfl, _⟩ := h
   rfl
 obtain ⟨a, ns, k, room, rfl, hS, hlen, q⟩ := h
 have D__law_cell := D__law_cell.imp (cellAt_of (a := a) (ns := ns))
 refine ⟨_, (@pss_cons _ _ _ _ _ (ps_sz 3 sc__law_cells.nd (pe_slice (sl_listK (K := K) rfl) (pv 0) (po_some (pv 1)) (po_some (pe_op op_add (pv 1) (pv 2)))))
  (@pss_cons _ _ _ _ _ (ps_if (pt_cmpR op_lt (pe_callB (call_lenK (K := K) rfl) (by rfl) B.len (by decide +kernel) (pa_Name (pv 3) pa_nil)) pe_int (nomark _)) (pss_one (ps_setC (i := 3) (CompScope.of sc__law_cells.nd (by rfl)) rfl (pi_range1 (by rfl) B.range (pa_BinOp (pe_op op_add pe_int (pe_op op_mod (pe_dz D__law_cell hr (pa_Name (pv 0) (pa_Constant pe_int pa_nil))) pe_int)) pa_nil)) (fun _ _ _ => pif_nil) (fun _ _ _ => (pe_dz D__law_cell hr (pa_Name (pv 1) (pa_BinOp (pe_op op_add (pv 2) (pv 0)) pa_nil)))) sc__law_cells.nd rfl (by first | exact Or.inl rfl | exact Or.inr rfl) rfl)) pss_nil)
  (pss_one (ps_ret (pv 3))))), ?_⟩
 refine seq_step fun U hU => ?_
 refine ⟨_, rfl, _, rfl, (k : Int), rfl, _, rfl, _, rfl, _, _, rfl, rfl, ((k : Int) + (room : Int)), rfl, a, _, rfl, hS, fun ca hca => ?_⟩
 obtain ⟨cs, ecs, lcs⟩ := cut_ints ns (some (k : Int)) (some ((k : Int) + (room : Int)))
 rw [ecs]
 show U _ _
 subst hU
 have s1 := same_new hca (.lst (cs.map V.int))
 have e1 : upd H ca (.lst (cs.map V.int)) ca = some (.lst (cs.map V.int)) := upd_same
 generalize upd H ca (.lst (cs.map V.int)) = H1 at *
 have hS1 := s1.seq hS
 refine seq_step fun U hU => ?_
 refine ⟨_, rfl, ca, _, rfl, .inl (SqL.of e1), _, _, rfl, rfl, _, rfl, ?_⟩
 rw [List.length_map]
 refine ite2 (fun h => ?_) (fun h => ?_)
 · have m1 := Int.emod_nonneg (cellI ns 1) (b := 5) (by omega)
   have m2 := Int.emod_lt_of_pos (cellI ns 1) (b := 5) (by omega)
   refine ⟨_, rfl, (1 : Int), rfl, by decide, hS1, _, _, rfl, rfl, (by show (0 : Int) < 5; decide), _, _, rfl, rfl, (4 + cellI ns 1 % 5), rfl, by omega, by omega, fun p hp => comp_rangeN (lo := 0) (n := (4 + cellI ns 1 % 5).toNat) (fun i ys H' => ∃ zs : List Int, ys = zs.map V.int /\ zs.length = i /\ H' p = some (.lst ys) /\ Same H1 H') ⟨[], rfl, rfl, upd_same, same_new hp _⟩ ?_ ?_⟩
   · rintro i ys H' hi ⟨zs, rfl, lz, hp', sm⟩
     simp only [tYes, ↓reduceIte]
     refine ⟨_, rfl, _, rfl, _, rfl, _, _, rfl, rfl, (k : Int) + (0 + (i : Int)), rfl, by omega, sm.seq hS1, hp', by rw [List.length_map, lz]; exact small1000 (by omega), again hi ⟨zs ++ [cellI ns ((k : Int) + (0 + (i : Int)))], by simp, by simp [lz], upd_same, same_over hp sm⟩⟩
   · rintro ys H' ⟨zs, rfl, lz, hp', sm⟩
     show U _ _
     subst hU
     exact ⟨_, rfl, q p H' zs (s1.trans sm) (s1.free hp) hp' (by omega) (by omega)⟩
 · show U _ _
   subst hU
   simp at h
   exact ⟨_, rfl, q ca H1 cs s1 hca e1 (by omega) (by omega)⟩
theorem sc__law_sides : FnScope ["_law_cells_here", "_law_count", "_law_point_here", "_law_loose", "_law_sides_here", "_law_cell_here", "_law_f", "_law_g", "_law_rest", "_law_slack"] ["_law_cells_here", "_law_count", "_law_point_here", "_law_loose"] (defScope s__law_sides) := ⟨rfl, rfl, rfl, by decide +kernel, rfl, by decide +kernel, by decide +kernel⟩
theorem ok__law_sides {f : Addr} {fd : FuncData} (F : Fun K "_law_sides" "_law_sides" s__law_sides f fd) (m : mg "_law_sides" = some (.ref f)) (B : Bl mg) (D__law_worth : Def P w K mg base CX0 "_law_worth" 1 ["_law_point_here", "_law_f"] (sp__law_worth K)) : Def P w K mg base CX0 "_law_sides" 2 ["_law_cells_here", "_law_count", "_law_point_here", "_law_loose"] (sp__law_sides K) := by
 refine ⟨f, fd, F.ok sc__law_sides (fun vs H Q E h => ?_) (fun cdv A outer s H vs Q E hr h => ?_), F.binds (ps := ["_law_cells_here", "_law_count", "_law_point_here", "_law_loose"]) fun _ _ _ _ _ _ us hl => (by obtain ⟨b0, b1, b2, b3, rfl⟩ := us4 hl; rfl), F.kp, m⟩
 · obtain ⟨a, pt, cs, xs, n, lo, rfl, _⟩ := h
   rfl
 obtain ⟨a, pt, cs, xs, n, lo, rfl, hS, hP, xl, n1, n6, lcs, q⟩ := h
 refine ⟨_, (@pss_cons _ _ _ _ _ (ps_sz 4 sc__law_sides.nd (pe_lst pa_nil))
  (@pss_cons _ _ _ _ _ (ps_for PassesOwn.never rfl (pi_listK (K := K) rfl (pv 0)) (pg_nz 5 sc__law_sides.nd) (@pss_cons _ _ _ _ _ (ps_sz 6 sc__law_sides.nd (pe_op op_mod (pv 5) (pe_op op_mul pe_int (pv 1))))
  (@pss_cons _ _ _ _ _ (ps_sz 7 sc__law_sides.nd (pe_op op_mod (pe_op op_fdiv (pv 5) (pe_op op_mul pe_int (pv 1))) (pe_op op_mul pe_int (pv 1))))
  (@pss_cons _ _ _ _ _ (ps_sz 8 sc__law_sides.nd (pe_op op_fdiv (pv 5) (pe_op op_mul (pe_op op_mul pe_int (pv 1)) (pv 1))))
  (@pss_cons _ _ _ _ _ (ps_sz 9 sc__law_sides.nd (pe_op op_add (pe_op op_mod (pv 8) pe_int) (pv 3)))
  (@pss_cons _ _ _ _ _ (ps_if (pt_cmpR op_eq (pe_op op_mod (pe_op op_fdiv (pv 8) pe_int) pe_int) pe_int (nomark _)) (pss_one (ps_sz 9 sc__law_sides.nd (pe_op op_mod (pe_op op_fdiv (pv 8) pe_int) (pe_op op_pow pe_int pe_int)))) pss_nil)
  (pss_one (ps_expr (pe_bm PySem.F.plainAttrs_list PySem.F.slot_list_append PySem.F.type_list_append mt_append (pv 4) (pa_Tuple (pe_tup (pa_Name (pv 6) (pa_Name (pv 7) (pa_BinOp (pe_op op_add (pe_op op_add (pe_dz D__law_worth hr (pa_Name (pv 2) (pa_Name (pv 6) pa_nil))) (pe_dz D__law_worth hr (pa_Name (pv 2) (pa_Name (pv 7) pa_nil)))) (pv 9)) pa_nil)))) pa_nil))))))))))
  (pss_one (ps_ret (pv 4))))), ?_⟩
 refine seq_step fun U hU => ?_
 refine ⟨sz 0, fun p hp => ?_⟩
 show U _ _
 subst hU
 refine seq_step fun U hU => ?_
 refine ⟨_, rfl, a, rfl, ⟨_, (same_new hp _).seq hS⟩, for_list (K := K) (a := a) (xs := cs.map V.int) (fun i σ H' => ∃ (x1 x2 x3 x4 x5 : Option V) (ys : List V) (ss : List Sdn), σ = [some (.ref a), some (.int n), some (.ref pt), some (.int lo), some (.ref p), x1, x2, x3, x4, x5] /\ Same H H' /\ H' p = some (.lst ys) /\ Paired (SideAt H') ys ss /\ (∀ s ∈ ss, s.1 < 2 * n /\ s.2.1 < 2 * n) /\ (0 <= lo -> ∀ s ∈ ss, wN xs s.1 + wN xs s.2.1 <= s.2.2) /\ ss.length = i)
  ⟨none, none, none, none, none, [], [], rfl, same_new hp _, upd_same, .nil, fun s h => by simp at h, fun _ s h => by simp at h, rfl⟩ (fun i σ H' _ ⟨_, _, _, _, _, _, _, _, sm, _⟩ => sm.seq hS) ?_ ?_⟩
 · rintro i y σ H' hy ⟨x1, x2, x3, x4, x5, ys, ss, rfl, sm, hp', hSd, hin, hk, hl⟩
   obtain ⟨hi, rfl⟩ := at_of hy
   generalize cs[i] = cc
   have hP' := sm.sqT hP
   obtain ⟨f, ef, hf⟩ := mod_nat cc n1
   obtain ⟨g, eg, hg⟩ := mod_nat (cc / (2 * (n : Int))) n1
   refine seq_step fun U hU => ?_
   refine ⟨_, rfl, _, rfl, _, _, rfl, rfl, .inl ⟨by decide, by decide⟩, _, _, rfl, rfl, (by show (0 : Int) < 2 * (n : Int); omega), ?_⟩
   show U _ _
   dsimp only
   rw [ef]
   subst hU
   refine seq_step fun U hU => ?_
   refine ⟨_, rfl, _, rfl, _, _, rfl, rfl, .inl ⟨by decide, by decide⟩, _, _, rfl, rfl, ⟨by show (0 : Int) < 2 * (n : Int); omega, by show 2 * (n : Int) < 1073741824; omega⟩, _, rfl, _, _, rfl, rfl, .inl ⟨by decide, by decide⟩, _, _, rfl, rfl, (by show (0 : Int) < 2 * (n : Int); omega), ?_⟩
   show U _ _
   dsimp only
   rw [eg]
   subst hU
   have n36 : 4 * (n : Int) * (n : Int) <= 4 * 6 * 6 := Int.mul_le_mul (by omega) (by omega) (by omega) (by omega)
   have n37 : 0 < 4 * (n : Int) * (n : Int) := Int.mul_pos (by omega) (by omega)
   refine seq_step fun U hU => ?_
   refine ⟨_, rfl, _, rfl, _, _, rfl, rfl, .inl ⟨by decide, by decide⟩, _, rfl, _, _, rfl, rfl, .inr ⟨by show -(2 ^ 64) < (n : Int); omega, by show (n : Int) < 2 ^ 64; omega⟩, _, _, rfl, rfl, ⟨n37, by show 4 * (n : Int) * (n : Int) < 1073741824; omega⟩, ?_⟩
   show U _ _
   dsimp only
   generalize cc / (4 * (n : Int) * (n : Int)) = rest
   subst hU
   refine seq_step fun U hU => ?_
   refine ⟨_, rfl, _, _, rfl, rfl, (by show (0 : Int) < 4; decide), _, rfl, _, _, rfl, rfl, ?_⟩
   show U _ _
   subst hU
   have key : ∀ sl : Int, (0 <= lo -> 0 <= sl) -> ∀ U : St -> Hp -> Prop, (∀ x1 x2 x3 x4 x5 H2 (ys2 : List V) (ss2 : List Sdn), Same H H2 -> H2 p = some (.lst ys2) -> Paired (SideAt H2) ys2 ss2 -> (∀ s ∈ ss2, s.1 < 2 * n /\ s.2.1 < 2 * n) -> (0 <= lo -> ∀ s ∈ ss2, wN xs s.1 + wN xs s.2.1 <= s.2.2) -> ss2.length = i + 1 -> U [some (V.ref a), some (.int n), some (.ref pt), some (.int lo), some (.ref p), x1, x2, x3, x4, x5] H2) ->
     ∀ t, H' t = none -> U [some (V.ref a), some (.int n), some (.ref pt), some (.int lo), some (.ref p), some (.int cc), some (.int f), some (.int g), some (.int rest), some (.int sl)] (upd (upd H' t (.tup [.int f, .int g, .int (worthI xs f + worthI xs g + sl)])) p (.lst (ys ++ [.ref t]))) := by
    intro sl hsl U hU t ht
    have smt := same_new ht (.tup [.int f, .int g, .int (worthI xs f + worthI xs g + sl)])
    refine hU _ _ _ _ _ _ (ys ++ [.ref t]) (ss ++ [(f, g, worthI xs f + worthI xs g + sl)]) (same_over hp (sm.trans smt)) upd_same (paired_snoc (sides_put (smt _ _ hp') (sides_same smt hSd)) (SideAt.put (smt _ _ hp') ⟨t, rfl, upd_same⟩)) ?_ ?_ (by simp [hl])
    · intro s hs
      rcases List.mem_append.mp hs with z | z
      · exact hin s z
      · rw [List.mem_singleton.mp z]; exact ⟨hf, hg⟩
    · intro h0 s hs
      rcases List.mem_append.mp hs with z | z
      · exact hk h0 s z
      · rw [List.mem_singleton.mp z]
        have := hsl h0
        show worthI xs (f : Int) + worthI xs (g : Int) <= worthI xs f + worthI xs g + sl
        omega
   have lz : ys.length < sizeLine := by rw [paired_len hSd, hl]; exact small1000 (by omega)
   have fr := Int.emod_nonneg rest (b := 4) (by decide)
   have fr2 := Int.emod_nonneg (rest / 20) (b := 10 ^ 30) (by decide)
   refine seq_step fun U hU => ?_
   have last : ∀ sl : Int, (0 <= lo -> 0 <= sl) -> U [some (V.ref a), some (.int n), some (.ref pt), some (.int lo), some (.ref p), some (.int cc), some (.int f), some (.int g), some (.int rest), some (.int sl)] H' := fun sl hsl => by
    subst hU
    refine ⟨_, rfl, .inl ⟨rfl, _, SqL.of hp'⟩, _, rfl, _, rfl, _, rfl, _, rfl, pt, xs, (f : Int), rfl, hP', by omega, by omega, _, rfl, _, rfl, pt, xs, (g : Int), rfl, hP', by omega, by omega, _, _, rfl, rfl, _, rfl, _, _, rfl, rfl, sz 3, fun t ht => ⟨p, _, _, rfl, rfl, same_new ht _ _ _ hp', lz, ?_⟩⟩
    exact key sl hsl _ (fun x1 x2 x3 x4 x5 H2 ys2 ss2 a1 a2 a3 a4 a5 a6 => ⟨x1, x2, x3, x4, x5, ys2, ss2, rfl, a1, a2, a3, a4, a5, a6⟩) t ht
   refine ⟨_, rfl, _, _, rfl, rfl, ⟨by decide, by decide⟩, _, _, rfl, rfl, (by show (0 : Int) < 5; decide), rfl, _, rfl, ?_⟩
   refine ite2 (fun h => ?_) (fun h => ?_)
   · refine ⟨_, rfl, _, _, rfl, rfl, ⟨by decide, by decide⟩, _, _, rfl, rfl, ⟨by decide, by decide, by decide⟩, _, _, rfl, rfl, (by show (0 : Int) < 10 ^ 30; decide), ?_⟩
     exact last _ (fun _ => fr2)
   · exact last _ (fun h0 => by omega)
 · rintro σ H' ⟨x1, x2, x3, x4, x5, ys, ss, rfl, sm, hp', hSd, hin, hk, hl⟩
   show U _ _
   subst hU
   rw [List.length_map] at hl
   exact ⟨_, rfl, q p H' ys ss sm hp hp' hSd hin hk hl⟩
theorem sc__law_chain : FnScope ["_law_cells_here", "_law_count", "_law_point_here", "_law_sides_here", "_law_begin", "_law_number", "_law_cell_here", "_law_end"] ["_law_cells_here", "_law_count", "_law_point_here"] (defScope s__law_chain) := ⟨rfl, rfl, rfl, by decide +kernel, rfl, by decide +kernel, by decide +kernel⟩
theorem ok__law_chain {f : Addr} {fd : FuncData} (F : Fun K "_law_chain" "_law_chain" s__law_chain f fd) (m : mg "_law_chain" = some (.ref f)) (B : Bl mg) (D__law_flip : Def P w K mg base CX0 "_law_flip" 1 ["_law_f"] (sp__law_flip K)) (D__law_worth : Def P w K mg base CX0 "_law_worth" 1 ["_law_point_here", "_law_f"] (sp__law_worth K)) : Def P w K mg base CX0 "_law_chain" 2 ["_law_cells_here", "_law_count", "_law_point_here"] (sp__law_chain K) := by
 refine ⟨f, fd, F.ok sc__law_chain (fun vs H Q E h => ?_) (fun cdv A outer s H vs Q E hr h => ?_), F.binds (ps := ["_law_cells_here", "_law_count", "_law_point_here"]) fun _ _ _ _ _ _ us hl => (by obtain ⟨b0, b1, b2, rfl⟩ := us3 hl; rfl), F.kp, m⟩
 · obtain ⟨ca, pt, cs, xs, n, rfl, _⟩ := h
   rfl
 obtain ⟨ca, pt, cs, xs, n, rfl, hC, hne, hP, xl, n1, n6, q⟩ := h
 refine ⟨_, (@pss_cons _ _ _ _ _ (ps_sz 3 sc__law_chain.nd (pe_lst pa_nil))
  (@pss_cons _ _ _ _ _ (ps_sz 4 sc__law_chain.nd (pe_op op_mod (pe_op op_fdiv (pe_xL (K := K) (pv 0) pe_int) pe_int) (pe_op op_mul pe_int (pv 1))))
  (@pss_cons _ _ _ _ _ (ps_sz 5 sc__law_chain.nd pe_int)
  (@pss_cons _ _ _ _ _ (ps_for PassesOwn.never rfl (pi_listK (K := K) rfl (pe_slice (sl_listK (K := K) rfl) (pv 0) po_none (po_some pe_int))) (pg_nz 6 sc__law_chain.nd) (@pss_cons _ _ _ _ _ (ps_sz 7 sc__law_chain.nd (pe_op op_mod (pv 6) (pe_op op_mul pe_int (pv 1))))
  (@pss_cons _ _ _ _ _ (ps_expr (pe_bm PySem.F.plainAttrs_list PySem.F.slot_list_append PySem.F.type_list_append mt_append (pv 3) (pa_Tuple (pe_tup (pa_Name (pv 4) (pa_Name (pv 7) (pa_BinOp (pe_op op_sub (pe_op op_add (pe_op op_add (pe_dz D__law_worth hr (pa_Name (pv 2) (pa_Name (pv 4) pa_nil))) (pe_dz D__law_worth hr (pa_Name (pv 2) (pa_Name (pv 7) pa_nil)))) (pe_op op_mod (pe_op op_fdiv (pv 6) pe_int) pe_int)) pe_int) pa_nil)))) pa_nil)))
  (@pss_cons _ _ _ _ _ (ps_sz 5 sc__law_chain.nd (pe_op op_add (pv 5) (pe_xT (K := K) (pe_xL (K := K) (pv 3) (pe_op op_sub (pe_callB (call_lenK (K := K) rfl) (by rfl) B.len (by decide +kernel) (pa_Name (pv 3) pa_nil)) pe_int)) pe_int)))
  (pss_one (ps_sz 4 sc__law_chain.nd (pe_dz D__law_flip hr (pa_Name (pv 7) pa_nil))))))))
  (@pss_cons _ _ _ _ _ (ps_expr (pe_bm PySem.F.plainAttrs_list PySem.F.slot_list_append PySem.F.type_list_append mt_append (pv 3) (pa_Tuple (pe_tup (pa_Call (pe_dz D__law_flip hr (pa_Subscript (pe_xT (K := K) (pe_xL (K := K) (pv 3) pe_int) pe_int) pa_nil)) (pa_Name (pv 4) (pa_BinOp (pe_op op_sub (pe_un un_neg (pv 5)) pe_int) pa_nil)))) pa_nil)))
  (pss_one (ps_ret (pv 3)))))))), ?_⟩
 obtain ⟨c0, cr, rfl⟩ : ∃ c0 cr, cs = c0 :: cr := List.exists_cons_of_ne_nil hne
 refine seq_step fun U hU => ?_
 refine ⟨sz 0, fun p hp => ?_⟩
 show U _ _
 subst hU
 have G0 := GrS.start (n := n) hp
 generalize upd H p (.lst []) = H1 at *
 have hC1 := G0.sm.seq hC
 refine seq_step fun U hU => ?_
 obtain ⟨b0, eb0, hb0⟩ := modN2 (c0 / 7) n1
 refine ⟨_, rfl, ca, _, 0, _, rfl, rfl, hC1, at_nat (j := 0) rfl, _, _, rfl, rfl, ⟨by decide, by decide⟩, _, rfl, _, _, rfl, rfl, .inl ⟨by decide, by decide⟩, _, _, rfl, rfl, (by show (0 : Int) < 2 * (n : Int); omega), ?_⟩
 show U _ _
 dsimp only
 rw [eb0]
 subst hU
 refine seq_step fun U hU => ?_
 show U _ _
 subst hU
 refine seq_step fun U hU => ?_
 refine ⟨_, rfl, (6 : Int), rfl, ca, _, rfl, hC1, fun l hl => ?_⟩
 rw [show cutV ((c0 :: cr).map V.int) none (some 6) = ((c0 :: cr).take 6).map V.int from cutL (α := Int) V.int _ 6]
 have sl := same_new hl (.lst (((c0 :: cr).take 6).map V.int))
 have el : upd H1 l (.lst (((c0 :: cr).take 6).map V.int)) l = some (.lst (((c0 :: cr).take 6).map V.int)) := upd_same
 have G1 := G0.same sl
 have hlH : H l = none := G0.sm.free hl
 have nlp : l ≠ p := Ne.symm (ne_of_none G0.at_ hl)
 generalize upd H1 l (.lst (((c0 :: cr).take 6).map V.int)) = H2 at *
 have lk : ((c0 :: cr).take 6).length <= 6 := by rw [List.length_take]; omega
 have lk1 : 0 < ((c0 :: cr).take 6).length := by simp
 generalize (c0 :: cr).take 6 = ks at *
 refine ⟨l, rfl, ⟨_, SqL.of el⟩, for_list (K := K) (a := l) (xs := ks.map V.int) (fun i σ H' => ∃ (x y : Option V) (bg : Nat) (num : Int) (tt : List Sdn) (ys : List V), σ = [some (.ref ca), some (.int n), some (.ref pt), some (.ref p), some (.int (bg : Nat)), some (.int num), x, y] /\ GrS H H' p n i ys tt /\ H' l = some (.lst (ks.map V.int)) /\ bg < 2 * n /\ (∀ w, Oct.Pt w (2 * n) -> KeptS w tt -> w b0 - w bg <= num) /\ (∀ s, tt[0]? = some s -> s.1 = b0) /\ (i = 0 -> bg = b0)) ⟨none, none, b0, 0, [], [], rfl, G1, el, hb0, fun w _ _ => by omega, fun s e => (by simp at e), fun _ => rfl⟩ (fun i σ H' _ ⟨_, _, _, _, _, _, _, _, e, _⟩ => SqL.of e) ?_ ?_⟩
 · rintro i v σ H3 hv ⟨x, y, bg, num, tt, ys, rfl, G, el3, hbg, hk, hf0, hi0⟩
   obtain ⟨hi, rfl⟩ := at_of hv
   generalize ks[i] = cc
   have hP3 := G.sm.sqT hP
   obtain ⟨e, ee, he⟩ := modN2 cc n1
   refine seq_step fun U hU => ?_
   refine ⟨_, rfl, _, rfl, _, _, rfl, rfl, .inl ⟨by decide, by decide⟩, _, _, rfl, rfl, (by show (0 : Int) < 2 * (n : Int); omega), ?_⟩
   show U _ _
   dsimp only
   rw [ee]
   subst hU
   have lis : i < 6 := by omega
   have lys : ys.length = i := by rw [paired_len G.pr, G.len]
   refine seq_step fun U hU => ?_
   refine ⟨_, rfl, .inl ⟨rfl, _, SqL.of G.at_⟩, _, rfl, _, rfl, _, rfl, _, rfl, pt, xs, (bg : Int), rfl, hP3, by omega, by omega, _, rfl, _, rfl, pt, xs, (e : Int), rfl, hP3, by omega, by omega, _, _, rfl, rfl, _, rfl, _, _, rfl, rfl, ⟨by decide, by decide⟩, _, _, rfl, rfl, (by show (0 : Int) < 5; decide), _, _, rfl, rfl, _, _, rfl, rfl, sz 3, fun t ht => ?_⟩
   dsimp only
   generalize ez : worthI xs (bg : Int) + worthI xs (e : Int) + cc / 8 % 5 - 2 = z
   have st := same_new ht (.tup [.int (bg : Nat), .int (e : Nat), .int z])
   refine ⟨p, _, _, rfl, rfl, st _ _ G.at_, small1000 (by omega), ?_⟩
   have G4 := G.put (s := (bg, e, z)) hp st ⟨t, rfl, upd_same⟩ ⟨hbg, he⟩
   have eH4 : upd (upd H3 t (.tup [.int (bg : Nat), .int (e : Nat), .int z])) p (.lst (ys ++ [.ref t])) l = some (.lst (ks.map V.int)) := by rw [upd_ne nlp]; exact st _ _ el3
   generalize upd (upd H3 t (.tup [.int (bg : Nat), .int (e : Nat), .int z])) p (.lst (ys ++ [.ref t])) = H4 at *
   have el4 : H4 l = some (.lst (ks.map V.int)) := eH4
   show U _ _
   subst hU
   obtain ⟨vv, evv, sa, rfl, hsa⟩ := paired_get G4.pr (show (tt ++ [(bg, e, z)])[i]? = some (bg, e, z) by rw [List.getElem?_append_right (by rw [G.len]; omega), G.len, Nat.sub_self]; rfl)
   have hS : SqT K H4 sa [.int (bg : Nat), .int (e : Nat), .int z] := SqT.of hsa
   have ly4 : (ys ++ [V.ref t]).length = i + 1 := by simp [lys]
   refine seq_step fun U hU => ?_
   refine ⟨_, rfl, _, rfl, _, rfl, p, _, rfl, .inl (SqL.of G4.at_), _, _, rfl, rfl, p, _, _, _, rfl, rfl, SqL.of G4.at_, (by rw [ly4, show ((i + 1 : Nat) : Int) - 1 = (i : Int) by omega]; exact at_nat evv), sa, _, 2, _, rfl, rfl, hS, rfl, _, _, rfl, rfl, ?_⟩
   show U _ _
   subst hU
   refine ⟨_, rfl, (e : Int), rfl, ?_⟩
   rw [flip_nat]
   refine ⟨_, _, Oct.fl e, num + z, tt ++ [(bg, e, z)], ys ++ [.ref t], rfl, G4, el4, Oct.fl_lt he, fun w pw kw => ?_, fun s hs => ?_, fun h => absurd h (by omega)⟩
   · have h1 := hk w pw (kept_mem kw fun s hs => List.mem_append.mpr (.inl hs))
     have h2 := kw (bg, e, z) (List.mem_append.mpr (.inr List.mem_cons_self))
     have h3 := pw e he
     dsimp only at h2
     omega
   · cases tt with
     | nil =>
      cases hs
      exact hi0 (by have := G.len; simpa using this.symm)
     | cons a r => exact hf0 s (by simpa using hs)
 · rintro σ H3 ⟨x, y, bg, num, tt, ys, rfl, G, el3, hbg, hk, hf0, _⟩
   show U _ _
   subst hU
   rw [List.length_map] at G
   have lt : 0 < tt.length := by rw [G.len]; omega
   have e0 : tt[0]? = some tt[0] := List.getElem?_eq_getElem lt
   have h0 := hf0 _ e0
   obtain ⟨vv, evv, sa, rfl, hsa⟩ := paired_get G.pr e0
   generalize tt[0] = s0 at *
   have lys : ys.length <= 6 := by rw [paired_len G.pr, G.len]; omega
   refine seq_step fun U hU => ?_
   refine ⟨_, rfl, .inl ⟨rfl, _, SqL.of G.at_⟩, _, rfl, p, _, 0, _, rfl, rfl, SqL.of G.at_, at_nat (j := 0) evv, sa, _, 0, _, rfl, rfl, SqT.of hsa, rfl, (s0.1 : Int), rfl, _, rfl, _, rfl, _, rfl, _, _, rfl, rfl, sz 3, fun t ht => ?_⟩
   rw [flip_nat, h0]
   have st := same_new ht (.tup [.int ((Oct.fl b0 : Nat) : Int), .int (bg : Nat), .int (-num - 1)])
   refine ⟨p, _, _, rfl, rfl, st _ _ G.at_, small1000 (by omega), ?_⟩
   have G4 := G.put (s := (Oct.fl b0, bg, -num - 1)) hp st ⟨t, rfl, upd_same⟩ ⟨Oct.fl_lt hb0, hbg⟩
   show U _ _
   subst hU
   refine ⟨_, rfl, q p _ _ _ G4.sm G4.at_ G4.pr G4.ins (by rw [G4.len]; omega) fun w pw kw => ?_⟩
   have h1 := hk w pw (kept_mem kw fun s hs => List.mem_append.mpr (.inl hs))
   have h2 := kw (Oct.fl b0, bg, -num - 1) (List.mem_append.mpr (.inr List.mem_cons_self))
   have h3 := pw b0 hb0
   dsimp only at h2
   omega
theorem sc__law_bells : FnScope ["_law_script", "_law_cells_here", "_law_forms", "_law_numbers", "_law_k", "_law_cell_here", "_law_a", "_law_d", "_law_last", "_law_sides_here", "_law_at"] ["_law_script", "_law_cells_here"] (defScope s__law_bells) := ⟨rfl, rfl, rfl, by decide +kernel, rfl, by decide +kernel, by decide +kernel⟩
theorem ok__law_bells {f : Addr} {fd : FuncData} (F : Fun K "_law_bells" "_law_bells" s__law_bells f fd) (m : mg "_law_bells" = some (.ref f)) (B : Bl mg) (D__law_cell : Def P w K mg base CX0 "_law_cell" 1 ["_law_script", "_law_k"] (sp__law_cell K)) (D__law_big : Def P w K mg base CX0 "_law_big" 1 ["_law_cell_here"] (sp__law_big K)) (D__law_flip : Def P w K mg base CX0 "_law_flip" 1 ["_law_f"] (sp__law_flip K)) : Def P w K mg base CX0 "_law_bells" 2 ["_law_script", "_law_cells_here"] (sp__law_bells K) := by
 refine ⟨f, fd, F.ok sc__law_bells (fun vs H Q E h => ?_) (fun cdv A outer s H vs Q E hr h => ?_), F.binds (ps := ["_law_script", "_law_cells_here"]) fun _ _ _ _ _ _ us hl => (by obtain ⟨b0, b1, rfl⟩ := us2 hl; rfl), F.kp, m⟩
 · obtain ⟨a, ca, ns, cs, rfl, _⟩ := h
   rfl
 obtain ⟨a, ca, ns, cs, rfl, hS, hC, hne, q⟩ := h
 have D__law_cell := D__law_cell.imp (cellAt_of (a := a) (ns := ns))
 refine ⟨_, (@pss_cons _ _ _ _ _ (ps_sz 2 sc__law_bells.nd (pe_lst pa_nil))
  (@pss_cons _ _ _ _ _ (ps_sz 3 sc__law_bells.nd (pe_lst pa_nil))
  (@pss_cons _ _ _ _ _ (ps_for PassesOwn.never rfl (pi_range1 (by rfl) B.range (pa_Constant pe_int pa_nil)) (pg_nz 4 sc__law_bells.nd) (@pss_cons _ _ _ _ _ (ps_sz 5 sc__law_bells.nd (pe_dz D__law_cell hr (pa_Name (pv 0) (pa_BinOp (pe_op op_add pe_int (pv 4)) pa_nil))))
  (@pss_cons _ _ _ _ _ (ps_expr (pe_bm PySem.F.plainAttrs_list PySem.F.slot_list_append PySem.F.type_list_append mt_append (pv 2) (pa_BinOp (pe_op op_add (pe_op op_mul (pe_op op_mod (pe_op op_add (pe_op op_mod (pe_dz D__law_cell hr (pa_Name (pv 0) (pa_Constant pe_int pa_nil))) pe_int) (pv 4)) pe_int) pe_int) (pe_op op_mod (pv 5) pe_int)) pa_nil)))
  (pss_one (ps_expr (pe_bm PySem.F.plainAttrs_list PySem.F.slot_list_append PySem.F.type_list_append mt_append (pv 3) (pa_Call (pe_dz D__law_big hr (pa_BinOp (pe_op op_fdiv (pv 5) pe_int) pa_nil)) pa_nil)))))))
  (@pss_cons _ _ _ _ _ (ps_sz 6 sc__law_bells.nd (pe_xL (K := K) (pv 2) pe_int))
  (@pss_cons _ _ _ _ _ (ps_sz 7 sc__law_bells.nd (pe_xL (K := K) (pv 2) pe_int))
  (@pss_cons _ _ _ _ _ (ps_sz 8 sc__law_bells.nd (pe_un un_neg (pe_op op_add (pe_op op_add (pe_op op_add (pe_xL (K := K) (pv 3) pe_int) (pe_xL (K := K) (pv 3) pe_int)) (pe_op op_mul pe_int (pe_xL (K := K) (pv 3) pe_int))) (pe_xL (K := K) (pv 3) pe_int))))
  (@pss_cons _ _ _ _ _ (ps_if (pt_cmpR op_eq (pe_op op_mod (pe_op op_add (pe_xL (K := K) (pv 3) pe_int) (pe_xL (K := K) (pv 3) pe_int)) pe_int) pe_int (nomark _)) (pss_one (ps_sz 8 sc__law_bells.nd (pe_op op_sub (pv 8) pe_int))) pss_nil)
  (@pss_cons _ _ _ _ _ (ps_sz 9 sc__law_bells.nd (pe_lst (pa_Tuple (pe_tup (pa_Name (pv 6) (pa_Subscript (pe_xL (K := K) (pv 2) pe_int) (pa_Subscript (pe_xL (K := K) (pv 3) pe_int) pa_nil)))) (pa_Tuple (pe_tup (pa_Name (pv 6) (pa_Call (pe_dz D__law_flip hr (pa_Subscript (pe_xL (K := K) (pv 2) pe_int) pa_nil)) (pa_Subscript (pe_xL (K := K) (pv 3) pe_int) pa_nil)))) (pa_Tuple (pe_tup (pa_Call (pe_dz D__law_flip hr (pa_Name (pv 6) pa_nil)) (pa_Name (pv 7) (pa_Subscript (pe_xL (K := K) (pv 3) pe_int) pa_nil)))) pa_nil)))))
  (@pss_cons _ _ _ _ _ (ps_expr (pe_bm PySem.F.plainAttrs_list PySem.F.slot_list_append PySem.F.type_list_append mt_append (pv 9) (pa_Tuple (pe_tup (pa_Call (pe_dz D__law_flip hr (pa_Name (pv 7) pa_nil)) (pa_Subscript (pe_xL (K := K) (pv 2) pe_int) (pa_Subscript (pe_xL (K := K) (pv 3) pe_int) pa_nil)))) pa_nil)))
  (@pss_cons _ _ _ _ _ (ps_expr (pe_bm PySem.F.plainAttrs_list PySem.F.slot_list_append PySem.F.type_list_append mt_append (pv 9) (pa_Tuple (pe_tup (pa_Call (pe_dz D__law_flip hr (pa_Subscript (pe_xL (K := K) (pv 2) pe_int) pa_nil)) (pa_Call (pe_dz D__law_flip hr (pa_Name (pv 7) pa_nil)) (pa_Name (pv 8) pa_nil)))) pa_nil)))
  (@pss_cons _ _ _ _ _ (ps_sz 10 sc__law_bells.nd (pe_op op_mod (pe_xL (K := K) (pv 1) pe_int) pe_int))
  (pss_one (ps_ret (pe_op op_cat (pe_slice (sl_listK (K := K) rfl) (pv 9) (po_some (pv 10)) po_none) (pe_slice (sl_listK (K := K) rfl) (pv 9) po_none (po_some (pv 10))))))))))))))))), ?_⟩
 obtain ⟨c0, cr, rfl⟩ : ∃ c0 cr, cs = c0 :: cr := List.exists_cons_of_ne_nil hne
 refine seq_step fun U hU => ?_
 refine ⟨sz 0, fun p1 hp1 => ?_⟩
 show U _ _
 subst hU
 have s1 := same_new hp1 (.lst [])
 have e1 : upd H p1 (.lst []) p1 = some (.lst []) := upd_same
 generalize upd H p1 (.lst []) = H1 at *
 refine seq_step fun U hU => ?_
 refine ⟨sz 0, fun p2 hp2 => ?_⟩
 show U _ _
 subst hU
 have n12 : p1 ≠ p2 := ne_of_none e1 hp2
 have s2 := s1.trans (same_new hp2 (.lst []))
 have e1' := (same_new hp2 (.lst [])) _ _ e1
 have e2 : upd H1 p2 (.lst []) p2 = some (.lst []) := upd_same
 have hp2H : H p2 = none := s1.free hp2
 generalize upd H1 p2 (.lst []) = H2 at *
 refine seq_step fun U hU => ?_
 refine ⟨(4 : Int), rfl, by decide, by decide, for_range (lo := 0) (n := (4 : Int).toNat) (fun i σ H' => ∃ (x y : Option V) (fs : List Nat) (ms : List Int), σ = [some (.ref a), some (.ref ca), some (.ref p1), some (.ref p2), x, y, none, none, none, none, none] /\ Same H H' /\ H' p1 = some (.lst (fs.map fun f => V.int (f : Nat))) /\ H' p2 = some (.lst (ms.map V.int)) /\ fs.length = i /\ ms.length = i /\ ∀ f ∈ fs, f < 8) ⟨none, none, [], [], rfl, s2, e1', e2, rfl, rfl, fun f hf => (by cases hf)⟩ ?_ ?_⟩
 · rintro i σ H3 hi0 ⟨x, y, fs, ms, rfl, sm3, h1, h2, l1, l2, hb⟩
   have hi : i < 4 := hi0
   rw [Int.zero_add]
   have hS3 := sm3.seq hS
   refine seq_step fun U hU => ?_
   refine ⟨_, rfl, _, rfl, _, _, rfl, rfl, (30 + (i : Int)), rfl, by omega, hS3, ?_⟩
   show U _ _
   subst hU
   generalize cellI ns (30 + (i : Int)) = cc
   have m1 := Int.emod_nonneg (cellI ns 5 % 4 + (i : Int)) (b := 4) (by decide)
   have m2 := Int.emod_lt_of_pos (cellI ns 5 % 4 + (i : Int)) (b := 4) (by decide)
   have m3 := Int.emod_nonneg cc (b := 2) (by decide)
   have m4 := Int.emod_lt_of_pos cc (b := 2) (by decide)
   obtain ⟨f, ef, hf⟩ : ∃ f : Nat, (cellI ns 5 % 4 + (i : Int)) % 4 * 2 + cc % 2 = (f : Int) /\ f < 8 := ⟨((cellI ns 5 % 4 + (i : Int)) % 4 * 2 + cc % 2).toNat, by omega, by omega⟩
   refine seq_step fun U hU => ?_
   refine ⟨_, rfl, .inl ⟨rfl, _, SqL.of h1⟩, _, rfl, (5 : Int), rfl, by decide, hS3, _, _, rfl, rfl, (by show (0 : Int) < 4; decide), _, rfl, _, _, rfl, rfl, _, _, rfl, rfl, (by show (0 : Int) < 4; decide), _, _, rfl, rfl, .inr ⟨by decide, by decide⟩, _, rfl, _, _, rfl, rfl, (by show (0 : Int) < 2; decide), _, _, rfl, rfl, p1, _, _, rfl, rfl, h1, by rw [List.length_map, l1]; exact small1000 (by omega), ?_⟩
   dsimp only
   rw [ef]
   show U _ _
   subst hU
   have h2' : upd H3 p1 (.lst ((fs.map fun f => V.int (f : Nat)) ++ [.int (f : Int)])) p2 = some (.lst (ms.map V.int)) := by rw [upd_ne (Ne.symm n12)]; exact h2
   have h1' : upd H3 p1 (.lst ((fs.map fun f => V.int (f : Nat)) ++ [.int (f : Int)])) p1 = some (.lst ((fs ++ [f]).map fun f => V.int (f : Nat))) := by rw [upd_same]; simp
   have s4 := same_over (o := .lst ((fs.map fun f => V.int (f : Nat)) ++ [.int (f : Int)])) hp1 sm3
   generalize upd H3 p1 (.lst ((fs.map fun f => V.int (f : Nat)) ++ [.int (f : Int)])) = H4 at *
   refine ⟨_, rfl, .inl ⟨rfl, _, SqL.of h2'⟩, _, rfl, _, _, rfl, rfl, ⟨by decide, by decide⟩, _, rfl, p2, _, _, rfl, rfl, h2', by rw [List.length_map, l2]; exact small1000 (by omega), ?_⟩
   exact ⟨_, _, fs ++ [f], ms ++ [bigI (cc / 2)], rfl, same_over hp2H s4, by rw [upd_ne n12]; exact h1', by rw [upd_same]; simp, by simp [l1], by simp [l2], fun x hx => by
    rcases List.mem_append.mp hx with z | z
    · exact hb x z
    · rw [List.mem_singleton.mp z]; exact hf⟩
 · rintro σ H3 ⟨x, y, fs, ms, rfl, sm3, h1, h2, l1, l2, hb⟩
   have l1' : fs.length = 4 := l1
   have l2' : ms.length = 4 := l2
   obtain ⟨f0, f1, f2, f3, rfl⟩ : ∃ f0 f1 f2 f3, fs = [f0, f1, f2, f3] := by
    match fs, l1' with
    | [f0, f1, f2, f3], _ => exact ⟨_, _, _, _, rfl⟩
   obtain ⟨m0, m1, m2, m3, rfl⟩ : ∃ m0 m1 m2 m3, ms = [m0, m1, m2, m3] := by
    match ms, l2' with
    | [m0, m1, m2, m3], _ => exact ⟨_, _, _, _, rfl⟩
   have hb0 := hb f0 (by simp)
   have hb1 := hb f1 (by simp)
   have hb2 := hb f2 (by simp)
   have hb3 := hb f3 (by simp)
   show U _ _
   subst hU
   have hF : ∀ {H'}, Same H3 H' -> SqL K H' p1 [.int (f0 : Nat), .int (f1 : Nat), .int (f2 : Nat), .int (f3 : Nat)] := fun s => SqL.of (s _ _ h1)
   have hM : ∀ {H'}, Same H3 H' -> SqL K H' p2 [.int m0, .int m1, .int m2, .int m3] := fun s => SqL.of (s _ _ h2)
   have hF0 := hF (Same.refl _)
   have hM0 := hM (Same.refl _)
   refine seq_step fun U hU => ?_
   refine ⟨_, rfl, p1, _, 0, _, rfl, rfl, hF0, rfl, ?_⟩
   show U _ _
   subst hU
   refine seq_step fun U hU => ?_
   refine ⟨_, rfl, p1, _, 2, _, rfl, rfl, hF0, rfl, ?_⟩
   show U _ _
   subst hU
   refine seq_step fun U hU => ?_
   refine ⟨_, rfl, p2, _, 0, _, rfl, rfl, hM0, rfl, _, rfl, p2, _, 1, _, rfl, rfl, hM0, rfl, _, _, rfl, rfl, _, rfl, p2, _, 2, _, rfl, rfl, hM0, rfl, _, _, rfl, rfl, .inl ⟨by decide, by decide⟩, _, _, rfl, rfl, _, rfl, p2, _, 3, _, rfl, rfl, hM0, rfl, _, _, rfl, rfl, _, rfl, ?_⟩
   show U _ _
   subst hU
   refine seq_step fun U hU => ?_
   have key : ∀ last : Int, (last = -(m0 + m1 + 2 * m2 + m3) - 1 \/ (last = -(m0 + m1 + 2 * m2 + m3) /\ (m0 + m1) % 2 ≠ 0)) -> U [some (.ref a), some (.ref ca), some (.ref p1), some (.ref p2), x, y, some (.int (f0 : Nat)), some (.int (f2 : Nat)), some (.int last), none, none] H3 := by
    intro last hlast
    subst hU
    have tupW : ∀ (Hx : Hp) (t : Addr) (u w : Nat) (z : Int), Hx t = some (.tup [.int (u : Nat), .int (w : Nat), .int z]) -> SideAt Hx (.ref t) (u, w, z) := fun Hx t u w z h => ⟨t, rfl, h⟩
    refine seq_step fun U hU => ?_
    refine ⟨_, rfl, _, rfl, p1, _, 1, _, rfl, rfl, hF0, rfl, _, rfl, p2, _, 0, _, rfl, rfl, hM0, rfl, sz 3, fun t1 ht1 => ?_⟩
    have a1 := same_new ht1 (.tup [.int (f0 : Nat), .int (f1 : Nat), .int m0])
    have b1 : upd H3 t1 (.tup [.int (f0 : Nat), .int (f1 : Nat), .int m0]) t1 = some (.tup [.int (f0 : Nat), .int (f1 : Nat), .int m0]) := upd_same
    generalize upd H3 t1 (.tup [.int (f0 : Nat), .int (f1 : Nat), .int m0]) = H4 at *
    refine ⟨_, rfl, _, rfl, p1, _, 1, _, rfl, rfl, hF a1, rfl, (f1 : Int), rfl, _, rfl, p2, _, 1, _, rfl, rfl, hM a1, rfl, sz 3, fun t2 ht2 => ?_⟩
    rw [flip_nat]
    have a2 := same_new ht2 (.tup [.int (f0 : Nat), .int ((Oct.fl f1 : Nat) : Int), .int m1])
    have b2 : upd H4 t2 (.tup [.int (f0 : Nat), .int ((Oct.fl f1 : Nat) : Int), .int m1]) t2 = some (.tup [.int (f0 : Nat), .int ((Oct.fl f1 : Nat) : Int), .int m1]) := upd_same
    generalize upd H4 t2 (.tup [.int (f0 : Nat), .int ((Oct.fl f1 : Nat) : Int), .int m1]) = H5 at *
    have a12 := a1.trans a2
    refine ⟨_, rfl, (f0 : Int), rfl, _, rfl, _, rfl, p2, _, 2, _, rfl, rfl, hM a12, rfl, sz 3, fun t3 ht3 => ?_⟩
    rw [flip_nat]
    have a3 := same_new ht3 (.tup [.int ((Oct.fl f0 : Nat) : Int), .int (f2 : Nat), .int m2])
    have b3 : upd H5 t3 (.tup [.int ((Oct.fl f0 : Nat) : Int), .int (f2 : Nat), .int m2]) t3 = some (.tup [.int ((Oct.fl f0 : Nat) : Int), .int (f2 : Nat), .int m2]) := upd_same
    generalize upd H5 t3 (.tup [.int ((Oct.fl f0 : Nat) : Int), .int (f2 : Nat), .int m2]) = H6 at *
    refine ⟨sz 3, fun pl hpl => ?_⟩
    have a4 := same_new hpl (.lst [.ref t1, .ref t2, .ref t3])
    have ep : upd H6 pl (.lst [.ref t1, .ref t2, .ref t3]) pl = some (.lst [.ref t1, .ref t2, .ref t3]) := upd_same
    have hplH : H3 pl = none := (a12.trans a3).free hpl
    generalize upd H6 pl (.lst [.ref t1, .ref t2, .ref t3]) = H7 at *
    have a37 := (a12.trans a3).trans a4
    have G3 : GrS H3 H7 pl 4 3 [.ref t1, .ref t2, .ref t3] [(f0, f1, m0), (f0, Oct.fl f1, m1), (Oct.fl f0, f2, m2)] := ⟨a37, ep, .cons (tupW _ _ _ _ _ (((a2.trans a3).trans a4) _ _ b1)) (.cons (tupW _ _ _ _ _ ((a3.trans a4) _ _ b2)) (.cons (tupW _ _ _ _ _ (a4 _ _ b3)) .nil)), fun s hs => by
     have : s = (f0, f1, m0) \/ s = (f0, Oct.fl f1, m1) \/ s = (Oct.fl f0, f2, m2) := by simpa using hs
     have q1 : Oct.fl f1 < 2 * 4 := Oct.fl_lt hb1
     have q0 : Oct.fl f0 < 2 * 4 := Oct.fl_lt hb0
     rcases this with e | e | e <;> rw [e]
     · exact ⟨hb0, hb1⟩
     · exact ⟨hb0, q1⟩
     · exact ⟨q0, hb2⟩, rfl⟩
    show U _ _
    subst hU
    refine seq_step fun U hU => ?_
    refine ⟨_, rfl, .inl ⟨rfl, _, SqL.of G3.at_⟩, _, rfl, (f2 : Int), rfl, _, rfl, p1, _, 3, _, rfl, rfl, hF a37, rfl, _, rfl, p2, _, 3, _, rfl, rfl, hM a37, rfl, sz 3, fun t4 ht4 => ?_⟩
    rw [flip_nat]
    have a5 := same_new ht4 (.tup [.int ((Oct.fl f2 : Nat) : Int), .int (f3 : Nat), .int m3])
    refine ⟨pl, _, _, rfl, rfl, a5 _ _ G3.at_, small1000 (by simp), ?_⟩
    have G4 := G3.put (s := (Oct.fl f2, f3, m3)) hplH a5 (tupW _ _ _ _ _ upd_same) ⟨Oct.fl_lt hb2, hb3⟩
    show U _ _
    subst hU
    generalize upd (upd H7 t4 (.tup [.int ((Oct.fl f2 : Nat) : Int), .int (f3 : Nat), .int m3])) pl (.lst ([.ref t1, .ref t2, .ref t3] ++ [.ref t4])) = H8 at *
    refine seq_step fun U hU => ?_
    refine ⟨_, rfl, .inl ⟨rfl, _, SqL.of G4.at_⟩, _, rfl, p1, _, 3, _, rfl, rfl, hF G4.sm, rfl, (f3 : Int), rfl, _, rfl, (f2 : Int), rfl, _, rfl, sz 3, fun t5 ht5 => ?_⟩
    rw [flip_nat, flip_nat]
    have a6 := same_new ht5 (.tup [.int ((Oct.fl f3 : Nat) : Int), .int ((Oct.fl f2 : Nat) : Int), .int last])
    refine ⟨pl, _, _, rfl, rfl, a6 _ _ G4.at_, small1000 (by simp), ?_⟩
    have G5 := G4.put (s := (Oct.fl f3, Oct.fl f2, last)) hplH a6 (tupW _ _ _ _ _ upd_same) ⟨Oct.fl_lt hb3, Oct.fl_lt hb2⟩
    show U _ _
    subst hU
    generalize upd (upd H8 t5 (.tup [.int ((Oct.fl f3 : Nat) : Int), .int ((Oct.fl f2 : Nat) : Int), .int last])) pl (.lst ([.ref t1, .ref t2, .ref t3] ++ [.ref t4] ++ [.ref t5])) = H9 at *
    have none5 : NoPt 4 ([(f0, f1, m0), (f0, Oct.fl f1, m1), (Oct.fl f0, f2, m2)] ++ [(Oct.fl f2, f3, m3)] ++ [(Oct.fl f3, Oct.fl f2, last)]) := fun w pw kw => by
     have k1 := kw (f0, f1, m0) (by simp)
     have k2 := kw (f0, Oct.fl f1, m1) (by simp)
     have k3 := kw (Oct.fl f0, f2, m2) (by simp)
     have k4 := kw (Oct.fl f2, f3, m3) (by simp)
     have k5 := kw (Oct.fl f3, Oct.fl f2, last) (by simp)
     have q0 := pw f0 hb0
     have q1 := pw f1 hb1
     have q2 := pw f2 hb2
     have q3 := pw f3 hb3
     dsimp only at k1 k2 k3 k4 k5
     omega
    have l5 : ([V.ref t1, V.ref t2, V.ref t3] ++ [V.ref t4] ++ [V.ref t5]).length = 5 := rfl
    have i5 := G5.ins
    have p5 := G5.pr
    have e5 := G5.at_
    have s5 := G5.sm
    clear G3 G4 G5
    generalize [V.ref t1, V.ref t2, V.ref t3] ++ [V.ref t4] ++ [V.ref t5] = yy at *
    have lt5 := paired_len p5
    generalize [(f0, f1, m0), (f0, Oct.fl f1, m1), (Oct.fl f0, f2, m2)] ++ [(Oct.fl f2, f3, m3)] ++ [(Oct.fl f3, Oct.fl f2, last)] = tt at *
    have r1 := Int.emod_nonneg c0 (b := 5) (by decide)
    have r2 := Int.emod_lt_of_pos c0 (b := 5) (by decide)
    obtain ⟨k, ek, hk⟩ : ∃ k : Nat, c0 % 5 = (k : Int) /\ k <= 5 := ⟨(c0 % 5).toNat, by omega, by omega⟩
    refine seq_step fun U hU => ?_
    refine ⟨_, rfl, ca, _, 0, _, rfl, rfl, (sm3.trans s5).seq hC, at_nat (j := 0) rfl, _, _, rfl, rfl, (by show (0 : Int) < 5; decide), ?_⟩
    show U _ _
    dsimp only
    rw [ek]
    subst hU
    refine ⟨_, rfl, _, rfl, (k : Int), rfl, pl, _, rfl, SqL.of e5, fun l1 hl1 => ?_⟩
    rw [cutD yy (by omega)]
    have z1 := same_new hl1 (.lst (yy.drop k))
    refine ⟨_, rfl, _, rfl, (k : Int), rfl, pl, _, rfl, SqL.of (z1 _ _ e5), fun l2 hl2 => ?_⟩
    rw [cutT yy (by omega)]
    have z2 := same_new hl2 (.lst (yy.take k))
    refine ⟨l1, l2, _, _, rfl, rfl, z2 _ _ upd_same, upd_same, Nat.le_of_lt (small1000 (by rw [List.length_drop, List.length_take]; omega)), fun l3 hl3 => ?_⟩
    have z3 := same_new hl3 (.lst (yy.drop k ++ yy.take k))
    have z123 := (z1.trans z2).trans z3
    have pz := sides_same z123 p5
    have pd : Paired (SideAt _) (yy.drop k) (tt.drop k) := paired_drop pz k
    have ptk : Paired (SideAt _) (yy.take k) (tt.take k) := paired_take pz k
    exact q l3 _ (tt.drop k ++ tt.take k) _ ((sm3.trans s5).trans z123) upd_same (paired_app pd ptk) (fun s hs => i5 s ((List.mem_append.mp hs).elim List.mem_of_mem_drop List.mem_of_mem_take)) (by rw [List.length_append, List.length_drop, List.length_take]; omega) (fun w pw kw => none5 w pw (fun s hs => kw s (by
     rw [← List.take_append_drop k tt] at hs
     exact List.mem_append.mpr ((List.mem_append.mp hs).symm))))
   refine ⟨_, rfl, p2, _, 0, _, rfl, rfl, hM0, rfl, _, rfl, p2, _, 1, _, rfl, rfl, hM0, rfl, _, _, rfl, rfl, _, _, rfl, rfl, (by show (0 : Int) < 2; decide), rfl, _, rfl, ?_⟩
   refine ite2 (fun h => ?_) (fun h => ?_)
   · exact ⟨_, rfl, _, _, rfl, rfl, key _ (.inl rfl)⟩
   · exact key _ (.inr ⟨rfl, fun e => h (decide_eq_true (congrArg V.int e))⟩)
theorem sc__law_between : FnScope ["_law_cells_here", "_law_count", "_law_odd", "_law_sides_here", "_law_cell_here", "_law_f", "_law_g"] ["_law_cells_here", "_law_count", "_law_odd"] (defScope s__law_between) := ⟨rfl, rfl, rfl, by decide +kernel, rfl, by decide +kernel, by decide +kernel⟩
theorem ok__law_between {f : Addr} {fd : FuncData} (F : Fun K "_law_between" "_law_between" s__law_between f fd) (m : mg "_law_between" = some (.ref f)) (B : Bl mg) (D__law_worth : Def P w K mg base CX0 "_law_worth" 1 ["_law_point_here", "_law_f"] (sp__law_worth K)) : Def P w K mg base CX0 "_law_between" 2 ["_law_cells_here", "_law_count", "_law_odd"] (sp__law_between K) := by
 refine ⟨f, fd, F.ok sc__law_between (fun vs H Q E h => ?_) (fun cdv A outer s H vs Q E hr h => ?_), F.binds (ps := ["_law_cells_here", "_law_count", "_law_odd"]) fun _ _ _ _ _ _ us hl => (by obtain ⟨b0, b1, b2, rfl⟩ := us3 hl; rfl), F.kp, m⟩
 · obtain ⟨ca, pt, cs, xs, n, rfl, _⟩ := h
   rfl
 obtain ⟨ca, pt, cs, xs, n, rfl, hC, l100, hP, xl, n1, n6, q⟩ := h
 refine ⟨_, (@pss_cons _ _ _ _ _ (ps_sz 3 sc__law_between.nd (pe_lst pa_nil))
  (@pss_cons _ _ _ _ _ (ps_for PassesOwn.never rfl (pi_listK (K := K) rfl (pv 0)) (pg_nz 4 sc__law_between.nd) (@pss_cons _ _ _ _ _ (ps_sz 5 sc__law_between.nd (pe_op op_mod (pv 4) (pe_op op_mul pe_int (pv 1))))
  (@pss_cons _ _ _ _ _ (ps_sz 6 sc__law_between.nd (pe_op op_mod (pe_op op_fdiv (pv 4) (pe_op op_mul pe_int (pv 1))) (pe_op op_mul pe_int (pv 1))))
  (@pss_cons _ _ _ _ _ (ps_if (pt_cmpR op_eq (pe_op op_fdiv (pv 5) pe_int) (pe_op op_fdiv (pv 6) pe_int) (nomark _)) (pss_one (ps_sz 6 sc__law_between.nd (pe_op op_mod (pe_op op_add (pv 6) pe_int) (pe_op op_mul pe_int (pv 1))))) pss_nil)
  (pss_one (ps_expr (pe_bm PySem.F.plainAttrs_list PySem.F.slot_list_append PySem.F.type_list_append mt_append (pv 3) (pa_Tuple (pe_tup (pa_Name (pv 5) (pa_Name (pv 6) (pa_BinOp (pe_op op_fdiv (pe_op op_add (pe_dz D__law_worth hr (pa_Name (pv 2) (pa_Name (pv 5) pa_nil))) (pe_dz D__law_worth hr (pa_Name (pv 2) (pa_Name (pv 6) pa_nil)))) pe_int) pa_nil)))) pa_nil))))))))
  (pss_one (ps_ret (pv 3))))), ?_⟩
 refine seq_step fun U hU => ?_
 refine ⟨sz 0, fun p hp => ?_⟩
 show U _ _
 subst hU
 have G0 := GrS.start (n := n) hp
 generalize upd H p (.lst []) = H1 at *
 refine seq_step fun U hU => ?_
 refine ⟨_, rfl, ca, rfl, ⟨_, G0.sm.seq hC⟩, for_list (K := K) (a := ca) (xs := cs.map V.int) (fun i σ H' => ∃ (x y z : Option V) (tt : List Sdn) (ys : List V), σ = [some (.ref ca), some (.int n), some (.ref pt), some (.ref p), x, y, z] /\ GrS H H' p n i ys tt) ⟨none, none, none, [], [], rfl, G0⟩ (fun i σ H' _ ⟨_, _, _, _, _, _, G⟩ => G.sm.seq hC) ?_ ?_⟩
 · rintro i v σ H3 hv ⟨x, y, z, tt, ys, rfl, G⟩
   obtain ⟨hi, rfl⟩ := at_of hv
   generalize cs[i] = cc
   have hP3 := G.sm.sqT hP
   have lys : ys.length = i := by rw [paired_len G.pr, G.len]
   have npos : (0 : Int) < 2 * (n : Int) := by omega
   have nlt : 2 * (n : Int) < 1073741824 := by omega
   obtain ⟨f, ef, hf⟩ := modN2 cc n1
   obtain ⟨g, eg, hg⟩ := modN2 (cc / (2 * (n : Int))) n1
   refine seq_step fun U hU => ?_
   refine ⟨_, rfl, _, rfl, _, _, rfl, rfl, .inl ⟨by decide, by decide⟩, _, _, rfl, rfl, npos, ?_⟩
   show U _ _
   dsimp only
   rw [ef]
   subst hU
   refine seq_step fun U hU => ?_
   refine ⟨_, rfl, _, rfl, _, _, rfl, rfl, .inl ⟨by decide, by decide⟩, _, _, rfl, rfl, ⟨npos, nlt⟩, _, rfl, _, _, rfl, rfl, .inl ⟨by decide, by decide⟩, _, _, rfl, rfl, npos, ?_⟩
   show U _ _
   dsimp only
   rw [eg]
   subst hU
   refine seq_step fun U hU => ?_
   have key : ∀ g : Nat, g < 2 * n -> U [some (.ref ca), some (.int n), some (.ref pt), some (.ref p), some (.int cc), some (.int (f : Nat)), some (.int (g : Nat))] H3 := by
    intro g hg
    subst hU
    refine ⟨_, rfl, .inl ⟨rfl, _, SqL.of G.at_⟩, _, rfl, _, rfl, _, rfl, _, rfl, pt, xs, (f : Int), rfl, hP3, by omega, by omega, _, rfl, _, rfl, pt, xs, (g : Int), rfl, hP3, by omega, by omega, _, _, rfl, rfl, _, _, rfl, rfl, ⟨by decide, by decide⟩, sz 3, fun t ht => ?_⟩
    dsimp only
    generalize (worthI xs (f : Int) + worthI xs (g : Int)) / 2 = zz
    have st := same_new ht (.tup [.int (f : Nat), .int (g : Nat), .int zz])
    refine ⟨p, _, _, rfl, rfl, st _ _ G.at_, small1000 (by omega), ?_⟩
    exact ⟨_, _, _, _, _, rfl, G.put (s := (f, g, zz)) hp st ⟨t, rfl, upd_same⟩ ⟨hf, hg⟩⟩
   refine ⟨_, rfl, _, _, rfl, rfl, ⟨by decide, by decide⟩, _, rfl, _, _, rfl, rfl, ⟨by decide, by decide⟩, rfl, _, rfl, ?_⟩
   refine ite2 (fun h => ?_) (fun h => ?_)
   · obtain ⟨g2, eg2, hg2⟩ := modN2 ((g : Int) + 2) n1
     refine ⟨_, rfl, _, _, rfl, rfl, _, rfl, _, _, rfl, rfl, .inl ⟨by decide, by decide⟩, _, _, rfl, rfl, npos, ?_⟩
     dsimp only
     rw [eg2]
     exact key g2 hg2
   · exact key g hg
 · rintro σ H3 ⟨x, y, z, tt, ys, rfl, G⟩
   show U _ _
   subst hU
   rw [List.length_map] at G
   exact ⟨_, rfl, q p ys tt H3 G.sm G.at_ G.pr G.ins (by rw [G.len]; exact l100)⟩
theorem sc__law_walked : FnScope ["_law_found", "_law_sides_here", "_law_many", "_law_number", "_law_k", "_law_step", "_law_side"] ["_law_found", "_law_sides_here", "_law_many"] (defScope s__law_walked) := ⟨rfl, rfl, rfl, by decide +kernel, rfl, by decide +kernel, by decide +kernel⟩
theorem ok__law_walked {f : Addr} {fd : FuncData} (F : Fun K "_law_walked" "_law_walked" s__law_walked f fd) (m : mg "_law_walked" = some (.ref f)) (B : Bl mg) (D__law_side_like : Def P w K mg base CX0 "_law_side_like" 2 ["_law_found", "_law_due"] (sp__law_side_like K)) (D__law_flip : Def P w K mg base CX0 "_law_flip" 1 ["_law_f"] (sp__law_flip K)) : Def P w K mg base CX0 "_law_walked" 3 ["_law_found", "_law_sides_here", "_law_many"] (sp__law_walked K) := by
 refine ⟨f, fd, F.ok sc__law_walked (fun vs H Q E h => ?_) (fun cdv A outer s H vs Q E hr h => ?_), F.binds (ps := ["_law_found", "_law_sides_here", "_law_many"]) fun _ _ _ _ _ _ us hl => (by obtain ⟨b0, b1, b2, rfl⟩ := us3 hl; rfl), F.kp, m⟩
 · obtain ⟨b, sd, v1, ys, l, ss, N, f1, g1, s1, rfl, _⟩ := h
   rfl
 obtain ⟨b, sd, v1, ys, l, ss, N, f1, g1, s1, rfl, eb, hL, esd, hP, W, ne, lN, hN, q⟩ := h
 refine ⟨_, (@pss_cons _ _ _ _ _ (ps_if (pw_or (pt_not (pt_val (pe_callB (call_isTyK (K := K) rfl) (by rfl) B.isinstance (by decide +kernel) (pa_Name (pv 0) (pa_Name (pe_bltn (v := .ty "list") (u := .type "list") (by rfl) B.list (by decide +kernel) rfl) pa_nil))))) (pw_or (pt_cmpR op_eq (pe_callB (call_lenK (K := K) rfl) (by rfl) B.len (by decide +kernel) (pa_Name (pv 0) pa_nil)) pe_int (nomark _)) (pw_or1 (pt_cmpR op_gt (pe_callB (call_lenK (K := K) rfl) (by rfl) B.len (by decide +kernel) (pa_Name (pv 0) pa_nil)) (pv 2) (nomark _))))).pt (pss_one (ps_ret pe_non)) pss_nil)
  (@pss_cons _ _ _ _ _ (ps_sz 3 sc__law_walked.nd pe_int)
  (@pss_cons _ _ _ _ _ (ps_for PassesOwn.never rfl (pi_range1 (by rfl) B.range (pa_Call (pe_callB (call_lenK (K := K) rfl) (by rfl) B.len (by decide +kernel) (pa_Name (pv 0) pa_nil)) pa_nil)) (pg_nz 4 sc__law_walked.nd) (@pss_cons _ _ _ _ _ (ps_sz 5 sc__law_walked.nd (pe_xL (K := K) (pv 0) (pv 4)))
  (@pss_cons _ _ _ _ _ (ps_if (pw_or (pt_not (pt_val (pe_dz D__law_side_like hr (pa_Name (pv 5) (pa_Name (pv 5) pa_nil))))) (pw_or1 (pt_cmpR op_ne (pe_callB (call_lenK (K := K) rfl) (by rfl) B.len (by decide +kernel) (pa_Name (pv 5) pa_nil)) pe_int (nomark _)))).pt (pss_one (ps_ret pe_non)) pss_nil)
  (@pss_cons _ _ _ _ _ (ps_if (pw_or (pt_cmpR op_lt (pe_xT (K := K) (pv 5) pe_int) pe_int (nomark _)) (pw_or1 (pt_cmpR op_ge (pe_xT (K := K) (pv 5) pe_int) (pe_callB (call_lenK (K := K) rfl) (by rfl) B.len (by decide +kernel) (pa_Name (pv 1) pa_nil)) (nomark _)))).pt (pss_one (ps_ret pe_non)) pss_nil)
  (@pss_cons _ _ _ _ _ (ps_sz 6 sc__law_walked.nd (pe_xL (K := K) (pv 1) (pe_xT (K := K) (pv 5) pe_int)))
  (@pss_cons _ _ _ _ _ (ps_if (pw_and (pt_cmpR (op_neDK (K := K) hr rfl) (pe_slice (sl_tupK (K := K) rfl) (pv 5) (po_some pe_int) po_none) (pe_slice (sl_tupK (K := K) rfl) (pv 6) po_none (po_some pe_int)) (nomark _)) (pw_and1 (pt_cmpR (op_neDK (K := K) hr rfl) (pe_slice (sl_tupK (K := K) rfl) (pv 5) (po_some pe_int) po_none) (pe_tup (pa_Subscript (pe_xT (K := K) (pv 6) pe_int) (pa_Subscript (pe_xT (K := K) (pv 6) pe_int) pa_nil))) (nomark _)))).pt (pss_one (ps_ret pe_non)) pss_nil)
  (@pss_cons _ _ _ _ _ (ps_if (pw_and (pt_cmpR op_gt (pv 4) pe_int (nomark _)) (pw_and1 (pt_cmpR op_ne (pe_xT (K := K) (pv 5) pe_int) (pe_dz D__law_flip hr (pa_Subscript (pe_xT (K := K) (pe_xL (K := K) (pv 0) (pe_op op_sub (pv 4) pe_int)) pe_int) pa_nil)) (nomark _)))).pt (pss_one (ps_ret pe_non)) pss_nil)
  (pss_one (ps_sz 3 sc__law_walked.nd (pe_op op_add (pv 3) (pe_xT (K := K) (pv 6) pe_int)))))))))))
  (pss_one (ps_ret (pe_tup (pa_Subscript (pe_xT (K := K) (pe_xL (K := K) (pv 0) pe_int) pe_int) (pa_Subscript (pe_xT (K := K) (pe_xL (K := K) (pv 0) (pe_op op_sub (pe_callB (call_lenK (K := K) rfl) (by rfl) B.len (by decide +kernel) (pa_Name (pv 0) pa_nil)) pe_int)) pe_int) (pa_Name (pv 3) pa_nil))))))))), ?_⟩
 have lv := paired_len hL
 have ly := paired_len hP
 have lpos : 0 < l.length := List.length_pos_iff.mpr ne
 refine seq_step fun U hU => ?_
 refine ⟨_, rfl, true, isT_lst eb, true, rfl, ?_⟩
 refine iteF ?_
 refine ⟨_, rfl, b, _, rfl, .inl (SqL.of eb), rfl, _, rfl, ?_⟩
 rw [decide_eq_false (show ¬ V.int (v1.length : Nat) = V.int 0 from fun e => (by have := V.int.inj e; omega))]
 refine iteF ?_
 refine ⟨_, rfl, b, _, rfl, .inl (SqL.of eb), _, rfl, _, _, rfl, rfl, _, rfl, ?_⟩
 rw [decide_eq_false (by omega)]
 refine iteF ?_
 show U _ _
 subst hU
 refine seq_step fun U hU => ?_
 show U _ _
 subst hU
 refine seq_step fun U hU => ?_
 refine ⟨_, rfl, b, _, rfl, .inl (SqL.of eb), (v1.length : Int), rfl, by omega, by omega, for_range (lo := 0) (n := (v1.length : Int).toNat) (fun i σ H' => ∃ x y z, σ = [some (.ref b), some (.ref sd), some (.int (N : Nat)), some (.int (numS ss (l.take i))), x, y, z] /\ Same H H') ⟨none, none, none, rfl, Same.refl _⟩ ?_ ?_⟩
 · rintro i σ H2 hi0 ⟨x, y, z, rfl, sm2⟩
   have hi : i < l.length := by omega
   rw [Int.zero_add]
   have eli : l[i]? = some l[i] := List.getElem?_eq_getElem hi
   obtain ⟨v, ev, ta, rfl, hta⟩ := paired_get hL eli
   obtain ⟨c, sdv, esd1, hside, hc⟩ := W.ok l[i] (List.getElem_mem hi)
   have hlt : l[i].1 < ss.length := (List.getElem?_eq_some_iff.mp esd1).1
   have hnum := numS_succ eli esd1
   have hlnk : 0 < i -> ∃ w, l[i - 1]? = some w /\ l[i].2.1 = Oct.fl w.2.2 := fun hp => ⟨l[i - 1], List.getElem?_eq_getElem _, W.lnk (i - 1) _ _ (List.getElem?_eq_getElem _) (by rw [show i - 1 + 1 = i by omega]; exact eli)⟩
   generalize l[i] = x1 at *
   have hT : ∀ {H'}, Same H H' -> SqT K H' ta [.int (x1.1 : Nat), .int (x1.2.1 : Nat), .int (x1.2.2 : Nat)] := fun s => SqT.of (s _ _ hta)
   refine seq_step fun U hU => ?_
   refine ⟨_, rfl, _, rfl, b, _, _, _, rfl, rfl, SqL.of (sm2 _ _ eb), at_nat ev, ?_⟩
   show U _ _
   subst hU
   refine seq_step fun U hU => ?_
   refine ⟨_, rfl, _, rfl, ta, ta, [(x1.1 : Int), (x1.2.1 : Int), (x1.2.2 : Int)], [(x1.1 : Int), (x1.2.1 : Int), (x1.2.2 : Int)], rfl, sm2 _ _ hta, hT sm2, ?_⟩
   rw [decide_eq_true rfl]
   refine ⟨true, rfl, ?_⟩
   refine iteF ?_
   refine ⟨_, rfl, ta, _, rfl, .inr (hT sm2), rfl, _, rfl, ?_⟩
   refine iteNS rfl ?_
   show U _ _
   subst hU
   refine seq_step fun U hU => ?_
   refine ⟨_, rfl, ta, _, 0, _, rfl, rfl, hT sm2, rfl, _, _, rfl, rfl, _, rfl, ?_⟩
   rw [decide_eq_false (by omega)]
   refine iteF ?_
   refine ⟨_, rfl, ta, _, 0, _, rfl, rfl, hT sm2, rfl, _, rfl, sd, _, rfl, .inl (SqL.of (sm2 _ _ esd)), _, _, rfl, rfl, _, rfl, ?_⟩
   rw [decide_eq_false (by omega)]
   refine iteF ?_
   show U _ _
   subst hU
   obtain ⟨sv, esv, sa, rfl, hsa⟩ := paired_get hP esd1
   have hS : ∀ {H'}, Same H H' -> SqT K H' sa [.int (sdv.1 : Nat), .int (sdv.2.1 : Nat), .int sdv.2.2] := fun s => SqT.of (s _ _ hsa)
   refine seq_step fun U hU => ?_
   refine ⟨_, rfl, _, rfl, ta, _, 0, _, rfl, rfl, hT sm2, rfl, sd, _, _, _, rfl, rfl, SqL.of (sm2 _ _ esd), at_nat esv, ?_⟩
   show U _ _
   subst hU
   refine seq_step fun U hU => ?_
   have key : ∀ H3, Same H H3 -> U [some (.ref b), some (.ref sd), some (.int (N : Nat)), some (.int (numS ss (l.take i))), some (.int (i : Nat)), some (.ref ta), some (.ref sa)] H3 := by
    intro H3 sm3
    subst hU
    refine seq_step fun U hU => ?_
    have key : U [some (.ref b), some (.ref sd), some (.int (N : Nat)), some (.int (numS ss (l.take i))), some (.int (i : Nat)), some (.ref ta), some (.ref sa)] H3 := by
     subst hU
     refine ⟨_, rfl, _, rfl, sa, _, 2, _, rfl, rfl, hS sm3, rfl, _, _, rfl, rfl, ?_⟩
     exact ⟨some (.int (i : Nat)), some (.ref ta), some (.ref sa), by rw [hnum]; rfl, sm3⟩
    refine ⟨_, rfl, _, _, rfl, rfl, _, rfl, ?_⟩
    refine ite2 (fun h => ?_) (fun h => ?_)
    · have hp : 0 < i := by have := of_decide_eq_true h; omega
      obtain ⟨w, ew, hl⟩ := hlnk hp
      obtain ⟨v2, ev2, tb, rfl, htb⟩ := paired_get hL ew
      have hat : atI v1 ((i : Int) - 1) = some (.ref tb) := by rw [show (i : Int) - 1 = ((i - 1 : Nat) : Int) by omega]; exact at_nat ev2
      refine ⟨_, rfl, ta, _, 1, _, rfl, rfl, hT sm3, rfl, _, rfl, _, rfl, _, _, rfl, rfl, b, _, _, _, rfl, rfl, SqL.of (sm3 _ _ eb), hat, tb, _, 2, _, rfl, rfl, SqT.of (sm3 _ _ htb), rfl, (w.2.2 : Int), rfl, rfl, _, rfl, ?_⟩
      refine iteNS (by rw [flip_nat, ← hl]) ?_
      exact key
    · refine iteF ?_
      exact key
   refine ⟨_, rfl, (1 : Int), rfl, ta, _, rfl, hT sm2, (by rintro ⟨h, h2⟩; first | (cases h; done) | (cases h2; done) | (revert h; decide) | (revert h2; decide)), fun p1 hp1 => ?_⟩
   rw [show cutV [V.int (x1.1 : Nat), .int (x1.2.1 : Nat), .int (x1.2.2 : Nat)] (some 1) none = [.int (x1.2.1 : Nat), .int (x1.2.2 : Nat)] from rfl]
   have s3 := sm2.trans (same_new hp1 (.tup [.int (x1.2.1 : Nat), .int (x1.2.2 : Nat)]))
   have ep1 : upd H2 p1 (.tup [.int (x1.2.1 : Nat), .int (x1.2.2 : Nat)]) p1 = some (.tup [.int (x1.2.1 : Nat), .int (x1.2.2 : Nat)]) := upd_same
   generalize upd H2 p1 (.tup [.int (x1.2.1 : Nat), .int (x1.2.2 : Nat)]) = H3 at *
   refine ⟨_, rfl, (2 : Int), rfl, sa, _, rfl, hS s3, (by rintro ⟨h, h2⟩; first | (cases h; done) | (cases h2; done) | (revert h; decide) | (revert h2; decide)), fun p2 hp2 => ?_⟩
   rw [show cutV [V.int (sdv.1 : Nat), .int (sdv.2.1 : Nat), .int sdv.2.2] none (some 2) = [.int (sdv.1 : Nat), .int (sdv.2.1 : Nat)] from rfl]
   have s4' := same_new hp2 (.tup [.int (sdv.1 : Nat), .int (sdv.2.1 : Nat)])
   have s4 := s3.trans s4'
   have ep2 : upd H3 p2 (.tup [.int (sdv.1 : Nat), .int (sdv.2.1 : Nat)]) p2 = some (.tup [.int (sdv.1 : Nat), .int (sdv.2.1 : Nat)]) := upd_same
   have ep1' := s4' _ _ ep1
   generalize upd H3 p2 (.tup [.int (sdv.1 : Nat), .int (sdv.2.1 : Nat)]) = H4 at *
   refine ⟨.tuple [.int (x1.2.1 : Nat), .int (x1.2.2 : Nat)], .tuple [.int (sdv.1 : Nat), .int (sdv.2.1 : Nat)], .tup (SqT.of ep1') (.cons .int (.cons .int .nil)), .tup (SqT.of ep2) (.cons .int (.cons .int .nil)), by simp [PyData.depth, PyData.depthAll], ?_⟩
   refine ⟨_, rfl, ?_⟩
   cases he : PyData.eqv (.tuple [.int (x1.2.1 : Nat), .int (x1.2.2 : Nat)]) (.tuple [.int (sdv.1 : Nat), .int (sdv.2.1 : Nat)]) with
   | true =>
    refine iteF ?_
    refine iteF ?_
    exact key H4 s4
   | false =>
    refine iteT ?_
    have hback : sdv.1 = x1.2.2 /\ sdv.2.1 = x1.2.1 := by
     rcases hside with h | h
     · rw [h.1, h.2] at he
       simp [PyData.eqv, PyData.eqvAll] at he
     · exact h
    refine ⟨_, rfl, (1 : Int), rfl, ta, _, rfl, hT s4, (by rintro ⟨h, h2⟩; first | (cases h; done) | (cases h2; done) | (revert h; decide) | (revert h2; decide)), fun p3 hp3 => ?_⟩
    rw [show cutV [V.int (x1.1 : Nat), .int (x1.2.1 : Nat), .int (x1.2.2 : Nat)] (some 1) none = [.int (x1.2.1 : Nat), .int (x1.2.2 : Nat)] from rfl]
    have s5 := s4.trans (same_new hp3 (.tup [.int (x1.2.1 : Nat), .int (x1.2.2 : Nat)]))
    have ep3 : upd H4 p3 (.tup [.int (x1.2.1 : Nat), .int (x1.2.2 : Nat)]) p3 = some (.tup [.int (x1.2.1 : Nat), .int (x1.2.2 : Nat)]) := upd_same
    generalize upd H4 p3 (.tup [.int (x1.2.1 : Nat), .int (x1.2.2 : Nat)]) = H5 at *
    refine ⟨_, rfl, sa, _, 1, _, rfl, rfl, hS s5, rfl, _, rfl, sa, _, 0, _, rfl, rfl, hS s5, rfl, sz 2, fun p4 hp4 => ?_⟩
    have s6' := same_new hp4 (.tup [.int (sdv.2.1 : Nat), .int (sdv.1 : Nat)])
    refine ⟨.tuple [.int (x1.2.1 : Nat), .int (x1.2.2 : Nat)], .tuple [.int (sdv.2.1 : Nat), .int (sdv.1 : Nat)], .tup (SqT.of (s6' _ _ ep3)) (.cons .int (.cons .int .nil)), .tup (SqT.of upd_same) (.cons .int (.cons .int .nil)), by simp [PyData.depth, PyData.depthAll], ?_⟩
    rw [show PyData.eqv (.tuple [.int (x1.2.1 : Nat), .int (x1.2.2 : Nat)]) (.tuple [.int (sdv.2.1 : Nat), .int (sdv.1 : Nat)]) = true by rw [hback.1, hback.2]; simp [PyData.eqv, PyData.eqvAll]]
    refine ⟨_, rfl, ?_⟩
    refine iteF ?_
    exact key _ (s5.trans s6')
 · rintro σ H2 ⟨x, y, z, rfl, sm2⟩
   show U _ _
   subst hU
   have e1 : (v1.length : Int).toNat = l.length := by omega
   rw [e1, List.take_length, ← W.sum]
   have el0 : l[0]? = some l[0] := List.getElem?_eq_getElem lpos
   have elL : l[l.length - 1]? = some (l[l.length - 1]'(by omega)) := List.getElem?_eq_getElem _
   have hf := W.fst _ el0
   have hg := W.lst _ elL
   obtain ⟨va, eva, ta, rfl, hta⟩ := paired_get hL el0
   obtain ⟨vb, evb, tb, rfl, htb⟩ := paired_get hL elL
   have hatL : atI v1 ((v1.length : Int) - 1) = some (.ref tb) := by rw [show (v1.length : Int) - 1 = ((l.length - 1 : Nat) : Int) by omega]; exact at_nat evb
   refine ⟨_, rfl, b, _, 0, _, rfl, rfl, SqL.of (sm2 _ _ eb), at_nat (j := 0) eva, ta, _, 1, _, rfl, rfl, SqT.of (sm2 _ _ hta), rfl, _, rfl, _, rfl, b, _, rfl, .inl (SqL.of (sm2 _ _ eb)), _, _, rfl, rfl, b, _, _, _, rfl, rfl, SqL.of (sm2 _ _ eb), hatL, tb, _, 2, _, rfl, rfl, SqT.of (sm2 _ _ htb), rfl, _, rfl, sz 3, fun p hp => ?_⟩
   refine q p _ (sm2.trans (same_new hp _)) ?_
   rw [upd_same, hf, hg]
theorem sc__law_ring_good : FnScope ["_law_found", "_law_sides_here", "_law_many", "_law_first", "_law_second"] ["_law_found", "_law_sides_here", "_law_many"] (defScope s__law_ring_good) := ⟨rfl, rfl, rfl, by decide +kernel, rfl, by decide +kernel, by decide +kernel⟩
theorem ok__law_ring_good {f : Addr} {fd : FuncData} (F : Fun K "_law_ring_good" "_law_ring_good" s__law_ring_good f fd) (m : mg "_law_ring_good" = some (.ref f)) (B : Bl mg) (D__law_walked : Def P w K mg base CX0 "_law_walked" 3 ["_law_found", "_law_sides_here", "_law_many"] (sp__law_walked K)) (D__law_flip : Def P w K mg base CX0 "_law_flip" 1 ["_law_f"] (sp__law_flip K)) : Def P w K mg base CX0 "_law_ring_good" 4 ["_law_found", "_law_sides_here", "_law_many"] (sp__law_ring_good K) := by
 refine ⟨f, fd, F.ok sc__law_ring_good (fun vs H Q E h => ?_) (fun cdv A outer s H vs Q E hr h => ?_), F.binds (ps := ["_law_found", "_law_sides_here", "_law_many"]) fun _ _ _ _ _ _ us hl => (by obtain ⟨b0, b1, b2, rfl⟩ := us3 hl; rfl), F.kp, m⟩
 · obtain ⟨H0, v, sd, ys, l1, l2, ss, N, rfl, _⟩ := h
   rfl
 obtain ⟨H0, v, sd, ys, l1, l2, ss, N, rfl, hRg, hOk, esd, hP, hN, q⟩ := h
 refine ⟨_, (@pss_cons _ _ _ _ _ (ps_if (pw_or (pt_not (pt_val (pe_callB (call_isTyK (K := K) rfl) (by rfl) B.isinstance (by decide +kernel) (pa_Name (pv 0) (pa_Name (pe_bltn (v := .ty "tuple") (u := .type "tuple") (by rfl) B.tuple (by decide +kernel) rfl) pa_nil))))) (pw_or1 (pt_cmpR op_ne (pe_callB (call_lenK (K := K) rfl) (by rfl) B.len (by decide +kernel) (pa_Name (pv 0) pa_nil)) pe_int (nomark _)))).pt (pss_one (ps_ret pe_bl)) pss_nil)
  (@pss_cons _ _ _ _ _ (ps_sz 3 sc__law_ring_good.nd (pe_dz D__law_walked hr (pa_Subscript (pe_xT (K := K) (pv 0) pe_int) (pa_Name (pv 1) (pa_Name (pv 2) pa_nil)))))
  (@pss_cons _ _ _ _ _ (ps_if (pw_or (pt_cmpR op_isN (pv 3) pe_non (nomark _)) (pw_or1 (pt_not (pt_val (pe_callB (call_isTyK (K := K) rfl) (by rfl) B.isinstance (by decide +kernel) (pa_Subscript (pe_xT (K := K) (pv 0) pe_int) (pa_Name (pe_bltn (v := .ty "list") (u := .type "list") (by rfl) B.list (by decide +kernel) rfl) pa_nil))))))).pt (pss_one (ps_ret pe_bl)) pss_nil)
  (@pss_cons _ _ _ _ _ (ps_if (pt_cmpR (op_eqDK (K := K) hr rfl) (pe_xT (K := K) (pv 0) pe_int) (pe_lst pa_nil) (nomark _)) (pss_one (ps_ret (pe_and (pe_cmpR op_eq (pe_xT (K := K) (pv 3) pe_int) (pe_dz D__law_flip hr (pa_Subscript (pe_xT (K := K) (pv 3) pe_int) pa_nil)) (nomark _)) (pe_one (pe_cmpR op_lt (pe_xT (K := K) (pv 3) pe_int) pe_int (nomark _)))))) pss_nil)
  (@pss_cons _ _ _ _ _ (ps_sz 4 sc__law_ring_good.nd (pe_dz D__law_walked hr (pa_Subscript (pe_xT (K := K) (pv 0) pe_int) (pa_Name (pv 1) (pa_Name (pv 2) pa_nil)))))
  (@pss_cons _ _ _ _ _ (ps_if (pw_or (pt_cmpR op_isN (pv 4) pe_non (nomark _)) (pw_or (pt_cmpR op_ne (pe_xT (K := K) (pv 3) pe_int) (pe_xT (K := K) (pv 3) pe_int) (nomark _)) (pw_or1 (pt_cmpR op_ne (pe_xT (K := K) (pv 4) pe_int) (pe_xT (K := K) (pv 4) pe_int) (nomark _))))).pt (pss_one (ps_ret pe_bl)) pss_nil)
  (pss_one (ps_ret (pe_and (pe_cmpR op_eq (pe_xT (K := K) (pv 4) pe_int) (pe_dz D__law_flip hr (pa_Subscript (pe_xT (K := K) (pv 3) pe_int) pa_nil)) (nomark _)) (pe_one (pe_cmpR op_lt (pe_op op_add (pe_op op_fdiv (pe_xT (K := K) (pv 3) pe_int) pe_int) (pe_op op_fdiv (pe_xT (K := K) (pv 4) pe_int) pe_int)) pe_int (nomark _)))))))))))), ?_⟩
 obtain ⟨p, b1, b2, v1, v2, rfl, hp, hb1, hb2, _, _, hL1, hL2⟩ := hRg
 obtain ⟨ne1, n1, n2, f, s1, hf, hcase⟩ := hOk
 have hT : ∀ {H'}, Same H H' -> SqT K H' p [.ref b1, .ref b2] := fun s => SqT.of (s _ _ hp)
 have hT0 := hT (Same.refl _)
 refine seq_step fun U hU => ?_
 refine ⟨_, rfl, true, isT_tup hp, true, rfl, ?_⟩
 refine iteF ?_
 refine ⟨_, rfl, p, _, rfl, .inr hT0, rfl, _, rfl, ?_⟩
 refine iteNS rfl ?_
 show U _ _
 subst hU
 rcases hcase with ⟨rfl, W, hneg⟩ | ⟨s2, ne2, W1, W2, hneg⟩
 · refine seq_step fun U hU => ?_
   refine ⟨_, rfl, p, _, 0, _, rfl, rfl, hT0, rfl, _, rfl, _, rfl, b1, sd, v1, ys, l1, ss, N, f, Oct.fl f, s1, rfl, hb1, hL1, esd, hP, W, ne1, n1, hN, fun t H1 sm1 et => ?_⟩
   show U _ _
   subst hU
   have hTt : ∀ {H'}, Same H1 H' -> SqT K H' t [.int (f : Nat), .int ((Oct.fl f : Nat) : Int), .int s1] := fun s => SqT.of (s _ _ et)
   refine seq_step fun U hU => ?_
   refine ⟨_, rfl, rfl, _, rfl, ?_⟩
   refine iteF ?_
   refine ⟨_, rfl, p, _, 1, _, rfl, rfl, hT sm1, rfl, true, isT_lst (sm1 _ _ hb2), true, rfl, ?_⟩
   refine iteF ?_
   show U _ _
   subst hU
   cases hL2
   refine seq_step fun U hU => ?_
   refine ⟨_, rfl, p, _, 1, _, rfl, rfl, hT sm1, rfl, sz 0, fun e he => ?_⟩
   have s2 := same_new he (.lst [])
   refine ⟨.list [], .list [], .lst (SqL.of (s2 _ _ (sm1 _ _ hb2))) .nil, .lst (SqL.of upd_same) .nil, by simp [PyData.depth, PyData.depthAll], ?_⟩
   rw [show PyData.eqv (.list []) (.list []) = true by simp [PyData.eqv, PyData.eqvAll]]
   refine ⟨_, rfl, ?_⟩
   refine iteT ?_
   refine ⟨_, rfl, t, _, 1, _, rfl, rfl, hTt s2, rfl, _, rfl, t, _, 0, _, rfl, rfl, hTt s2, rfl, (f : Int), rfl, rfl, _, rfl, ?_⟩
   rw [flip_nat, decide_eq_true rfl]
   refine iteT ?_
   refine ⟨_, rfl, t, _, 2, _, rfl, rfl, hTt s2, rfl, _, _, rfl, rfl, ?_⟩
   dsimp only
   rw [decide_eq_true hneg]
   exact q _ (sm1.trans s2)
 · refine seq_step fun U hU => ?_
   refine ⟨_, rfl, p, _, 0, _, rfl, rfl, hT0, rfl, _, rfl, _, rfl, b1, sd, v1, ys, l1, ss, N, f, f, s1, rfl, hb1, hL1, esd, hP, W1, ne1, n1, hN, fun t H1 sm1 et => ?_⟩
   show U _ _
   subst hU
   have hTt : ∀ {H'}, Same H1 H' -> SqT K H' t [.int (f : Nat), .int (f : Nat), .int s1] := fun s => SqT.of (s _ _ et)
   refine seq_step fun U hU => ?_
   refine ⟨_, rfl, rfl, _, rfl, ?_⟩
   refine iteF ?_
   refine ⟨_, rfl, p, _, 1, _, rfl, rfl, hT sm1, rfl, true, isT_lst (sm1 _ _ hb2), true, rfl, ?_⟩
   refine iteF ?_
   show U _ _
   subst hU
   refine seq_step fun U hU => ?_
   refine ⟨_, rfl, p, _, 1, _, rfl, rfl, hT sm1, rfl, sz 0, fun e he => ?_⟩
   have s2' := same_new he (.lst [])
   have s12 := sm1.trans s2'
   have hL2' := legs_keep (fun b xs h => s12 b _ h) hL2
   refine ⟨.list (l2.map legD), .list [], .lst (SqL.of (s12 _ _ hb2)) (dt_legs hL2'), .lst (SqL.of upd_same) .nil, ?_, ?_⟩
   · have := depth_legs l2
     simp only [PyData.depth]
     omega
   rw [show PyData.eqv (.list (l2.map legD)) (.list []) = false by
    cases l2 with
    | nil => exact absurd rfl ne2
    | cons x r => simp [PyData.eqv, PyData.eqvAll]]
   refine ⟨_, rfl, ?_⟩
   refine iteF ?_
   show U _ _
   subst hU
   generalize upd H1 e (.lst []) = H2 at *
   refine seq_step fun U hU => ?_
   refine ⟨_, rfl, p, _, 1, _, rfl, rfl, hT s12, rfl, _, rfl, _, rfl, b2, sd, v2, ys, l2, ss, N, Oct.fl f, Oct.fl f, s2, rfl, s12 _ _ hb2, hL2', s12 _ _ esd, sides_same s12 hP, W2, ne2, n2, hN, fun t2 H3 sm3 et2 => ?_⟩
   show U _ _
   subst hU
   have hTu : SqT K H3 t2 [.int ((Oct.fl f : Nat) : Int), .int ((Oct.fl f : Nat) : Int), .int s2] := SqT.of et2
   have hTt3 := hTt (s2'.trans sm3)
   refine seq_step fun U hU => ?_
   refine ⟨_, rfl, rfl, _, rfl, ?_⟩
   refine iteF ?_
   refine ⟨_, rfl, t, _, 0, _, rfl, rfl, hTt3, rfl, _, rfl, t, _, 1, _, rfl, rfl, hTt3, rfl, rfl, _, rfl, ?_⟩
   refine iteNS rfl ?_
   refine ⟨_, rfl, t2, _, 0, _, rfl, rfl, hTu, rfl, _, rfl, t2, _, 1, _, rfl, rfl, hTu, rfl, rfl, _, rfl, ?_⟩
   refine iteNS rfl ?_
   show U _ _
   subst hU
   refine ⟨_, rfl, t2, _, 0, _, rfl, rfl, hTu, rfl, _, rfl, t, _, 0, _, rfl, rfl, hTt3, rfl, (f : Int), rfl, rfl, _, rfl, ?_⟩
   rw [flip_nat, decide_eq_true rfl]
   refine iteT ?_
   refine ⟨_, rfl, t, _, 2, _, rfl, rfl, hTt3, rfl, _, _, rfl, rfl, ⟨by decide, by decide⟩, _, rfl, t2, _, 2, _, rfl, rfl, hTu, rfl, _, _, rfl, rfl, ⟨by decide, by decide⟩, _, _, rfl, rfl, _, _, rfl, rfl, ?_⟩
   dsimp only
   rw [decide_eq_true hneg]
   exact q _ (s12.trans sm3)
theorem sc_law : FnScope ["_law_script", "_law_count", "_law_point_here", "_law_way", "_law_cells_here", "_law_sides_here", "_law_at", "_law_odd", "_law_handed", "_law_found", "_law_shape"] ["_law_script"] (defScope s_law) := ⟨rfl, rfl, rfl, by decide +kernel, rfl, by decide +kernel, by decide +kernel⟩
theorem ok_law_fn {f : Addr} {fd : FuncData} (F : Fun K "law" "law" s_law f fd) (m : mg "law" = some (.ref f)) (B : Bl mg) (D__law_point : Def P w K mg base CX0 "_law_point" 2 ["_law_script", "_law_at", "_law_count"] (sp__law_point K)) (D__law_cells : Def P w K mg base CX0 "_law_cells" 2 ["_law_script", "_law_at", "_law_room"] (sp__law_cells K)) (D__law_sides : Def P w K mg base CX0 "_law_sides" 2 ["_law_cells_here", "_law_count", "_law_point_here", "_law_loose"] (sp__law_sides K)) (D_ring : Def P w K mg base CX0 "ring" 4 ["count", "sides"] (sp_ring K)) (D_closed : Def P w K mg base CX0 "closed" 7 ["count", "sides"] (sp_closed K)) (D__law_ring_good : Def P w K mg base CX0 "_law_ring_good" 4 ["_law_found", "_law_sides_here", "_law_many"] (sp__law_ring_good K)) (D__law_cell : Def P w K mg base CX0 "_law_cell" 1 ["_law_script", "_law_k"] (sp__law_cell K)) (D__law_between : Def P w K mg base CX0 "_law_between" 2 ["_law_cells_here", "_law_count", "_law_odd"] (sp__law_between K)) (D__law_bells : Def P w K mg base CX0 "_law_bells" 2 ["_law_script", "_law_cells_here"] (sp__law_bells K)) (D__law_chain : Def P w K mg base CX0 "_law_chain" 2 ["_law_cells_here", "_law_count", "_law_point_here"] (sp__law_chain K)) : FnOk P w K mg base CX0 8 f fd ["_law_script"] (sp_law K) := by
 refine F.ok sc_law (fun vs H Q E h => ?_) (fun cdv A outer s H vs Q E hr h => ?_)
 · obtain ⟨a, ns, rfl, _⟩ := h
   rfl
 obtain ⟨a, ns, rfl, hS, hlen, q⟩ := h
 have D__law_cell := D__law_cell.imp (cellAt_of (a := a) (ns := ns))
 refine ⟨_, (@pss_cons _ _ _ _ _ (@ps_pick _ K 1 _ _ [1, 2, 3, 4, 2, 3, 4, 6] _ _ _ _ _ _ rfl sc_law.nd rfl (by first | exact Or.inl rfl | exact Or.inr rfl) (by rfl) (pe_op op_mod (pe_dz D__law_cell hr (pa_Name (pv 0) (pa_Constant pe_int pa_nil))) pe_int) (fun _ _ => rfl) (by first | exact .inl rfl | exact .inr rfl))
  (@pss_cons _ _ _ _ _ (ps_sz 2 sc_law.nd (pe_dz D__law_point hr (pa_Name (pv 0) (pa_Constant pe_int (pa_Call (pe_callB (call_min2 rfl) (by rfl) B.min (by decide +kernel) (pa_Name (pv 1) (pa_Constant pe_int pa_nil))) pa_nil)))))
  (@pss_cons _ _ _ _ _ (ps_sz 3 sc_law.nd (pe_op op_mod (pe_dz D__law_cell hr (pa_Name (pv 0) (pa_Constant pe_int pa_nil))) pe_int))
  (@pss_cons _ _ _ _ _ (ps_sz 4 sc_law.nd (pe_dz D__law_cells hr (pa_Name (pv 0) (pa_Constant pe_int (pa_Constant pe_int pa_nil)))))
  (@pss_cons _ _ _ _ _ (ps_if (pt_cmpR op_eq (pv 1) pe_int (nomark _)) (@pss_cons _ _ _ _ _ (ps_sz 2 sc_law.nd (pe_op (op_catTA (K := K) rfl) (pv 2) (pe_slice (sl_tupK (K := K) rfl) (pv 2) po_none (po_some pe_int))))
  (@pss_cons _ _ _ _ _ (ps_sz 4 sc_law.nd (pe_slice (sl_listK (K := K) rfl) (pv 4) po_none (po_some pe_int)))
  (pss_one (ps_sz 3 sc_law.nd (pe_op op_mod (pv 3) pe_int))))) pss_nil)
  (@pss_cons _ _ _ _ _ (ps_sz 5 sc_law.nd (pe_dz D__law_sides hr (pa_Name (pv 4) (pa_Name (pv 1) (pa_Name (pv 2) (pa_Constant pe_int pa_nil))))))
  (@pss_cons _ _ _ _ _ (ps_if (pt_cmpR op_eq (pv 3) pe_int (nomark _)) (pss_one (ps_sz 5 sc_law.nd (pe_dz D__law_sides hr (pa_Name (pv 4) (pa_Name (pv 1) (pa_Name (pv 2) (pa_UnaryOp (pe_un un_neg pe_int) pa_nil))))))) pss_nil)
  (@pss_cons _ _ _ _ _ (ps_if (pt_cmpR op_eq (pv 3) pe_int (nomark _)) (@pss_cons _ _ _ _ _ (ps_sz 6 sc_law.nd (pe_op op_mod (pe_op op_fdiv (pe_dz D__law_cell hr (pa_Name (pv 0) (pa_Constant pe_int pa_nil))) pe_int) (pe_callB (call_lenK (K := K) rfl) (by rfl) B.len (by decide +kernel) (pa_Name (pv 4) pa_nil))))
  (pss_one (ps_sz 5 sc_law.nd (pe_op op_cat (pe_op op_cat (pe_slice (sl_listK (K := K) rfl) (pv 5) po_none (po_some (pv 6))) (pe_dz D__law_chain hr (pa_Name (pv 4) (pa_Name (pv 1) (pa_Name (pv 2) pa_nil))))) (pe_slice (sl_listK (K := K) rfl) (pv 5) (po_some (pv 6)) po_none))))) pss_nil)
  (@pss_cons _ _ _ _ _ (ps_if (pt_cmpR op_eq (pv 3) pe_int (nomark _)) (@pss_cons _ _ _ _ _ (ps_sz 1 sc_law.nd (pe_op op_add (pv 1) pe_int))
  (@pss_cons _ _ _ _ _ (ps_sz 7 sc_law.nd (pe_callTy (call_tuple_ofK (K := K) rfl) (by rfl) B.tuple (by decide +kernel) (pa_cons (pe_comp (CompScope.of sc_law.nd (by rfl)) rfl (pi_tupK (K := K) rfl (pe_dz D__law_point hr (pa_Name (pv 0) (pa_Constant pe_int (pa_Name (pv 1) pa_nil))))) (fun _ _ _ => pif_nil) (fun _ _ _ => (pe_op op_add (pe_op op_mul pe_int (pv 0)) pe_int))) pa_nil)))
  (pss_one (ps_sz 5 sc_law.nd (pe_dz D__law_between hr (pa_Name (pv 4) (pa_Name (pv 1) (pa_Name (pv 7) pa_nil)))))))) pss_nil)
  (@pss_cons _ _ _ _ _ (ps_if (pt_cmpR op_eq (pv 3) pe_int (nomark _)) (@pss_cons _ _ _ _ _ (ps_sz 1 sc_law.nd pe_int)
  (pss_one (ps_sz 5 sc_law.nd (pe_dz D__law_bells hr (pa_Name (pv 0) (pa_Name (pv 4) pa_nil)))))) pss_nil)
  (@pss_cons _ _ _ _ _ (ps_sz 8 sc_law.nd (pe_callTy (call_list_ofK (K := K) rfl) (by rfl) B.list (by decide +kernel) (pa_Name (pv 5) pa_nil)))
  (@pss_cons _ _ _ _ _ (ps_sz 9 sc_law.nd (pe_dz D_ring hr (pa_Name (pv 1) (pa_Name (pv 8) pa_nil))))
  (@pss_cons _ _ _ _ _ (ps_if (pt_cmpR (op_neDK (K := K) hr rfl) (pv 8) (pv 5) (nomark _)) (pss_one (ps_ret pe_bl)) pss_nil)
  (@pss_cons _ _ _ _ _ (ps_sz 10 sc_law.nd (pe_dz D_closed hr (pa_Name (pv 1) (pa_Name (pv 8) pa_nil))))
  (@pss_cons _ _ _ _ _ (ps_if (pt_cmpR op_isN (pv 9) pe_non (nomark _)) (pss_one (ps_ret (pe_and (pe_cmpR op_ne (pv 3) pe_int (nomark _)) (pe_and (pe_cmpR op_ne (pv 3) pe_int (nomark _)) (pe_one (pe_cmpR op_notN (pv 10) pe_non (nomark _))))))) pss_nil)
  (@pss_cons _ _ _ _ _ (ps_if (pw_or (pt_cmpR op_eq (pv 3) pe_int (nomark _)) (pw_or (pt_cmpR op_notN (pv 10) pe_non (nomark _)) (pw_or1 (pt_not (pt_val (pe_dz D__law_ring_good hr (pa_Name (pv 9) (pa_Name (pv 5) (pa_BinOp (pe_op op_mul pe_int (pv 1)) pa_nil))))))))).pt (pss_one (ps_ret pe_bl)) pss_nil)
  (@pss_cons _ _ _ _ _ (ps_expr (pe_bm0 PySem.F.plainAttrs_list PySem.F.slot_list_clear PySem.F.type_list_clear mt_clear (pe_xT (K := K) (pv 9) pe_int)))
  (@pss_cons _ _ _ _ _ (ps_expr (pe_bm PySem.F.plainAttrs_list PySem.F.slot_list_append PySem.F.type_list_append mt_append (pe_xT (K := K) (pv 9) pe_int) (pa_Constant pe_non pa_nil)))
  (pss_one (ps_ret (pe_dz D__law_ring_good hr (pa_Call (pe_dz D_ring hr (pa_Name (pv 1) (pa_Name (pv 8) pa_nil))) (pa_Name (pv 5) (pa_BinOp (pe_op op_mul pe_int (pv 1)) pa_nil)))))))))))))))))))))))), ?_⟩
 refine seq_step fun U hU => ?_
 refine ⟨sz 8, fun l8 hl8 => ?_⟩
 have s8 := same_new hl8 (.lst (([1, 2, 3, 4, 2, 3, 4, 6] : List Int).map V.int))
 obtain ⟨n, en, n1, n46⟩ := pick46 (cellI ns 0)
 refine ⟨_, rfl, (0 : Int), rfl, by decide, s8.seq hS, _, _, rfl, rfl, (by show (0 : Int) < 8; decide), l8, _, _, _, rfl, rfl, SqL.of upd_same, en, ?_⟩
 show U _ _
 subst hU
 have hS0 := s8.seq hS
 generalize upd H l8 (.lst (([1, 2, 3, 4, 2, 3, 4, 6] : List Int).map V.int)) = H0 at *
 refine seq_step fun U hU => ?_
 have em : (if (4 : Int) < (n : Int) then (4 : Int) else (n : Int)) = ((min n 4 : Nat) : Int) := by split <;> omega
 refine ⟨_, rfl, _, rfl, _, _, rfl, a, ns, 2, min n 4, congrArg (fun z => [V.ref a, V.int 2, V.int z]) em, hS0, by decide, by omega, fun pt H1 hpt sm1 e1 => ?_⟩
 obtain ⟨xs, ex, xl⟩ := pt_of ns 2 (min n 4)
 rw [ex] at e1
 have hS1 := sm1.seq hS0
 have hP1 : SqT K H1 pt (xs.map V.int) := SqT.of e1
 show U _ _
 subst hU
 refine seq_step fun U hU => ?_
 obtain ⟨y, ey, hy⟩ : ∃ y : Nat, cellI ns 6 % 5 = (y : Int) /\ y < 5 := ⟨(cellI ns 6 % 5).toNat, by omega, by omega⟩
 refine ⟨_, rfl, (6 : Int), rfl, by decide, hS1, _, _, rfl, rfl, (by show (0 : Int) < 5; decide), ?_⟩
 show U _ _
 dsimp only
 rw [ey]
 subst hU
 refine seq_step fun U hU => ?_
 refine ⟨_, rfl, a, ns, 7, 24, rfl, hS1, hlen, fun ca H2 cs sm2 hca eca l4 l100 => ?_⟩
 show U _ _
 subst hU
 have hP2 := sm2.sqT hP1
 have hS2 := sm2.seq hS1
 refine seq_step fun U hU => ?_
 have key : ∀ (pt ca : Addr) (xs cs : List Int) (y : Nat) (H3 : Hp), SqL K H3 a (ns.map V.int) -> SqT K H3 pt (xs.map V.int) -> H3 ca = some (.lst (cs.map V.int)) -> xs.length = n -> cs ≠ [] -> cs.length <= 100 -> y < 5 -> (n <= 4 \/ y <= 2) -> U [some (V.ref a), some (.int (n : Nat)), some (.ref pt), some (.int (y : Nat)), some (.ref ca), none, none, none, none, none, none] H3 := by
  clear hP2 hS2 eca hca sm2 cs ca l4 l100 ey hy y hP1 hS1 xl ex e1 sm1 hpt pt
  intro pt ca xs cs y H3 hS3 hP3 eca3 xl ne l100 hy ny
  subst hU
  have n6 : n <= 6 := by omega
  refine seq_step fun U hU => ?_
  refine ⟨_, rfl, _, rfl, _, rfl, ca, pt, cs, xs, n, 0, rfl, SqL.of eca3, hP3, xl, n1, n6, l100, fun sd H4 ys ss sm4 hsd esd psd hin hk hl => ?_⟩
  show U _ _
  subst hU
  have hk0 := hk (by omega)
  have hS4 := sm4.seq hS3
  have hP4 := sm4.sqT hP3
  have eca4 := sm4 _ _ eca3
  refine seq_step fun U hU => ?_
  have key1 : ∀ (sd : Addr) (ys : List V) (ss : List Sdn) (H5 : Hp), Same H4 H5 -> DrS H5 n (y = 0) False sd ys ss -> ss.length = cs.length -> U [some (V.ref a), some (.int (n : Nat)), some (.ref pt), some (.int (y : Nat)), some (.ref ca), some (.ref sd), none, none, none, none, none] H5 := by
   clear hk0 hl hk hin psd esd hsd ss ys sd
   intro sd ys ss H5 sm5 D hl
   subst hU
   have hS5 := sm5.seq hS4
   have hP5 := sm5.sqT hP4
   have eca5 := sm5 _ _ eca4
   refine seq_step fun U hU => ?_
   have key2 : ∀ (x6 : Option V) (sd : Addr) (ys : List V) (ss : List Sdn) (H6 : Hp), Same H5 H6 -> DrS H6 n (y = 0) (y = 2) sd ys ss -> U [some (V.ref a), some (.int (n : Nat)), some (.ref pt), some (.int (y : Nat)), some (.ref ca), some (.ref sd), x6, none, none, none, none] H6 := by
    clear hl D ss ys sd
    intro x6 sd ys ss H6 sm6 D
    subst hU
    have hS6 := sm6.seq hS5
    have eca6 := sm6 _ _ eca5
    refine seq_step fun U hU => ?_
    have key3 : ∀ (x7 : Option V) (n : Nat) (sd : Addr) (ys : List V) (ss : List Sdn) (H7 : Hp), Same H6 H7 -> 1 <= n -> n <= 6 -> DrS H7 n (y = 0) (y = 2) sd ys ss -> U [some (V.ref a), some (.int (n : Nat)), some (.ref pt), some (.int (y : Nat)), some (.ref ca), some (.ref sd), x6, x7, none, none, none] H7 := by
     clear D ss ys sd xl ny n6 n1 n46 em en
     intro x7 n sd ys ss H7 sm7 n1 n6 D
     subst hU
     have hS7 := sm7.seq hS6
     have eca7 := sm7 _ _ eca6
     refine seq_step fun U hU => ?_
     have key4 : ∀ (n : Nat) (sd : Addr) (ys : List V) (ss : List Sdn) (H8 : Hp), 1 <= n -> n <= 6 -> DrS H8 n (y = 0) (y = 2 \/ y = 4) sd ys ss -> U [some (V.ref a), some (.int (n : Nat)), some (.ref pt), some (.int (y : Nat)), some (.ref ca), some (.ref sd), x6, x7, none, none, none] H8 := by
      clear D ss ys sd n1 n6
      intro n sd ys ss H8 n1 n6 D
      subst hU
      refine seq_step fun U hU => ?_
      refine ⟨_, rfl, sd, _, rfl, .inl (SqL.of D.at_), fun hd hhd => ?_⟩
      show U _ _
      subst hU
      have s9 := same_new hhd (.lst ys)
      have eh : upd H8 hd (.lst ys) hd = some (.lst ys) := upd_same
      have es := s9 _ _ D.at_
      have ps := sides_same s9 D.pr
      have lS := D.len
      have hin := D.ins
      have k0 := D.k0
      have k2 := D.k2
      generalize upd H8 hd (.lst ys) = H9 at *
      refine seq_step fun U hU => ?_
      have keyR : ∀ v H10, Same H9 H10 -> ((v = .non /\ ∃ w, Oct.Pt w (2 * n) /\ KeptS w ss) \/ ∃ l1 l2, RingOk ss (2 * n) l1 l2 /\ RgAt H9 H10 v (some (l1, l2))) -> U [some (V.ref a), some (.int (n : Nat)), some (.ref pt), some (.int (y : Nat)), some (.ref ca), some (.ref sd), x6, x7, some (.ref hd), some v, none] H10 := by
       intro v H10 sm10 R
       subst hU
       have ps10 := sides_same sm10 ps
       refine seq_step fun U hU => ?_
       refine ⟨_, rfl, _, rfl, .list (ss.map sdD), .list (ss.map sdD), dt_sidesL (SqL.of (sm10 _ _ eh)) ps10, dt_sidesL (SqL.of (sm10 _ _ es)) ps10, depth_sidesL _, _, rfl, ?_⟩
       rw [eqv_sides]
       refine iteF ?_
       show U _ _
       subst hU
       refine seq_step fun U hU => ?_
       refine ⟨_, rfl, _, rfl, hd, n, ys, ss, rfl, SqL.of (sm10 _ _ eh), ps10, hin, by omega, fun u H11 sm11 N11 => ?_⟩
       show U _ _
       subst hU
       have A11 := N11.at
       refine seq_step fun U hU => ?_
       rcases R with ⟨rfl, w, pw, kw⟩ | ⟨l1, l2, RO, RA⟩
       · obtain ⟨c, ec⟩ := closed_some pw kw
         rw [ec] at A11
         obtain ⟨tb, bs, rfl, T⟩ := A11
         have y2 : ¬ y = 2 := fun e => k2 (.inl e) w pw kw
         have y4 : ¬ y = 4 := fun e => k2 (.inr e) w pw kw
         refine ⟨_, rfl, rfl, _, rfl, ?_⟩
         refine iteT ?_
         refine ⟨_, rfl, rfl, _, rfl, ?_⟩
         refine ite2 (fun _ => ?_) (fun h => absurd (necI (by omega)) h)
         refine ⟨_, rfl, rfl, _, rfl, ?_⟩
         refine ite2 (fun _ => ?_) (fun h => absurd (necI (by omega)) h)
         exact ⟨_, rfl, rfl, q _⟩
       · rw [ring_closed hin RO] at A11
         cases A11
         have RO' := RO
         obtain ⟨p, b1, b2, v1, v2, rfl, hp, hb1, hb2, nb1, nb2, L1, L2⟩ := id RA
         have lv2 := paired_len L2
         obtain ⟨_, _, ll2, _⟩ := RO'
         refine ⟨_, rfl, rfl, _, rfl, ?_⟩
         refine iteF ?_
         show U _ _
         subst hU
         refine seq_step fun U hU => ?_
         refine ⟨_, rfl, rfl, _, rfl, ?_⟩
         refine ite2 (fun h => ?_) (fun _ => ?_)
         · obtain ⟨w, pw, kw⟩ := k0 (by have := decI.mp h; omega)
           exact (RO.none pw kw).elim
         refine ⟨_, rfl, rfl, _, rfl, ?_⟩
         refine iteF ?_
         have s911 := sm10.trans sm11
         refine ⟨_, rfl, _, rfl, _, rfl, _, _, rfl, rfl, .inl ⟨by decide, by decide⟩, H9, .ref p, sd, ys, l1, l2, ss, 2 * n, by simp, ⟨p, b1, b2, v1, v2, rfl, sm11 _ _ hp, sm11 _ _ hb1, sm11 _ _ hb2, nb1, nb2, legs_keep (fun b xs h => sm11 b _ h) L1, legs_keep (fun b xs h => sm11 b _ h) L2⟩, RO, s911 _ _ es, sides_same s911 ps, by omega, fun H12 sm12 => ⟨_, rfl, ?_⟩⟩
         refine iteF ?_
         show U _ _
         subst hU
         have s1012 := sm11.trans sm12
         refine seq_step fun U hU => ?_
         refine ⟨_, rfl, p, _, 0, _, rfl, rfl, SqT.of (s1012 _ _ hp), rfl, .inl ⟨rfl, _, SqL.of (s1012 _ _ hb1)⟩, b1, _, rfl, rfl, s1012 _ _ hb1, ?_⟩
         show U _ _
         subst hU
         have s13 : Same H9 (upd H12 b1 (.lst [])) := same_over nb1 (sm10.trans s1012)
         have hp13 : upd H12 b1 (.lst []) p = some (.tup [.ref b1, .ref b2]) := by
          rw [upd_ne (fun z => by have h := s1012 _ _ hp; rw [z, s1012 _ _ hb1] at h; cases h)]
          exact s1012 _ _ hp
         obtain ⟨v3, hb3, lv3⟩ : ∃ v3, upd H12 b1 (.lst []) b2 = some (.lst v3) /\ v3.length <= 100 := by
          by_cases e : b2 = b1
          · exact ⟨[], by rw [e]; exact upd_same, by simp⟩
          · exact ⟨v2, by rw [upd_ne e]; exact s1012 _ _ hb2, by omega⟩
         generalize upd H12 b1 (.lst []) = H13 at *
         refine seq_step fun U hU => ?_
         refine ⟨_, rfl, p, _, 1, _, rfl, rfl, SqT.of hp13, rfl, .inl ⟨rfl, _, SqL.of hb3⟩, b2, _, _, rfl, rfl, hb3, small1000 (by omega), ?_⟩
         show U _ _
         subst hU
         have s14 := same_over (o := .lst (v3 ++ [.non])) nb2 s13
         generalize upd H13 b2 (.lst (v3 ++ [.non])) = H14 at *
         refine ⟨_, rfl, _, rfl, hd, n, ys, ss, rfl, s14 _ _ eh, sides_same s14 ps, hin, n1, n6, lS, fun ⟨w, pw, kw⟩ => (RO.none pw kw).elim, fun v l1 l2 H15 sm15 RO2 RA2 => ?_⟩
         exact ⟨_, rfl, _, rfl, _, _, rfl, rfl, .inl ⟨by decide, by decide⟩, H14, v, sd, ys, l1, l2, ss, 2 * n, by simp, RA2, RO2, (s14.trans sm15) _ _ es, sides_same (s14.trans sm15) ps, by omega, fun H16 _ => q _⟩
      refine ⟨_, rfl, _, rfl, hd, n, ys, ss, rfl, eh, ps, hin, n1, n6, lS, fun hw H10 sm10 => keyR _ H10 sm10 (.inl ⟨rfl, hw⟩), fun v l1 l2 H10 sm10 RO RA => keyR v H10 sm10 (.inr ⟨l1, l2, RO, RA⟩)⟩
     refine ⟨_, rfl, rfl, _, rfl, ?_⟩
     refine ite2 (fun h => ?_) (fun h => ?_)
     · have y4 : y = 4 := by have := decI.mp h; omega
       refine seq_step fun U hU => ?_
       show U _ _
       subst hU
       refine ⟨_, rfl, _, rfl, a, ca, ns, cs, rfl, hS7, SqL.of eca7, ne, fun p ys ss H8 sm8 ep pr ins len no => ?_⟩
       exact key4 4 p ys ss H8 (by omega) (by omega) ⟨ep, pr, ins, by omega, fun e => by omega, fun _ => no⟩
     · exact key4 n sd ys ss H7 n1 n6 ⟨D.at_, D.pr, D.ins, D.len, D.k0, fun e => e.elim D.k2 (fun z => absurd (decI.mpr (by omega)) h)⟩
    refine ⟨_, rfl, rfl, _, rfl, ?_⟩
    refine ite2 (fun h => ?_) (fun h => ?_)
    · have y3 : y = 3 := by have := decI.mp h; omega
      have n4 : n <= 4 := by omega
      refine seq_step fun U hU => ?_
      refine ⟨_, rfl, _, _, rfl, rfl, ?_⟩
      show U _ _
      subst hU
      refine seq_step fun U hU => ?_
      refine ⟨_, rfl, _, rfl, a, ns, 2, n + 1, rfl, hS6, by decide, by omega, fun pq H7 hpq sm7 e7 => ?_⟩
      obtain ⟨zs, ez, zl⟩ := pt_of ns 2 (n + 1)
      rw [ez] at e7
      refine ⟨pq, rfl, ⟨_, SqT.of e7⟩, fun p hp => comp_tupN (K := K) (a := pq) (xs := zs.map V.int) (fun i os H' => ∃ is : List Int, os = is.map V.int /\ is.length = i /\ H' p = some (.lst os) /\ Same H7 H') ⟨[], rfl, rfl, upd_same, same_new hp _⟩ (fun i os H' _ ⟨_, _, _, _, sm⟩ => SqT.of (sm _ _ e7)) ?_ ?_⟩
      · rintro i x os H8 hx ⟨is, rfl, li, hp8, sm8⟩
        have hi : i < (zs.map V.int).length := (List.getElem?_eq_some_iff.mp hx).1
        obtain ⟨z, rfl⟩ : ∃ z, x = V.int z := by
         rw [List.getElem?_map] at hx
         cases ezz : zs[i]? with
         | none => rw [ezz] at hx; cases hx
         | some z => rw [ezz] at hx; cases hx; exact ⟨z, rfl⟩
        simp only [tYes, ↓reduceIte]
        refine ⟨_, rfl, _, _, rfl, rfl, .inl ⟨by decide, by decide⟩, _, _, rfl, rfl, hp8, by rw [List.length_map, li]; rw [List.length_map] at hi; exact small1000 (by omega), again hi ⟨is ++ [2 * z + 1], by simp, by simp [li], upd_same, same_over hp sm8⟩⟩
      · rintro os H8 ⟨is, rfl, li, hp8, sm8⟩
        refine ⟨p, _, rfl, .inl ⟨SqL.of hp8, fun od hod => ?_⟩⟩
        have s9 := same_new hod (.tup (is.map V.int))
        have s69 := (sm7.trans sm8).trans s9
        show U _ _
        subst hU
        refine ⟨_, rfl, _, rfl, _, rfl, ca, od, cs, is, n + 1, rfl, SqL.of (s69 _ _ eca6), l100, SqT.of upd_same, by rw [li, List.length_map]; exact zl, by omega, by omega, fun sd ys ss H9 sm9 esd psd ins len => ?_⟩
        exact key3 _ (n + 1) sd ys ss H9 (s69.trans sm9) (by omega) (by omega) ⟨esd, psd, ins, by omega, fun e => by omega, fun e => by omega⟩
    · exact key3 none n sd ys ss H6 (Same.refl _) n1 n6 D
   refine ⟨_, rfl, rfl, _, rfl, ?_⟩
   refine ite2 (fun h => ?_) (fun h => ?_)
   · have y2 : y = 2 := by have := decI.mp h; omega
     have lpos : 0 < cs.length := List.length_pos_iff.mpr ne
     obtain ⟨k, ek, hk⟩ : ∃ k : Nat, cellI ns 6 / 5 % (cs.length : Int) = (k : Int) /\ k < cs.length := by
      have q1 := Int.emod_nonneg (cellI ns 6 / 5) (b := (cs.length : Int)) (by omega)
      have q2 := Int.emod_lt_of_pos (cellI ns 6 / 5) (b := (cs.length : Int)) (by omega)
      exact ⟨(cellI ns 6 / 5 % (cs.length : Int)).toNat, by omega, by omega⟩
     refine seq_step fun U hU => ?_
     refine ⟨_, rfl, (6 : Int), rfl, by decide, hS5, _, _, rfl, rfl, ⟨by decide, by decide⟩, _, rfl, ca, _, rfl, .inl (SqL.of eca5), _, _, rfl, rfl, (by show (0 : Int) < ((cs.map V.int).length : Int); rw [List.length_map]; omega), ?_⟩
     show U _ _
     dsimp only
     rw [List.length_map, ek]
     subst hU
     have ly := paired_len D.pr
     refine ⟨_, rfl, _, rfl, (k : Int), rfl, sd, _, rfl, SqL.of D.at_, fun l1 hl1 => ?_⟩
     rw [cutT ys (by omega)]
     have z1 := same_new hl1 (.lst (ys.take k))
     refine ⟨_, rfl, _, rfl, _, rfl, ca, pt, cs, xs, n, rfl, z1.seq (SqL.of eca5), ne, z1.sqT hP5, xl, n1, n6, fun cp cy ct H6 sm6 ecp pcp inc lc noc => ?_⟩
     have lcy := paired_len pcp
     refine ⟨l1, cp, _, _, rfl, rfl, sm6 _ _ upd_same, ecp, Nat.le_of_lt (small1000 (by rw [List.length_take]; omega)), fun l2 hl2 => ?_⟩
     have z2 := same_new hl2 (.lst (ys.take k ++ cy))
     have z12 := (z1.trans sm6).trans z2
     refine ⟨_, rfl, _, rfl, (k : Int), rfl, sd, _, rfl, SqL.of (z12 _ _ D.at_), fun l3 hl3 => ?_⟩
     rw [cutD ys (by omega)]
     have z3 := same_new hl3 (.lst (ys.drop k))
     refine ⟨l2, l3, _, _, rfl, rfl, z3 _ _ upd_same, upd_same, Nat.le_of_lt (small1000 (by rw [List.length_append, List.length_take, List.length_drop]; omega)), fun l4 hl4 => ?_⟩
     have z4 := same_new hl4 (.lst ((ys.take k ++ cy) ++ ys.drop k))
     have zz := (z12.trans z3).trans z4
     refine key2 _ l4 _ ((ss.take k ++ ct) ++ ss.drop k) _ zz ⟨upd_same, paired_app (paired_app (paired_take (sides_same zz D.pr) k) (sides_same ((z2.trans z3).trans z4) pcp)) (paired_drop (sides_same zz D.pr) k), fun s hs => ?_, by rw [List.length_append, List.length_append, List.length_take, List.length_drop]; omega, fun e => by omega, fun _ w pw kw => noc w pw (kept_mem kw fun s hs => List.mem_append_left _ (List.mem_append_right _ hs))⟩
     rcases List.mem_append.mp hs with h1 | h1
     · rcases List.mem_append.mp h1 with h2 | h2
       · exact D.ins s (List.mem_of_mem_take h2)
       · exact inc s h2
     · exact D.ins s (List.mem_of_mem_drop h1)
   · exact key2 none sd ys ss H5 (Same.refl _) ⟨D.at_, D.pr, D.ins, D.len, D.k0, fun e => absurd (decI.mpr (by omega)) h⟩
  refine ⟨_, rfl, rfl, _, rfl, ?_⟩
  refine ite2 (fun h => ?_) (fun h => ?_)
  · have y1 : y = 1 := by have := decI.mp h; omega
    refine ⟨_, rfl, _, rfl, _, rfl, (1 : Int), rfl, ca, pt, cs, xs, n, -1, rfl, SqL.of eca4, hP4, xl, n1, n6, l100, fun sd2 H5 ys2 ss2 sm5 hsd2 esd2 psd2 hin2 _ hl2 => ?_⟩
    exact key1 sd2 ys2 ss2 H5 sm5 ⟨esd2, psd2, hin2, by omega, fun e => by omega, False.elim⟩ hl2
  · exact key1 sd ys ss H4 (Same.refl _) ⟨esd, psd, hin, by omega, fun _ => ⟨wN xs, wN_pt xs _, hk0⟩, False.elim⟩ hl
 refine ⟨_, rfl, rfl, _, rfl, ?_⟩
 refine ite2 (fun h => ?_) (fun h => ?_)
 · have n6 : n = 6 := by have := decI.mp h; omega
   have x4 : xs.length = 4 := by omega
   refine seq_step fun U hU => ?_
   refine ⟨_, rfl, _, rfl, (2 : Int), rfl, pt, _, rfl, hP2, ?_, fun p1 hp1 => ?_⟩
   · rw [List.length_map, sIx_two (by omega)]
     omega
   have ez : cutV (xs.map V.int) none (some (2 : Int)) = (xs.take 2).map V.int := cutL (α := Int) V.int xs 2
   rw [ez]
   have s3 := same_new hp1 (.tup ((xs.take 2).map V.int))
   refine .inl ⟨pt, p1, _, _, rfl, rfl, s3.sqT hP2, SqT.of upd_same, (fun e => by have := congrArg List.length e; rw [List.length_map, x4] at this; cases this), sz _ (by rw [List.length_map, List.length_map, List.length_take]; omega), fun e => ?_, fun _ p2 hp2 => ?_⟩
   · have := congrArg List.length e
     rw [List.length_map, List.length_take, x4] at this
     cases this
   have s4 := same_new hp2 (.tup (xs.map V.int ++ (xs.take 2).map V.int))
   have s34 := s3.trans s4
   have ep2 : upd (upd H2 p1 (.tup ((xs.take 2).map V.int))) p2 (.tup (xs.map V.int ++ (xs.take 2).map V.int)) p2 = some (.tup ((xs ++ xs.take 2).map V.int)) := by rw [upd_same, List.map_append]
   show U _ _
   subst hU
   generalize upd (upd H2 p1 (.tup ((xs.take 2).map V.int))) p2 (.tup (xs.map V.int ++ (xs.take 2).map V.int)) = H4 at *
   refine seq_step fun U hU => ?_
   refine ⟨_, rfl, (8 : Int), rfl, ca, _, rfl, SqL.of (s34 _ _ eca), fun cb hcb => ?_⟩
   have ez8 : cutV (cs.map V.int) none (some (8 : Int)) = (cs.take 8).map V.int := cutL (α := Int) V.int cs 8
   rw [ez8]
   have s5 := same_new hcb (.lst ((cs.take 8).map V.int))
   show U _ _
   subst hU
   refine ⟨_, rfl, _, _, rfl, rfl, (by show (0 : Int) < 3; decide), ?_⟩
   dsimp only
   rw [show ((y : Nat) : Int) % 3 = ((y % 3 : Nat) : Int) by omega]
   exact key p2 cb (xs ++ xs.take 2) (cs.take 8) (y % 3) _ ((s34.trans s5).seq hS2) (SqT.of (s5 _ _ ep2)) upd_same (by rw [List.length_append, List.length_take]; omega) (fun e => by have := congrArg List.length e; rw [List.length_take, List.length_nil] at this; omega) (by rw [List.length_take]; omega) (by omega) (by omega)
 · have n4 : n <= 4 := by
    rcases n46 with z | z
    · exact z
    · exact absurd (decI.mpr (by omega)) h
   exact key pt ca xs cs y H2 hS2 hP2 eca (by omega) (fun e => by rw [e] at l4; simp at l4) l100 hy (.inl n4)
end
set_option autoImplicit true in
set_option relaxedAutoImplicit true in
theorem all_mk {l : PySem.W.OpenLaw} {w : World} {K : PySem.W.Frag} {h : Heap} {mg : Str -> Option Value} {fa : Addr} (X : K.In h) (G : h.Ns mainGlobals mg) (hfa : mg "law" = some (.ref fa))
  (a0 : Ha K "flipped" f0) (l0 : Hl K f0 "flipped" "flipped" s_flipped oc0 od0 kV0 dc0 pm0 an0 cd0 ct0 sl0) (c0 : Hc K cd0 "flipped") (k0 : Hk K f0)
  (a1 : Ha K "ring" f1) (l1 : Hl K f1 "ring" "ring" s_ring oc1 od1 kV1 dc1 pm1 an1 cd1 ct1 sl1) (c1 : Hc K cd1 "ring") (k1 : Hk K f1)
  (a2 : Ha K "standing_walks" f2) (l2 : Hl K f2 "standing_walks" "standing_walks" s_standing_walks oc2 od2 kV2 dc2 pm2 an2 cd2 ct2 sl2) (c2 : Hc K cd2 "standing_walks") (k2 : Hk K f2)
  (a3 : Ha K "standing_row" f3) (l3 : Hl K f3 "standing_row" "standing_row" s_standing_row oc3 od3 kV3 dc3 pm3 an3 cd3 ct3 sl3) (c3 : Hc K cd3 "standing_row") (k3 : Hk K f3)
  (a4 : Ha K "single_walks" f4) (l4 : Hl K f4 "single_walks" "single_walks" s_single_walks oc4 od4 kV4 dc4 pm4 an4 cd4 ct4 sl4) (c4 : Hc K cd4 "single_walks") (k4 : Hk K f4)
  (a5 : Ha K "take_leg" f5) (l5 : Hl K f5 "take_leg" "take_leg" s_take_leg oc5 od5 kV5 dc5 pm5 an5 cd5 ct5 sl5) (c5 : Hc K cd5 "take_leg") (k5 : Hk K f5)
  (a6 : Ha K "is_less" f6) (l6 : Hl K f6 "is_less" "is_less" s_is_less oc6 od6 kV6 dc6 pm6 an6 cd6 ct6 sl6) (c6 : Hc K cd6 "is_less") (k6 : Hk K f6)
  (a7 : Ha K "lengthened_row" f7) (l7 : Hl K f7 "lengthened_row" "lengthened_row" s_lengthened_row oc7 od7 kV7 dc7 pm7 an7 cd7 ct7 sl7) (c7 : Hc K cd7 "lengthened_row") (k7 : Hk K f7)
  (a8 : Ha K "lengthened" f8) (l8 : Hl K f8 "lengthened" "lengthened" s_lengthened oc8 od8 kV8 dc8 pm8 an8 cd8 ct8 sl8) (c8 : Hc K cd8 "lengthened") (k8 : Hk K f8)
  (a9 : Ha K "ring_of_one" f9) (l9 : Hl K f9 "ring_of_one" "ring_of_one" s_ring_of_one oc9 od9 kV9 dc9 pm9 an9 cd9 ct9 sl9) (c9 : Hc K cd9 "ring_of_one") (k9 : Hk K f9)
  (a10 : Ha K "ring_of_two" f10) (l10 : Hl K f10 "ring_of_two" "ring_of_two" s_ring_of_two oc10 od10 kV10 dc10 pm10 an10 cd10 ct10 sl10) (c10 : Hc K cd10 "ring_of_two") (k10 : Hk K f10)
  (a11 : Ha K "below" f11) (l11 : Hl K f11 "below" "below" s_below oc11 od11 kV11 dc11 pm11 an11 cd11 ct11 sl11) (c11 : Hc K cd11 "below") (k11 : Hk K f11)
  (a12 : Ha K "lesser" f12) (l12 : Hl K f12 "lesser" "lesser" s_lesser oc12 od12 kV12 dc12 pm12 an12 cd12 ct12 sl12) (c12 : Hc K cd12 "lesser") (k12 : Hk K f12)
  (a13 : Ha K "summed" f13) (l13 : Hl K f13 "summed" "summed" s_summed oc13 od13 kV13 dc13 pm13 an13 cd13 ct13 sl13) (c13 : Hc K cd13 "summed") (k13 : Hk K f13)
  (a14 : Ha K "half" f14) (l14 : Hl K f14 "half" "half" s_half oc14 od14 kV14 dc14 pm14 an14 cd14 ct14 sl14) (c14 : Hc K cd14 "half") (k14 : Hk K f14)
  (a15 : Ha K "wide" f15) (l15 : Hl K f15 "wide" "wide" s_wide oc15 od15 kV15 dc15 pm15 an15 cd15 ct15 sl15) (c15 : Hc K cd15 "wide") (k15 : Hk K f15)
  (a16 : Ha K "wide_row" f16) (l16 : Hl K f16 "wide_row" "wide_row" s_wide_row oc16 od16 kV16 dc16 pm16 an16 cd16 ct16 sl16) (c16 : Hc K cd16 "wide_row") (k16 : Hk K f16)
  (a17 : Ha K "closed" f17) (l17 : Hl K f17 "closed" "closed" s_closed oc17 od17 kV17 dc17 pm17 an17 cd17 ct17 sl17) (c17 : Hc K cd17 "closed") (k17 : Hk K f17)
  (a18 : Ha K "held_by_all" f18) (l18 : Hl K f18 "held_by_all" "held_by_all" s_held_by_all oc18 od18 kV18 dc18 pm18 an18 cd18 ct18 sl18) (c18 : Hc K cd18 "held_by_all") (k18 : Hk K f18)
  (a19 : Ha K "lowered" f19) (l19 : Hl K f19 "lowered" "lowered" s_lowered oc19 od19 kV19 dc19 pm19 an19 cd19 ct19 sl19) (c19 : Hc K cd19 "lowered") (k19 : Hk K f19)
  (a20 : Ha K "tightened" f20) (l20 : Hl K f20 "tightened" "tightened" s_tightened oc20 od20 kV20 dc20 pm20 an20 cd20 ct20 sl20) (c20 : Hc K cd20 "tightened") (k20 : Hk K f20)
  (a21 : Ha K "row_within_halves" f21) (l21 : Hl K f21 "row_within_halves" "row_within_halves" s_row_within_halves oc21 od21 kV21 dc21 pm21 an21 cd21 ct21 sl21) (c21 : Hc K cd21 "row_within_halves") (k21 : Hk K f21)
  (a22 : Ha K "linked_through_all" f22) (l22 : Hl K f22 "linked_through_all" "linked_through_all" s_linked_through_all oc22 od22 kV22 dc22 pm22 an22 cd22 ct22 sl22) (c22 : Hc K cd22 "linked_through_all") (k22 : Hk K f22)
  (a23 : Ha K "linked_through" f23) (l23 : Hl K f23 "linked_through" "linked_through" s_linked_through oc23 od23 kV23 dc23 pm23 an23 cd23 ct23 sl23) (c23 : Hc K cd23 "linked_through") (k23 : Hk K f23)
  (a24 : Ha K "linked_row" f24) (l24 : Hl K f24 "linked_row" "linked_row" s_linked_row oc24 od24 kV24 dc24 pm24 an24 cd24 ct24 sl24) (c24 : Hc K cd24 "linked_row") (k24 : Hk K f24)
  (a25 : Ha K "_law_cell" f25) (l25 : Hl K f25 "_law_cell" "_law_cell" s__law_cell oc25 od25 kV25 dc25 pm25 an25 cd25 ct25 sl25) (c25 : Hc K cd25 "_law_cell") (k25 : Hk K f25)
  (a26 : Ha K "_law_whole" f26) (l26 : Hl K f26 "_law_whole" "_law_whole" s__law_whole oc26 od26 kV26 dc26 pm26 an26 cd26 ct26 sl26) (c26 : Hc K cd26 "_law_whole") (k26 : Hk K f26)
  (a27 : Ha K "_law_big" f27) (l27 : Hl K f27 "_law_big" "_law_big" s__law_big oc27 od27 kV27 dc27 pm27 an27 cd27 ct27 sl27) (c27 : Hc K cd27 "_law_big") (k27 : Hk K f27)
  (a28 : Ha K "_law_point" f28) (l28 : Hl K f28 "_law_point" "_law_point" s__law_point oc28 od28 kV28 dc28 pm28 an28 cd28 ct28 sl28) (c28 : Hc K cd28 "_law_point") (k28 : Hk K f28)
  (a29 : Ha K "_law_worth" f29) (l29 : Hl K f29 "_law_worth" "_law_worth" s__law_worth oc29 od29 kV29 dc29 pm29 an29 cd29 ct29 sl29) (c29 : Hc K cd29 "_law_worth") (k29 : Hk K f29)
  (a30 : Ha K "_law_flip" f30) (l30 : Hl K f30 "_law_flip" "_law_flip" s__law_flip oc30 od30 kV30 dc30 pm30 an30 cd30 ct30 sl30) (c30 : Hc K cd30 "_law_flip") (k30 : Hk K f30)
  (a31 : Ha K "_law_side_like" f31) (l31 : Hl K f31 "_law_side_like" "_law_side_like" s__law_side_like oc31 od31 kV31 dc31 pm31 an31 cd31 ct31 sl31) (c31 : Hc K cd31 "_law_side_like") (k31 : Hk K f31)
  (a32 : Ha K "_law_cells" f32) (l32 : Hl K f32 "_law_cells" "_law_cells" s__law_cells oc32 od32 kV32 dc32 pm32 an32 cd32 ct32 sl32) (c32 : Hc K cd32 "_law_cells") (k32 : Hk K f32)
  (a33 : Ha K "_law_sides" f33) (l33 : Hl K f33 "_law_sides" "_law_sides" s__law_sides oc33 od33 kV33 dc33 pm33 an33 cd33 ct33 sl33) (c33 : Hc K cd33 "_law_sides") (k33 : Hk K f33)
  (a34 : Ha K "_law_chain" f34) (l34 : Hl K f34 "_law_chain" "_law_chain" s__law_chain oc34 od34 kV34 dc34 pm34 an34 cd34 ct34 sl34) (c34 : Hc K cd34 "_law_chain") (k34 : Hk K f34)
  (a35 : Ha K "_law_bells" f35) (l35 : Hl K f35 "_law_bells" "_law_bells" s__law_bells oc35 od35 kV35 dc35 pm35 an35 cd35 ct35 sl35) (c35 : Hc K cd35 "_law_bells") (k35 : Hk K f35)
  (a36 : Ha K "_law_between" f36) (l36 : Hl K f36 "_law_between" "_law_between" s__law_between oc36 od36 kV36 dc36 pm36 an36 cd36 ct36 sl36) (c36 : Hc K cd36 "_law_between") (k36 : Hk K f36)
  (a37 : Ha K "_law_walked" f37) (l37 : Hl K f37 "_law_walked" "_law_walked" s__law_walked oc37 od37 kV37 dc37 pm37 an37 cd37 ct37 sl37) (c37 : Hc K cd37 "_law_walked") (k37 : Hk K f37)
  (a38 : Ha K "_law_ring_good" f38) (l38 : Hl K f38 "_law_ring_good" "_law_ring_good" s__law_ring_good oc38 od38 kV38 dc38 pm38 an38 cd38 ct38 sl38) (c38 : Hc K cd38 "_law_ring_good") (k38 : Hk K f38)
  (a39 : Ha K "law" f39) (l39 : Hl K f39 "law" "law" s_law oc39 od39 kV39 dc39 pm39 an39 cd39 ct39 sl39) (c39 : Hc K cd39 "law") (k39 : Hk K f39)
  (z_len : Hz K "len")
  (z_isinstance : Hz K "isinstance")
  (z_int : Hz K "int")
  (z_bool : Hz K "bool")
  (z_tuple : Hz K "tuple")
  (z_range : Hz K "range")
  (z_list : Hz K "list")
  (z_sum : Hz K "sum")
  (z_str : Hz K "str")
  (z_enumerate : Hz K "enumerate")
  (z_zip : Hz K "zip")
  (z_min : Hz K "min")
  (z_max : Hz K "max")
  : ∃ fd : FuncData, (∀ (s : Shared) (v : Value), BindsTo s fd ⟨[v], []⟩ [("_law_script", v)]) /\ ∀ base : Heap, K.In base -> base.Ns mainGlobals mg -> FnOk l.prog w K mg base CX0 8 fa fd ["_law_script"] (sp_law K) := by
 have e := hfa.symm.trans (PySem.W.mg_of X G a39)
 cases e
 have B : Bl mg := ⟨PySem.W.mg_none_of X G z_len, PySem.W.mg_none_of X G z_isinstance, PySem.W.mg_none_of X G z_int, PySem.W.mg_none_of X G z_bool, PySem.W.mg_none_of X G z_tuple, PySem.W.mg_none_of X G z_range, PySem.W.mg_none_of X G z_list, PySem.W.mg_none_of X G z_sum, PySem.W.mg_none_of X G z_str, PySem.W.mg_none_of X G z_enumerate, PySem.W.mg_none_of X G z_zip, PySem.W.mg_none_of X G z_min, PySem.W.mg_none_of X G z_max⟩
 refine ⟨PySem.W.fnOf "law" "law" (defArgs s_law) (defBody s_law) (defScope s_law) .none kV39 dc39 pm39 an39 cd39 ct39, fun s v => .of_eq rfl, fun base _ _ => ?_⟩
 have E_flipped := ok_flipped (P := l.prog) (w := w) (base := base) (fun_mk (st := s_flipped) l0 c0 k0) (PySem.W.mg_of X G a0) B
 have E_is_less := ok_is_less (P := l.prog) (w := w) (base := base) (fun_mk (st := s_is_less) l6 c6 k6) (PySem.W.mg_of X G a6) B
 have E_below := ok_below (P := l.prog) (w := w) (base := base) (fun_mk (st := s_below) l11 c11 k11) (PySem.W.mg_of X G a11) B
 have E_lesser := ok_lesser (P := l.prog) (w := w) (base := base) (fun_mk (st := s_lesser) l12 c12 k12) (PySem.W.mg_of X G a12) B
 have E_summed := ok_summed (P := l.prog) (w := w) (base := base) (fun_mk (st := s_summed) l13 c13 k13) (PySem.W.mg_of X G a13) B
 have E_half := ok_half (P := l.prog) (w := w) (base := base) (fun_mk (st := s_half) l14 c14 k14) (PySem.W.mg_of X G a14) B
 have E__law_cell := ok__law_cell (P := l.prog) (w := w) (base := base) (fun_mk (st := s__law_cell) l25 c25 k25) (PySem.W.mg_of X G a25) B
 have E__law_whole := ok__law_whole (P := l.prog) (w := w) (base := base) (fun_mk (st := s__law_whole) l26 c26 k26) (PySem.W.mg_of X G a26) B
 have E__law_big := ok__law_big (P := l.prog) (w := w) (base := base) (fun_mk (st := s__law_big) l27 c27 k27) (PySem.W.mg_of X G a27) B
 have E__law_worth := ok__law_worth (P := l.prog) (w := w) (base := base) (fun_mk (st := s__law_worth) l29 c29 k29) (PySem.W.mg_of X G a29) B
 have E__law_flip := ok__law_flip (P := l.prog) (w := w) (base := base) (fun_mk (st := s__law_flip) l30 c30 k30) (PySem.W.mg_of X G a30) B
 have E_standing_row := ok_standing_row (P := l.prog) (w := w) (base := base) (fun_mk (st := s_standing_row) l3 c3 k3) (PySem.W.mg_of X G a3) B E_flipped
 have E_take_leg := ok_take_leg (P := l.prog) (w := w) (base := base) (fun_mk (st := s_take_leg) l5 c5 k5) (PySem.W.mg_of X G a5) B E_is_less
 have E_lengthened := ok_lengthened (P := l.prog) (w := w) (base := base) (fun_mk (st := s_lengthened) l8 c8 k8) (PySem.W.mg_of X G a8) B E_is_less E_flipped
 have E_ring_of_one := ok_ring_of_one (P := l.prog) (w := w) (base := base) (fun_mk (st := s_ring_of_one) l9 c9 k9) (PySem.W.mg_of X G a9) B E_flipped
 have E_ring_of_two := ok_ring_of_two (P := l.prog) (w := w) (base := base) (fun_mk (st := s_ring_of_two) l10 c10 k10) (PySem.W.mg_of X G a10) B E_flipped
 have E_wide_row := ok_wide_row (P := l.prog) (w := w) (base := base) (fun_mk (st := s_wide_row) l16 c16 k16) (PySem.W.mg_of X G a16) B E_flipped
 have E_lowered := ok_lowered (P := l.prog) (w := w) (base := base) (fun_mk (st := s_lowered) l19 c19 k19) (PySem.W.mg_of X G a19) B E_lesser
 have E_row_within_halves := ok_row_within_halves (P := l.prog) (w := w) (base := base) (fun_mk (st := s_row_within_halves) l21 c21 k21) (PySem.W.mg_of X G a21) B E_lesser E_summed
 have E_linked_row := ok_linked_row (P := l.prog) (w := w) (base := base) (fun_mk (st := s_linked_row) l24 c24 k24) (PySem.W.mg_of X G a24) B E_lesser E_summed
 have E__law_point := ok__law_point (P := l.prog) (w := w) (base := base) (fun_mk (st := s__law_point) l28 c28 k28) (PySem.W.mg_of X G a28) B E__law_big E__law_cell
 have E__law_side_like := ok__law_side_like (P := l.prog) (w := w) (base := base) (fun_mk (st := s__law_side_like) l31 c31 k31) (PySem.W.mg_of X G a31) B E__law_whole
 have E__law_cells := ok__law_cells (P := l.prog) (w := w) (base := base) (fun_mk (st := s__law_cells) l32 c32 k32) (PySem.W.mg_of X G a32) B E__law_cell
 have E__law_sides := ok__law_sides (P := l.prog) (w := w) (base := base) (fun_mk (st := s__law_sides) l33 c33 k33) (PySem.W.mg_of X G a33) B E__law_worth
 have E__law_chain := ok__law_chain (P := l.prog) (w := w) (base := base) (fun_mk (st := s__law_chain) l34 c34 k34) (PySem.W.mg_of X G a34) B E__law_flip E__law_worth
 have E__law_bells := ok__law_bells (P := l.prog) (w := w) (base := base) (fun_mk (st := s__law_bells) l35 c35 k35) (PySem.W.mg_of X G a35) B E__law_cell E__law_big E__law_flip
 have E__law_between := ok__law_between (P := l.prog) (w := w) (base := base) (fun_mk (st := s__law_between) l36 c36 k36) (PySem.W.mg_of X G a36) B E__law_worth
 have E_standing_walks := ok_standing_walks (P := l.prog) (w := w) (base := base) (fun_mk (st := s_standing_walks) l2 c2 k2) (PySem.W.mg_of X G a2) B E_standing_row
 have E_single_walks := ok_single_walks (P := l.prog) (w := w) (base := base) (fun_mk (st := s_single_walks) l4 c4 k4) (PySem.W.mg_of X G a4) B E_take_leg
 have E_lengthened_row := ok_lengthened_row (P := l.prog) (w := w) (base := base) (fun_mk (st := s_lengthened_row) l7 c7 k7) (PySem.W.mg_of X G a7) B E_lengthened
 have E_wide := ok_wide (P := l.prog) (w := w) (base := base) (fun_mk (st := s_wide) l15 c15 k15) (PySem.W.mg_of X G a15) B E_wide_row
 have E_linked_through := ok_linked_through (P := l.prog) (w := w) (base := base) (fun_mk (st := s_linked_through) l23 c23 k23) (PySem.W.mg_of X G a23) B E_linked_row E_flipped
 have E__law_walked := ok__law_walked (P := l.prog) (w := w) (base := base) (fun_mk (st := s__law_walked) l37 c37 k37) (PySem.W.mg_of X G a37) B E__law_side_like E__law_flip
 have E_ring := ok_ring (P := l.prog) (w := w) (base := base) (fun_mk (st := s_ring) l1 c1 k1) (PySem.W.mg_of X G a1) B E_single_walks E_standing_walks E_ring_of_two E_ring_of_one E_lengthened_row
 have E_linked_through_all := ok_linked_through_all (P := l.prog) (w := w) (base := base) (fun_mk (st := s_linked_through_all) l22 c22 k22) (PySem.W.mg_of X G a22) B E_linked_through
 have E__law_ring_good := ok__law_ring_good (P := l.prog) (w := w) (base := base) (fun_mk (st := s__law_ring_good) l38 c38 k38) (PySem.W.mg_of X G a38) B E__law_walked E__law_flip
 have E_tightened := ok_tightened (P := l.prog) (w := w) (base := base) (fun_mk (st := s_tightened) l20 c20 k20) (PySem.W.mg_of X G a20) B E_linked_through_all E_half E_row_within_halves E_below E_summed E_flipped
 have E_held_by_all := ok_held_by_all (P := l.prog) (w := w) (base := base) (fun_mk (st := s_held_by_all) l18 c18 k18) (PySem.W.mg_of X G a18) B E_tightened E_lowered
 have E_closed := ok_closed (P := l.prog) (w := w) (base := base) (fun_mk (st := s_closed) l17 c17 k17) (PySem.W.mg_of X G a17) B E_held_by_all E_wide
 exact ok_law_fn (P := l.prog) (w := w) (base := base) (fun_mk (st := s_law) l39 c39 k39) (PySem.W.mg_of X G a39) B E__law_point E__law_cells E__law_sides E_ring E_closed E__law_ring_good E__law_cell E__law_between E__law_bells E__law_chain
theorem walk {l : PySem.W.OpenLaw} {q : Program} {loose : List Str} {XP : (Str -> Option Value) -> Heap -> Prop} {YP : World -> Heap -> Prop} {d : DefRec} {K : Params -> PySem.W.Frag} (hn : l.most = some 63) (hdf : d.params.defaults = [])
  (hY : ∀ (w : World) (h : Heap), YP w h -> (K w.params).In h)
  (F : ∀ (w : World) (mg : Str -> Option Value) (fa : Addr) (h : Heap), (K w.params).In h -> h.Ns mainGlobals mg -> mg d.name = some (.ref fa) ->
   ∃ fd : FuncData, (∀ (s : Shared) (u : Value), BindsTo s fd ⟨[u], []⟩ [("_law_script", u)]) /\ ∀ base : Heap, (K w.params).In base -> base.Ns mainGlobals mg -> FnOk l.prog w (K w.params) mg base CX0 8 fa fd ["_law_script"] (sp_law (K w.params))) :
  PySem.W.WalkO q loose XP YP l.row.toRowW d [] (fun f vs => PySem.call f vs) :=
 L2.walk_of (n := 63) (k := 8) (x := "_law_script") (CX := fun _ => CX0) (sp := fun w => sp_law (K w.params)) hn (by decide) hdf ⟨rfl, by decide, by decide⟩ hY F (fun _ _ a ns hl _ hS => ⟨a, ns, rfl, hS, hl, fun _ => rfl⟩) fun _ _ _ _ _ z => z
end T
open PySem PySem.W PyProof.Rows
set_option maxRecDepth 100000 in
set_option maxHeartbeats 0 in
theorem PySem.Challenge.cw_eightsides_k14_ring_walked_holds : PySem.Challenge.rw_eightsides_k14_ring_walked.Holds := by
 w_on; o_law; k_head; (case hw => w_witness2)
 k_fill
 refine T.walk (l := PySem.Challenge.rw_eightsides_k14_ring_walked) rfl rfl (fun w h Y => PySem.W.kIn_of Y) ?F
 case F =>
  intro w mg fa h KX G hmg
  refine' T.all_mk KX G hmg ?a0 ?l0 ?c0 ?k0 ?a1 ?l1 ?c1 ?k1 ?a2 ?l2 ?c2 ?k2 ?a3 ?l3 ?c3 ?k3 ?a4 ?l4 ?c4 ?k4 ?a5 ?l5 ?c5 ?k5 ?a6 ?l6 ?c6 ?k6 ?a7 ?l7 ?c7 ?k7 ?a8 ?l8 ?c8 ?k8 ?a9 ?l9 ?c9 ?k9 ?a10 ?l10 ?c10 ?k10 ?a11 ?l11 ?c11 ?k11 ?a12 ?l12 ?c12 ?k12 ?a13 ?l13 ?c13 ?k13 ?a14 ?l14 ?c14 ?k14 ?a15 ?l15 ?c15 ?k15 ?a16 ?l16 ?c16 ?k16 ?a17 ?l17 ?c17 ?k17 ?a18 ?l18 ?c18 ?k18 ?a19 ?l19 ?c19 ?k19 ?a20 ?l20 ?c20 ?k20 ?a21 ?l21 ?c21 ?k21 ?a22 ?l22 ?c22 ?k22 ?a23 ?l23 ?c23 ?k23 ?a24 ?l24 ?c24 ?k24 ?a25 ?l25 ?c25 ?k25 ?a26 ?l26 ?c26 ?k26 ?a27 ?l27 ?c27 ?k27 ?a28 ?l28 ?c28 ?k28 ?a29 ?l29 ?c29 ?k29 ?a30 ?l30 ?c30 ?k30 ?a31 ?l31 ?c31 ?k31 ?a32 ?l32 ?c32 ?k32 ?a33 ?l33 ?c33 ?k33 ?a34 ?l34 ?c34 ?k34 ?a35 ?l35 ?c35 ?k35 ?a36 ?l36 ?c36 ?k36 ?a37 ?l37 ?c37 ?k37 ?a38 ?l38 ?c38 ?k38 ?a39 ?l39 ?c39 ?k39 ?z_len ?z_isinstance ?z_int ?z_bool ?z_tuple ?z_range ?z_list ?z_sum ?z_str ?z_enumerate ?z_zip ?z_min ?z_max
  all_goals (try first | delta L2.Ha | delta L2.Hl | delta L2.Hc | delta L2.Hk | delta L2.Hm | delta L2.Hi | delta L2.Hz)
  (case a0 => k_is); (case l0 => k_is); (case c0 => k_is); (case k0 => k_is)
  (case a1 => k_is); (case l1 => k_is); (case c1 => k_is); (case k1 => k_is)
  (case a2 => k_is); (case l2 => k_is); (case c2 => k_is); (case k2 => k_is)
  (case a3 => k_is); (case l3 => k_is); (case c3 => k_is); (case k3 => k_is)
  (case a4 => k_is); (case l4 => k_is); (case c4 => k_is); (case k4 => k_is)
  (case a5 => k_is); (case l5 => k_is); (case c5 => k_is); (case k5 => k_is)
  (case a6 => k_is); (case l6 => k_is); (case c6 => k_is); (case k6 => k_is)
  (case a7 => k_is); (case l7 => k_is); (case c7 => k_is); (case k7 => k_is)
  (case a8 => k_is); (case l8 => k_is); (case c8 => k_is); (case k8 => k_is)
  (case a9 => k_is); (case l9 => k_is); (case c9 => k_is); (case k9 => k_is)
  (case a10 => k_is); (case l10 => k_is); (case c10 => k_is); (case k10 => k_is)
  (case a11 => k_is); (case l11 => k_is); (case c11 => k_is); (case k11 => k_is)
  (case a12 => k_is); (case l12 => k_is); (case c12 => k_is); (case k12 => k_is)
  (case a13 => k_is); (case l13 => k_is); (case c13 => k_is); (case k13 => k_is)
  (case a14 => k_is); (case l14 => k_is); (case c14 => k_is); (case k14 => k_is)
  (case a15 => k_is); (case l15 => k_is); (case c15 => k_is); (case k15 => k_is)
  (case a16 => k_is); (case l16 => k_is); (case c16 => k_is); (case k16 => k_is)
  (case a17 => k_is); (case l17 => k_is); (case c17 => k_is); (case k17 => k_is)
  (case a18 => k_is); (case l18 => k_is); (case c18 => k_is); (case k18 => k_is)
  (case a19 => k_is); (case l19 => k_is); (case c19 => k_is); (case k19 => k_is)
  (case a20 => k_is); (case l20 => k_is); (case c20 => k_is); (case k20 => k_is)
  (case a21 => k_is); (case l21 => k_is); (case c21 => k_is); (case k21 => k_is)
  (case a22 => k_is); (case l22 => k_is); (case c22 => k_is); (case k22 => k_is)
  (case a23 => k_is); (case l23 => k_is); (case c23 => k_is); (case k23 => k_is)
  (case a24 => k_is); (case l24 => k_is); (case c24 => k_is); (case k24 => k_is)
  (case a25 => k_is); (case l25 => k_is); (case c25 => k_is); (case k25 => k_is)
  (case a26 => k_is); (case l26 => k_is); (case c26 => k_is); (case k26 => k_is)
  (case a27 => k_is); (case l27 => k_is); (case c27 => k_is); (case k27 => k_is)
  (case a28 => k_is); (case l28 => k_is); (case c28 => k_is); (case k28 => k_is)
  (case a29 => k_is); (case l29 => k_is); (case c29 => k_is); (case k29 => k_is)
  (case a30 => k_is); (case l30 => k_is); (case c30 => k_is); (case k30 => k_is)
  (case a31 => k_is); (case l31 => k_is); (case c31 => k_is); (case k31 => k_is)
  (case a32 => k_is); (case l32 => k_is); (case c32 => k_is); (case k32 => k_is)
  (case a33 => k_is); (case l33 => k_is); (case c33 => k_is); (case k33 => k_is)
  (case a34 => k_is); (case l34 => k_is); (case c34 => k_is); (case k34 => k_is)
  (case a35 => k_is); (case l35 => k_is); (case c35 => k_is); (case k35 => k_is)
  (case a36 => k_is); (case l36 => k_is); (case c36 => k_is); (case k36 => k_is)
  (case a37 => k_is); (case l37 => k_is); (case c37 => k_is); (case k37 => k_is)
  (case a38 => k_is); (case l38 => k_is); (case c38 => k_is); (case k38 => k_is)
  (case a39 => k_is); (case l39 => k_is); (case c39 => k_is); (case k39 => k_is)
  (case z_len => k_is); (case z_isinstance => k_is); (case z_int => k_is); (case z_bool => k_is); (case z_tuple => k_is); (case z_range => k_is); (case z_list => k_is); (case z_sum => k_is); (case z_str => k_is); (case z_enumerate => k_is); (case z_zip => k_is); (case z_min => k_is); (case z_max => k_is)
