import PyProof.Rows.All
import Wide.All
import OpenK.AllK
import Wide.FinOn
import Lean
import PyProof.EqAt
import PyProof.EqKinds
import PyProof.TupleCall
import PyProof.NeData
import PyProof.Rows.SumAny
import PyProof.ListRange
import PyProof.Rows.Range3
import OpenK.KOwn
import KE.KTryMore
import PyProof.RulesAs
import PyProof.MinMaxWalk
import PyProof.WalkInts
import PyProof.Rows.CallKwBuiltin
import KE.KMinKey
import PyProof.Draws
import OpenK.KMake
import PyProof.Rows.TupIter
import KE.KIsAll
import PySem.Challenge.RW_eightsides_k36_one_way
set_option Elab.async false
set_option linter.all false
set_option maxRecDepth 100000
namespace L2
open PySem PySem.Spec PyProof.Rows
abbrev Key := Sum Int Str
def keyIs : Key -> Value -> Bool
 | .inl k, v => Value.isInt k v
 | .inr x, v => Value.isStrOf x v
def keyH (w : World) : Key -> Int
 | .inl k => hashInt k
 | .inr x => hashStr w x
theorem keyIs_shape : ∀ {k : Key} {v : Value}, keyIs k v = true -> (∃ i t, k = Sum.inl i /\ v = Value.int i t) \/ (∃ x t, k = Sum.inr x /\ v = Value.str x t)
 | .inl i, v, h => by
  obtain ⟨t, e⟩ := Value.isInt_shape (k := i) (v := v) h
  exact .inl ⟨i, t, rfl, e⟩
 | .inr x, v, h => by
  obtain ⟨t, e⟩ := Value.isStrOf_shape (x := x) (v := v) h
  exact .inr ⟨x, t, rfl, e⟩
theorem key_ll (a b : Int) : decide ((Sum.inl a : Key) = Sum.inl b) = (a == b) := by
 by_cases e : a = b
 · subst e; simp
 · have h : ¬ (Sum.inl a : Key) = Sum.inl b := fun q => e (Sum.inl.inj q)
   rw [decide_eq_false h]
   exact (beq_eq_false_iff_ne.mpr e).symm
theorem key_rr (a b : Str) : decide ((Sum.inr a : Key) = Sum.inr b) = decide (a = b) := by
 by_cases e : a = b
 · subst e; simp
 · have h : ¬ (Sum.inr a : Key) = Sum.inr b := fun q => e (Sum.inr.inj q)
   rw [decide_eq_false h, decide_eq_false e]
theorem key_lr (a : Int) (b : Str) : decide ((Sum.inl a : Key) = Sum.inr b) = false := decide_eq_false (fun q => nomatch q)
theorem key_rl (a : Str) (b : Int) : decide ((Sum.inr a : Key) = Sum.inl b) = false := decide_eq_false (fun q => nomatch q)
def mixKind (prog : Program) (w : World) : PySem.KeyKind prog w Key where
 is := keyIs
 hash := keyH w
 inj := fun v a b ha hb => by
  rcases keyIs_shape ha with ⟨i, t, rfl, rfl⟩ | ⟨x, t, rfl, rfl⟩
  · rcases keyIs_shape hb with ⟨j, u, rfl, e⟩ | ⟨y, u, rfl, e⟩
    · injection e with e1 _; rw [e1]
    · exact nomatch e
  · rcases keyIs_shape hb with ⟨j, u, rfl, e⟩ | ⟨y, u, rfl, e⟩
    · exact nomatch e
    · injection e with e1 _; rw [e1]
 byValue := fun k v h => by
  rcases keyIs_shape h with ⟨i, t, rfl, rfl⟩ | ⟨x, t, rfl, rfl⟩ <;> rfl
 pyHash := fun hv h => by
  rcases keyIs_shape hv with ⟨i, t, rfl, rfl⟩ | ⟨x, t, rfl, rfl⟩
  · exact wpAny_pyHash_int h
  · exact wpAny_pyHash_str h
 eqBool := fun hu hv h => by
  rcases keyIs_shape hu with ⟨i, t, rfl, rfl⟩ | ⟨x, t, rfl, rfl⟩
  · rcases keyIs_shape hv with ⟨j, u, rfl, rfl⟩ | ⟨y, u, rfl, rfl⟩
    · rw [key_ll] at h; exact wpAny_eqBool_int h
    · rw [key_lr] at h; exact SeqAt.EqAt.int_str i t y u _ _ _ _ h
  · rcases keyIs_shape hv with ⟨j, u, rfl, rfl⟩ | ⟨y, u, rfl, rfl⟩
    · rw [key_rl] at h; exact SeqAt.EqAt.str_int x t j u _ _ _ _ h
    · rw [key_rr] at h; exact wpAny_eqBool_str h
 «strs» := fun k x t v h => by
  rcases keyIs_shape h with ⟨i, u, rfl, e⟩ | ⟨y, u, rfl, e⟩
  · exact nomatch e
  · injection e with e1 _
    subst e1
    cases v <;> rfl
end L2
namespace L2
open PySem PySem.Spec PyProof.Rows
inductive V where
 | non | bl (b : Bool) | int (i : Int) | str (x : Str) | byt (b : Array UInt8) | flt (b : UInt64) | ref (a : Addr) | ty (n : String)
 deriving DecidableEq
def RelV : V -> Value -> Prop
 | .non, u => u = Value.none
 | .bl b, u => u = Value.bool b
 | .int i, u => ∃ t, u = Value.int i t
 | .str x, u => ∃ t, u = Value.str x t
 | .byt b, u => ∃ t, u = Value.bytes b t
 | .flt b, u => ∃ t, u = Value.float b t
 | .ref a, u => u = Value.ref a
 | .ty n, u => u = Value.type n
abbrev Vals : List V -> List Value -> Prop := Paired RelV
theorem Vals.length {xs : List V} {us : List Value} (r : Vals xs us) : xs.length = us.length := Paired.length r
theorem Vals.get : ∀ {xs : List V} {us : List Value} {i : Nat} {x : V}, Vals xs us -> xs[i]? = some x -> ∃ u, us[i]? = some u /\ RelV x u
 | _, _, _, _, .nil, e => by simp at e
 | _, _, 0, _, .cons r _, e => by simp at e; subst e; exact ⟨_, rfl, r⟩
 | _, _, i + 1, x, .cons _ t, e => by
  obtain ⟨u, h1, h2⟩ := Vals.get (i := i) (x := x) t (by simpa using e)
  exact ⟨u, by simpa using h1, h2⟩
theorem Vals.set {x : V} {u : Value} (r : RelV x u) : ∀ {xs : List V} {us : List Value} (i : Nat), Vals xs us -> Vals (xs.set i x) (us.set i u)
 | _, _, _, .nil => .nil
 | _, _, 0, .cons _ t => .cons r t
 | _, _, i + 1, .cons q t => .cons q (Vals.set r i t)
theorem Vals.append : ∀ {xs ys : List V} {us ws : List Value}, Vals xs us -> Vals ys ws -> Vals (xs ++ ys) (us ++ ws)
 | _, _, _, _, .nil, s => s
 | _, _, _, _, .cons r t, s => .cons r (Vals.append t s)
theorem Vals.take : ∀ {xs : List V} {us : List Value} (n : Nat), Vals xs us -> Vals (xs.take n) (us.take n)
 | _, _, 0, _ => .nil
 | _, _, _ + 1, .nil => .nil
 | _, _, n + 1, .cons r t => .cons r (Vals.take n t)
theorem Vals.drop : ∀ {xs : List V} {us : List Value} (n : Nat), Vals xs us -> Vals (xs.drop n) (us.drop n)
 | _, _, 0, r => r
 | _, _, _ + 1, .nil => .nil
 | _, _, n + 1, .cons _ t => Vals.drop n t
def RelO : Option V -> Option Value -> Prop
 | some v, some u => RelV v u
 | none, none => True
 | _, _ => False
def KV {κ : Type} : List (κ × V) -> List (κ × Value) -> Prop := Paired fun (p : κ × V) (q : κ × Value) => p.1 = q.1 /\ RelV p.2 q.2
def kV : Key -> V
 | .inl i => .int i
 | .inr x => .str x
inductive HO where
 | lst (xs : List V)
 | tup (xs : List V)
 | dK (kvs : List (Key × V)) | dT (kvs : List (List Key × V))
 | set (S : Int -> Bool) (n : Nat)
 | ins (C dx : Addr) (fs : List (Str × V))
 | own (x : Addr)
 | xd (fs : List (Str × V))
 | met (f x : Addr)
 | rng (lo hi : Int)
 | frz (o : Obj) (u : HO)
 | tbl (ps : Array Value)
 | ext (φ : Heap -> Prop)
abbrev Hp := Addr -> Option HO
def upd (H : Hp) (a : Addr) (o : HO) : Hp := fun b => if b = a then some o else H b
theorem upd_same {H : Hp} {a : Addr} {o : HO} : upd H a o a = some o := by unfold upd; rw [if_pos rfl]
theorem upd_ne {H : Hp} {a b : Addr} {o : HO} (h : b ≠ a) : upd H a o b = H b := by unfold upd; rw [if_neg h]
theorem ne_of {H : Hp} {a b : Addr} {o u : HO} (h : H a = some o) (h' : H b = some u) (d : o ≠ u) : a ≠ b := by
 intro e; subst e; rw [h] at h'; exact d (Option.some.inj h')
theorem ne_of_none {H : Hp} {a b : Addr} {o : HO} (h : H a = some o) (h' : H b = none) : a ≠ b := by
 intro e; subst e; rw [h] at h'; cases h'
section
variable (P : Program) (w : World)
def ObjOk (H : Hp) (h : Heap) (a : Addr) : HO -> Prop
 | .lst xs => xs.length <= sizeLine /\ ∃ (its : List Value) (n : Nat), Vals xs its /\ h.get? a = some { cls := .type "list", data := .seq its.toArray n }
 | .tup xs => xs.length <= sizeLine /\ ∃ its : List Value, Vals xs its /\ IsTup h a its.toArray
 | .dK kvs => kvs.length <= sizeLine /\ (a == sysModules) = false /\ ∃ vs, KV kvs vs /\ h.DictOf (mixKind P w) a vs
 | .dT kvs => kvs.length <= sizeLine /\ (a == sysModules) = false /\ ∃ xs : List (List Key × Addr × Value),
   Paired (fun (p : List Key × V) (q : List Key × Addr × Value) => p.1 = q.1 /\ H q.2.1 = some (.tup (p.1.map kV)) /\ RelV p.2 q.2.2) kvs xs /\
   ∃ o es ep, h.get? a = some o /\ o.ExactDict /\ o.data = .dict es ep /\ es.toList = xs.map (entryOfKey (tupleKind (mixKind P w))) /\ (xs.map (·.1)).Nodup
 | .set S n => h.SetOf (intKind P w) a S n
 | .ins C dx fs => H dx = some (.own a) /\ fs.length <= 1000 /\ dx ≠ a /\ h.get? a = some (PySem.W.instObj C dx) /\
   ∃ mA, h.Ns1 dx mA /\ (∀ f, RelO (fs.lookup f) (mA f)) /\ PySem.Within mA (fs.map (·.1))
 | .own _ => ∃ o, h.get? a = some o
 | .xd fs => ∃ mA, h.Ns1 a mA /\ ∀ f, RelO (fs.lookup f) (mA f)
 | .rng lo hi => ∃ t u v, h.get? a = some { cls := .type "range", data := .fields #[.int lo t, .int hi u, .int 1 v] }
 | .frz o u => h.get? a = some o /\ ObjOk H h a u
 | .tbl ps => h.get? a = some { cls := .none, data := .fields ps }
 | .met f x => h.get? a = some (PySem.W.methodObj (.ref f) (.ref x))
 | .ext φ => φ h /\ (∃ o, h.get? a = some o) /\ ∀ h1 h2 : Heap, φ h1 -> (∀ o, h1.get? a = some o -> h2.get? a = some o) -> φ h2
def HOk (H : Hp) (h : Heap) : Prop := ∀ a o, H a = some o -> ObjOk P w H h a o
end
section
variable {P : Program} {w : World} {H H' : Hp} {h h' : Heap} {a : Addr} {o : HO}
theorem ObjOk.lt (x : ObjOk P w H h a o) : a < h.objs.size := by
 cases o with
 | lst xs => obtain ⟨_, _, _, _, e⟩ := x; exact Heap.lt_size e
 | tup xs => obtain ⟨_, _, _, p⟩ := x; exact p.lt
 | dK kvs => obtain ⟨_, _, _, _, o, _, _, e, _⟩ := x; exact Heap.lt_size e
 | dT kvs => obtain ⟨_, _, _, _, o, _, _, e, _⟩ := x; exact Heap.lt_size e
 | set S n => obtain ⟨o, _, _, _, e, _⟩ := x; exact Heap.lt_size e
 | ins C dx fs => obtain ⟨_, _, _, e, _⟩ := x; exact Heap.lt_size e
 | own y => obtain ⟨_, e⟩ := x; exact Heap.lt_size e
 | xd fs => obtain ⟨_, ⟨_, _, _, e, _⟩, _⟩ := x; exact Heap.lt_size e
 | rng lo hi => obtain ⟨_, _, _, e⟩ := x; exact Heap.lt_size e
 | frz ob u => obtain ⟨e, _⟩ := x; exact Heap.lt_size e
 | tbl ps => exact Heap.lt_size (show h.get? a = some _ from x)
 | met f y => exact Heap.lt_size (show h.get? a = some _ from x)
 | ext φ => obtain ⟨_, ⟨_, e⟩, _⟩ := x; exact Heap.lt_size e
theorem Paired.mapP {α β : Type} {F G : α -> β -> Prop} : ∀ {l₁ : List α} {l₂ : List β}, Paired F l₁ l₂ -> (∀ a b, F a b -> G a b) -> Paired G l₁ l₂
 | _, _, .nil, _ => .nil
 | _, _, .cons r t, f => .cons (f _ _ r) (Paired.mapP t f)
theorem ObjOk.stay (x : ObjOk P w H h a o) (k : ∀ b u, (b = a \/ H b = some (.own a)) -> h.get? b = some u -> h'.get? b = some u)
  (ho : ∀ b, H b = some (.own a) -> H' b = some (.own a)) (ht : ∀ b xs, H b = some (.tup xs) -> H' b = some (.tup xs)) : ObjOk P w H' h' a o := by
 induction o with
 | lst xs => obtain ⟨z, its, n, r, e⟩ := x; exact ⟨z, its, n, r, k _ _ (.inl rfl) e⟩
 | tup xs => obtain ⟨z, its, r, ob, e, c⟩ := x; exact ⟨z, its, r, ob, k _ _ (.inl rfl) e, c⟩
 | dK kvs => obtain ⟨z, y, vs, r, ob, es, ep, e, c⟩ := x; exact ⟨z, y, vs, r, ob, es, ep, k _ _ (.inl rfl) e, c⟩
 | dT kvs =>
  obtain ⟨z, y, xs, r, ob, es, ep, e, c⟩ := x
  exact ⟨z, y, xs, Paired.mapP r fun p q z => ⟨z.1, ht _ _ z.2.1, z.2.2⟩, ob, es, ep, k _ _ (.inl rfl) e, c⟩
 | set S n => obtain ⟨ob, es, ep, t, e, c⟩ := x; exact ⟨ob, es, ep, t, k _ _ (.inl rfl) e, c⟩
 | ins C dx fs =>
  obtain ⟨d, z, ne, e, mA, ⟨od, es, ep, e2, c⟩, r⟩ := x
  exact ⟨ho _ d, z, ne, k _ _ (.inl rfl) e, mA, ⟨od, es, ep, k _ _ (.inr d) e2, c⟩, r⟩
 | own y => obtain ⟨ob, e⟩ := x; exact ⟨ob, k _ _ (.inl rfl) e⟩
 | xd fs => obtain ⟨mA, ⟨od, es, ep, e, c⟩, r⟩ := x; exact ⟨mA, ⟨od, es, ep, k _ _ (.inl rfl) e, c⟩, r⟩
 | rng lo hi => obtain ⟨t, u, v, e⟩ := x; exact ⟨t, u, v, k _ _ (.inl rfl) e⟩
 | frz ob u ih => obtain ⟨e, q⟩ := x; exact ⟨k _ _ (.inl rfl) e, ih q⟩
 | tbl ps =>
  have e : h.get? a = some { cls := .none, data := .fields ps } := x
  show h'.get? a = some { cls := .none, data := .fields ps }
  exact k a _ (.inl rfl) e
 | met f y =>
  have e : h.get? a = some (PySem.W.methodObj (.ref f) (.ref y)) := x
  show h'.get? a = some (PySem.W.methodObj (.ref f) (.ref y))
  exact k a _ (.inl rfl) e
 | ext φ => obtain ⟨p, ⟨o, e⟩, st⟩ := x; exact ⟨st _ _ p fun o q => k _ _ (.inl rfl) q, ⟨o, k _ _ (.inl rfl) e⟩, st⟩
theorem HOk.lt (x : HOk P w H h) (e : H a = some o) : a < h.objs.size := (x a o e).lt
theorem HOk.fresh (x : HOk P w H h) (e : h.objs.size <= a) : H a = none := by
 cases q : H a with
 | none => rfl
 | some u => exact absurd (Nat.lt_of_lt_of_le (x.lt q) e) (Nat.lt_irrefl _)
theorem HOk.kept (x : HOk P w H h) (k : ∀ b u, h.get? b = some u -> h'.get? b = some u) : HOk P w H h' := fun a o e =>
 (x a o e).stay (fun b u _ q => k b u q) (fun _ q => q) fun _ _ q => q
theorem HOk.laid (x : HOk P w H h) (k : ∀ b u, h.get? b = some u -> h'.get? b = some u) (hp : h.objs.size <= a) (new : ObjOk P w (upd H a o) h' a o) : HOk P w (upd H a o) h' := fun b u e => by
 have hn := x.fresh hp
 by_cases hb : b = a
 · subst hb; rw [upd_same] at e; cases e; exact new
 · rw [upd_ne hb] at e
   exact (x b u e).stay (fun c v _ q => k c v q) (fun c q => by rw [upd_ne (ne_of_none q hn)]; exact q) fun c xs q => by rw [upd_ne (ne_of_none q hn)]; exact q
end
def Rd (H : Hp) (a : Addr) (u : HO) : Prop := H a = some u \/ ∃ o, H a = some (.frz o u)
theorem Rd.ok {P : Program} {w : World} {H : Hp} {h : Heap} {a : Addr} {u : HO} (r : Rd H a u) (x : HOk P w H h) : ObjOk P w H h a u := by
 rcases r with r | ⟨o, r⟩
 · exact x a u r
 · obtain ⟨_, q⟩ := x a _ r
   exact q
def Mut : Option HO -> Prop
 | some (.lst _) => True
 | some (.dK _) => True
 | some (.dT _) => True
 | some (.set _ _) => True
 | some (.ins _ _ _) => True
 | some (.ext _) => True
 | _ => False
section
variable {P : Program} {w : World} {H : Hp} {h h' : Heap} {x e : Addr} {o' : HO}
theorem HOk.write (ok : HOk P w H h) (mu : Mut (H x)) (he : e = x \/ H e = some (.own x)) (k : ∀ b u, b ≠ e -> h.get? b = some u -> h'.get? b = some u) (heo : ∃ u, h'.get? e = some u)
  (new : ObjOk P w (upd H x o') h' x o') : HOk P w (upd H x o') h' := fun b u q => by
 have nown : ∀ c y, H c = some (.own y) -> c ≠ x := fun c y r z => by subst z; rw [r] at mu; exact mu
 have ntup : ∀ c xs, H c = some (.tup xs) -> c ≠ x := fun c xs r z => by subst z; rw [r] at mu; exact mu
 by_cases hb : b = x
 · subst hb; rw [upd_same] at q; cases q; exact new
 · rw [upd_ne hb] at q
   by_cases hbe : b = e
   · have q' : H b = some (.own x) := by
      rcases he with z | z
      · exact absurd (hbe.trans z) hb
      · rw [hbe]; exact z
     rw [q] at q'; cases q'
     obtain ⟨v, hv⟩ := heo
     exact ⟨v, by rw [hbe]; exact hv⟩
   · refine (ok b u q).stay (fun c v hc r => k c v ?_ r) (fun c r => by rw [upd_ne (nown c b r)]; exact r) fun c xs r => by rw [upd_ne (ntup c xs r)]; exact r
     rcases hc with rfl | hc
     · exact hbe
     · rintro rfl
       rcases he with z | z
       · exact nown c b hc z
       · rw [hc] at z; cases z; exact hb rfl
end
structure Un (fs ex : List Addr) (H H' : Hp) (h h' : Heap) : Prop where
 keep : ∀ b o, h.get? b = some o -> H b = none -> b ∉ fs -> b ∉ ex -> h'.get? b = some o
 slot : ∀ b o, h.get? b = some o -> H b = none -> b ∈ fs -> b ∉ ex -> ∃ sl, h'.get? b = some { o with slots := sl }
 free : ∀ b o, h.get? b = some o -> H b = none -> b ∉ ex -> H' b = none
 there : ∀ b o, h.get? b = some o -> b ∉ ex -> ∃ o', h'.get? b = some o'
 tups : ∀ b xs, H b = some (.tup xs) -> H' b = some (.tup xs)
 frzs : ∀ b o u, H b = some (.frz o u) -> H' b = some (.frz o u)
 tbls : ∀ b ps, H b = some (.tbl ps) -> ∃ more, H' b = some (.tbl (ps ++ more))
section
variable {fs fs' ex ex' : List Addr} {H H1 H2 : Hp} {h h1 h2 h' : Heap} {a x e : Addr} {o : HO}
theorem Un.any (u : Un fs ex H H1 h h1) {b : Addr} {ob : Obj} (q : h.get? b = some ob) (n : H b = none) (hx : b ∉ ex) : ∃ sl, h1.get? b = some { ob with slots := sl } := by
 by_cases hb : b ∈ fs
 · exact u.slot b ob q n hb hx
 · exact ⟨ob.slots, u.keep b ob q n hb hx⟩
theorem Un.trans (a : Un fs ex H H1 h h1) (b : Un fs ex H1 H2 h1 h2) : Un fs ex H H2 h h2 where
 keep := fun c ob q n hc hx => b.keep c ob (a.keep c ob q n hc hx) (a.free c ob q n hx) hc hx
 slot := fun c ob q n hc hx => by
  obtain ⟨sl, e1⟩ := a.slot c ob q n hc hx
  obtain ⟨sl', e2⟩ := b.slot c _ e1 (a.free c ob q n hx) hc hx
  exact ⟨sl', e2⟩
 free := fun c ob q n hx => by
  obtain ⟨o', e1⟩ := a.there c ob q hx
  exact b.free c o' e1 (a.free c ob q n hx) hx
 there := fun c ob q hx => by
  obtain ⟨o', e1⟩ := a.there c ob q hx
  exact b.there c o' e1 hx
 tups := fun c xs q => b.tups c xs (a.tups c xs q)
 frzs := fun c ob xs q => b.frzs c ob xs (a.frzs c ob xs q)
 tbls := fun c ps q => by
  obtain ⟨m1, e1⟩ := a.tbls c ps q
  obtain ⟨m2, e2⟩ := b.tbls c _ e1
  exact ⟨m1 ++ m2, by rw [e2, Array.append_assoc]⟩
theorem Un.kept (k : ∀ b u, h.get? b = some u -> h'.get? b = some u) : Un fs ex H H h h' :=
 ⟨fun b ob q _ _ _ => k b ob q, fun b ob q _ _ _ => ⟨ob.slots, k b ob q⟩, fun _ _ _ n _ => n, fun b ob q _ => ⟨ob, k b ob q⟩, fun _ _ q => q, fun _ _ _ q => q, fun _ ps q => ⟨#[], by rw [q]; simp⟩⟩
theorem Un.refl : Un fs ex H H h h := Un.kept fun _ _ q => q
theorem Un.laid (k : ∀ b u, h.get? b = some u -> h'.get? b = some u) (hp : h.objs.size <= a) (hn : H a = none) : Un fs ex H (upd H a o) h h' where
 keep := fun b u q _ _ _ => k b u q
 slot := fun b u q _ _ _ => ⟨u.slots, k b u q⟩
 free := fun b u q n _ => by rw [upd_ne (Nat.ne_of_lt (Nat.lt_of_lt_of_le (Heap.lt_size q) hp))]; exact n
 there := fun b u q _ => ⟨u, k b u q⟩
 tups := fun b xs q => by rw [upd_ne (ne_of_none q hn)]; exact q
 frzs := fun b u xs q => by rw [upd_ne (ne_of_none q hn)]; exact q
 tbls := fun b ps q => ⟨#[], by rw [upd_ne (ne_of_none q hn), q]; simp⟩
theorem Un.write (mu : Mut (H x)) (he : e = x \/ H e = some (.own x)) (k : ∀ b u, b ≠ e -> h.get? b = some u -> h'.get? b = some u) (heo : ∃ u, h'.get? e = some u) : Un fs ex H (upd H x o) h h' := by
 have hx : ∀ b, H b = none -> b ≠ x := fun b n z => by subst z; rw [n] at mu; exact mu
 have hb : ∀ b, H b = none -> b ≠ e := fun b n z => by
  subst z
  rcases he with r | r
  · exact hx b n r
  · rw [n] at r; cases r
 have hm : ∀ b u, H b = some u -> ¬ Mut (some u) -> b ≠ x := fun b u q nm z => by subst z; rw [q] at mu; exact nm mu
 refine ⟨fun b u q n _ _ => k b u (hb b n) q, fun b u q n _ _ => ⟨u.slots, k b u (hb b n) q⟩, fun b u q n _ => by rw [upd_ne (hx b n)]; exact n, fun b u q _ => ?_,
  fun b xs q => by rw [upd_ne (hm b _ q fun z => z)]; exact q, fun b u xs q => by rw [upd_ne (hm b _ q fun z => z)]; exact q, fun b ps q => ⟨#[], by rw [upd_ne (hm b _ q fun z => z), q]; simp⟩⟩
 by_cases hbe : b = e
 · subst hbe; exact heo
 · exact ⟨u, k b u hbe q⟩
end
def trk (h : Heap) (H : Hp) : List Addr := (List.range h.objs.size).filter fun a => (H a).isSome
def hidT (h : Heap) (H : Hp) : Heap := PySem.W.hideAll h (trk h H)
theorem hidT_size (h : Heap) (H : Hp) : (hidT h H).objs.size = h.objs.size := PySem.W.hideAll_size _ _
theorem hidT_get {h : Heap} {H : Hp} {b : Addr} {o : Obj} (e : h.get? b = some o) (n : H b = none) : (hidT h H).get? b = some o :=
 PySem.W.hideAll_get _ e fun hm => by
  have q : (H b).isSome = true := (List.mem_filter.mp hm).2
  rw [n] at q; simp at q
theorem of_hidT {h : Heap} {H : Hp} {b : Addr} {o : Obj} (e : (hidT h H).get? b = some o) : h.get? b = some o /\ H b = none := by
 have e' : h.get? b = some o := PySem.W.of_hideAll (trk h H) e
 refine ⟨e', ?_⟩
 cases q : H b with
 | none => rfl
 | some x =>
  have hm : b ∈ trk h H := List.mem_filter.mpr ⟨List.mem_range.mpr (Heap.lt_size e'), by simp [q]⟩
  have z : (hidT h H).get? b = none := PySem.W.hideAll_none (trk h H) hm
  rw [z] at e; cases e
def allNews (g h : Heap) (L : Addr) : List (Addr × Obj) := (List.range h.objs.size).filterMap fun a => if a = L \/ (g.get? a).isSome = true then none else (h.get? a).map fun o => (a, o)
def rest (g h : Heap) (L d : Addr) : List (Addr × Obj) := (allNews g h L).filter fun p => decide (p.1 ≠ d)
end L2
namespace L2
open PySem PySem.Spec PyProof.Rows
structure Mod (K : PySem.W.Frag) (mg : Str -> Option Value) (base : Heap) : Prop where
 kin : K.In base
 glob : base.Ns mainGlobals mg
 blt : ∃ mb, base.Ns builtinsNs mb /\ ∀ x : Str, x ≠ "__name__" -> mb x = bootBuiltins x
 nolimit : base.NoLimit
structure Cx where
 prog : Program
 w : World
 K : PySem.W.Frag
 mg : Str -> Option Value
 base : Heap
 A : Around
 N : List Str
 s₀ : Shared
 H₀ : Hp
 env : Env
 outer : List Env
 stack : List Env
 ex : List Addr
 fn : Str -> Bool
 calm : Bool
 pn : List (Addr × Obj)
 xe : Value -> Shared -> Prop
def frs (l : List Env) : List Addr := l.filterMap (·.frame)
abbrev Cx.fs (X : Cx) : List Addr := frs X.outer
def Vis (sc : Scope) (x : Str) : Prop := sc.names.lookup x = some .local \/ sc.names.lookup x = some .cell \/ sc.names.lookup x = some .free
def Loc (sc : Scope) (x : Str) : Prop := sc.names.lookup x = some .local \/ sc.names.lookup x = some .cell
def Look (env : Env) (h : Heap) (m : Str -> Option Value) (x : Str) (u : Value) : Prop :=
 (env.kindOf x = some .local /\ m x = some u) \/ ((env.kindOf x = some .cell \/ env.kindOf x = some .free) /\ ∃ c, env.cells.lookup x = some c /\ h.IsCell c (some u))
structure Cx.Ok (X : Cx) : Prop where
 mod : Mod X.K X.mg X.base
 kind : X.env.scope.kind = .function
 glob : X.env.globals = mainGlobals
 blt : X.env.builtins = builtinsNs
 above : X.s₀.heap.objs.size <= X.env.locals
 inj : ∀ x y c, X.env.cells.lookup x = some c -> X.env.cells.lookup y = some c -> x = y
 has : ∀ x, (X.env.kindOf x = some .cell \/ X.env.kindOf x = some .free) -> ∃ c, X.env.cells.lookup x = some c
 cab : ∀ x c, X.fn x = true -> X.env.cells.lookup x = some c -> X.s₀.heap.objs.size <= c
 hd : X.calm = true -> X.A.handled = none
 frames : X.A.frames = some X.stack
 stk : X.stack = X.outer \/ (X.stack = X.env :: X.outer /\ X.env.frame = some X.env.locals)
 exf : ∀ b ∈ X.ex, b ≠ X.env.locals /\ ∀ x c, X.env.cells.lookup x = some c -> c ≠ b
 bs : ∀ b o, X.base.get? b = some o -> X.s₀.heap.get? b = some o /\ X.H₀ b = none
 bsz : X.base.objs.size <= X.s₀.heap.objs.size
 noex : ∀ b o, X.base.get? b = some o -> b ∉ X.ex
 exfs : ∀ b ∈ X.ex, b ∉ X.fs
 funs : X.s₀.heap.FunFrames X.base X.outer
 frf : ∀ b ∈ X.fs, X.H₀ b = none
structure Inv (X : Cx) (pins : List (Addr × Obj)) (σ : List (Option V)) (H : Hp) (s : Shared) : Prop where
 ok : X.Ok
 os : s.os = X.s₀.os
 bare : AllBare s.gens
 base : Un X.fs X.ex X.H₀ H X.s₀.heap s.heap
 loc : ∃ m, s.heap.Ns X.env.locals m /\ ∀ (i : Nat) (x : Str) (v : V), X.N[i]? = some x -> σ[i]? = some (some v) -> Vis X.env.scope x -> ∃ u, RelV v u /\ Look X.env s.heap m x u
 cell : ∀ x c, X.env.cells.lookup x = some c -> ∃ v, s.heap.IsCell c v
 free : H X.env.locals = none
 freeC : ∀ x c, X.env.cells.lookup x = some c -> H c = none
 pin : ∀ p ∈ X.pn ++ pins, s.heap.get? p.1 = some p.2 /\ H p.1 = none /\ p.1 ≠ X.env.locals /\ p.1 ∉ X.fs /\ ∀ v, p.2.data ≠ .cell v
 hok : HOk X.prog X.w H s.heap
 len : σ.length = X.N.length
section
variable {X : Cx} {pins : List (Addr × Obj)} {σ : List (Option V)} {H H' : Hp} {s : Shared} {h' : Heap}
theorem Cx.Ok.nofr (ok : X.Ok) {b : Addr} {o : Obj} (e : X.base.get? b = some o) : b ∉ X.fs := fun hb => by
 have := (ok.funs.mem hb).1
 rw [e] at this; cases this
theorem Inv.bs (I : Inv X pins σ H s) : ∀ b o, X.base.get? b = some o -> s.heap.get? b = some o /\ H b = none := fun b o e =>
 ⟨I.base.keep b o (I.ok.bs b o e).1 (I.ok.bs b o e).2 (I.ok.nofr e) (I.ok.noex b o e), I.base.free b o (I.ok.bs b o e).1 (I.ok.bs b o e).2 (I.ok.noex b o e)⟩
theorem Inv.bk (I : Inv X pins σ H s) : ∀ b o, X.base.get? b = some o -> s.heap.get? b = some o := fun b o e => (I.bs b o e).1
theorem Inv.mod (I : Inv X pins σ H s) : Mod X.K X.mg X.base := I.ok.mod
theorem Inv.kIn (I : Inv X pins σ H s) : X.K.In s.heap := I.ok.mod.kin.keeps I.bk
theorem Inv.lt (I : Inv X pins σ H s) : X.env.locals < s.heap.objs.size := let ⟨_, hn, _⟩ := I.loc; hn.lt
theorem Inv.sz (I : Inv X pins σ H s) : X.s₀.heap.objs.size <= s.heap.objs.size := Nat.le_trans I.ok.above (Nat.le_of_lt I.lt)
theorem Inv.nofs (I : Inv X pins σ H s) {a : Addr} (h : s.heap.objs.size <= a) : a ∉ X.fs := fun hb => by
 obtain ⟨_, o, ho, _⟩ := I.ok.funs.mem hb
 exact absurd (Nat.lt_of_lt_of_le (Heap.lt_size ho) (Nat.le_trans I.sz h)) (Nat.lt_irrefl _)
theorem Inv.cne (I : Inv X pins σ H s) : ∀ x c, X.env.cells.lookup x = some c -> c ≠ X.env.locals := fun x c e z => by
 obtain ⟨v, o, ho, hd⟩ := I.cell x c e
 obtain ⟨m, ⟨o', es, ep, ho', hd', _⟩, _⟩ := I.loc
 rw [z, ho'] at ho; cases ho; rw [hd'] at hd; cases hd
theorem Inv.funs (I : Inv X pins σ H s) : s.heap.FunFrames X.base X.outer := by
 have all : ∀ (l : List Env), (∀ b ∈ frs l, b ∈ X.fs) -> X.s₀.heap.FunFrames X.base l -> s.heap.FunFrames X.base l := by
  intro l
  induction l with
  | nil => intro _ _; trivial
  | cons env r ih =>
   intro hs hl
   obtain ⟨hk, ⟨L, o, hf, hn, ho, hd⟩, hr⟩ := hl
   have hL : L ∈ X.fs := hs L (by unfold frs; rw [List.filterMap_cons, hf]; exact List.mem_cons_self)
   obtain ⟨sl, e⟩ := I.base.slot L o ho (I.ok.frf L hL) hL fun z => I.ok.exfs L z hL
   exact ⟨hk, ⟨L, _, hf, hn, e, hd⟩, ih (fun b hb => hs b (by unfold frs; rw [List.filterMap_cons, hf]; exact List.mem_cons_of_mem _ hb)) hr⟩
 exact all X.outer (fun _ hb => hb) I.ok.funs
theorem Inv.stack (I : Inv X pins σ H s) : s.heap.FunFrames X.base X.stack := by
 rcases I.ok.stk with e | ⟨e, hf⟩
 · rw [e]; exact I.funs
 · rw [e]
   obtain ⟨m, hn, _⟩ := I.loc
   refine .cons (by rw [I.ok.kind]; decide) hf hn ?_ I.funs
   exact Heap.get?_none_of_le (Nat.le_trans I.ok.bsz I.ok.above)
theorem Inv.stkSub (I : Inv X pins σ H s) : ∀ b ∈ frs X.stack, b ∈ X.env.locals :: X.fs := fun b hb => by
 rcases I.ok.stk with e | ⟨e, hf⟩
 · rw [e] at hb; exact List.mem_cons_of_mem _ hb
 · rw [e] at hb
   unfold frs at hb
   rw [List.filterMap_cons, hf] at hb
   exact hb
theorem Inv.stkFree (I : Inv X pins σ H s) : ∀ b ∈ frs X.stack, H b = none := fun b hb => by
 rcases List.mem_cons.mp (I.stkSub b hb) with e | hb
 · rw [e]; exact I.free
 · obtain ⟨_, o, ho, _⟩ := I.ok.funs.mem hb
   exact I.base.free b o ho (I.ok.frf b hb) fun z => I.ok.exfs b z hb
theorem Inv.step {g' : Array GenState} {t' : Nat} {d' : Drawn} {ch : List Addr} (I : Inv X pins σ H s)
  (hch : ∀ b ∈ ch, (b ∈ X.ex \/ X.s₀.heap.objs.size <= b) /\ b ≠ X.env.locals /\ (∀ x c, X.env.cells.lookup x = some c -> c ≠ b) /\ ∀ p ∈ X.pn ++ pins, p.1 ≠ b)
  (keep : ∀ b o, b ≠ X.env.locals -> b ∉ X.fs -> b ∉ ch -> s.heap.get? b = some o -> H b = none -> h'.get? b = some o)
  (slot : ∀ b o, b ≠ X.env.locals -> b ∈ X.fs -> b ∉ ch -> s.heap.get? b = some o -> H b = none -> ∃ sl, h'.get? b = some { o with slots := sl }) (free : ∀ b o, b ∉ ch -> s.heap.get? b = some o -> H b = none -> H' b = none)
  (there : ∀ b o, b ∉ ch -> s.heap.get? b = some o -> ∃ o', h'.get? b = some o')
  (tups : ∀ b xs, H b = some (.tup xs) -> H' b = some (.tup xs)) (frzs : ∀ b o u, H b = some (.frz o u) -> H' b = some (.frz o u)) (tbls : ∀ b ps, H b = some (.tbl ps) -> ∃ more, H' b = some (.tbl (ps ++ more)))
  (ns : ∀ m, s.heap.Ns X.env.locals m -> h'.Ns X.env.locals m) (hok : HOk X.prog X.w H' h') (hg : AllBare g') :
  Inv X pins σ H' { s with heap := h', gens := g', drawn := d', toks := t' } := by
 have neL : ∀ b o, X.s₀.heap.get? b = some o -> b ≠ X.env.locals := fun b o e => Nat.ne_of_lt (Nat.lt_of_lt_of_le (Heap.lt_size e) I.ok.above)
 have neC : ∀ b o, X.s₀.heap.get? b = some o -> b ∉ X.ex -> b ∉ ch := fun b o e hx hb => by
  rcases (hch b hb).1 with z | z
  · exact hx z
  · exact absurd (Nat.lt_of_lt_of_le (Heap.lt_size e) z) (Nat.lt_irrefl _)
 have cellK : ∀ x c, X.env.cells.lookup x = some c -> ∀ v, s.heap.IsCell c v -> h'.IsCell c v := fun x c e v ⟨o, ho, hd⟩ => by
  have nch : c ∉ ch := fun z => (hch c z).2.2.1 x c e rfl
  by_cases hc : c ∈ X.fs
  · obtain ⟨sl, q⟩ := slot c o (I.cne x c e) hc nch ho (I.freeC x c e)
    exact ⟨_, q, hd⟩
  · exact ⟨o, keep c o (I.cne x c e) hc nch ho (I.freeC x c e), hd⟩
 refine ⟨I.ok, I.os, hg, ⟨fun b o e n hb hx => ?_, fun b o e n hb hx => ?_, fun b o e n hx => ?_, fun b o e hx => ?_, fun b xs e => tups b xs (I.base.tups b xs e), fun b o xs e => frzs b o xs (I.base.frzs b o xs e), fun b ps e => ?_⟩, ?_, fun x c e => ?_, ?_, fun x c e => ?_, fun p hp => ?_, hok, I.len⟩
 · exact keep b o (neL b o e) hb (neC b o e hx) (I.base.keep b o e n hb hx) (I.base.free b o e n hx)
 · obtain ⟨sl, e1⟩ := I.base.slot b o e n hb hx
   obtain ⟨sl', e2⟩ := slot b _ (neL b o e) hb (neC b o e hx) e1 (I.base.free b o e n hx)
   exact ⟨sl', e2⟩
 · obtain ⟨o', e1⟩ := I.base.there b o e hx
   exact free b o' (neC b o e hx) e1 (I.base.free b o e n hx)
 · obtain ⟨o', e1⟩ := I.base.there b o e hx
   exact there b o' (neC b o e hx) e1
 · obtain ⟨m1, e1⟩ := I.base.tbls b ps e
   obtain ⟨m2, e2⟩ := tbls b _ e1
   exact ⟨m1 ++ m2, by rw [e2, Array.append_assoc]⟩
 · obtain ⟨m, hn, hl⟩ := I.loc
   refine ⟨m, ns m hn, fun i x v e1 e2 e3 => ?_⟩
   obtain ⟨u, r, l⟩ := hl i x v e1 e2 e3
   refine ⟨u, r, ?_⟩
   rcases l with l | ⟨k, c, e, z⟩
   · exact .inl l
   · exact .inr ⟨k, c, e, cellK x c e _ z⟩
 · obtain ⟨v, z⟩ := I.cell x c e
   exact ⟨v, cellK x c e v z⟩
 · obtain ⟨m, ⟨o, _, _, ho, _⟩, _⟩ := I.loc
   exact free _ o (fun z => (hch _ z).2.1 rfl) ho I.free
 · obtain ⟨v, o, ho, hd⟩ := I.cell x c e
   exact free c o (fun z => (hch c z).2.2.1 x c e rfl) ho (I.freeC x c e)
 · obtain ⟨e, n, ne, nf, d⟩ := I.pin p hp
   have nch : p.1 ∉ ch := fun z => (hch p.1 z).2.2.2 p hp rfl
   exact ⟨keep p.1 p.2 ne nf nch e n, free p.1 p.2 nch e n, ne, nf, d⟩
theorem Inv.un {t' : Nat} (I : Inv X pins σ H s) (u : Un X.fs [] H H' s.heap h') (hok : HOk X.prog X.w H' h') : Inv X pins σ H' { s with heap := h', toks := t' } := by
 obtain ⟨m, ⟨o, es, ep, ho, r⟩, _⟩ := id I.loc
 obtain ⟨sl, hL⟩ := u.any ho I.free (by simp)
 exact I.step (g' := s.gens) (d' := s.drawn) (ch := []) (fun _ z => nomatch z) (fun b o _ hb _ e n => u.keep b o e n hb (by simp)) (fun b o _ hb _ e n => u.slot b o e n hb (by simp)) (fun b o _ e n => u.free b o e n (by simp)) (fun b o _ e => u.there b o e (by simp)) u.tups u.frzs u.tbls (fun m' hm => by
  obtain ⟨o', es', ep', ho', r'⟩ := hm
  rw [ho] at ho'; cases ho'
  exact ⟨_, es', ep', hL, r'⟩) hok I.bare
theorem Inv.call {g' : Array GenState} {t' : Nat} {d' : Drawn} {ch : List Addr} (I : Inv X pins σ H s) (u : Un (frs X.stack) ch H H' s.heap h') (hok : HOk X.prog X.w H' h') (hg : AllBare g')
  (hch : ∀ b ∈ ch, (b ∈ X.ex \/ X.s₀.heap.objs.size <= b) /\ b ≠ X.env.locals /\ (∀ x c, X.env.cells.lookup x = some c -> c ≠ b) /\ ∀ p ∈ X.pn ++ pins, p.1 ≠ b) :
  Inv X pins σ H' { s with heap := h', gens := g', drawn := d', toks := t' } := by
 obtain ⟨m, ⟨o, es, ep, ho, r⟩, _⟩ := id I.loc
 obtain ⟨sl, hL⟩ := u.any ho I.free fun z => (hch _ z).2.1 rfl
 exact I.step (ch := ch) hch (fun b o hL hb hc e n => u.keep b o e n (fun z => (List.mem_cons.mp (I.stkSub b z)).elim hL hb) hc) (fun b o _ _ hc e n => u.any e n hc) (fun b o hc e n => u.free b o e n hc) (fun b o hc e => u.there b o e hc) u.tups u.frzs u.tbls (fun m' hm => by
  obtain ⟨o', es', ep', ho', r'⟩ := hm
  rw [ho] at ho'; cases ho'
  exact ⟨_, es', ep', hL, r'⟩) hok hg
theorem Inv.turned {t' : Nat} {it : Addr} (I : Inv X pins σ H s) (k : ∀ b o, b ≠ it -> s.heap.get? b = some o -> h'.get? b = some o) (hn : H it = none) (hL : it ≠ X.env.locals)
  (h1 : it ∈ X.ex \/ X.s₀.heap.objs.size <= it) (h2 : ∀ x c, X.env.cells.lookup x = some c -> c ≠ it) (h3 : ∀ p ∈ X.pn ++ pins, p.1 ≠ it) : Inv X pins σ H { s with heap := h', toks := t' } := by
 have nit : ∀ b u, H b = some u -> b ≠ it := fun b u e z => by rw [z, hn] at e; cases e
 refine I.step (g' := s.gens) (d' := s.drawn) (ch := [it]) (fun b hb => ?_) (fun b o _ _ hc e _ => k b o (fun z => hc (by simp [z])) e) (fun b o _ _ hc e _ => ⟨o.slots, k b o (fun z => hc (by simp [z])) e⟩) (fun _ _ _ _ n => n)
  (fun b o hc e => ⟨o, k b o (fun z => hc (by simp [z])) e⟩) (fun _ _ e => e) (fun _ _ _ e => e) (fun b ps e => ⟨#[], by rw [e]; simp⟩) (fun m hm => ?_) (fun b u e => ?_) I.bare
 · have e : b = it := by simpa using hb
   subst e
   exact ⟨h1, hL, h2, h3⟩
 · obtain ⟨o, es, ep, ho, r⟩ := hm
   exact ⟨o, es, ep, k _ o (Ne.symm hL) ho, r⟩
 · refine (I.hok b u e).stay (fun c v hc q => k c v ?_ q) (fun _ q => q) fun _ _ q => q
   rcases hc with z | z
   · rw [z]; exact nit b u e
   · exact nit c _ z
theorem Inv.tok (I : Inv X pins σ H s) (t : Nat) : Inv X pins σ H { s with toks := t } := I.un (h' := s.heap) (t' := t) Un.refl I.hok
theorem Inv.kept {t' : Nat} (I : Inv X pins σ H s) (k : ∀ b u, s.heap.get? b = some u -> h'.get? b = some u) : Inv X pins σ H { s with heap := h', toks := t' } := I.un (Un.kept k) (I.hok.kept k)
theorem Inv.laid {a : Addr} {o : HO} {t' : Nat} (I : Inv X pins σ H s) (k : ∀ b u, s.heap.get? b = some u -> h'.get? b = some u) (hp : s.heap.objs.size <= a) (new : ObjOk X.prog X.w (upd H a o) h' a o) :
  Inv X pins σ (upd H a o) { s with heap := h', toks := t' } := I.un (Un.laid k hp (I.hok.fresh hp)) (I.hok.laid k hp new)
theorem Inv.write {x e : Addr} {o : HO} {t' : Nat} (I : Inv X pins σ H s) (mu : Mut (H x)) (he : e = x \/ H e = some (.own x)) (k : ∀ b u, b ≠ e -> s.heap.get? b = some u -> h'.get? b = some u) (heo : ∃ u, h'.get? e = some u)
  (new : ObjOk X.prog X.w (upd H x o) h' x o) : Inv X pins σ (upd H x o) { s with heap := h', toks := t' } := I.un (Un.write mu he k heo) (I.hok.write mu he k heo new)
theorem Inv.pins_of {pins' : List (Addr × Obj)} (I : Inv X pins σ H s) (h : ∀ p ∈ pins', s.heap.get? p.1 = some p.2 /\ H p.1 = none /\ p.1 ≠ X.env.locals /\ p.1 ∉ X.fs /\ ∀ v, p.2.data ≠ .cell v) : Inv X pins' σ H s :=
 ⟨I.ok, I.os, I.bare, I.base, I.loc, I.cell, I.free, I.freeC, fun p hp => (List.mem_append.mp hp).elim (fun z => I.pin p (List.mem_append_left _ z)) (h p), I.hok, I.len⟩
theorem nodup_ix {N : List Str} (hN : N.Nodup) {i j : Nat} {x : Str} (a : N[i]? = some x) (b : N[j]? = some x) : i = j := by
 obtain ⟨h1, e1⟩ := List.getElem?_eq_some_iff.mp a
 obtain ⟨h2, e2⟩ := List.getElem?_eq_some_iff.mp b
 exact (List.getElem_inj hN).mp (e1.trans e2.symm)
theorem store_ok2 {M : Model} {A : Around} {E : Value -> Shared -> Prop} {i : Nat} {x : Str} {v : V} {u : Value} {Q : Unit -> Shared -> Prop} (I : Inv X pins σ H s) (hN : X.N.Nodup) (hi : X.N[i]? = some x) (hx : Loc X.env.scope x) (r : RelV v u)
  (h : ∀ s', Inv X pins (σ.set i (some v)) H s' -> (∃ a, Heap.SameBut a s.heap s'.heap /\ (a = X.env.locals \/ X.env.cells.lookup x = some a)) -> Q () s') (hf : X.fn x = true \/ X.env.scope.names.lookup x = some .local := by first | exact .inl rfl | exact .inr rfl | assumption) : wpAny M A (storeName X.env x u) Q E s := by
 obtain ⟨m, hn, hl⟩ := id I.loc
 have hcls : (X.env.scope.kind == .class || (X.env.scope.kind == .module && X.env.locals != X.env.globals)) = false := by rw [I.ok.kind]; rfl
 have hiσ : i < σ.length := by rw [I.len]; exact (List.getElem?_eq_some_iff.mp hi).1
 have cne := I.cne
 have tracked : ∀ {a : Addr} {h' : Heap}, (∃ o, s.heap.get? a = some o /\ H a = none) -> Heap.SameBut a s.heap h' -> HOk X.prog X.w H h' := fun {a h'} ha hs b ob e => by
  obtain ⟨_, _, hfree⟩ := ha
  refine (I.hok b ob e).stay (fun c w' hc q => (hs.2 c ?_).trans q) (fun _ q => q) fun _ _ q => q
  rintro rfl
  rcases hc with rfl | hc
  · rw [hfree] at e; cases e
  · rw [hfree] at hc; cases hc
 rcases hx with hk | hk
 · refine wpAny_storeName_local hk hn (fun h' hn' hs => ?_) hcls
   obtain ⟨oL, _, _, hoL, _⟩ := id hn
   refine h _ ⟨I.ok, I.os, I.bare, ⟨fun b o e n hb hx => ?_, fun b o e n hb hx => ?_, I.base.free, fun b o e hx => ?_, I.base.tups, I.base.frzs, I.base.tbls⟩, ⟨_, hn', fun j y v' e1 e2 e3 => ?_⟩, fun y c e => ?_, I.free, I.freeC, fun p hp => ?_, tracked ⟨oL, hoL, I.free⟩ hs, by simpa using I.len⟩ ⟨_, hs, .inl rfl⟩
   · exact (hs.2 b (Nat.ne_of_lt (Nat.lt_of_lt_of_le (Heap.lt_size e) I.ok.above))).trans (I.base.keep b o e n hb hx)
   · obtain ⟨sl, e1⟩ := I.base.slot b o e n hb hx
     exact ⟨sl, (hs.2 b (Nat.ne_of_lt (Nat.lt_of_lt_of_le (Heap.lt_size e) I.ok.above))).trans e1⟩
   · obtain ⟨o', e1⟩ := I.base.there b o e hx
     exact ⟨o', (hs.2 b (Nat.ne_of_lt (Nat.lt_of_lt_of_le (Heap.lt_size e) I.ok.above))).trans e1⟩
   · by_cases hj : j = i
     · subst hj
       rw [hi] at e1; cases e1
       rw [List.getElem?_set_self hiσ] at e2
       cases e2
       exact ⟨u, r, .inl ⟨hk, by simp⟩⟩
     · rw [List.getElem?_set_ne (Ne.symm hj)] at e2
       obtain ⟨u', r', q⟩ := hl j y v' e1 e2 e3
       refine ⟨u', r', ?_⟩
       rcases q with ⟨k, e⟩ | ⟨k, c, e, z⟩
       · refine .inl ⟨k, ?_⟩
         have : y ≠ x := fun e => hj (nodup_ix hN e1 (e ▸ hi))
         simp [this, e]
       · exact .inr ⟨k, c, e, z.sameBut hs (cne y c e)⟩
   · obtain ⟨w', z⟩ := I.cell y c e
     exact ⟨w', z.sameBut hs (cne y c e)⟩
   · obtain ⟨e, n, ne, nf, d⟩ := I.pin p hp
     exact ⟨(hs.2 p.1 ne).trans e, n, ne, nf, d⟩
 · have hfn : X.fn x = true := by
    rcases hf with z | z
    · exact z
    · rw [z] at hk; cases hk
   obtain ⟨c, hc⟩ := I.ok.has x (.inl hk)
   obtain ⟨w', z⟩ := I.cell x c hc
   refine wpAny_storeName_cell I.ok.kind hk hc z (fun h' hc' hs => ?_)
   obtain ⟨oc, hoc, hocd⟩ := id z
   refine h { s with heap := h' } ⟨I.ok, I.os, I.bare, ⟨fun b o e n hb hx => ?_, fun b o e n hb hx => ?_, I.base.free, fun b o e hx => ?_, I.base.tups, I.base.frzs, I.base.tbls⟩, ⟨m, hn.sameBut hs (Ne.symm (cne x c hc)), fun j y v' e1 e2 e3 => ?_⟩, fun y c' e => ?_, I.free, I.freeC, fun p hp => ?_, tracked ⟨oc, hoc, I.freeC x c hc⟩ hs, by simpa using I.len⟩ ⟨c, hs, .inr hc⟩
   · exact (hs.2 b (Nat.ne_of_lt (Nat.lt_of_lt_of_le (Heap.lt_size e) (I.ok.cab x c hfn hc)))).trans (I.base.keep b o e n hb hx)
   · obtain ⟨sl, e1⟩ := I.base.slot b o e n hb hx
     exact ⟨sl, (hs.2 b (Nat.ne_of_lt (Nat.lt_of_lt_of_le (Heap.lt_size e) (I.ok.cab x c hfn hc)))).trans e1⟩
   · obtain ⟨o', e1⟩ := I.base.there b o e hx
     exact ⟨o', (hs.2 b (Nat.ne_of_lt (Nat.lt_of_lt_of_le (Heap.lt_size e) (I.ok.cab x c hfn hc)))).trans e1⟩
   · by_cases hj : j = i
     · subst hj
       rw [hi] at e1; cases e1
       rw [List.getElem?_set_self hiσ] at e2
       cases e2
       exact ⟨u, r, .inr ⟨.inl hk, c, hc, hc'⟩⟩
     · rw [List.getElem?_set_ne (Ne.symm hj)] at e2
       obtain ⟨u', r', q⟩ := hl j y v' e1 e2 e3
       refine ⟨u', r', ?_⟩
       rcases q with q | ⟨k, c', e, z'⟩
       · exact .inl q
       · refine .inr ⟨k, c', e, z'.sameBut hs ?_⟩
         rintro rfl
         exact hj (nodup_ix hN e1 (I.ok.inj _ _ _ e hc ▸ hi))
   · by_cases hcc : c' = c
     · subst hcc; exact ⟨_, hc'⟩
     · obtain ⟨w2, z2⟩ := I.cell y c' e
       exact ⟨w2, z2.sameBut hs hcc⟩
   · obtain ⟨e, n, ne, nf, d⟩ := I.pin p hp
     refine ⟨(hs.2 p.1 ?_).trans e, n, ne, nf, d⟩
     intro q
     rw [q, hoc] at e
     have q' : oc = p.2 := Option.some.inj e
     exact d w' (by rw [← q']; exact hocd)
theorem store_ok {M : Model} {A : Around} {E : Value -> Shared -> Prop} {i : Nat} {x : Str} {v : V} {u : Value} {Q : Unit -> Shared -> Prop} (I : Inv X pins σ H s) (hN : X.N.Nodup) (hi : X.N[i]? = some x) (hx : Loc X.env.scope x) (r : RelV v u)
  (h : ∀ s', Inv X pins (σ.set i (some v)) H s' -> Q () s') (hf : X.fn x = true \/ X.env.scope.names.lookup x = some .local := by first | exact .inl rfl | exact .inr rfl | assumption) : wpAny M A (storeName X.env x u) Q E s :=
 store_ok2 I hN hi hx r (fun s' I' _ => h s' I') hf
theorem Inv.call' {s' : Shared} {ch : List Addr} (I : Inv X pins σ H s) (ho : s'.os = s.os) (u : Un (frs X.stack) ch H H' s.heap s'.heap) (hok : HOk X.prog X.w H' s'.heap) (hg : AllBare s'.gens)
  (hch : ∀ b ∈ ch, (b ∈ X.ex \/ X.s₀.heap.objs.size <= b) /\ b ≠ X.env.locals /\ (∀ x c, X.env.cells.lookup x = some c -> c ≠ b) /\ ∀ p ∈ X.pn ++ pins, p.1 ≠ b) : Inv X pins σ H' s' := by
 obtain ⟨h', g', d', t', o'⟩ := s'
 have e : o' = s.os := ho
 subst e
 exact I.call (g' := g') (t' := t') (d' := d') u hok hg hch
end
abbrev XK := Value -> Option Addr -> Hp -> Prop
abbrev St := List (Option V)
abbrev VK := V -> Hp -> Prop
abbrev TE := St -> Hp -> VK -> Prop
abbrev TT := St -> Hp -> (Bool -> Hp -> Prop) -> Prop
abbrev TA := St -> Hp -> (List V -> Hp -> Prop) -> Prop
structure Ends where
 nx : St -> Hp -> Prop
 rt : VK
 bk : St -> Hp -> Prop := fun _ _ => False
 ct : St -> Hp -> Prop := fun _ _ => False
abbrev TS := Ends -> St -> Hp -> Prop
def EP (X : Cx) (pins : List (Addr × Obj)) (σ : St) (Q : VK) (u : Value) (s' : Shared) : Prop := ∃ v H', Inv X pins σ H' s' /\ RelV v u /\ Q v H'
def TP (X : Cx) (pins : List (Addr × Obj)) (σ : St) (Q : Bool -> Hp -> Prop) (b : Bool) (s' : Shared) : Prop := ∃ H', Inv X pins σ H' s' /\ Q b H'
def AP (X : Cx) (pins : List (Addr × Obj)) (σ : St) (Q : List V -> Hp -> Prop) (us : List Value) (s' : Shared) : Prop := ∃ vs H', Inv X pins σ H' s' /\ Vals vs us /\ Q vs H'
def SP (X : Cx) (pins : List (Addr × Obj)) (D : Ends) (f : Flow) (s' : Shared) : Prop :=
 match f with
 | .next => ∃ σ' H', Inv X pins σ' H' s' /\ D.nx σ' H'
 | .brk => ∃ σ' H', Inv X pins σ' H' s' /\ D.bk σ' H'
 | .cont => ∃ σ' H', Inv X pins σ' H' s' /\ D.ct σ' H'
 | .ret u => ∃ v σ' H', Inv X pins σ' H' s' /\ RelV v u /\ D.rt v H'
def PE (X : Cx) (e : Expr) (t : TE) : Prop :=
 ∀ (pins : List (Addr × Obj)) (s : Shared) (σ : St) (H : Hp) (Q : VK), Inv X pins σ H s -> t σ H Q -> wpAny (model X.prog X.w) X.A (eval e X.env) (EP X pins σ Q) X.xe s
def PT (X : Cx) (e : Expr) (t : TT) : Prop :=
 ∀ (pins : List (Addr × Obj)) (s : Shared) (σ : St) (H : Hp) (Q : Bool -> Hp -> Prop), Inv X pins σ H s -> t σ H Q -> wpAny (model X.prog X.w) X.A (isTrue e X.env (eval e X.env)) (TP X pins σ Q) X.xe s
def PW (X : Cx) (e : Expr) (t : TT) : Prop :=
 ∀ (whole : Sem Value) (pins : List (Addr × Obj)) (s : Shared) (σ : St) (H : Hp) (Q : Bool -> Hp -> Prop), Inv X pins σ H s -> t σ H Q -> wpAny (model X.prog X.w) X.A (isTrue e X.env whole) (TP X pins σ Q) X.xe s
theorem PW.pt {X : Cx} {e : Expr} {t : TT} (h : PW X e t) : PT X e t := h _
def PA (X : Cx) (es : List Expr) (t : TA) : Prop :=
 ∀ (pos : Pos) (pins : List (Addr × Obj)) (s : Shared) (σ : St) (H : Hp) (Q : List V -> Hp -> Prop), Inv X pins σ H s -> t σ H Q -> wpAny (model X.prog X.w) X.A (spliced (backTo pos (starEach es X.env))) (AP X pins σ Q) X.xe s
def PS (X : Cx) (st : Stmt) (t : TS) : Prop :=
 ∀ (pins : List (Addr × Obj)) (s : Shared) (σ : St) (H : Hp) (D : Ends), Inv X pins σ H s -> t D σ H -> wpAny (model X.prog X.w) X.A (exec st X.env) (SP X pins D) X.xe s
def PSs (X : Cx) (st : List Stmt) (t : TS) : Prop :=
 ∀ (pins : List (Addr × Obj)) (s : Shared) (σ : St) (H : Hp) (D : Ends), Inv X pins σ H s -> t D σ H -> wpAny (model X.prog X.w) X.A (execs st X.env) (SP X pins D) X.xe s
theorem thn {α : Type} {t : Sem α} {Q Q' : α -> Shared -> Prop} {M : Model} {A : Around} {E : Value -> Shared -> Prop} {s : Shared} (h : wpAny M A t Q E s) (hQ : ∀ a s, Q a s -> Q' a s) : wpAny M A t Q' E s := wpAny_mono h hQ fun _ _ x => x
end L2
namespace L2
open PySem PySem.Spec PyProof.Rows
section
variable {X : Cx}
def tVar (i : Nat) : TE := fun σ H Q => ∃ v, σ[i]? = some (some v) /\ Q v H
def tC (v : V) : TE := fun _ H Q => Q v H
theorem pe_var {i : Nat} {x : Str} {pos : Pos} (hN : X.N[i]? = some x) (hv : Vis X.env.scope x) (hd : (x == ("__debug__" : Str)) = false := by decide) (hcd : (x == ("__classdict__" : Str)) = false := by decide) : PE X (.Name x pos) (tVar i) := by
 intro pins s σ H Q I h
 obtain ⟨v, e, h⟩ := h
 obtain ⟨m, hn, hl⟩ := I.loc
 obtain ⟨u, r, l⟩ := hl i x v hN e hv
 have fin : EP X pins σ Q u s := ⟨v, H, I, r, h⟩
 rcases l with ⟨hk, hm⟩ | ⟨hk, c, hc, hcell⟩
 · exact wpAny_Name (wpAny_loadName_local I.ok.kind hk hn hm fin) hd
 · rcases hk with hk | hk
   · exact wpAny_Name (wpAny_loadName_cell I.ok.kind hk hc hcell fin) hd
   · exact wpAny_Name (wpAny_loadName_free I.ok.kind hk hc hcell fin hcd) hd
theorem pe_int {i j pos} : PE X (.Constant (.int i) j pos) (tC (.int i)) := fun _ _ _ H _ I h => wpAny_Constant_int ⟨.int i, H, I.tok _, ⟨_, rfl⟩, h⟩
theorem pe_bl {b j pos} : PE X (.Constant (.bool b) j pos) (tC (.bl b)) := fun _ _ _ H _ I h => Constant_bool ⟨.bl b, H, I, rfl, h⟩
theorem pe_non {j pos} : PE X (.Constant .none j pos) (tC .non) := fun _ _ _ H _ I h => Constant_none ⟨.non, H, I, rfl, h⟩
theorem pe_str {x j pos} : PE X (.Constant (.str x) j pos) (tC (.str x)) := fun _ _ _ H _ I h => Calls.Constant_str ⟨.str x, H, I.tok _, ⟨_, rfl⟩, h⟩
def Gl (X : Cx) (x : Str) : Prop := X.env.kindOf x = some .globalImplicit
theorem ld_glob {E : Value -> Shared -> Prop} {pins : List (Addr × Obj)} {s : Shared} {σ : St} {H : Hp} {x : Str} {u : Value} {pos : Pos} {Q : Value -> Shared -> Prop} (I : Inv X pins σ H s) (hg : Gl X x) (hm : X.mg x = some u) (h : Q u s)
  (hd : (x == ("__debug__" : Str)) = false := by decide) : wpAny (model X.prog X.w) X.A (eval (.Name x pos) X.env) Q E s :=
 Calls.Name_function_global I.ok.kind hg (Calls.loadGlobal_global (by rw [I.ok.glob]; exact I.mod.glob.keeps I.bk) hm h) hd
theorem ld_blt {E : Value -> Shared -> Prop} {pins : List (Addr × Obj)} {s : Shared} {σ : St} {H : Hp} {x : Str} {u : Value} {pos : Pos} {Q : Value -> Shared -> Prop} (I : Inv X pins σ H s) (hg : Gl X x) (hm : X.mg x = none) (hv : bootBuiltins x = some u) (h : Q u s)
  (hn : x ≠ "__name__" := by decide) (hd : (x == ("__debug__" : Str)) = false := by decide) : wpAny (model X.prog X.w) X.A (eval (.Name x pos) X.env) Q E s := by
 obtain ⟨mb, h1, h2⟩ := I.mod.blt
 exact Calls.Name_function_global I.ok.kind hg (Calls.loadGlobal_builtin (by rw [I.ok.glob]; exact I.mod.glob.keeps I.bk) hm (by rw [I.ok.blt]; exact h1.keeps I.bk) ((h2 x hn).trans hv) h) hd
theorem pe_glob {x : Str} {v : V} {u : Value} {pos : Pos} (hg : Gl X x) (hm : X.mg x = some u) (r : RelV v u) (hd : (x == ("__debug__" : Str)) = false := by decide) : PE X (.Name x pos) (tC v) :=
 fun _ _ _ H _ I h => ld_glob I hg hm ⟨v, H, I, r, h⟩ hd
theorem pe_bltn {x : Str} {v : V} {u : Value} {pos : Pos} (hg : Gl X x) (hm : X.mg x = none) (hv : bootBuiltins x = some u) (r : RelV v u) (hn : x ≠ "__name__" := by decide) (hd : (x == ("__debug__" : Str)) = false := by decide) : PE X (.Name x pos) (tC v) :=
 fun _ _ _ H _ I h => ld_blt I hg hm hv ⟨v, H, I, r, h⟩ hn hd
variable {a b : Expr} {ta tb : TE} {pos : Pos}
def tB (t : TE) : TT := fun σ H Q => t σ H fun x H1 => ∃ c, x = .bl c /\ Q c H1
theorem pt_val {e : Expr} {t : TE} (h : PE X e t) (he : ∀ whole, isTrue e X.env whole = (do let v ← whole; standAt e.pos; holding [v] (truthy v)) := by intro _; rfl) : PT X e (tB t) := by
 intro pins s σ H Q I hw
 refine isTrue_plain (thn (h pins s σ H _ I hw) fun v s1 ⟨x, H1, I1, r1, q1⟩ => ?_) (he _)
 obtain ⟨d, rfl, q⟩ := q1
 cases r1
 exact wpAny_truthy_bool ⟨H1, I1, q⟩
variable {tA tB' : TT} {rest : List Expr}
def tAnd (t u : TT) : TT := fun σ H Q => t σ H fun c H1 => if c = true then u σ H1 Q else Q false H1
def tOr (t u : TT) : TT := fun σ H Q => t σ H fun c H1 => if c = true then Q true H1 else u σ H1 Q
def tNot (t : TT) : TT := fun σ H Q => t σ H fun c H1 => Q (!c) H1
theorem pw_and1 (ha : PT X a tA) : PW X (.BoolOp .And [a] pos) tA := by
 intro wh pins s σ H Q I h
 refine isTrue_and (thn (ha pins s σ H Q I h) fun c s1 e => ?_)
 cases c with
 | true => exact isTrue_and_nil e
 | false => exact e
theorem pw_or1 (ha : PT X a tA) : PW X (.BoolOp .Or [a] pos) tA := by
 intro wh pins s σ H Q I h
 refine isTrue_or (thn (ha pins s σ H Q I h) fun c s1 e => ?_)
 cases c with
 | false => exact isTrue_or_nil e
 | true => exact e
theorem pw_and (ha : PT X a tA) (hb : PW X (.BoolOp .And (b :: rest) pos) tB') : PW X (.BoolOp .And (a :: b :: rest) pos) (tAnd tA tB') := by
 intro wh pins s σ H Q I h
 refine isTrue_and (thn (ha pins s σ H _ I h) fun c s1 ⟨H1, I1, q1⟩ => ?_)
 cases c with
 | true => exact hb wh pins s1 σ H1 Q I1 q1
 | false => exact ⟨H1, I1, q1⟩
theorem pw_or (ha : PT X a tA) (hb : PW X (.BoolOp .Or (b :: rest) pos) tB') : PW X (.BoolOp .Or (a :: b :: rest) pos) (tOr tA tB') := by
 intro wh pins s σ H Q I h
 refine isTrue_or (thn (ha pins s σ H _ I h) fun c s1 ⟨H1, I1, q1⟩ => ?_)
 cases c with
 | true => exact ⟨H1, I1, q1⟩
 | false => exact hb wh pins s1 σ H1 Q I1 q1
theorem pt_not (ha : PT X a tA) : PT X (.UnaryOp .Not a pos) (tNot tA) := by
 intro pins s σ H Q I h
 exact isTrue_not (ha pins s σ H (fun c H1 => Q (!c) H1) I h)
def tAndV (ta tb : TE) : TE := fun σ H Q => ta σ H fun x H1 => ∃ c, x = .bl c /\ if c = true then tb σ H1 Q else Q (.bl false) H1
def tOrV (ta tb : TE) : TE := fun σ H Q => ta σ H fun x H1 => ∃ c, x = .bl c /\ if c = true then Q (.bl true) H1 else tb σ H1 Q
def tNotV (ta : TE) : TE := fun σ H Q => ta σ H fun x H1 => ∃ c, x = .bl c /\ Q (.bl (!c)) H1
theorem pe_one {op} {t : TE} (h : PE X a t) : PE X (.BoolOp op [a] pos) t := fun pins s σ H Q I hw => BoolOp_one (h pins s σ H Q I hw)
theorem pe_and (ha : PE X a ta) (hb : PE X (.BoolOp .And (b :: rest) pos) tb) : PE X (.BoolOp .And (a :: b :: rest) pos) (tAndV ta tb) := by
 intro pins s σ H Q I h
 refine BoolOp_and (thn (ha pins s σ H _ I h) fun v s1 ⟨x, H1, I1, r1, q1⟩ => ?_)
 obtain ⟨c, rfl, q1⟩ := q1
 cases r1
 refine wpAny_truthy_bool ?_
 cases c with
 | true => exact hb pins s1 σ H1 Q I1 q1
 | false => exact ⟨.bl false, H1, I1, rfl, q1⟩
theorem pe_not (ha : PE X a ta) : PE X (.UnaryOp .Not a pos) (tNotV ta) := by
 intro pins s σ H Q I h
 refine UnaryOp_ (thn (ha pins s σ H _ I h) fun v s1 ⟨x, H1, I1, r1, q1⟩ => ?_)
 obtain ⟨c, rfl, q1⟩ := q1
 cases r1
 exact not_of (wpAny_truthy_bool ⟨.bl (!c), H1, I1, rfl, q1⟩)
def tIf (t : TT) (ta tb : TE) : TE := fun σ H Q => t σ H fun c H1 => if c = true then ta σ H1 Q else tb σ H1 Q
end
end L2
namespace L2
open PySem PySem.Spec PyProof.Rows
def SqL (K : PySem.W.Frag) (H : Hp) (a : Addr) (xs : List V) : Prop :=
 Rd H a (.lst xs) \/
  ∃ (o : Obj) (its : Array Value) (n : Nat), K.lookup a = some o /\ o.cls = .type "list" /\ o.dict = none /\ o.data = .seq its n /\ its.size <= sizeLine /\ Vals xs its.toList
def SqT (K : PySem.W.Frag) (H : Hp) (a : Addr) (xs : List V) : Prop :=
 Rd H a (.tup xs) \/
  ∃ (o : Obj) (its : Array Value) (n : Nat), K.lookup a = some o /\ o.cls = .type "tuple" /\ o.data = .seq its n /\ its.size <= sizeLine /\ Vals xs its.toList
def absV : Value -> Option V
 | .none => some .non
 | .bool b => some (.bl b)
 | .int i _ => some (.int i)
 | .str x _ => some (.str x)
 | .bytes b _ => some (.byt b)
 | .float b _ => some (.flt b)
 | .ref a => some (.ref a)
 | .type n => some (.ty n)
 | _ => none
theorem RelV.abs {x : V} {u : Value} (r : RelV x u) : absV u = some x := by
 cases x with
 | non => cases r; rfl
 | bl _ => cases r; rfl
 | int _ => obtain ⟨t, rfl⟩ := r; rfl
 | str _ => obtain ⟨t, rfl⟩ := r; rfl
 | byt _ => obtain ⟨t, rfl⟩ := r; rfl
 | flt _ => obtain ⟨t, rfl⟩ := r; rfl
 | ref _ => cases r; rfl
 | ty _ => cases r; rfl
theorem RelV.inj {x y : V} {u : Value} (r : RelV x u) (q : RelV y u) : x = y := Option.some.inj (r.abs.symm.trans q.abs)
theorem Vals.inj : ∀ {xs ys : List V} {us : List Value}, Vals xs us -> Vals ys us -> xs = ys
 | _, _, _, .nil, .nil => rfl
 | _, _, _, .cons r t, .cons r' t' => by rw [r.inj r', Vals.inj t t']
section
variable {X : Cx} {pins : List (Addr × Obj)} {σ : St} {H : Hp} {s : Shared} {a : Addr} {xs ys : List V}
theorem SqL.of {K : PySem.W.Frag} (h : H a = some (.lst xs)) : SqL K H a xs := .inl (.inl h)
theorem SqT.of {K : PySem.W.Frag} (h : H a = some (.tup xs)) : SqT K H a xs := .inl (.inl h)
theorem Inv.list (I : Inv X pins σ H s) (h : SqL X.K H a xs) : ∃ its : List Value, Vals xs its /\ PlainL s.heap a its.toArray /\ xs.length <= sizeLine := by
 rcases h with h | ⟨o, its, n, hk, hc, hd, hs, hz, r⟩
 · obtain ⟨z, its, n, r, e⟩ := h.ok I.hok
   exact ⟨its, r, ⟨_, n, e, rfl, rfl, rfl⟩, z⟩
 · refine ⟨its.toList, r, ⟨o, n, I.kIn a o hk, hc, hd, by simpa using hs⟩, ?_⟩
   have e := r.length
   simp only [Array.length_toList] at e
   omega
theorem Inv.tuple (I : Inv X pins σ H s) (h : SqT X.K H a xs) : ∃ its : List Value, Vals xs its /\ IsTup s.heap a its.toArray /\ xs.length <= sizeLine := by
 rcases h with h | ⟨o, its, n, hk, hc, hs, hz, r⟩
 · obtain ⟨z, its, r, p⟩ := h.ok I.hok
   exact ⟨its, r, p, z⟩
 · refine ⟨its.toList, r, ⟨o, I.kIn a o hk, hc, n, by simpa using hs⟩, ?_⟩
   have e := r.length
   simp only [Array.length_toList] at e
   omega
theorem Inv.list_inj (I : Inv X pins σ H s) (h : SqL X.K H a xs) (h' : SqL X.K H a ys) : xs = ys := by
 obtain ⟨its, r, ⟨o, n, e, _, _, d⟩, _⟩ := I.list h
 obtain ⟨its', r', ⟨o', n', e', _, _, d'⟩, _⟩ := I.list h'
 rw [e] at e'; cases e'
 rw [d] at d'
 injection d' with d1 _
 have : its = its' := by simpa using congrArg Array.toList d1
 subst this
 exact r.inj r'
theorem Inv.tuple_inj (I : Inv X pins σ H s) (h : SqT X.K H a xs) (h' : SqT X.K H a ys) : xs = ys := by
 obtain ⟨its, r, ⟨o, e, _, n, d⟩, _⟩ := I.tuple h
 obtain ⟨its', r', ⟨o', e', _, n', d'⟩, _⟩ := I.tuple h'
 rw [e] at e'; cases e'
 rw [d] at d'
 injection d' with d1 _
 have : its = its' := by simpa using congrArg Array.toList d1
 subst this
 exact r.inj r'
end
abbrev Cx.wish (X : Cx) (E : Value -> Shared -> Prop) : Cx := { X with xe := E }
abbrev Cx.nox (X : Cx) : Cx := X.wish fun _ _ => False
theorem Cx.Ok.wish {X : Cx} (ok : X.Ok) (E : Value -> Shared -> Prop) : (X.wish E).Ok :=
 ⟨ok.mod, ok.kind, ok.glob, ok.blt, ok.above, ok.inj, ok.has, ok.cab, ok.hd, ok.frames, ok.stk, ok.exf, ok.bs, ok.bsz, ok.noex, ok.exfs, ok.funs, ok.frf⟩
theorem Cx.Ok.unwish {X : Cx} {E : Value -> Shared -> Prop} (ok : (X.wish E).Ok) : X.Ok :=
 ⟨ok.mod, ok.kind, ok.glob, ok.blt, ok.above, ok.inj, ok.has, ok.cab, ok.hd, ok.frames, ok.stk, ok.exf, ok.bs, ok.bsz, ok.noex, ok.exfs, ok.funs, ok.frf⟩
section
variable {X : Cx} {pins : List (Addr × Obj)} {σ : St} {H : Hp} {s : Shared} {E : Value -> Shared -> Prop}
theorem Inv.wish (I : Inv X pins σ H s) (E : Value -> Shared -> Prop) : Inv (X.wish E) pins σ H s := ⟨I.ok.wish E, I.os, I.bare, I.base, I.loc, I.cell, I.free, I.freeC, I.pin, I.hok, I.len⟩
theorem Inv.unwish (I : Inv (X.wish E) pins σ H s) : Inv X pins σ H s := ⟨I.ok.unwish, I.os, I.bare, I.base, I.loc, I.cell, I.free, I.freeC, I.pin, I.hok, I.len⟩
theorem SP.unwish {D : Ends} {f : Flow} {s' : Shared} (h : SP (X.wish E) pins D f s') : SP X pins D f s' := by
 cases f with
 | next => obtain ⟨σ', H', I, q⟩ := h; exact ⟨σ', H', I.unwish, q⟩
 | brk => obtain ⟨σ', H', I, q⟩ := h; exact ⟨σ', H', I.unwish, q⟩
 | cont => obtain ⟨σ', H', I, q⟩ := h; exact ⟨σ', H', I.unwish, q⟩
 | ret u => obtain ⟨v, σ', H', I, r, q⟩ := h; exact ⟨v, σ', H', I.unwish, r, q⟩
theorem PSs.nox {st : List Stmt} {t : TS} (h : PSs X.nox st t) : PSs X st t := fun pins s σ H D I hw =>
 wpAny_mono (h pins s σ H D (I.wish _) hw) (fun _ _ q => q.unwish) fun _ _ z => False.elim z
end
section
variable {X : Cx} {st : Stmt} {rest : List Stmt} {t u : TS} {e : Expr} {te : TE} {pos : Pos}
def tNext : TS := fun D σ H => D.nx σ H
def tSeq (t u : TS) : TS := fun D σ H => t { D with nx := u D } σ H
theorem pss_nil : PSs X [] tNext := fun _ _ σ H _ I h => wpAny_execs_nil ⟨σ, H, I, h⟩
theorem pss_cons (h1 : PS X st t) (h2 : PSs X rest u) : PSs X (st :: rest) (tSeq t u) := by
 intro pins s σ H D I h
 refine wpAny_execs_cons (thn (h1 pins s σ H { D with nx := u D } I h) fun f s1 q => ?_)
 cases f with
 | next =>
  obtain ⟨σ', H', I', q⟩ := q
  exact h2 pins s1 σ' H' D I' q
 | ret v => exact q
 | brk => exact q
 | cont => exact q
theorem pss_one (h1 : PS X st t) : PSs X [st] t := by
 intro pins s σ H D I h
 refine wpAny_execs_cons (thn (h1 pins s σ H D I h) fun f s1 q => ?_)
 cases f with
 | next => exact wpAny_execs_nil q
 | ret v => exact q
 | brk => exact q
 | cont => exact q
theorem Inv.quiet {pins : List (Addr × Obj)} {σ : St} {H : Hp} {s : Shared} (I : Inv X pins σ H s) : interactive X.env = false := by simp [interactive, I.ok.kind]
def tDrop (te : TE) : TS := fun D σ H => te σ H fun _ H1 => D.nx σ H1
theorem ps_expr (he : PE X e te) (hs : swapsWith e none pos.line X.env = pure false := by rfl) : PS X (.Expr e pos) (tDrop te) := by
 intro pins s σ H D I h
 exact wpAny_Expr_any (thn (he pins s σ H _ I h) fun v s1 ⟨x, H1, I1, r1, q1⟩ => ⟨σ, H1, I1, q1⟩) I.quiet hs
def tRet (te : TE) : TS := fun D σ H => te σ H D.rt
theorem ps_ret (he : PE X e te) : PS X (.Return (some e) pos) (tRet te) := by
 intro pins s σ H D I h
 exact wpAny_Return_some (thn (he pins s σ H _ I h) fun v s1 ⟨x, H1, I1, r1, q1⟩ => ⟨x, σ, H1, I1, r1, q1⟩)
def tIfS (c : TT) (t u : TS) : TS := fun D σ H => c σ H fun b H1 => if b = true then t D σ H1 else u D σ H1
theorem ps_if {c : Expr} {a b : List Stmt} {tc : TT} (hc : PT X c tc) (ha : PSs X a t) (hb : PSs X b u) : PS X (.If c a b pos) (tIfS tc t u) := by
 intro pins s σ H D I h
 refine wpAny_If (thn (hc pins s σ H _ I h) fun d s1 ⟨H1, I1, q1⟩ => ?_)
 cases d with
 | true => exact ha pins s1 σ H1 D I1 q1
 | false => exact hb pins s1 σ H1 D I1 q1
def tNever : TS := fun _ _ _ => False
theorem pss_never {sts : List Stmt} : PSs X sts tNever := fun _ _ _ _ _ _ h => h.elim
end
abbrev TG := V -> St -> Hp -> (St -> Hp -> Prop) -> Prop
abbrev TGs := List V -> St -> Hp -> (St -> Hp -> Prop) -> Prop
def PG (X : Cx) (target : Expr) (t : TG) : Prop :=
 ∀ (pins : List (Addr × Obj)) (s : Shared) (σ : St) (H : Hp) (v : V) (u : Value) (Q : St -> Hp -> Prop), Inv X pins σ H s -> RelV v u -> t v σ H Q ->
  wpAny (model X.prog X.w) X.A (assign target X.env u) (fun _ s' => ∃ σ' H', Inv X pins σ' H' s' /\ Q σ' H') X.xe s
def PGs (X : Cx) (ts : List Expr) (t : TGs) : Prop :=
 ∀ (pins : List (Addr × Obj)) (s : Shared) (σ : St) (H : Hp) (vs : List V) (us : List Value) (Q : St -> Hp -> Prop), Inv X pins σ H s -> Vals vs us -> t vs σ H Q ->
  wpAny (model X.prog X.w) X.A (assignInOrder ((assignEach ts X.env).map (·.2)) us) (fun _ s' => ∃ σ' H', Inv X pins σ' H' s' /\ Q σ' H') X.xe s
abbrev TSet := V -> V -> V -> Hp -> (Hp -> Prop) -> Prop
def PSet (X : Cx) (t : TSet) : Prop :=
 ∀ (pins : List (Addr × Obj)) (s : Shared) (σ : St) (H : Hp) (o i v : V) (ov iv u : Value) (Q : Hp -> Prop), Inv X pins σ H s -> RelV o ov -> RelV i iv -> RelV v u -> t o i v H Q ->
  wpAny (model X.prog X.w) X.A (setItem ov iv u) (fun _ s' => ∃ H', Inv X pins σ H' s' /\ Q H') X.xe s
section
variable {X : Cx} {pos : Pos}
def gName (i : Nat) : TG := fun v σ H Q => Q (σ.set i (some v)) H
theorem pg_name {i : Nat} {x : Str} (hN : X.N.Nodup) (hi : X.N[i]? = some x) (hx : Loc X.env.scope x) (hf : X.fn x = true \/ X.env.scope.names.lookup x = some .local := by first | exact .inl rfl | exact .inr rfl | assumption) : PG X (.Name x pos) (gName i) := by
 intro pins s σ H v u Q I r h
 exact wpAny_assign_Name (store_ok I hN hi hx r (fun s' I' => ⟨_, H, I', h⟩) hf)
def gNil : TGs := fun vs σ H Q => vs = [] /\ Q σ H
def gCons (t : TG) (u : TGs) : TGs := fun vs σ H Q => ∃ v r, vs = v :: r /\ t v σ H fun σ' H' => u r σ' H' Q
theorem pgs_nil : PGs X [] gNil := by
 intro pins s σ H vs us Q I r h
 obtain ⟨e, h⟩ := h
 subst e
 cases r
 exact assignInOrder_nil ⟨σ, H, I, h⟩
theorem pgs_cons {e : Expr} {es : List Expr} {t : TG} {u : TGs} (h1 : PG X e t) (h2 : PGs X es u)
  (hs : (assignEach (e :: es) X.env).map (·.2) = assign e X.env :: (assignEach es X.env).map (·.2) := by rfl) : PGs X (e :: es) (gCons t u) := by
 intro pins s σ H vs us Q I r h
 obtain ⟨v, vr, e1, h⟩ := h
 subst e1
 cases r with
 | cons r rr =>
  rw [hs]
  refine assignInOrder_cons (thn (h1 pins s σ H _ _ _ I r h) fun _ s1 ⟨σ1, H1, I1, q1⟩ => ?_)
  exact h2 pins s1 σ1 H1 _ _ Q I1 rr q1
def gTup (K : PySem.W.Frag) (n : Nat) (t : TGs) : TG := fun v σ H Q => ∃ a xs, v = .ref a /\ SqT K H a xs /\ xs.length = n /\ t xs σ H Q
theorem pg_tup {es : List Expr} {k : Nat} {t : TGs} {n : Nat} (hc : X.calm = true) (h : PGs X es t)
  (hn : (assignEach es X.env).length = n := by rfl) (hst : (assignEach es X.env).findIdx? (·.1) = none := by rfl) : PG X (.Tuple es k pos) (gTup X.K n t) := by
 intro pins s σ H v u Q I r hw
 obtain ⟨a, xs, e1, hq, hl, hw⟩ := hw
 subst e1
 cases r
 obtain ⟨its, rv, ht, hz⟩ := I.tuple hq
 refine assign_Tuple_tuple (I.ok.hd hc) ht (by simp [hn, ← hl, rv.length]) hst fun h' hx => ?_
 have I1 : Inv X pins σ H { s with heap := h' } := I.kept (t' := s.toks) fun b o e => hx b o (Nat.ne_of_lt (Heap.lt_size e)) e
 exact h pins _ σ H xs _ Q I1 (by simpa using rv) hw
def gSub (to ti : TE) (t : TSet) : TG := fun v σ H Q => to σ H fun o H1 => ti σ H1 fun i H2 => t o i v H2 fun H3 => Q σ H3
theorem pg_sub {o i : Expr} {to ti : TE} {t : TSet} (ho : PE X o to) (hi : PE X i ti) (hs : PSet X t)
  (ha : ∀ v, assign (.Subscript o i pos) X.env v = (do
   let ov ← holding [v] (eval o X.env)
   let iv ← holding [v, ov] (eval i X.env)
   standAt pos
   holding [v, ov, iv] (setItem ov iv v)
   release [v, ov, iv] []) := by intro _; rfl) : PG X (.Subscript o i pos) (gSub to ti t) := by
 intro pins s σ H v u Q I r h
 rw [ha]
 refine wpAny_bind (wpAny_holding (thn (ho pins s σ H _ I h) fun ov s1 ⟨x, H1, I1, r1, q1⟩ => ?_))
 refine wpAny_bind (wpAny_holding (thn (hi pins s1 σ H1 _ I1 q1) fun iv s2 ⟨y, H2, I2, r2, q2⟩ => ?_))
 refine wpAny_bind (wpAny_standAt (wpAny_bind (wpAny_holding (thn (hs pins s2 σ H2 x y v ov iv u _ I2 r1 r2 r q2) fun _ s3 ⟨H3, I3, q3⟩ => ?_))))
 exact wpAny_release ⟨σ, H3, I3, q3⟩
def tAsg (te : TE) (g : TG) : TS := fun D σ H => te σ H fun x H1 => g x σ H1 D.nx
theorem ps_asg {tg e : Expr} {te : TE} {g : TG} (he : PE X e te) (hg : PG X tg g) (hs : swapsWithSole [tg] e pos.line X.env = pure false := by rfl) (hw : swappedStores [tg] e X.env = pure none := by rfl)
  (h1 : (assignEach [tg] X.env).map (·.2) = [assign tg X.env] := by rfl) : PS X (.Assign [tg] e pos) (tAsg te g) := by
 intro pins s σ H D I h
 refine wpAny_Assign_stores (thn (he pins s σ H _ I h) fun v s1 ⟨x, H1, I1, r1, q1⟩ => ?_) hs hw
 rw [h1]
 exact thn (hg pins s1 σ H1 x v _ I1 r1 q1) fun _ s2 q => q
theorem ps_set {i : Nat} {x : Str} {e : Expr} {te : TE} {pos' : Pos} (hN : X.N.Nodup) (hi : X.N[i]? = some x) (hx : Loc X.env.scope x) (he : PE X e te) (hs : swapsWith e (some (.Name x pos')) pos.line X.env = pure false := by rfl) (hf : X.fn x = true \/ X.env.scope.names.lookup x = some .local := by first | exact .inl rfl | exact .inr rfl | assumption) :
  PS X (.Assign [.Name x pos'] e pos) (tAsg te (gName i)) := by
 intro pins s σ H D I h
 refine wpAny_Assign_Name (thn (he pins s σ H _ I h) fun v s1 ⟨y, H1, I1, r1, q1⟩ => ?_) hs
 exact store_ok I1 hN hi hx r1 (fun s2 I2 => ⟨_, H1, I2, q1⟩) hf
end
section
variable {X : Cx} {pos : Pos}
def tWhile (c : TT) (tb : TS) : TS := fun D σ H => ∃ W : Nat -> St -> Hp -> Prop, (∃ m, W m σ H) /\ ∀ m σ H, W m σ H ->
 c σ H fun b H1 => if b = true then ∃ N : St -> Hp -> Prop, (∀ σ' H', N σ' H' -> ∃ m', m' < m /\ W m' σ' H') /\ tb { D with nx := N, ct := N, bk := D.nx } σ H1 else D.nx σ H1
theorem ps_while {c : Expr} {body : List Stmt} {tc : TT} {tb : TS} (hp : PassesOwn (model X.prog X.w) X.A X.env X.xe) (hc : PT X c tc) (hb : PSs X body tb) : PS X (.While c body [] pos) (tWhile tc tb) := by
 intro pins s σ H D I h
 obtain ⟨W, ⟨m0, w0⟩, turn⟩ := h
 refine wpAny_While (codeAny_whileLoop (fun n s' => ∃ σ' H', Inv X pins σ' H' s' /\ W n σ' H') ?_ m0 ⟨σ, H, I, w0⟩)
 rintro n s1 ⟨σ1, H1, I1, w1⟩
 refine wpAny_passesOwn hp (thn (hc pins s1 σ1 H1 _ I1 (turn n σ1 H1 w1)) fun b s2 ⟨H2, I2, q2⟩ => ?_)
 cases b with
 | true =>
  obtain ⟨N, hN, q2⟩ := q2
  rw [if_pos rfl]
  refine wpAny_passesOwn hp (thn (hb pins s2 σ1 H2 _ I2 q2) fun f s3 q3 => ?_)
  cases f with
  | next =>
   obtain ⟨σ3, H3, I3, n3⟩ := q3
   obtain ⟨m', hm, w3⟩ := hN σ3 H3 n3
   exact ⟨m', hm, σ3, H3, I3, w3⟩
  | cont =>
   obtain ⟨σ3, H3, I3, n3⟩ := q3
   obtain ⟨m', hm, w3⟩ := hN σ3 H3 n3
   exact ⟨m', hm, σ3, H3, I3, w3⟩
  | brk => exact q3
  | ret v => exact q3
 | false =>
  rw [if_neg Bool.false_ne_true]
  exact wpAny_execs_nil ⟨σ1, H2, I2, q2⟩
end
structure It where
 go : Nat -> Hp -> Prop
 yld : Nat -> Hp -> V -> Hp -> Prop
 stop : Nat -> Hp -> Prop
def FpOk (X : Cx) (pins : List (Addr × Obj)) (H : Hp) (b : Addr) : Prop :=
 H b = none /\ b ≠ X.env.locals /\ b ∉ X.fs /\ (b ∈ X.ex \/ X.s₀.heap.objs.size <= b) /\ (∀ x c, X.env.cells.lookup x = some c -> c ≠ b) /\ ∀ p ∈ X.pn ++ pins, p.1 ≠ b
theorem Inv.fpOk {X : Cx} {pins : List (Addr × Obj)} {σ : St} {H H' : Hp} {s : Shared} {b : Addr} (I : Inv X pins σ H s) (hb : s.heap.objs.size <= b) (hn : H' b = none) : FpOk X pins H' b := by
 refine ⟨hn, Nat.ne_of_gt (Nat.lt_of_lt_of_le I.lt hb), I.nofs hb, .inr (Nat.le_trans I.sz hb), fun x c e z => ?_, fun p hp z => ?_⟩
 · obtain ⟨v, q⟩ := I.cell x c e
   exact absurd (Nat.lt_of_lt_of_le q.lt (by rw [z]; exact hb)) (Nat.lt_irrefl _)
 · exact absurd (Nat.lt_of_lt_of_le (Heap.lt_size (I.pin p hp).1) (by rw [z]; exact hb)) (Nat.lt_irrefl _)
structure Turn (P : Program) (w : World) (K : PySem.W.Frag) (tg : Expr) (J : It) (fp : List Addr) (it : Addr) (tn : Nat -> Heap -> Prop) : Prop where
 mem : it ∈ fp
 obj : ∀ i h, tn i h -> ∀ b ∈ fp, ∃ o, h.get? b = some o /\ ∀ v, o.data ≠ .cell v
 keep : ∀ i h h', tn i h -> (∀ b ∈ fp, ∀ o, h.get? b = some o -> h'.get? b = some o) -> tn i h'
 item : ∀ (X : Cx), X.prog = P -> X.w = w -> X.K = K -> X.calm = true -> ∀ (i : Nat) (pins : List (Addr × Obj)) (s : Shared) (σ : St) (H : Hp) (E : Value -> Shared -> Prop), Inv X pins σ H s -> (∀ b ∈ fp, FpOk X pins H b) -> tn i s.heap -> J.go i H ->
  wpAny (model P w) X.A (pyNext (.ref it)) (fun r s1 => ∃ u, r = some u /\
   wpAny (model P w) X.A (letOwnedTupleGo tg (.ref it) u) (fun _ s2 => ∃ x H', Inv X pins σ H' s2 /\ RelV x u /\ J.yld i H x H' /\ tn (i + 1) s2.heap /\ ∀ b ∈ fp, H' b = none) E s1) E s
 done : ∀ (X : Cx), X.prog = P -> X.w = w -> X.K = K -> X.calm = true -> ∀ (i : Nat) (pins : List (Addr × Obj)) (s : Shared) (σ : St) (H : Hp) (E : Value -> Shared -> Prop), Inv X pins σ H s -> (∀ b ∈ fp, FpOk X pins H b) -> tn i s.heap -> J.stop i H ->
  wpAny (model P w) X.A (pyNext (.ref it)) (fun r s1 => r = none /\ Inv X pins σ H s1) E s
 self : ∀ (A : Around) (i : Nat) (s : Shared) (Q : Value -> Shared -> Prop) (E : Value -> Shared -> Prop), tn i s.heap -> Q (.ref it) s -> wpAny (model P w) A (pyIter (.ref it)) Q E s
abbrev TI := St -> Hp -> (It -> Hp -> Prop) -> Prop
def PIE (X : Cx) (pins : List (Addr × Obj)) (σ : St) (tg : Expr) (R : It -> Hp -> Prop) (itv : Value) (s2 : Shared) : Prop :=
 ∃ (it : Addr) (fp : List Addr) (tn : Nat -> Heap -> Prop) (J : It) (H' : Hp), itv = .ref it /\ Inv X pins σ H' s2 /\ Turn X.prog X.w X.K tg J fp it tn /\ tn 0 s2.heap /\ (∀ b ∈ fp, FpOk X pins H' b) /\ R J H'
def PI (X : Cx) (tg iter : Expr) (wi : TI) : Prop :=
 ∀ (pins : List (Addr × Obj)) (s : Shared) (σ : St) (H : Hp) (R : It -> Hp -> Prop), Inv X pins σ H s -> wi σ H R ->
  wpAny (model X.prog X.w) X.A (eval iter X.env) (fun v s1 => wpAny (model X.prog X.w) X.A (pyIter v) (PIE X pins σ tg R) X.xe s1) X.xe s
theorem go_of {M : Model} {A : Around} {E : Value -> Shared -> Prop} {s : Shared} {tg : Expr} {it : Addr} {u : Value} {o : Obj} {n : String} {vs : Array Value} {Q : Unit -> Shared -> Prop} (ho : s.heap.get? it = some o) (hc : o.cls = .type n) (hd : o.data = .fields vs)
  (hn : ["enumerate", "zip", "dict_itemiterator", "dict_reverseitemiterator", "odict_iterator", "itertools.zip_longest", "itertools.pairwise"].contains n = false) (hQ : Q () s) : wpAny M A (letOwnedTupleGo tg (.ref it) u) Q E s := by
 unfold letOwnedTupleGo
 cases tg <;> first
  | exact wpAny_pure hQ
  | (cases u <;> first
    | exact wpAny_pure hQ
    | (refine wpAny_bind (wpAny_load ho ?_)
       rw [hc, hd]
       show wpAny M A (if (["enumerate", "zip", "dict_itemiterator", "dict_reverseitemiterator", "odict_iterator", "itertools.zip_longest", "itertools.pairwise"].contains n && vs[0]? == some (rawInt _)) = true then _ else _) Q E s
       rw [if_neg (by intro h; rw [hn, Bool.false_and] at h; cases h)]
       exact wpAny_pure hQ))
def Itl (K : PySem.W.Frag) (a : Addr) : It :=
 ⟨fun i H => ∃ xs x, SqL K H a xs /\ xs[i]? = some x, fun i H x H' => H' = H /\ ∀ xs, SqL K H a xs -> xs[i]? = some x, fun i H => ∃ xs, SqL K H a xs /\ xs.length <= i⟩
def Itt (K : PySem.W.Frag) (a : Addr) : It :=
 ⟨fun i H => ∃ xs x, SqT K H a xs /\ xs[i]? = some x, fun i H x H' => H' = H /\ ∀ xs, SqT K H a xs -> xs[i]? = some x, fun i H => ∃ xs, SqT K H a xs /\ xs.length <= i⟩
def Itr (lo : Int) (n : Nat) : It := ⟨fun i _ => i < n, fun i H x H' => H' = H /\ x = .int (lo + i), fun i _ => n <= i⟩
theorem turn_list {P : Program} {w : World} {K : PySem.W.Frag} {tg : Expr} (a it : Addr) : Turn P w K tg (Itl K a) [it] it (fun i h => h.IsListIter it a i) where
 mem := by simp
 obj := fun i h st b hb => by
  have e : b = it := by simpa using hb
  subst e
  obtain ⟨o, e, c, d⟩ := st
  exact ⟨o, e, fun v z => by rw [d] at z; cases z⟩
 keep := fun i h h' st k => st.at fun o e => k it (by simp) o e
 item := by
  intro X hP hw hK hc i pins s σ H E I hf st hg
  subst hP hw hK
  obtain ⟨xs, x, hq, hx⟩ := hg
  obtain ⟨its, rv, p, hz⟩ := I.list hq
  obtain ⟨u, hu, ru⟩ := rv.get hx
  obtain ⟨f0, f1, f2, f3, f4, f5⟩ := hf it (by simp)
  refine wpAny_pyNext_list_item st p.isList (x := u) (by simpa using hu) fun h' st' sb => ?_
  have I1 : Inv X pins σ H { s with heap := h' } := I.turned (t' := s.toks) (fun b o hb e => (sb.2 b hb).trans e) f0 f1 f3 f4 f5
  obtain ⟨o, e, c, d⟩ := id st'
  exact ⟨u, rfl, go_of (s := { s with heap := h' }) e c d (by decide) ⟨x, H, I1, ru, ⟨rfl, fun ys hy => by rw [I.list_inj hy hq]; exact hx⟩, st', fun b hb => (hf b hb).1⟩⟩
 done := by
  intro X hP hw hK hc i pins s σ H E I hf st hg
  subst hP hw hK
  obtain ⟨xs, hq, hx⟩ := hg
  obtain ⟨its, rv, p, hz⟩ := I.list hq
  obtain ⟨f0, f1, f2, f3, f4, f5⟩ := hf it (by simp)
  have hl := rv.length
  exact wpAny_pyNext_list_end (I.ok.hd hc) st p.isList (by simp; omega) fun h' eb => ⟨rfl, I.turned (t' := s.toks) (fun b o hb e => eb b o hb e) f0 f1 f3 f4 f5⟩
 self := fun _ _ _ _ _ st h => wpAny_pyIter_listiter st h
theorem turn_tuple {P : Program} {w : World} {K : PySem.W.Frag} {tg : Expr} (a it : Addr) : Turn P w K tg (Itt K a) [it] it (fun i h => h.IsTupleIter it a i) where
 mem := by simp
 obj := fun i h st b hb => by
  have e : b = it := by simpa using hb
  subst e
  obtain ⟨o, e, c, d⟩ := st
  exact ⟨o, e, fun v z => by rw [d] at z; cases z⟩
 keep := fun i h h' st k => st.at fun o e => k it (by simp) o e
 item := by
  intro X hP hw hK hc i pins s σ H E I hf st hg
  subst hP hw hK
  obtain ⟨xs, x, hq, hx⟩ := hg
  obtain ⟨its, rv, p, hz⟩ := I.tuple hq
  obtain ⟨u, hu, ru⟩ := rv.get hx
  obtain ⟨f0, f1, f2, f3, f4, f5⟩ := hf it (by simp)
  refine wpAny_pyNext_tuple_item st (show s.heap.IsTuple a its.toArray from p) (x := u) (by simpa using hu) fun h' st' sb => ?_
  have I1 : Inv X pins σ H { s with heap := h' } := I.turned (t' := s.toks) (fun b o hb e => (sb.2 b hb).trans e) f0 f1 f3 f4 f5
  obtain ⟨o, e, c, d⟩ := id st'
  exact ⟨u, rfl, go_of (s := { s with heap := h' }) e c d (by decide) ⟨x, H, I1, ru, ⟨rfl, fun ys hy => by rw [I.tuple_inj hy hq]; exact hx⟩, st', fun b hb => (hf b hb).1⟩⟩
 done := by
  intro X hP hw hK hc i pins s σ H E I hf st hg
  subst hP hw hK
  obtain ⟨xs, hq, hx⟩ := hg
  obtain ⟨its, rv, p, hz⟩ := I.tuple hq
  obtain ⟨f0, f1, f2, f3, f4, f5⟩ := hf it (by simp)
  have hl := rv.length
  exact wpAny_pyNext_tuple_end (I.ok.hd hc) st (show s.heap.IsTuple a its.toArray from p) (by simp; omega) fun h' eb => ⟨rfl, I.turned (t' := s.toks) (fun b o hb e => eb b o hb e) f0 f1 f3 f4 f5⟩
 self := fun _ _ _ _ _ st h => wpAny_pyIter_tupleiter st h
theorem turn_range {P : Program} {w : World} {K : PySem.W.Frag} {tg : Expr} (it : Addr) (lo : Int) (n : Nat) : Turn P w K tg (Itr lo n) [it] it (fun i h => IsRangeIter h it (lo + (i : Nat) * 1) ((n : Int) - (i : Nat)) 1) where
 mem := by simp
 obj := fun i h st b hb => by
  have e : b = it := by simpa using hb
  subst e
  exact ⟨_, st, fun v z => by
   have z' : Data.fields _ = Data.cell v := z
   cases z'⟩
 keep := fun i h h' st k => k it (by simp) _ st
 item := by
  intro X hP hw hK hc i pins s σ H E I hf st hg
  subst hP hw hK
  obtain ⟨f0, f1, f2, f3, f4, f5⟩ := hf it (by simp)
  have W := Walks.range (prog := X.prog) (w := X.w) (I.ok.hd hc) it lo 1 n
  refine W.item i s _ _ hg st fun v h' tk hv st' kk => ?_
  obtain ⟨t, rfl⟩ := hv
  have I1 : Inv X pins σ H { s with heap := h', toks := tk } := I.turned (fun b o hb e => kk b o (by simpa using hb) e) f0 f1 f3 f4 f5
  refine ⟨_, rfl, go_of (s := { s with heap := h', toks := tk }) (n := "range_iterator") st' rfl rfl (by decide) ⟨.int (lo + i), H, I1, ⟨t, ?_⟩, ⟨rfl, rfl⟩, st', fun b hb => (hf b hb).1⟩⟩
  rw [Int.mul_one]
 done := by
  intro X hP hw hK hc i pins s σ H E I hf st hg
  subst hP hw hK
  obtain ⟨f0, f1, f2, f3, f4, f5⟩ := hf it (by simp)
  exact wpAny_pyNext_range_end (I.ok.hd hc) st (by have : n <= i := hg; omega) fun h' eb => ⟨rfl, I.turned (t' := s.toks) (fun b o hb e => eb b o hb e) f0 f1 f3 f4 f5⟩
 self := fun _ _ _ _ _ st h => wpAny_pyIter_rangeiter st h
end L2
namespace L2
open PySem PySem.Spec PyProof.Rows
section
variable {X : Cx} {tg : Expr}
def iList (K : PySem.W.Frag) (tl : TE) : TI := fun σ H R => tl σ H fun x H1 => ∃ a, x = .ref a /\ (∃ xs, SqL K H1 a xs) /\ R (Itl K a) H1
def iTup (K : PySem.W.Frag) (tl : TE) : TI := fun σ H R => tl σ H fun x H1 => ∃ a, x = .ref a /\ (∃ xs, SqT K H1 a xs) /\ R (Itt K a) H1
theorem pi_list {l : Expr} {tl : TE} (hl : PE X l tl) : PI X tg l (iList X.K tl) := by
 intro pins s σ H R I h
 refine thn (hl pins s σ H _ I h) fun v s1 ⟨x, H1, I1, r1, q1⟩ => ?_
 obtain ⟨a, e, ⟨xs, hq⟩, q⟩ := q1
 subst e
 cases r1
 obtain ⟨its, rv, p, hz⟩ := I1.list hq
 refine wpAny_pyIter_list p.isList ?_
 refine ⟨s1.heap.objs.size, [s1.heap.objs.size], _, _, H1, rfl, I1.kept (t' := s1.toks) fun b o e => Heap.get?_push_of_some _ e, turn_list a _, ⟨_, Heap.get?_push_size _ rfl, rfl, rfl⟩, fun b hb => ?_, q⟩
 have e : b = s1.heap.objs.size := by simpa using hb
 subst e
 exact I1.fpOk (Nat.le_refl _) (I1.hok.fresh (Nat.le_refl _))
theorem pi_tup {l : Expr} {tl : TE} (hl : PE X l tl) : PI X tg l (iTup X.K tl) := by
 intro pins s σ H R I h
 refine thn (hl pins s σ H _ I h) fun v s1 ⟨x, H1, I1, r1, q1⟩ => ?_
 obtain ⟨a, e, ⟨xs, hq⟩, q⟩ := q1
 subst e
 cases r1
 obtain ⟨its, rv, p, hz⟩ := I1.tuple hq
 refine wpAny_pyIter_tuple (show s1.heap.IsTuple a its.toArray from p) ?_
 refine ⟨s1.heap.objs.size, [s1.heap.objs.size], _, _, H1, rfl, I1.kept (t' := s1.toks) fun b o e => Heap.get?_push_of_some _ e, turn_tuple a _, ⟨_, Heap.get?_push_size _ rfl, rfl, rfl⟩, fun b hb => ?_, q⟩
 have e : b = s1.heap.objs.size := by simpa using hb
 subst e
 exact I1.fpOk (Nat.le_refl _) (I1.hok.fresh (Nat.le_refl _))
theorem range_it {pins : List (Addr × Obj)} {σ : St} {H : Hp} {s : Shared} {R : It -> Hp -> Prop} {E : Value -> Shared -> Prop} {lo hi : Int} {t u v : Tok} {tk : Nat} (I : Inv X pins σ H s) (h1 : -(2 ^ 62) <= lo) (h2 : lo < 2 ^ 62) (h3 : -(2 ^ 62) <= hi) (h4 : hi < 2 ^ 62)
  (q : R (Itr lo (hi - lo).toNat) H) : wpAny (model X.prog X.w) X.A (pyIter (.ref s.heap.objs.size)) (PIE X pins σ tg R) E { s with heap := s.heap.push { cls := .type "range", data := .fields #[.int lo t, .int hi u, .int 1 v] }, toks := tk } := by
 refine wpAny_pyIter_range (IsRange.new ..) (small_one h1 h2 h3 h4) ?_
 have I1 : Inv X pins σ H { s with heap := s.heap.push { cls := .type "range", data := .fields #[.int lo t, .int hi u, .int 1 v] }, toks := tk } := I.kept fun b o e => Heap.get?_push_of_some _ e
 refine ⟨(s.heap.push { cls := .type "range", data := .fields #[.int lo t, .int hi u, .int 1 v] }).objs.size, [(s.heap.push { cls := .type "range", data := .fields #[.int lo t, .int hi u, .int 1 v] }).objs.size], _, _, H, rfl,
  I1.kept (t' := tk) fun b o e => Heap.get?_push_of_some _ e, turn_range _ lo (hi - lo).toNat, ?_, fun b hb => ?_, q⟩
 · have e1 : lo + ((0 : Nat) : Int) * 1 = lo := by simp
   have e2 : (((hi - lo).toNat : Nat) : Int) - ((0 : Nat) : Int) = Builtin.Range.rangeSize lo hi 1 := by rw [rangeSize_one]; split <;> omega
   show IsRangeIter _ _ (lo + ((0 : Nat) : Int) * 1) ((((hi - lo).toNat : Nat) : Int) - ((0 : Nat) : Int)) 1
   rw [e1, e2]
   exact Heap.get?_push_size _ rfl
 · have e : b = (s.heap.push { cls := .type "range", data := .fields #[.int lo t, .int hi u, .int 1 v] }).objs.size := by simpa using hb
   subst e
   exact I1.fpOk (Nat.le_refl _) (I1.hok.fresh (Nat.le_refl _))
def iRng1 (ta : TA) : TI := fun σ H R => ta σ H fun vs H1 => ∃ j : Int, vs = [.int j] /\ -(2 ^ 62) <= j /\ j < 2 ^ 62 /\ R (Itr 0 j.toNat) H1
theorem pi_range1 {a : Expr} {ta : TA} {p pos : Pos} (hg : Gl X "range") (hm : X.mg "range" = none) (ha : PA X [a] ta) (hs : starEach [a] X.env = [(false, eval a X.env)] := by rfl) : PI X tg (.Call (.Name "range" p) [a] [] pos) (iRng1 ta) := by
 intro pins s σ H R I h
 refine Call_ (ld_blt I hg hm boot_range (PyProof.Rows.callWith_type1 (thn (ha pos pins s σ H _ I h) fun us s1 ⟨vs, H1, I1, r1, q1⟩ => ?_) hs rfl))
 obtain ⟨j, e, q1, q2, q⟩ := q1
 subst e
 cases r1 with
 | cons r rr =>
  cases rr
  obtain ⟨t, rfl⟩ := r
  exact call_range_1 (range_it I1 (by omega) (by omega) q1 q2 (by simpa using q))
def tFor (wi : TI) (g : TG) (tb : TS) : TS := fun D σ H => wi σ H fun J H1 => ∃ W : Nat -> Nat -> St -> Hp -> Prop, (∃ m, W 0 m σ H1) /\ ∀ i m σ H, W i m σ H ->
 (J.stop i H /\ D.nx σ H) \/ (J.go i H /\ ∃ N : St -> Hp -> Prop, (∀ σ' H', N σ' H' -> ∃ m', m' < m /\ W (i + 1) m' σ' H') /\ ∀ x H', J.yld i H x H' -> g x σ H' fun σ2 H2 => tb { D with nx := N, ct := N, bk := D.nx } σ2 H2)
def pinsAt (fp : List Addr) (h : Heap) : List (Addr × Obj) := fp.filterMap fun b => (h.get? b).map fun o => (b, o)
theorem mem_pinsAt {fp : List Addr} {h : Heap} {b : Addr} {o : Obj} (hb : b ∈ fp) (e : h.get? b = some o) : (b, o) ∈ pinsAt fp h := List.mem_filterMap.mpr ⟨b, hb, by rw [e]; rfl⟩
theorem of_pinsAt {fp : List Addr} {h : Heap} {p : Addr × Obj} (hp : p ∈ pinsAt fp h) : p.1 ∈ fp /\ h.get? p.1 = some p.2 := by
 obtain ⟨b, hb, e⟩ := List.mem_filterMap.mp hp
 cases q : h.get? b with
 | none => rw [q] at e; cases e
 | some o =>
  rw [q] at e
  have e' : (b, o) = p := Option.some.inj e
  subst e'
  exact ⟨hb, q⟩
theorem Inv.pinned {pins : List (Addr × Obj)} {σ : St} {H : Hp} {s : Shared} {fp : List Addr} (I : Inv X pins σ H s) (hf : ∀ b ∈ fp, FpOk X pins H b) (ho : ∀ b ∈ fp, ∃ o, s.heap.get? b = some o /\ ∀ v, o.data ≠ .cell v) : Inv X (pins ++ pinsAt fp s.heap) σ H s :=
 I.pins_of fun p hp => (List.mem_append.mp hp).elim (fun z => I.pin p (List.mem_append_right _ z)) fun z => by
  obtain ⟨hb, e⟩ := of_pinsAt z
  obtain ⟨f0, f1, f2, _⟩ := hf p.1 hb
  obtain ⟨o, e', d⟩ := ho p.1 hb
  rw [e] at e'; cases e'
  exact ⟨e, f0, f1, f2, d⟩
theorem Inv.unpinned {pins pl : List (Addr × Obj)} {σ : St} {H : Hp} {s : Shared} (I : Inv X (pins ++ pl) σ H s) : Inv X pins σ H s := I.pins_of fun p hp => I.pin p (List.mem_append_right _ (List.mem_append_left _ hp))
theorem ps_for {iter : Expr} {body : List Stmt} {wi : TI} {g : TG} {tb : TS} {pos : Pos} (hp : PassesOwn (model X.prog X.w) X.A X.env X.xe) (hc : X.calm = true) (hi : PI X tg iter wi) (hg : PG X tg g) (hb : PSs X body tb)
  (hs : ∀ x, foldedSetIterable iter X.env x = pure x := by intro _; rfl) : PS X (.For tg iter body [] pos) (tFor wi g tb) := by
 intro pins s σ H D I h
 refine wpAny_For (thn (hi pins s σ H _ I h) fun v s1 h1 => thn h1 fun itv s2 h2 => ?_) hs
 obtain ⟨it, fp, tn, J, H2, e, I2, T, st2, f2, W, ⟨m0, w0⟩, turn⟩ := h2
 subst e
 -- what stays true of the iterator's objects through the loop
 have stat : ∀ {H' : Hp}, (∀ b ∈ fp, H' b = none) -> ∀ b ∈ fp, FpOk X pins H' b := fun hn b hb => ⟨hn b hb, (f2 b hb).2⟩
 refine codeAny_forLoop_any (fun n s' => ∃ i σ' H', Inv X pins σ' H' s' /\ tn i s'.heap /\ (∀ b ∈ fp, H' b = none) /\ W i n σ' H') ?_ m0 ⟨0, σ, H2, I2, st2, fun b hb => (f2 b hb).1, w0⟩
 rintro n s3 ⟨i, σ3, H3, I3, st3, fr3, w3⟩
 rcases turn i n σ3 H3 w3 with ⟨stop, qn⟩ | ⟨go, N, hN, step⟩
 · refine wpAny_passesOwn hp (thn (T.done X rfl rfl rfl hc i pins s3 σ3 H3 X.xe I3 (stat fr3) st3 stop) fun r s4 ⟨hr, I4⟩ => ?_)
   subst hr
   exact wpAny_execs_nil ⟨σ3, H3, I4, qn⟩
 · refine wpAny_passesOwn hp (thn (T.item X rfl rfl rfl hc i pins s3 σ3 H3 X.xe I3 (stat fr3) st3 go) fun r s4 ⟨u, hr, h4⟩ => ?_)
   subst hr
   refine wpAny_passesOwn hp (thn h4 fun _ s5 ⟨x, H5, I5, r5, y5, st5, fr5⟩ => ?_)
   have I5' := I5.pinned (stat fr5) (T.obj _ _ st5)
   refine wpAny_passesOwn hp (thn (hg _ s5 σ3 H5 x u _ I5' r5 (step x H5 y5)) fun _ s6 ⟨σ6, H6, I6, q6⟩ => ?_)
   refine wpAny_passesOwn hp (thn (hb _ s6 σ6 H6 _ I6 q6) fun f s7 q7 => ?_)
   have again : ∀ {σ7 : St} {H7 : Hp}, Inv X (pins ++ pinsAt fp s5.heap) σ7 H7 s7 -> N σ7 H7 -> ∃ m, m < n /\ ∃ i σ' H', Inv X pins σ' H' s7 /\ tn i s7.heap /\ (∀ b ∈ fp, H' b = none) /\ W i m σ' H' := fun {σ7 H7} I7 n7 => by
    obtain ⟨m', hm, w7⟩ := hN σ7 H7 n7
    refine ⟨m', hm, i + 1, σ7, H7, I7.unpinned, T.keep _ _ _ st5 fun b hb o e => (I7.pin (b, o) (List.mem_append_right _ (List.mem_append_right _ (mem_pinsAt hb e)))).1, fun b hb => ?_, w7⟩
    obtain ⟨o, e, d⟩ := T.obj _ _ st5 b hb
    exact (I7.pin (b, o) (List.mem_append_right _ (List.mem_append_right _ (mem_pinsAt hb e)))).2.1
   cases f with
   | next => obtain ⟨σ7, H7, I7, n7⟩ := q7; exact again I7 n7
   | cont => obtain ⟨σ7, H7, I7, n7⟩ := q7; exact again I7 n7
   | brk => obtain ⟨σ7, H7, I7, q7⟩ := q7; exact ⟨σ7, H7, I7.unpinned, q7⟩
   | ret v => obtain ⟨x7, σ7, H7, I7, r7, q7⟩ := q7; exact ⟨x7, σ7, H7, I7.unpinned, r7, q7⟩
end
theorem for_list {K : PySem.W.Frag} {a : Addr} {xs : List V} {g : TG} {tb : TS} {D : Ends} {σ : St} {H : Hp} (Pv : Nat -> St -> Hp -> Prop) (h0 : Pv 0 σ H) (hl : ∀ i σ H, i <= xs.length -> Pv i σ H -> SqL K H a xs)
  (hs : ∀ i x σ H, xs[i]? = some x -> Pv i σ H -> g x σ H fun σ2 H2 => tb { D with nx := Pv (i + 1), ct := Pv (i + 1), bk := D.nx } σ2 H2) (hd : ∀ σ H, Pv xs.length σ H -> D.nx σ H) :
  ∃ W : Nat -> Nat -> St -> Hp -> Prop, (∃ m, W 0 m σ H) /\ ∀ i m σ H, W i m σ H ->
   ((Itl K a).stop i H /\ D.nx σ H) \/ ((Itl K a).go i H /\ ∃ N : St -> Hp -> Prop, (∀ σ' H', N σ' H' -> ∃ m', m' < m /\ W (i + 1) m' σ' H') /\ ∀ x H', (Itl K a).yld i H x H' -> g x σ H' fun σ2 H2 => tb { D with nx := N, ct := N, bk := D.nx } σ2 H2) := by
 refine ⟨fun i m σ H => m = xs.length - i /\ i <= xs.length /\ Pv i σ H, ⟨xs.length, by simp, Nat.zero_le _, h0⟩, ?_⟩
 rintro i m σ H ⟨rfl, hi, p⟩
 have q := hl i σ H hi p
 by_cases hlt : i < xs.length
 · refine .inr ⟨⟨xs, xs[i], q, by simp [hlt]⟩, Pv (i + 1), fun σ' H' p' => ⟨xs.length - (i + 1), by omega, rfl, hlt, p'⟩, fun x H' y => ?_⟩
   obtain ⟨e, y⟩ := y
   subst e
   exact hs i x σ _ (y xs q) p
 · have e : i = xs.length := by omega
   subst e
   exact .inl ⟨⟨xs, q, Nat.le_refl _⟩, hd σ H p⟩
theorem for_tup {K : PySem.W.Frag} {a : Addr} {xs : List V} {g : TG} {tb : TS} {D : Ends} {σ : St} {H : Hp} (Pv : Nat -> St -> Hp -> Prop) (h0 : Pv 0 σ H) (hl : ∀ i σ H, i <= xs.length -> Pv i σ H -> SqT K H a xs)
  (hs : ∀ i x σ H, xs[i]? = some x -> Pv i σ H -> g x σ H fun σ2 H2 => tb { D with nx := Pv (i + 1), ct := Pv (i + 1), bk := D.nx } σ2 H2) (hd : ∀ σ H, Pv xs.length σ H -> D.nx σ H) :
  ∃ W : Nat -> Nat -> St -> Hp -> Prop, (∃ m, W 0 m σ H) /\ ∀ i m σ H, W i m σ H ->
   ((Itt K a).stop i H /\ D.nx σ H) \/ ((Itt K a).go i H /\ ∃ N : St -> Hp -> Prop, (∀ σ' H', N σ' H' -> ∃ m', m' < m /\ W (i + 1) m' σ' H') /\ ∀ x H', (Itt K a).yld i H x H' -> g x σ H' fun σ2 H2 => tb { D with nx := N, ct := N, bk := D.nx } σ2 H2) := by
 refine ⟨fun i m σ H => m = xs.length - i /\ i <= xs.length /\ Pv i σ H, ⟨xs.length, by simp, Nat.zero_le _, h0⟩, ?_⟩
 rintro i m σ H ⟨rfl, hi, p⟩
 have q := hl i σ H hi p
 by_cases hlt : i < xs.length
 · refine .inr ⟨⟨xs, xs[i], q, by simp [hlt]⟩, Pv (i + 1), fun σ' H' p' => ⟨xs.length - (i + 1), by omega, rfl, hlt, p'⟩, fun x H' y => ?_⟩
   obtain ⟨e, y⟩ := y
   subst e
   exact hs i x σ _ (y xs q) p
 · have e : i = xs.length := by omega
   subst e
   exact .inl ⟨⟨xs, q, Nat.le_refl _⟩, hd σ H p⟩
theorem for_range {lo : Int} {n : Nat} {g : TG} {tb : TS} {D : Ends} {σ : St} {H : Hp} (Pv : Nat -> St -> Hp -> Prop) (h0 : Pv 0 σ H)
  (hs : ∀ i σ H, i < n -> Pv i σ H -> g (.int (lo + i)) σ H fun σ2 H2 => tb { D with nx := Pv (i + 1), ct := Pv (i + 1), bk := D.nx } σ2 H2) (hd : ∀ σ H, Pv n σ H -> D.nx σ H) :
  ∃ W : Nat -> Nat -> St -> Hp -> Prop, (∃ m, W 0 m σ H) /\ ∀ i m σ H, W i m σ H ->
   ((Itr lo n).stop i H /\ D.nx σ H) \/ ((Itr lo n).go i H /\ ∃ N : St -> Hp -> Prop, (∀ σ' H', N σ' H' -> ∃ m', m' < m /\ W (i + 1) m' σ' H') /\ ∀ x H', (Itr lo n).yld i H x H' -> g x σ H' fun σ2 H2 => tb { D with nx := N, ct := N, bk := D.nx } σ2 H2) := by
 refine ⟨fun i m σ H => m = n - i /\ i <= n /\ Pv i σ H, ⟨n, by simp, Nat.zero_le _, h0⟩, ?_⟩
 rintro i m σ H ⟨rfl, hi, p⟩
 by_cases hlt : i < n
 · refine .inr ⟨hlt, Pv (i + 1), fun σ' H' p' => ⟨n - (i + 1), by omega, rfl, hlt, p'⟩, fun x H' y => ?_⟩
   obtain ⟨e, y⟩ := y
   subst e y
   exact hs i σ _ hlt p
 · have e : i = n := by omega
   subst e
   exact .inl ⟨Nat.le_refl _, hd σ H p⟩
end L2
namespace L2
open PySem PySem.Spec PyProof.Rows
abbrev R2 := V -> V -> Hp -> VK -> Prop
def OpR (X : Cx) (f : Value -> Value -> Sem Value) (r : R2) : Prop :=
 ∀ (pins : List (Addr × Obj)) (s : Shared) (σ : St) (H : Hp) (x y : V) (v u : Value) (Q : VK), Inv X pins σ H s -> RelV x v -> RelV y u -> r x y H Q ->
  wpAny (model X.prog X.w) X.A (f v u) (EP X pins σ Q) X.xe s
def UnR (X : Cx) (f : Value -> Sem Value) (r : V -> Hp -> VK -> Prop) : Prop :=
 ∀ (pins : List (Addr × Obj)) (s : Shared) (σ : St) (H : Hp) (x : V) (v : Value) (Q : VK), Inv X pins σ H s -> RelV x v -> r x H Q ->
  wpAny (model X.prog X.w) X.A (f v) (EP X pins σ Q) X.xe s
def CallR (X : Cx) (f : Value) (r : List V -> Hp -> VK -> Prop) : Prop :=
 ∀ (pins : List (Addr × Obj)) (s : Shared) (σ : St) (H : Hp) (xs : List V) (us : List Value) (Q : VK), Inv X pins σ H s -> Vals xs us -> r xs H Q ->
  wpAny (model X.prog X.w) X.A (call f us) (EP X pins σ Q) X.xe s
def tOp (r : R2) (ta tb : TE) : TE := fun σ H Q => ta σ H fun x H1 => tb σ H1 fun y H2 => r x y H2 Q
def tUn (r : V -> Hp -> VK -> Prop) (ta : TE) : TE := fun σ H Q => ta σ H fun x H1 => r x H1 Q
def rI (C : Int -> Int -> Prop) (g : Int -> Int -> V) : R2 := fun x y H Q => ∃ i j, x = .int i /\ y = .int j /\ C i j /\ Q (g i j) H
def rI0 (g : Int -> Int -> V) : R2 := fun x y H Q => ∃ i j, x = .int i /\ y = .int j /\ Q (g i j) H
def rU (g : Int -> V) : V -> Hp -> VK -> Prop := fun x H Q => ∃ i, x = .int i /\ Q (g i) H
section
variable {X : Cx} {a b c : Expr} {ta tb tc : TE} {pos : Pos}
theorem binT (ha : PE X a ta) (hb : PE X b tb) {pins : List (Addr × Obj)} {s : Shared} {σ : St} {H : Hp} {R : V -> V -> Hp -> Prop} (I : Inv X pins σ H s)
  (h : ta σ H fun x H1 => tb σ H1 fun y H2 => R x y H2) {Q : Value -> Shared -> Prop} {f : Value -> Value -> Sem Value}
  (hf : ∀ v u s2 x y H2, Inv X pins σ H2 s2 -> RelV x v -> RelV y u -> R x y H2 -> wpAny (model X.prog X.w) X.A (f v u) Q X.xe s2) :
  wpAny (model X.prog X.w) X.A (eval a X.env) (fun v s₁ => wpAny (model X.prog X.w) X.A (eval b X.env) (fun u s₂ => wpAny (model X.prog X.w) X.A (f v u) Q X.xe s₂) X.xe s₁) X.xe s := by
 refine thn (ha pins s σ H _ I h) fun v s1 ⟨x, H1, I1, r1, q1⟩ => ?_
 refine thn (hb pins s1 σ H1 _ I1 q1) fun u s2 ⟨y, H2, I2, r2, q2⟩ => ?_
 exact hf v u s2 x y H2 I2 r1 r2 q2
theorem pe_op {op : Operator} {r : R2} (ho : OpR X (binaryOp op) r) (ha : PE X a ta) (hb : PE X b tb) : PE X (.BinOp a op b pos) (tOp r ta tb) := by
 intro pins s σ H Q I h
 exact wpAny_BinOp (binT ha hb I h fun v u s2 x y H2 I2 rx ry q => ho pins s2 σ H2 x y v u Q I2 rx ry q)
theorem pe_un {op : UnaryOp} {r : V -> Hp -> VK -> Prop} (ho : UnR X (unaryOp op) r) (ha : PE X a ta) : PE X (.UnaryOp op a pos) (tUn r ta) := by
 intro pins s σ H Q I h
 exact UnaryOp_ (thn (ha pins s σ H _ I h) fun v s1 ⟨x, H1, I1, r1, q1⟩ => ho pins s1 σ H1 x v Q I1 r1 q1)
theorem opI {f : Value -> Value -> Sem Value} {C : Int -> Int -> Prop} {g : Int -> Int -> Int}
  (rule : ∀ (i j : Int) (t u : Tok) (s : Shared) (Q : Value -> Shared -> Prop) (E : Value -> Shared -> Prop), C i j -> Q (.int (g i j) s.toks) { s with toks := s.toks + 1 } -> wpAny (model X.prog X.w) X.A (f (.int i t) (.int j u)) Q E s) :
  OpR X f (rI C fun i j => .int (g i j)) := by
 intro pins s σ H x y v u Q I rx ry h
 obtain ⟨i, j, rfl, rfl, hc, q⟩ := h
 obtain ⟨t, rfl⟩ := rx
 obtain ⟨t', rfl⟩ := ry
 exact rule i j t t' s _ _ hc ⟨.int (g i j), H, I.tok _, ⟨_, rfl⟩, q⟩
theorem opI0 {f : Value -> Value -> Sem Value} {g : Int -> Int -> Int}
  (rule : ∀ (i j : Int) (t u : Tok) (s : Shared) (Q : Value -> Shared -> Prop) (E : Value -> Shared -> Prop), Q (.int (g i j) s.toks) { s with toks := s.toks + 1 } -> wpAny (model X.prog X.w) X.A (f (.int i t) (.int j u)) Q E s) :
  OpR X f (rI0 fun i j => .int (g i j)) := by
 intro pins s σ H x y v u Q I rx ry h
 obtain ⟨i, j, rfl, rfl, q⟩ := h
 obtain ⟨t, rfl⟩ := rx
 obtain ⟨t', rfl⟩ := ry
 exact rule i j t t' s _ _ ⟨.int (g i j), H, I.tok _, ⟨_, rfl⟩, q⟩
theorem opB0 {f : Value -> Value -> Sem Value} {g : Int -> Int -> Bool}
  (rule : ∀ (i j : Int) (t u : Tok) (s : Shared) (Q : Value -> Shared -> Prop) (E : Value -> Shared -> Prop), Q (.bool (g i j)) s -> wpAny (model X.prog X.w) X.A (f (.int i t) (.int j u)) Q E s) :
  OpR X f (rI0 fun i j => .bl (g i j)) := by
 intro pins s σ H x y v u Q I rx ry h
 obtain ⟨i, j, rfl, rfl, q⟩ := h
 obtain ⟨t, rfl⟩ := rx
 obtain ⟨t', rfl⟩ := ry
 exact rule i j t t' s _ _ ⟨.bl (g i j), H, I, rfl, q⟩
def CDiv (i j : Int) : Prop := 0 < j /\ j < 1073741824
def CPow (i j : Int) : Prop := 0 <= j /\ j <= 1000000 /\ i.natAbs < 2 ^ 64
def CMul (i j : Int) : Prop := (-(2 ^ 64) < i /\ i < 2 ^ 64) \/ (-(2 ^ 64) < j /\ j < 2 ^ 64)
theorem CMul.ok {i j : Int} (h : CMul i j) : IntMulOk i j := by
 rcases h with ⟨h1, h2⟩ | ⟨h1, h2⟩
 · exact .of_left (intBits_le_64 h1 h2)
 · exact .of_right (intBits_le_64 h1 h2)
theorem op_add : OpR X (binaryOp .Add) (rI0 fun i j => .int (i + j)) := opI0 fun _ _ _ _ _ _ _ q => add_int q
theorem op_sub : OpR X (binaryOp .Sub) (rI0 fun i j => .int (i - j)) := opI0 fun _ _ _ _ _ _ _ q => sub_int q
theorem op_mul : OpR X (binaryOp .Mult) (rI CMul fun i j => .int (i * j)) := opI fun _ _ _ _ _ _ _ hc q => mul_int q hc.ok
theorem op_fdiv : OpR X (binaryOp .FloorDiv) (rI CDiv fun i j => .int (i / j)) := opI fun i j _ _ _ _ _ hc q => by
 have h1 : (0 : Int) < j := hc.1
 have h2 : j < 1073741824 := hc.2
 exact floordiv_int (by omega) (by rw [Int.fdiv_eq_ediv_of_nonneg i (by omega)]; exact q) (.inl (PyProof.noPylong_small (by omega)))
theorem op_mod : OpR X (binaryOp .Mod) (rI (fun _ j => 0 < j) fun i j => .int (i % j)) := opI fun i j _ _ _ _ _ hc q => by
 have h1 : (0 : Int) < j := hc
 exact mod_int' (by omega) (by rw [Int.fmod_eq_emod_of_nonneg i (by omega)]; exact q)
theorem op_pow : OpR X (binaryOp .Pow) (rI CPow fun i j => .int (i ^ j.toNat)) := opI fun _ _ _ _ _ _ _ hc q => pow_int_small hc.1 hc.2.1 hc.2.2 q
theorem unI {f : Value -> Sem Value} {g : Int -> Int}
  (rule : ∀ (i : Int) (t : Tok) (s : Shared) (Q : Value -> Shared -> Prop) (E : Value -> Shared -> Prop), Q (.int (g i) s.toks) { s with toks := s.toks + 1 } -> wpAny (model X.prog X.w) X.A (f (.int i t)) Q E s) :
  UnR X f (rU fun i => .int (g i)) := by
 intro pins s σ H x v Q I rx h
 obtain ⟨i, rfl, q⟩ := h
 obtain ⟨t, rfl⟩ := rx
 exact rule i t s _ _ ⟨.int (g i), H, I.tok _, ⟨_, rfl⟩, q⟩
theorem un_neg : UnR X (unaryOp .USub) (rU fun i => .int (-i)) := unI fun _ _ _ _ _ q => neg_int q
end
def scal : V -> V -> Bool
 | .non, .non => true | .non, .int _ => true | .int _, .non => true | .non, .bl _ => true | .bl _, .non => true | .non, .str _ => true | .str _, .non => true
 | .int _, .int _ => true | .bl _, .bl _ => true | .str _, .str _ => true | .byt _, .byt _ => true
 | .int _, .str _ => true | .str _, .int _ => true | .bl _, .str _ => true | .str _, .bl _ => true
 | _, _ => false
def rEq : R2 := fun x y H Q => scal x y = true /\ Q (.bl (decide (x = y))) H
def rNe : R2 := fun x y H Q => scal x y = true /\ Q (.bl (!decide (x = y))) H
theorem dec_int {i j : Int} : decide (V.int i = V.int j) = (i == j) := by
 rw [Bool.eq_iff_iff]
 simp
theorem dec_bl {i j : Bool} : decide (V.bl i = V.bl j) = (i == j) := by
 rw [Bool.eq_iff_iff]
 simp
theorem dec_str {i j : Str} : decide (V.str i = V.str j) = (i == j) := by
 rw [Bool.eq_iff_iff]
 simp
theorem dec_byt {i j : Array UInt8} : decide (V.byt i = V.byt j) = (i.toList == j.toList) := by
 rw [Bool.eq_iff_iff]
 cases i
 cases j
 simp
section
variable {X : Cx} {a b c : Expr} {ta tb tc : TE} {pos : Pos}
theorem fin_bl {pins : List (Addr × Obj)} {σ : St} {H : Hp} {s : Shared} {Q : VK} {k k' : Bool} (I : Inv X pins σ H s) (q : Q (.bl k) H) (e : k = k') : EP X pins σ Q (.bool k') s := by
 subst e
 exact ⟨.bl k, H, I, rfl, q⟩
theorem op_eq : OpR X (compareOp .Eq) rEq := by
 intro pins s σ H x y v u Q I rx ry h
 obtain ⟨hs, q⟩ := h
 cases x with
 | non =>
  cases rx
  cases y with
  | non => cases ry; exact PySem.EqNone.eq_none_none (fin_bl I q (by simp))
  | bl j => cases ry; exact PySem.EqNone.eq_none_bool (fin_bl I q (by simp))
  | int j => obtain ⟨t', rfl⟩ := ry; exact PySem.EqNone.eq_none_int (fin_bl I q (by simp))
  | str j => obtain ⟨t', rfl⟩ := ry; exact PySem.EqNone.eq_none_str (fin_bl I q (by simp))
  | _ => exact absurd (show false = true from hs) Bool.false_ne_true
 | bl i =>
  cases rx
  cases y with
  | non => cases ry; exact PySem.EqNone.eq_bool_none (fin_bl I q (by simp))
  | bl j => cases ry; exact eq_bool (fin_bl I q dec_bl)
  | str j => obtain ⟨t', rfl⟩ := ry; exact PySem.EqMixed.eq_bool_str (fin_bl I q (by simp))
  | _ => exact absurd (show false = true from hs) Bool.false_ne_true
 | int i =>
  obtain ⟨t, rfl⟩ := rx
  cases y with
  | non => cases ry; exact PySem.EqNone.eq_int_none (fin_bl I q (by simp))
  | int j => obtain ⟨t', rfl⟩ := ry; exact eq_int (fin_bl I q dec_int)
  | str j => obtain ⟨t', rfl⟩ := ry; exact PySem.EqMixed.eq_int_str (fin_bl I q (by simp))
  | _ => exact absurd (show false = true from hs) Bool.false_ne_true
 | str i =>
  obtain ⟨t, rfl⟩ := rx
  cases y with
  | non => cases ry; exact PySem.EqNone.eq_str_none (fin_bl I q (by simp))
  | bl j => cases ry; exact PySem.EqMixed.eq_str_bool (fin_bl I q (by simp))
  | int j => obtain ⟨t', rfl⟩ := ry; exact PySem.EqMixed.eq_str_int (fin_bl I q (by simp))
  | str j => obtain ⟨t', rfl⟩ := ry; exact eq_str (fin_bl I q dec_str)
  | _ => exact absurd (show false = true from hs) Bool.false_ne_true
 | byt i =>
  obtain ⟨t, rfl⟩ := rx
  cases y with
  | byt j => obtain ⟨t', rfl⟩ := ry; exact PySem.W.eq_bytes (fin_bl I q dec_byt)
  | _ => exact absurd (show false = true from hs) Bool.false_ne_true
 | _ => cases y <;> exact absurd (show false = true from hs) Bool.false_ne_true
theorem op_ne : OpR X (compareOp .NotEq) rNe := by
 intro pins s σ H x y v u Q I rx ry h
 obtain ⟨hs, q⟩ := h
 cases x with
 | non =>
  cases rx
  cases y with
  | non => cases ry; exact PySem.EqNone.ne_none_none (fin_bl I q (by simp))
  | bl j => cases ry; exact PySem.EqNone.ne_none_bool (fin_bl I q (by simp))
  | int j => obtain ⟨t', rfl⟩ := ry; exact PySem.EqNone.ne_none_int (fin_bl I q (by simp))
  | str j => obtain ⟨t', rfl⟩ := ry; exact PySem.EqNone.ne_none_str (fin_bl I q (by simp))
  | _ => exact absurd (show false = true from hs) Bool.false_ne_true
 | bl i =>
  cases rx
  cases y with
  | non => cases ry; exact PySem.EqNone.ne_bool_none (fin_bl I q (by simp))
  | bl j => cases ry; exact ne_bool (fin_bl I q (congrArg not dec_bl))
  | str j => obtain ⟨t', rfl⟩ := ry; exact PySem.EqMixed.ne_bool_str (fin_bl I q (by simp))
  | _ => exact absurd (show false = true from hs) Bool.false_ne_true
 | int i =>
  obtain ⟨t, rfl⟩ := rx
  cases y with
  | non => cases ry; exact PySem.EqNone.ne_int_none (fin_bl I q (by simp))
  | int j => obtain ⟨t', rfl⟩ := ry; exact ne_int (fin_bl I q (congrArg not dec_int))
  | str j => obtain ⟨t', rfl⟩ := ry; exact PySem.EqMixed.ne_int_str (fin_bl I q (by simp))
  | _ => exact absurd (show false = true from hs) Bool.false_ne_true
 | str i =>
  obtain ⟨t, rfl⟩ := rx
  cases y with
  | non => cases ry; exact PySem.EqNone.ne_str_none (fin_bl I q (by simp))
  | bl j => cases ry; exact PySem.EqMixed.ne_str_bool (fin_bl I q (by simp))
  | int j => obtain ⟨t', rfl⟩ := ry; exact PySem.EqMixed.ne_str_int (fin_bl I q (by simp))
  | str j => obtain ⟨t', rfl⟩ := ry; exact ne_str (fin_bl I q (congrArg not dec_str))
  | _ => exact absurd (show false = true from hs) Bool.false_ne_true
 | byt i =>
  obtain ⟨t, rfl⟩ := rx
  cases y with
  | byt j => obtain ⟨t', rfl⟩ := ry; exact PySem.W.ne_bytes (fin_bl I q (congrArg not dec_byt))
  | _ => exact absurd (show false = true from hs) Bool.false_ne_true
 | _ => cases y <;> exact absurd (show false = true from hs) Bool.false_ne_true
theorem op_lt : OpR X (compareOp .Lt) (rI0 fun i j => .bl (decide (i < j))) := opB0 fun _ _ _ _ _ _ _ q => lt_int q
theorem op_le : OpR X (compareOp .LtE) (rI0 fun i j => .bl (decide (i <= j))) := opB0 fun _ _ _ _ _ _ _ q => le_int q
theorem op_gt : OpR X (compareOp .Gt) (rI0 fun i j => .bl (decide (j < i))) := opB0 fun _ _ _ _ _ _ _ q => gt_int q
theorem op_ge : OpR X (compareOp .GtE) (rI0 fun i j => .bl (decide (j <= i))) := opB0 fun _ _ _ _ _ _ _ q => ge_int q
theorem op_isN : OpR X (compareOp .Is) (fun x y H Q => y = .non /\ Q (.bl (decide (x = .non))) H) := by
 intro pins s σ H x y v u Q I rx ry h
 obtain ⟨rfl, q⟩ := h
 cases ry
 refine is_none_gen (fin_bl I q ?_)
 cases x <;> first
  | (cases rx; rfl)
  | (obtain ⟨t, rfl⟩ := rx; rfl)
theorem op_notN : OpR X (compareOp .IsNot) (fun x y H Q => y = .non /\ Q (.bl (!decide (x = .non))) H) := by
 intro pins s σ H x y v u Q I rx ry h
 obtain ⟨rfl, q⟩ := h
 cases ry
 refine isnot_none_gen (fin_bl I q ?_)
 cases x <;> first
  | (cases rx; rfl)
  | (obtain ⟨t, rfl⟩ := rx; rfl)
theorem OpR.or {f : Value -> Value -> Sem Value} {r r' : R2} (h : OpR X f r) (h' : OpR X f r') : OpR X f (fun x y H Q => r x y H Q \/ r' x y H Q) := by
 intro pins s σ H x y v u Q I rx ry q
 rcases q with q | q
 · exact h pins s σ H x y v u Q I rx ry q
 · exact h' pins s σ H x y v u Q I rx ry q
theorem nomark (b : Expr) {op : CmpOp} (h : op ≠ .In := by decide) (h2 : op ≠ .NotIn := by decide) : behindInMarks op b = false := by
 have e1 : (op == CmpOp.In) = false := by cases op <;> first | rfl | exact absurd rfl h
 have e2 : (op == CmpOp.NotIn) = false := by cases op <;> first | rfl | exact absurd rfl h2
 cases b <;> simp [behindInMarks, e1, e2]
theorem pe_cmpR {op : CmpOp} {r : R2} (ho : OpR X (compareOp op) r) (ha : PE X a ta) (hb : PE X b tb) (hm : behindInMarks op b = false) : PE X (.Compare a [op] [b] pos) (tOp r ta tb) := by
 intro pins s σ H Q I h
 exact wpAny_Compare1 (binT ha hb I h fun v u s2 x y H2 I2 rx ry q => ho pins s2 σ H2 x y v u Q I2 rx ry q) hm
def tTest (t : TE) : TT := fun σ H Q => t σ H fun x H' => ∃ k, x = .bl k /\ Q k H'
theorem pt_cmpR {op : CmpOp} {r : R2} (ho : OpR X (compareOp op) r) (ha : PE X a ta) (hb : PE X b tb) (hm : behindInMarks op b = false) : PT X (.Compare a [op] [b] pos) (tTest (tOp r ta tb)) := by
 intro pins s σ H Q I h
 refine wpAny_isTrue_Compare1 (thn (ha pins s σ H _ I h) fun v s1 ⟨x, H1, I1, r1, q1⟩ => thn (hb pins s1 σ H1 _ I1 q1) fun u s2 ⟨y, H2, I2, r2, q2⟩ =>
  thn (ho pins s2 σ H2 x y v u _ I2 r1 r2 q2) fun c s3 ⟨z, H3, I3, r3, k, e, q3⟩ => ?_) hm
 subst e
 cases r3
 exact wpAny_truthy_bool ⟨H3, I3, q3⟩
def tChain (r r' : R2) (ta tb tc : TE) : TE := fun σ H Q => ta σ H fun x H1 => tb σ H1 fun y H2 => r x y H2 fun z H3 => ∃ k, z = .bl k /\
 (if k = true then tc σ H3 fun w' H4 => r' y w' H4 Q else Q (.bl false) H3)
theorem pt_chain {op op' : CmpOp} {r r' : R2} (ho : OpR X (compareOp op) r) (ho' : OpR X (compareOp op') r') (ha : PE X a ta) (hb : PE X b tb) (hc : PE X c tc)
  (hm : lastMarks [op, op'] [b, c] = false := by with_unfolding_all rfl) : PT X (.Compare a [op, op'] [b, c] pos) (tTest (tChain r r' ta tb tc)) := by
 intro pins s σ H Q I h
 refine isTrue_chain (thn (ha pins s σ H _ I h) fun v s1 ⟨x, H1, I1, r1, q1⟩ => test_link (thn (hb pins s1 σ H1 _ I1 q1) fun u s2 ⟨y, H2, I2, r2, q2⟩ =>
  thn (ho pins s2 σ H2 x y v u _ I2 r1 r2 q2) fun d s3 ⟨z, H3, I3, r3, k, e, q3⟩ => ?_)) hm
 subst e
 cases r3
 refine wpAny_truthy_bool ?_
 cases k with
 | false =>
  obtain ⟨k', e', q'⟩ := q3
  cases e'
  exact ite_ff ⟨H3, I3, q'⟩
 | true =>
  refine ite_tt (test_last (thn (hc pins s3 σ H3 _ I3 q3) fun w' s4 ⟨z', H4, I4, r4, q4⟩ => thn (ho' pins s4 σ H4 y z' u w' _ I4 r2 r4 q4) fun d' s5 ⟨z2, H5, I5, r5, k2, e2, q5⟩ => ?_))
  subst e2
  cases r5
  exact wpAny_truthy_bool ⟨H5, I5, q5⟩
theorem line63 : (sizeLine : Nat) < 2 ^ 63 := by rw [sizeLine_eq]; decide
theorem vals1 {x : V} {us : List Value} (r : Vals [x] us) : ∃ u, us = [u] /\ RelV x u := by
 cases r with
 | cons r1 r2 => cases r2; exact ⟨_, rfl, r1⟩
theorem vals2 {x y : V} {us : List Value} (r : Vals [x, y] us) : ∃ u w', us = [u, w'] /\ RelV x u /\ RelV y w' := by
 cases r with
 | cons r1 r2 =>
  cases r2 with
  | cons r3 r4 => cases r4; exact ⟨_, _, rfl, r1, r3⟩
theorem call_max2 (hc : X.calm = true) : CallR X (.builtin "max") (fun xs H Q => ∃ i j, xs = [.int i, .int j] /\ Q (.int (if j > i then j else i)) H) := by
 intro pins s σ H xs us Q I r h
 obtain ⟨i, j, rfl, q⟩ := h
 obtain ⟨u, w', rfl, ⟨t, rfl⟩, ⟨t', rfl⟩⟩ := vals2 r
 refine max_two_ints (I.ok.hd hc) fun h' tk k => ⟨_, H, I.kept k, ?_, q⟩
 by_cases hj : j > i
 · rw [if_pos hj, if_pos hj]; exact ⟨_, rfl⟩
 · rw [if_neg hj, if_neg hj]; exact ⟨_, rfl⟩
theorem call_min2 (hc : X.calm = true) : CallR X (.builtin "min") (fun xs H Q => ∃ i j, xs = [.int i, .int j] /\ Q (.int (if j < i then j else i)) H) := by
 intro pins s σ H xs us Q I r h
 obtain ⟨i, j, rfl, q⟩ := h
 obtain ⟨u, w', rfl, ⟨t, rfl⟩, ⟨t', rfl⟩⟩ := vals2 r
 refine min_two_ints (I.ok.hd hc) fun h' tk k => ⟨_, H, I.kept k, ?_, q⟩
 by_cases hj : j < i
 · rw [if_pos hj, if_pos hj]; exact ⟨_, rfl⟩
 · rw [if_neg hj, if_neg hj]; exact ⟨_, rfl⟩
end
end L2
namespace L2
open PySem PySem.Spec PyProof.Rows
structure ObjM (h : Heap) (x dx C : Addr) (mA : Str -> Option Value) : Prop where
 obj : h.get? x = some (PySem.W.instObj C dx)
 ns : h.Ns1 dx mA
 ne : dx ≠ x
theorem lookIn_ns {h : Heap} {dx : Addr} {mA : Str -> Option Value} (n : h.Ns1 dx mA) : ∃ od, h.get? dx = some od /\ ∀ name, PySem.W.lookIn name od = some (mA name) := by
 obtain ⟨o, es, ep, ho, hd, hk, _, hm⟩ := n
 refine ⟨o, ho, fun name => ?_⟩
 have e := hm name
 unfold nsFind findBy at e
 rw [← Array.find?_toList] at e
 unfold PySem.W.lookIn
 rw [hd]
 dsimp only
 split
 · rename_i y q
   rw [q] at e
   exact congrArg some e
 · rename_i q
   rw [q] at e
   have a : es.toList.any (·.refKey) = false := by
    rw [List.any_eq_false]
    intro y hy
    obtain ⟨z, t, hkey⟩ := hk y (Array.mem_toList_iff.mp hy)
    simp [DictEntry.refKey, hkey]
   have a' : ¬ es.toList.any (·.refKey) = true := by rw [a]; exact Bool.false_ne_true
   rw [if_neg a']
   exact congrArg some e
theorem ObjM.look {h : Heap} {x dx C : Addr} {mA : Str -> Option Value} (I : ObjM h x dx C mA) : ∃ od, PySem.W.InstAt h x (PySem.W.instObj C dx) C (some od) /\ ∀ name, PySem.W.lookIn name od = some (mA name) :=
 let ⟨od, ho, hl⟩ := lookIn_ns I.ns
 ⟨od, ⟨I.obj, rfl, rfl, ho⟩, hl⟩
section
variable {prog : Program} {w : World} {A : Around} {E : Value -> Shared -> Prop} {s : Shared} {K : PySem.W.Frag} {x dx C f : Addr} {mA : Str -> Option Value} {name : Str} {v : Value}
theorem get_map {expr : Bool} {Q : Value -> Shared -> Prop} (X : K.In s.heap) (I : ObjM s.heap x dx C mA) (hg : PySem.W.plainGet K C name = true) (hh : PySem.W.hasDictIn K C = true)
  (ha : PySem.W.findIn K (.ref C) name = some none) (hv : mA name = some v) (hv' : PySem.W.handedIn v = true) (h : Q v { s with toks := s.toks + 1 }) :
  wpAny (model prog w) A (getAttr (.ref x) name expr) Q E s := by
 obtain ⟨od, J, hl⟩ := I.look
 exact PySem.W.get_value X J (PySem.W.plainGet_of hg).1 (PySem.W.findObj_own hh ha rfl (by rw [hl, hv])) hv' h
theorem get_meth {pl : Sem Bool} {Q : Value × List Value -> Shared -> Prop} (X : K.In s.heap) (I : ObjM s.heap x dx C mA) (hg : PySem.W.plainGet K C name = true)
  (hf : PySem.W.findIn K (.ref C) name = some (some (.ref f))) (ht : PySem.W.isFn K (.ref f) = true) (hv : mA name = none) (h : Q (.ref f, [.ref x]) s) :
  wpAny (model prog w) A (getMethod (.ref x) name pl) Q E s := by
 obtain ⟨od, J, hl⟩ := I.look
 exact PySem.W.method_fn X J (PySem.W.plainGet_of hg).1 (PySem.W.plainGet_of hg).2 hf (beq_iff_eq.mp ht) (by show (PySem.W.lookIn name od).map (·.isSome) = some false; rw [hl, hv]; rfl) h
theorem set_map {ns : List Str} {Q : Unit -> Shared -> Prop} (X : K.In s.heap) (I : ObjM s.heap x dx C mA)
  (hs : PySem.W.findIn K (.ref C) "__setattr__" = some (some (.builtin "object.__setattr__"))) (hp : PySem.W.plainOver K C = true) (ht : PySem.W.takerIn K C name = some none) (hh : PySem.W.hasDictIn K C = true)
  (hw : PySem.Within mA ns) (hsz : ns.length <= sizeLine)
  (h : ∀ h', ObjM h' x dx C (fun y => if y = name then some v else mA y) -> Heap.SameBut dx s.heap h' -> Q () { s with heap := h', toks := s.toks + 2 }) :
  wpAny (model prog w) A (setAttr (.ref x) name v) Q E s := by
 obtain ⟨od, J, hl⟩ := I.look
 refine PySem.W.set_plain X J hs (PySem.W.osa_open (s := { s with toks := s.toks + 1 }) (r := none) X J hp ht fun b => ?_)
 obtain ⟨cd, hc, hd'⟩ := PySem.W.any_some hh
 have hx : s.heap.get? x = some ⟨.ref C, some dx, .plain, #[]⟩ := I.obj
 refine wpAny_bind (wpAny_pure (wpAny_bind (wpAny_bind (wpAny_loadPart hx (wpAny_bind (PySem.W.Looks.here (s := { s with toks := s.toks + 1 }) (PySem.W.looks_clsIn X hc) ?_))))))
 rw [hd']
 refine wpAny_pure (a := some dx) (wpAny_bind (wpAny_pure (wpAny_bind ?_)))
 refine wpAny_nsSet1 (s := { s with toks := s.toks + 1 }) I.ns fun h' hn2 hs2 => ?_
 obtain ⟨oD, esD, epD, hoD, hdD, hcD⟩ := hn2.count (PySem.Within.cons name v hw)
 refine wpAny_bind (wpAny_lookBehind hoD (by rw [hdD]; exact pastItsLine_dict (Nat.le_trans hcD (by rw [List.length_cons]; omega))) ?_)
 exact wpAny_pure (h _ ⟨(hs2.2 _ (Ne.symm I.ne)).trans I.obj, hn2, I.ne⟩ hs2)
theorem make_map {R : Result -> Shared -> Prop} {vs : List Value} {kw : List (Str × Value)} (X : K.In s.heap) (hm : PySem.W.makesIn K C = true)
  (hi : PySem.W.findIn K (.ref C) "__init__" = some (some (.ref f))) (hf : PySem.W.typeIn K (.ref f) = some (.type "function"))
  (h : codeAny (model prog w) (A.under (.builtin "type.__call__" ⟨.ref C :: vs, kw⟩)) (.call (.ref f) ⟨.ref (s.heap.objs.size + 1) :: vs, kw⟩) (PySem.W.InitBack (s.heap.objs.size + 1) R)
   { s with heap := (s.heap.push PySem.W.emptyDict).push (PySem.W.instObj C s.heap.objs.size) }) :
  codeAny (model prog w) A (.call (.ref C) ⟨vs, kw⟩) R s := by
 obtain ⟨hh, g, d, t, os⟩ := s
 exact PySem.W.make_core (PySem.W.makes_of X hm) (PySem.W.looks_findIn X hi) (fun self => PySem.W.bind_fn X self hf) (.inl rfl) h
theorem make_map0 {R : Result -> Shared -> Prop} (X : K.In s.heap) (hm : PySem.W.makesIn K C = true)
  (hi : PySem.W.findIn K (.ref C) "__init__" = some (some (.builtin "object.__init__")))
  (hb : ∀ self, PySem.W.Looks (model prog w) s.heap (bindSpecial (.builtin "object.__init__") self) (.builtin "object.__init__", [self]))
  (h : codeAny (model prog w) (A.under (.builtin "type.__call__" ⟨[.ref C], []⟩)) (.call (.builtin "object.__init__") ⟨[.ref (s.heap.objs.size + 1)], []⟩) (PySem.W.InitBack (s.heap.objs.size + 1) R)
   { s with heap := (s.heap.push PySem.W.emptyDict).push (PySem.W.instObj C s.heap.objs.size) }) :
  codeAny (model prog w) A (.call (.ref C) ⟨[], []⟩) R s := by
 obtain ⟨hh, g, d, t, os⟩ := s
 exact PySem.W.make_core (PySem.W.makes_of X hm) (PySem.W.looks_findIn X hi) hb (.inr ⟨rfl, rfl⟩) h
end
def putF (f : Str) (v : V) : List (Str × V) -> List (Str × V)
 | [] => [(f, v)]
 | (g, x) :: r => if g = f then (g, v) :: r else (g, x) :: putF f v r
theorem lookup_putF (f g : Str) (v : V) : ∀ fs : List (Str × V), (putF f v fs).lookup g = if g = f then some v else fs.lookup g
 | [] => by
  show List.lookup g [(f, v)] = _
  by_cases h : g = f
  · have hb : (g == f) = true := beq_iff_eq.mpr h
    simp only [List.lookup, hb, if_pos h]
  · have hb : (g == f) = false := beq_eq_false_iff_ne.mpr h
    simp only [List.lookup, hb, if_neg h]
 | (k, x) :: r => by
  have ih := lookup_putF f g v r
  rw [show putF f v ((k, x) :: r) = (if k = f then (k, v) :: r else (k, x) :: putF f v r) from rfl]
  by_cases hk : k = f
  · rw [if_pos hk]
    by_cases h : g = k
    · have hb : (g == k) = true := beq_iff_eq.mpr h
      simp only [List.lookup, hb, if_pos (h.trans hk)]
    · have hb : (g == k) = false := beq_eq_false_iff_ne.mpr h
      simp only [List.lookup, hb, if_neg (fun e : g = f => h (e.trans hk.symm))]
  · rw [if_neg hk]
    by_cases h : g = k
    · have hb : (g == k) = true := beq_iff_eq.mpr h
      simp only [List.lookup, hb, if_neg (fun e : g = f => hk (h.symm.trans e))]
    · have hb : (g == k) = false := beq_eq_false_iff_ne.mpr h
      simp only [List.lookup, hb]
      exact ih
theorem keys_putF (f : Str) (v : V) : ∀ fs : List (Str × V), f ∈ (putF f v fs).map (·.1) /\ ∀ g, g ∈ fs.map (·.1) -> g ∈ (putF f v fs).map (·.1)
 | [] => ⟨by simp [putF], fun g h => by simp at h⟩
 | (k, x) :: r => by
  obtain ⟨i1, i2⟩ := keys_putF f v r
  rw [show putF f v ((k, x) :: r) = (if k = f then (k, v) :: r else (k, x) :: putF f v r) from rfl]
  by_cases hk : k = f
  · rw [if_pos hk]
    subst hk
    exact ⟨by simp, fun g h => by simpa using h⟩
  · rw [if_neg hk]
    refine ⟨?_, fun g h => ?_⟩
    · rw [List.map_cons]
      exact List.mem_cons_of_mem _ i1
    · rw [List.map_cons] at h ⊢
      rcases List.mem_cons.mp h with e | e
      · exact List.mem_cons.mpr (.inl e)
      · exact List.mem_cons_of_mem _ (i2 g e)
theorem length_putF (f : Str) (v : V) : ∀ fs : List (Str × V), (putF f v fs).length <= fs.length + 1
 | [] => by simp [putF]
 | (k, x) :: r => by
  have ih := length_putF f v r
  rw [show putF f v ((k, x) :: r) = (if k = f then (k, v) :: r else (k, x) :: putF f v r) from rfl]
  by_cases hk : k = f
  · rw [if_pos hk, List.length_cons, List.length_cons]; omega
  · rw [if_neg hk, List.length_cons, List.length_cons]; omega
theorem RelO.some_of {v : V} {o : Option Value} (r : RelO (some v) o) : ∃ u, o = some u /\ RelV v u := by
 cases o with
 | none => exact (show False from r).elim
 | some u => exact ⟨u, rfl, r⟩
theorem RelO.none_of {o : Option Value} (r : RelO none o) : o = none := by
 cases o with
 | none => rfl
 | some u => exact (show False from r).elim
theorem handed_of {v : V} {u : Value} (r : RelV v u) : PySem.W.handedIn u = true := by
 cases v with
 | non => cases (show u = Value.none from r); rfl
 | bl b => cases (show u = Value.bool b from r); rfl
 | int i => obtain ⟨t, e⟩ := (show ∃ t, u = Value.int i t from r); cases e; rfl
 | str x => obtain ⟨t, e⟩ := (show ∃ t, u = Value.str x t from r); cases e; rfl
 | byt b => obtain ⟨t, e⟩ := (show ∃ t, u = Value.bytes b t from r); cases e; rfl
 | flt b => obtain ⟨t, e⟩ := (show ∃ t, u = Value.float b t from r); cases e; rfl
 | ref a => cases (show u = Value.ref a from r); rfl
 | ty n => cases (show u = Value.type n from r); rfl
section
variable {P : Program} {w : World} {H H' : Hp} {h h' : Heap} {a C dx : Addr} {fs fs' : List (Str × V)}
theorem ins_get (hok : HOk P w H h) (e : H a = some (.ins C dx fs)) : ∃ mA, ObjM h a dx C mA /\ (∀ f, RelO (fs.lookup f) (mA f)) /\ PySem.Within mA (fs.map (·.1)) /\ fs.length <= 1000 /\ H dx = some (.own a) := by
 obtain ⟨d, z, ne, ob, mA, n, r, q⟩ := (show ObjOk P w H h a (.ins C dx fs) from hok a _ e)
 exact ⟨mA, ⟨ob, n, ne⟩, r, q, z, d⟩
end
structure Cls (K : PySem.W.Frag) (C : Addr) : Prop where
 pg : PySem.W.plainGet K C Str.empty = true
 hd : PySem.W.hasDictIn K C = true
 po : PySem.W.plainOver K C = true
 sa : PySem.W.findIn K (.ref C) "__setattr__" = some (some (.builtin "object.__setattr__"))
theorem Cls.get {K : PySem.W.Frag} {C : Addr} (c : Cls K C) (f : Str) : PySem.W.plainGet K C f = true := c.pg
def NoAttr (K : PySem.W.Frag) (C : Addr) (f : Str) : Prop := PySem.W.findIn K (.ref C) f = some none
theorem NoAttr.taker {K : PySem.W.Frag} {C : Addr} {f : Str} (n : NoAttr K C f) : PySem.W.takerIn K C f = some none := by
 unfold PySem.W.takerIn
 rw [show PySem.W.findIn K (.ref C) f = some none from n]
 rfl
structure Meth (K : PySem.W.Frag) (C : Addr) (m : Str) (f : Addr) : Prop where
 at_ : PySem.W.findIn K (.ref C) m = some (some (.ref f))
 fn : PySem.W.isFn K (.ref f) = true
 kp : PySem.W.keepIn K (.ref f) = true
section
variable {X : Cx} {pins : List (Addr × Obj)} {σ : St} {H : Hp} {s : Shared} {a C dx : Addr} {fs : List (Str × V)} {f : Str} {v : V} {A : Around} {E : Value -> Shared -> Prop}
theorem getattr_ok {b : Bool} {Q : Value -> Shared -> Prop} (I : Inv X pins σ H s) (e : H a = some (.ins C dx fs)) (c : Cls X.K C) (n : NoAttr X.K C f) (l : fs.lookup f = some v)
  (h : ∀ u s', Inv X pins σ H s' -> RelV v u -> Q u s') : wpAny (model X.prog X.w) A (getAttr (.ref a) f b) Q E s := by
 obtain ⟨mA, O, r, _, _, _⟩ := ins_get I.hok e
 obtain ⟨u, hu, ru⟩ := RelO.some_of (v := v) (o := mA f) (by rw [← l]; exact r f)
 exact get_map I.kIn O (c.get f) c.hd n hu (handed_of ru) (h u _ (I.tok _) ru)
theorem getmeth_ok {m : Str} {g : Addr} {pl : Sem Bool} {Q : Value × List Value -> Shared -> Prop} (I : Inv X pins σ H s) (e : H a = some (.ins C dx fs)) (c : Cls X.K C) (k : Meth X.K C m g) (l : fs.lookup m = none)
  (h : Q (.ref g, [.ref a]) s) : wpAny (model X.prog X.w) A (getMethod (.ref a) m pl) Q E s := by
 obtain ⟨mA, O, r, _, _, _⟩ := ins_get I.hok e
 have hn : mA m = none := RelO.none_of (by rw [← l]; exact r m)
 exact get_meth I.kIn O (c.get m) k.at_ k.fn hn h
theorem setattr_ok {y : V} {u : Value} {Q : Unit -> Shared -> Prop} (I : Inv X pins σ H s) (e : H a = some (.ins C dx fs)) (c : Cls X.K C) (n : NoAttr X.K C f) (hl : fs.length < 1000) (ry : RelV y u)
  (h : ∀ s', Inv X pins σ (upd H a (.ins C dx (putF f y fs))) s' -> Q () s') : wpAny (model X.prog X.w) A (setAttr (.ref a) f u) Q E s := by
 obtain ⟨mA, O, r, wi, _, ho⟩ := ins_get I.hok e
 have hz : (fs.map (·.1)).length <= sizeLine := by rw [List.length_map, sizeLine_eq]; omega
 refine set_map I.kIn O c.sa c.po n.taker c.hd wi hz fun h' O' sb => h _ ?_
 have hd : ∃ o, h'.get? dx = some o := let ⟨o, _, _, e', _⟩ := O'.ns; ⟨o, e'⟩
 refine I.write (x := a) (e := dx) (by rw [e]; exact True.intro) (.inr ho) (fun b q hb z => (sb.2 b hb).trans z) hd ?_
 refine ⟨by rw [upd_ne O.ne]; exact ho, ?_, O.ne, O'.obj, _, O'.ns, fun g => ?_, fun g hg => ?_⟩
 · have := length_putF f y fs; omega
 · show RelO ((putF f y fs).lookup g) (if g = f then some u else mA g)
   rw [lookup_putF]
   by_cases q : g = f
   · rw [if_pos q, if_pos q]; exact ry
   · rw [if_neg q, if_neg q]; exact r g
 · by_cases q : g = f
   · rw [q]; exact (keys_putF f y fs).1
   · refine (keys_putF f y fs).2 g (wi g fun z => hg ?_)
     show (if g = f then some u else mA g) = none
     rw [if_neg q]; exact z
theorem Inv.made (I : Inv X pins σ H s) : Inv X pins σ (upd (upd H s.heap.objs.size (.own (s.heap.objs.size + 1))) (s.heap.objs.size + 1) (.ins C s.heap.objs.size []))
  { s with heap := (s.heap.push PySem.W.emptyDict).push (PySem.W.instObj C s.heap.objs.size) } := by
 have e1 : (s.heap.push PySem.W.emptyDict).get? s.heap.objs.size = some PySem.W.emptyDict := Heap.get?_push_size s.heap rfl
 have e2 : ((s.heap.push PySem.W.emptyDict).push (PySem.W.instObj C s.heap.objs.size)).get? (s.heap.objs.size + 1) = some (PySem.W.instObj C s.heap.objs.size) := by
  have := Heap.get?_push_size (s.heap.push PySem.W.emptyDict) (o := PySem.W.instObj C s.heap.objs.size) rfl
  rwa [Heap.size_push] at this
 have e3 : (s.heap.push PySem.W.emptyDict).Ns s.heap.objs.size (fun _ => none) := ⟨PySem.W.emptyDict, #[], _, e1, rfl, (fun e he => absurd he (by simp)), fun _ => rfl⟩
 have I1 := I.laid (a := s.heap.objs.size) (o := .own (s.heap.objs.size + 1)) (h' := s.heap.push PySem.W.emptyDict) (t' := s.toks) (fun b u q => Heap.get?_push_of_some _ q) (Nat.le_refl _) ⟨_, e1⟩
 refine I1.laid (a := s.heap.objs.size + 1) (o := .ins C s.heap.objs.size []) (t' := s.toks) (fun b u q => Heap.get?_push_of_some _ q) (Nat.le_of_eq (Heap.size_push _ _)) ?_
 have ne : s.heap.objs.size ≠ s.heap.objs.size + 1 := Nat.ne_of_lt (Nat.lt_succ_self _)
 refine ⟨by rw [upd_ne ne, upd_same], Nat.zero_le _, ne, e2, fun _ => none, (Heap.Ns1.of_empty e3).at fun o q => Heap.get?_push_of_some _ q, fun _ => True.intro, fun y hy => absurd rfl hy⟩
theorem attr_of {prog : Program} {w : World} {env : Env} {e : Expr} {f : Str} {pos : Pos} {s : Shared} {Q : Value -> Shared -> Prop} (hb : attributeBase e f env (eval e env) = eval e env)
  (h : wpAny (model prog w) A (eval e env) (fun o s₁ => wpAny (model prog w) A (getAttr o f true) Q E s₁) E s) : wpAny (model prog w) A (eval (.Attribute e f pos) env) Q E s :=
 Attribute_any_ h (by rw [arm_eval_Attribute, hb])
end
def tFld (K : PySem.W.Frag) (ta : TE) (f : Str) : TE := fun σ H Q => ta σ H fun x H1 => ∃ a C dx fs v, x = .ref a /\ H1 a = some (.ins C dx fs) /\ Cls K C /\ NoAttr K C f /\ fs.lookup f = some v /\ Q v H1
def sFld (K : PySem.W.Frag) (ta tv : TE) (f : Str) : TS := fun D σ H => tv σ H fun y H1 => ta σ H1 fun x H2 => ∃ a C dx fs, x = .ref a /\ H2 a = some (.ins C dx fs) /\ Cls K C /\ NoAttr K C f /\ fs.length < 1000 /\
 D.nx σ (upd H2 a (.ins C dx (putF f y fs)))
section
variable {X : Cx} {o e value : Expr} {f : Str} {pos pos' tpos : Pos} {ta tv : TE}
theorem pe_fld (he : PE X e ta) (hb : attributeBase e f X.env (eval e X.env) = eval e X.env) : PE X (.Attribute e f pos) (tFld X.K ta f) := by
 intro pins s σ H Q I h
 refine attr_of hb (thn (he pins s σ H _ I h) fun u s1 ⟨x, H1, I1, rx, a, C, dx, fs, v, ex, ea, c, n, l, q⟩ => ?_)
 subst ex
 obtain rfl : u = Value.ref a := rx
 exact getattr_ok I1 ea c n l fun u' s2 I2 ru => ⟨v, H1, I2, ru, q⟩
theorem ps_fld (ha : PE X o ta) (hv : PE X value tv) (hs : swapsWith value (some (.Attribute o f pos')) pos.line X.env = pure false) : PS X (.Assign [.Attribute o f pos'] value pos) (sFld X.K ta tv f) := by
 intro pins s σ H D I h
 refine plainObj_wpAny_Assign_Attribute (thn (hv pins s σ H _ I h) fun u s1 ⟨y, H1, I1, ry, q⟩ => thn (ha pins s1 σ H1 _ I1 q) fun ov s2 ⟨x, H2, I2, rx, a, C, dx, fs, ex, ea, c, n, l, q2⟩ => ?_) hs
 subst ex
 obtain rfl : ov = Value.ref a := rx
 exact setattr_ok I2 ea c n l ry fun s3 I3 => ⟨σ, _, I3, q2⟩
end
section
variable {X : Cx} {pins : List (Addr × Obj)} {σ : St} {H : Hp} {s : Shared} {A : Around} {E : Value -> Shared -> Prop} {Q : Value -> Shared -> Prop} {c : Value} {b : Bool}
inductive TyOf (K : PySem.W.Frag) (H : Hp) : V -> Value -> Prop where
 | non : TyOf K H .non (.type "NoneType")
 | bl (x : Bool) : TyOf K H (.bl x) (.type "bool")
 | int (i : Int) : TyOf K H (.int i) (.type "int")
 | str (x : Str) : TyOf K H (.str x) (.type "str")
 | flt (x : UInt64) : TyOf K H (.flt x) (.type "float")
 | lst {a : Addr} {xs : List V} (e : H a = some (.lst xs)) : TyOf K H (.ref a) (.type "list")
 | frz {a : Addr} {o : Obj} {xs : List V} (e : H a = some (.frz o (.lst xs))) : TyOf K H (.ref a) (.type "list")
 | tup {a : Addr} {xs : List V} (e : H a = some (.tup xs)) : TyOf K H (.ref a) (.type "tuple")
 | dK {a : Addr} {kvs : List (Key × V)} (e : H a = some (.dK kvs)) : TyOf K H (.ref a) (.type "dict")
 | dT {a : Addr} {kvs : List (List Key × V)} (e : H a = some (.dT kvs)) : TyOf K H (.ref a) (.type "dict")
 | ins {a C dx : Addr} {fs : List (Str × V)} (e : H a = some (.ins C dx fs)) (cl : Cls K C) (ha : PySem.W.findIn K (.ref C) "__class__" = some (some (.builtin "object.__class__")))
   (hn : PySem.W.specialIn K (.builtin "object.__class__") "__get__" = some (some (.builtin "getset_descriptor.__get__"))) (htk : PySem.W.takesIn K (.builtin "object.__class__") = some true)
   (hm : PySem.W.mroIn K C (.type "object") = some true) : TyOf K H (.ref a) (.ref C)
theorem isinst_ok {x : V} {u t : Value} (I : Inv X pins σ H s) (rx : RelV x u) (ty : TyOf X.K H x t) (e : PySem.W.kitOne X.K t c = some b) (h : ∀ tk, Q (.bool b) { s with toks := tk }) :
  wpAny (model X.prog X.w) A (call (.builtin "isinstance") [u, c]) Q E s := by
 cases ty with
 | non => cases (show u = Value.none from rx); exact PySem.W.kia_one PySem.W.kitx_none I.kIn True.intro e (fun z => nomatch z) h
 | bl y => cases (show u = Value.bool y from rx); exact PySem.W.kia_one PySem.W.kitx_bool I.kIn True.intro e (fun z => nomatch z) h
 | int i => obtain ⟨t, q⟩ := (show ∃ t, u = Value.int i t from rx); cases q; exact PySem.W.kia_one PySem.W.kitx_int I.kIn True.intro e (fun z => nomatch z) h
 | str y => obtain ⟨t, q⟩ := (show ∃ t, u = Value.str y t from rx); cases q; exact PySem.W.kia_one PySem.W.kitx_str I.kIn True.intro e (fun z => nomatch z) h
 | flt y => obtain ⟨t, q⟩ := (show ∃ t, u = Value.float y t from rx); cases q; exact PySem.W.kia_one PySem.W.kitx_float I.kIn True.intro e (fun z => nomatch z) h
 | @lst a xs ea =>
  cases (show u = Value.ref a from rx)
  obtain ⟨_, _, n, _, h1⟩ := (show ObjOk X.prog X.w H s.heap a (.lst xs) from I.hok a _ ea)
  exact PySem.W.kia_one PySem.W.kitx_list I.kIn ⟨_, h1, rfl⟩ e (fun z => nomatch z) h
 | @frz a ob xs ea =>
  cases (show u = Value.ref a from rx)
  obtain ⟨_, _, _, n, _, h1⟩ := (show ObjOk X.prog X.w H s.heap a (.frz ob (.lst xs)) from I.hok a _ ea)
  exact PySem.W.kia_one PySem.W.kitx_list I.kIn ⟨_, h1, rfl⟩ e (fun z => nomatch z) h
 | @tup a xs ea =>
  cases (show u = Value.ref a from rx)
  obtain ⟨_, _, _, p⟩ := (show ObjOk X.prog X.w H s.heap a (.tup xs) from I.hok a _ ea)
  obtain ⟨o, h1, h2, _⟩ := p
  exact PySem.W.kia_one PySem.W.kitx_tuple I.kIn ⟨o, h1, h2⟩ e (fun z => nomatch z) h
 | @dK a kvs ea =>
  cases (show u = Value.ref a from rx)
  obtain ⟨_, _, vs, _, p⟩ := (show ObjOk X.prog X.w H s.heap a (.dK kvs) from I.hok a _ ea)
  obtain ⟨o, es, ep, h1, h2, _⟩ := p
  exact PySem.W.kia_one PySem.W.kitx_dict I.kIn ⟨o, h1, h2.1⟩ e (fun z => nomatch z) h
 | @dT a kvs ea =>
  cases (show u = Value.ref a from rx)
  obtain ⟨_, _, xs, _, o, es, ep, h1, h2, _⟩ := (show ObjOk X.prog X.w H s.heap a (.dT kvs) from I.hok a _ ea)
  exact PySem.W.kia_one PySem.W.kitx_dict I.kIn ⟨o, h1, h2.1⟩ e (fun z => nomatch z) h
 | @ins a C dx fs ea cl ha hn htk hm =>
  cases (show u = Value.ref a from rx)
  obtain ⟨mA, O, _⟩ := ins_get I.hok ea
  obtain ⟨od, J, _⟩ := O.look
  exact PySem.W.kia_one (PySem.W.kitx_own (cl.get _) cl.hd ha hn htk hm) I.kIn J e (fun z => nomatch z) h
end
end L2
namespace L2
open PySem PySem.Spec PyProof.Rows
structure Room (k : Nat) (A : Around) : Prop where
 hd : A.handled = none
 dp : A.depth + 3 * k + 5 < recursionLimit
 un : A.units + 16 * k + 200 < cLine
theorem Room.mono {j k : Nat} {A : Around} (r : Room k A) (h : j <= k) : Room j A := ⟨r.hd, by have := r.dp; omega, by have := r.un; omega⟩
theorem Room.deeper {k : Nat} {A : Around} (r : Room (k + 1) A) (env : Env) : Room k (A.deeper env) :=
 ⟨r.hd, by have := r.dp; show A.depth + 1 + 3 * k + 5 < _; omega, by have := r.un; show A.units + 3 + 16 * k + 200 < _; omega⟩
theorem make_depth {A : Around} {C : Addr} {us : List Value} {kw : List (Str × Value)} : (A.under (.builtin "type.__call__" ⟨.ref C :: us, kw⟩)).depth = A.depth + 1 := by
 first | rfl | simp [Around.under, Code.weight, Code.isCreation, Code.isGuard, Code.isCaller, Code.frames, Code.isFrame, guardIds]
theorem make_units {A : Around} {C : Addr} {us : List Value} {kw : List (Str × Value)} : (A.under (.builtin "type.__call__" ⟨.ref C :: us, kw⟩)).units = A.units + 1 := by
 first | rfl | simp [Around.under, Code.cUnits, Code.frames, Code.isFrame]
theorem Room.make {k : Nat} {A : Around} (r : Room (k + 1) A) (C : Addr) (us : List Value) (kw : List (Str × Value)) : Room k (A.under (.builtin "type.__call__" ⟨.ref C :: us, kw⟩)) :=
 ⟨r.hd, by have := r.dp; rw [make_depth]; omega, by have := r.un; rw [make_units]; omega⟩
theorem Room.depth {k : Nat} {A : Around} (r : Room k A) : A.depth < recursionLimit := by have := r.dp; omega
theorem Room.units {k : Nat} {A : Around} (r : Room k A) : A.units + 64 < cLine := by have := r.un; omega
def tNil : TA := fun _ H Q => Q [] H
def tCons (ta : TE) (tr : TA) : TA := fun σ H Q => ta σ H fun x H1 => tr σ H1 fun xs H2 => Q (x :: xs) H2
section
variable {X : Cx} {e : Expr} {es : List Expr} {te : TE} {t : TA} {pos : Pos}
theorem pa_nil : PA X [] tNil := fun _ _ _ _ H Q I h => Calls.spliced_nil ⟨[], H, I, .nil, h⟩
theorem pa_cons (ha : PE X e te) (hr : PA X es t) (hs : starEach (e :: es) X.env = (false, eval e X.env) :: starEach es X.env := by rfl) : PA X (e :: es) (tCons te t) := by
 intro pos pins s σ H Q I h
 rw [hs]
 show wpAny _ _ (spliced ((false, eval e X.env) :: backTo pos (starEach es X.env))) _ _ s
 refine Calls.spliced_cons (thn (ha pins s σ H _ I h) fun u s1 ⟨x, H1, I1, r1, q1⟩ => ?_)
 exact thn (hr pos pins s1 σ H1 _ I1 q1) fun us s2 ⟨xs, H2, I2, r2, q2⟩ => ⟨x :: xs, H2, I2, .cons r1 r2, q2⟩
def tTup (t : TA) : TE := fun σ H Q => t σ H fun xs H1 => xs.length <= sizeLine /\ ∀ p, H1 p = none -> Q (.ref p) (upd H1 p (.tup xs))
def tLst (t : TA) : TE := fun σ H Q => t σ H fun xs H1 => xs.length <= sizeLine /\ ∀ p, H1 p = none -> Q (.ref p) (upd H1 p (.lst xs))
theorem pe_tup {x1} (h : PA X es t) : PE X (.Tuple es x1 pos) (tTup t) := by
 intro pins s σ H Q I hq
 refine wpAny_Tuple_spliced (thn (h pos pins s σ H _ I hq) fun us s1 ⟨xs, H1, I1, r, z, q⟩ => ⟨by rw [← r.length]; exact z, ?_⟩)
 have hf : H1 s1.heap.objs.size = none := I1.hok.fresh (Nat.le_refl _)
 refine ⟨.ref s1.heap.objs.size, upd H1 s1.heap.objs.size (.tup xs), I1.laid (t' := s1.toks) (fun b u e => Heap.get?_push_of_some _ e) (Nat.le_refl _) ?_, rfl, q _ hf⟩
 exact ⟨z, us, r, ⟨_, Heap.get?_push_size _ rfl, rfl, _, rfl⟩⟩
theorem pe_lst (h : PA X es t) : PE X (.List es pos) (tLst t) := by
 intro pins s σ H Q I hq
 refine wpAny_List_spliced (thn (h pos pins s σ H _ I hq) fun us s1 ⟨xs, H1, I1, r, z, q⟩ => ⟨by rw [← r.length]; exact z, ?_⟩)
 have hf : H1 s1.heap.objs.size = none := I1.hok.fresh (Nat.le_refl _)
 refine ⟨.ref s1.heap.objs.size, upd H1 s1.heap.objs.size (.lst xs), I1.laid (t' := s1.toks) (fun b u e => Heap.get?_push_of_some _ e) (Nat.le_refl _) ?_, rfl, q _ hf⟩
 exact ⟨z, us, 0, r, Heap.get?_push_size _ rfl⟩
end
abbrev Sp := List V -> Hp -> VK -> XK -> Prop
abbrev CXT := List Env -> Hp -> Shared -> XK -> Value -> Shared -> Prop
structure Env0 (P : Program) (w : World) (K : PySem.W.Frag) (mg : Str -> Option Value) (base : Heap) (A : Around) (outer : List Env) (s : Shared) (H : Hp) : Prop where
 frames : A.frames = some outer
 mod : Mod K mg base
 bs : ∀ b o, base.get? b = some o -> s.heap.get? b = some o /\ H b = none
 bsz : base.objs.size <= s.heap.objs.size
 funs : s.heap.FunFrames base outer
 frf : ∀ b ∈ frs outer, H b = none
 hok : HOk P w H s.heap
 bare : AllBare s.gens
def CE (outer : List Env) (P : Program) (w : World) (H : Hp) (s : Shared) (Q : VK) (u : Value) (s' : Shared) : Prop :=
 ∃ v H', s'.os = s.os /\ AllBare s'.gens /\ Un (frs outer) [] H H' s.heap s'.heap /\ HOk P w H' s'.heap /\ RelV v u /\ Q v H'
def CR (CX : CXT) (outer : List Env) (P : Program) (w : World) (H : Hp) (s : Shared) (Q : VK) (E : XK) (r : Result) (s' : Shared) : Prop :=
 match r with
 | .ok (.ret u) => CE outer P w H s Q u s'
 | .ok _ => False
 | .error e => CX outer H s E e s'
structure FnOk (P : Program) (w : World) (K : PySem.W.Frag) (mg : Str -> Option Value) (base : Heap) (CX : CXT) (k : Nat) (f : Addr) (fd : FuncData) (ps : List Str) (sp : Sp) : Prop where
 len : ∀ vs H Q E, sp vs H Q E -> vs.length = ps.length
 run : ∀ (A : Around) (outer : List Env) (s : Shared) (H : Hp) (args : Args) (us : List Value) (vs : List V) (Q : VK) (E : XK), Room k A -> Env0 P w K mg base A outer s H -> BindsTo s fd args (ps.zip us) -> Vals vs us -> sp vs H Q E ->
  codeAny (model P w) A (.call (.ref f) args) (CR CX outer P w H s Q E) s
theorem FnOk.imp {P : Program} {w : World} {K : PySem.W.Frag} {mg : Str -> Option Value} {base : Heap} {CX : CXT} {k : Nat} {f : Addr} {fd : FuncData} {ps : List Str} {sp sp' : Sp} (F : FnOk P w K mg base CX k f fd ps sp)
  (h : ∀ vs H Q E, sp' vs H Q E -> sp vs H Q E) : FnOk P w K mg base CX k f fd ps sp' :=
 ⟨fun vs H Q E q => F.len vs H Q E (h _ _ _ _ q), fun A outer s H args us vs Q E hr he hb hv hs => F.run A outer s H args us vs Q E hr he hb hv (h _ _ _ _ hs)⟩
theorem Env0.make {P : Program} {w : World} {K : PySem.W.Frag} {mg : Str -> Option Value} {base : Heap} {A : Around} {outer : List Env} {s : Shared} {H : Hp} (e : Env0 P w K mg base A outer s H) (C : Addr) (us : List Value) (kw : List (Str × Value)) :
  Env0 P w K mg base (A.under (.builtin "type.__call__" ⟨.ref C :: us, kw⟩)) outer s H := ⟨by first | exact e.frames | (simpa [Around.under, Code.envs, Code.isFrame, pushEnvs] using e.frames), e.mod, e.bs, e.bsz, e.funs, e.frf, e.hok, e.bare⟩
section
variable {X : Cx} {pins : List (Addr × Obj)} {σ : St} {H : Hp} {s s' : Shared}
theorem Inv.env0 (I : Inv X pins σ H s) : Env0 X.prog X.w X.K X.mg X.base X.A X.stack s H :=
 ⟨I.ok.frames, I.ok.mod, I.bs, Nat.le_trans I.ok.bsz I.sz, I.stack, I.stkFree, I.hok, I.bare⟩
theorem Inv.after {Q : VK} {u : Value} (I : Inv X pins σ H s) (h : CE X.stack X.prog X.w H s Q u s') : EP X pins σ Q u s' := by
 obtain ⟨v, H', os, bare, un, hok, r, q⟩ := h
 obtain ⟨hh, g, d, t, os'⟩ := s'
 obtain rfl : os' = s.os := os
 exact ⟨v, H', I.call (h' := hh) (g' := g) (d' := d) (t' := t) (ch := []) un hok bare (fun b z => absurd z (by simp)), r, q⟩
end
def tCall (sp : Sp) (dvs : List V) (E : XK) (t : TA) : TE := fun σ H Q => t σ H fun vs H1 => sp (vs ++ dvs) H1 Q E
def tMeth (C : Addr) (m : Str) (sp : Sp) (dvs : List V) (E : XK) (ta : TE) (t : TA) : TE := fun σ H Q => ta σ H fun x H1 => ∃ a dx fs, x = .ref a /\ H1 a = some (.ins C dx fs) /\ fs.lookup m = none /\
 t σ H1 fun vs H2 => sp (x :: (vs ++ dvs)) H2 Q E
def tMake (C : Addr) (sp : Sp) (dvs : List V) (E : XK) (t : TA) : TE := fun σ H Q => t σ H fun vs H1 => ∀ x dx, H1 x = none -> H1 dx = none -> dx ≠ x ->
 sp (.ref x :: (vs ++ dvs)) (upd (upd H1 dx (.own x)) x (.ins C dx [])) (fun v H2 => v = .non /\ Q (.ref x) H2) E
def Binds (K : PySem.W.Frag) (fd : FuncData) (ps : List Str) (ds : List Value) : Prop :=
 ∀ (s : Shared) (us : List Value), K.In s.heap -> (us ++ ds).length = ps.length -> BindsTo s fd ⟨us, []⟩ (ps.zip (us ++ ds))
theorem Binds.all {K : PySem.W.Frag} {fd : FuncData} {ps : List Str} (h : ∀ us : List Value, us.length = ps.length -> bindArgs fd ⟨us, []⟩ = pure (ps.zip us)) : Binds K fd ps [] := fun s us _ hl => by
 rw [List.append_nil] at hl ⊢
 exact .of_eq (h us hl)
def Passes (CX : CXT) (X : Cx) (E : XK) : Prop := ∀ (pins : List (Addr × Obj)) (σ : St) (H : Hp) (s : Shared) (e : Value) (s' : Shared), Inv X pins σ H s -> CX X.stack H s E e s' -> X.xe e s'
section
variable {X : Cx} {CX : CXT} {k : Nat} {f C : Addr} {fd : FuncData} {ps : List Str} {sp : Sp} {dvs : List V} {ds : List Value} {E : XK} {x m : Str} {p pos apos : Pos} {e o : Expr} {es : List Expr} {ta : TE} {t : TA}
theorem run_fn {pins : List (Addr × Obj)} {σ : St} {H : Hp} {s : Shared} {Q : VK} {us : List Value} {vs : List V} (F : FnOk X.prog X.w X.K X.mg X.base CX k f fd ps sp) (hr : Room k X.A) (hb : Binds X.K fd ps ds) (hd : Vals dvs ds) (hx : Passes CX X E)
  (I : Inv X pins σ H s) (r : Vals vs us) (h : sp (vs ++ dvs) H Q E) : wpAny (model X.prog X.w) X.A (call (.ref f) us) (EP X pins σ Q) X.xe s := by
 have r2 : Vals (vs ++ dvs) (us ++ ds) := r.append hd
 have hl : (us ++ ds).length = ps.length := by rw [← r2.length]; exact F.len _ _ _ _ h
 refine wpAny_call (codeAny_mono (F.run X.A X.stack s H ⟨us, []⟩ (us ++ ds) (vs ++ dvs) Q E hr I.env0 (hb s us I.kIn hl) r2 h) fun r s' hq => ?_)
 cases r with
 | error e => exact hx pins σ H s e s' I hq
 | ok fl =>
  cases fl with
  | ret u => exact I.after hq
  | next => exact False.elim hq
  | brk => exact False.elim hq
  | cont => exact False.elim hq
theorem pe_call (F : FnOk X.prog X.w X.K X.mg X.base CX k f fd ps sp) (hr : Room k X.A) (hg : Gl X x) (hm : X.mg x = some (.ref f)) (hk : PySem.W.keepIn X.K (.ref f) = true) (hb : Binds X.K fd ps ds) (hd : Vals dvs ds) (hx : Passes CX X E)
  (ha : PA X (e :: es) t) (hdb : (x == ("__debug__" : Str)) = false := by decide) (he : starEach (e :: es) X.env = (false, eval e X.env) :: starEach es X.env := by rfl) (hpl : (backTo pos (starEach es X.env)).any (·.1) = false := by rfl) :
  PE X (.Call (.Name x p) (e :: es) [] pos) (tCall sp dvs E t) := by
 intro pins s σ H Q I h
 refine wpAny_Call_Name_kw (ld_glob I hg hm ?_ hdb)
 refine PySem.W.callWith_K (h₀ := X.base) I.ok.mod.kin hk (thn (ha pos pins s σ H _ I h) fun us s1 ⟨vs, H1, I1, r, q⟩ => ⟨I1.kIn, ?_⟩) he hpl
 exact run_fn F hr hb hd hx I1 r q
theorem pe_meth {pl : Sem Bool} (he : PE X o ta) (c : Cls X.K C) (hm : Meth X.K C m f) (F : FnOk X.prog X.w X.K X.mg X.base CX k f fd ps sp) (hr : Room k X.A) (hb : Binds X.K fd ps ds) (hd : Vals dvs ds) (hx : Passes CX X E) (ha : PA X (e :: es) t)
  (hst : starEach (e :: es) X.env = (false, eval e X.env) :: starEach es X.env := by rfl) (hpl : (backTo pos (starEach es X.env)).any (·.1) = false := by rfl)
  (ht : eval (.Call (.Attribute o m apos) (e :: es) [] pos) X.env = (do
   let ov ← eval o X.env
   standAt apos.atName
   let (f, first) ← holding [ov] (getMethod ov m pl)
   callWith pos f first (backTo pos (starEach (e :: es) X.env)) (backToKw pos (keywordEach [] X.env))) := by rfl) :
  PE X (.Call (.Attribute o m apos) (e :: es) [] pos) (tMeth C m sp dvs E ta t) := by
 intro pins s σ H Q I h
 refine PySem.W.methodCall_KW (pl := pl) (thn (he pins s σ H _ I h) fun u s1 ⟨x, H1, I1, rx, a, dx, fs, ex, ea, l, q⟩ => ?_) ht
 subst ex
 obtain rfl : u = Value.ref a := rx
 refine getmeth_ok I1 ea c hm l ?_
 refine PySem.W.callWith_K (first := [.ref a]) (h₀ := X.base) I.ok.mod.kin hm.kp (thn (ha pos pins s1 σ H1 _ I1 q) fun us s2 ⟨vs, H2, I2, r, q2⟩ => ⟨I2.kIn, ?_⟩) hst hpl
 exact run_fn (us := .ref a :: us) (vs := .ref a :: vs) F hr hb hd hx I2 (.cons rfl r) q2
theorem pe_meth0 {pl : Sem Bool} (he : PE X o ta) (c : Cls X.K C) (hm : Meth X.K C m f) (F : FnOk X.prog X.w X.K X.mg X.base CX k f fd ps sp) (hr : Room k X.A) (hb : Binds X.K fd ps ds) (hd : Vals dvs ds) (hx : Passes CX X E)
  (ht : eval (.Call (.Attribute o m apos) [] [] pos) X.env = (do
   let ov ← eval o X.env
   standAt apos.atName
   let (f, first) ← holding [ov] (getMethod ov m pl)
   callWith pos f first (backTo pos (starEach [] X.env)) (backToKw pos (keywordEach [] X.env))) := by rfl) :
  PE X (.Call (.Attribute o m apos) [] [] pos) (tMeth C m sp dvs E ta tNil) := by
 intro pins s σ H Q I h
 refine PySem.W.methodCall_KW (pl := pl) (thn (he pins s σ H _ I h) fun u s1 ⟨x, H1, I1, rx, a, dx, fs, ex, ea, l, q⟩ => ?_) ht
 subst ex
 obtain rfl : u = Value.ref a := rx
 refine getmeth_ok I1 ea c hm l ?_
 exact PySem.W.callWith_K0 (first := [.ref a]) I1.kIn hm.kp (run_fn (us := [.ref a]) (vs := [.ref a]) F hr hb hd hx I1 (.cons rfl .nil) q)
structure Mk (K : PySem.W.Frag) (C f : Addr) : Prop where
 makes : PySem.W.makesIn K C = true
 init : PySem.W.findIn K (.ref C) "__init__" = some (some (.ref f))
 fn : PySem.W.isFn K (.ref f) = true
 kp : PySem.W.keepIn K (.ref C) = true
theorem run_make {pins : List (Addr × Obj)} {σ : St} {H : Hp} {s : Shared} {Q : VK} {us : List Value} {vs : List V} (M : Mk X.K C f) (F : FnOk X.prog X.w X.K X.mg X.base CX k f fd ps sp) (hr : Room (k + 1) X.A) (hb : Binds X.K fd ps ds) (hd : Vals dvs ds)
  (hx : Passes CX X E) (I : Inv X pins σ H s) (r : Vals vs us)
  (h : ∀ x dx, H x = none -> H dx = none -> dx ≠ x -> sp (.ref x :: (vs ++ dvs)) (upd (upd H dx (.own x)) x (.ins C dx [])) (fun v H2 => v = .non /\ Q (.ref x) H2) E) :
  wpAny (model X.prog X.w) X.A (call (.ref C) us) (EP X pins σ Q) X.xe s := by
 have hq := h (s.heap.objs.size + 1) s.heap.objs.size (I.hok.fresh (Nat.le_succ _)) (I.hok.fresh (Nat.le_refl _)) (Nat.ne_of_lt (Nat.lt_succ_self _))
 have I2 := Inv.made (C := C) I
 have r2 : Vals (V.ref (s.heap.objs.size + 1) :: (vs ++ dvs)) (Value.ref (s.heap.objs.size + 1) :: (us ++ ds)) := .cons rfl (r.append hd)
 have hl : (Value.ref (s.heap.objs.size + 1) :: us ++ ds).length = ps.length := by
  have e := r2.length
  rw [F.len _ _ _ _ hq] at e
  exact e.symm
 refine wpAny_call (make_map (f := f) I.kIn M.makes M.init (beq_iff_eq.mp M.fn) (codeAny_mono (F.run _ X.stack _ _ ⟨Value.ref (s.heap.objs.size + 1) :: us, []⟩ (Value.ref (s.heap.objs.size + 1) :: (us ++ ds)) _ _ E (hr.make C us [])
  (I2.env0.make C us []) (hb _ (Value.ref (s.heap.objs.size + 1) :: us) I2.kIn hl) r2 hq) fun r s' hq' => ?_))
 cases r with
 | error e => exact hx pins σ _ _ e s' I2 hq'
 | ok fl =>
  cases fl with
  | ret u =>
   obtain ⟨v, H', I3, rv, ev, q3⟩ := I2.after hq'
   subst ev
   exact ⟨rv, ⟨V.ref (s.heap.objs.size + 1), H', I3, rfl, q3⟩⟩
  | next => exact False.elim hq'
  | brk => exact False.elim hq'
  | cont => exact False.elim hq'
theorem pe_make (M : Mk X.K C f) (F : FnOk X.prog X.w X.K X.mg X.base CX k f fd ps sp) (hr : Room (k + 1) X.A) (hg : Gl X x) (hm : X.mg x = some (.ref C)) (hb : Binds X.K fd ps ds) (hd : Vals dvs ds) (hx : Passes CX X E)
  (ha : PA X (e :: es) t) (hdb : (x == ("__debug__" : Str)) = false := by decide) (he : starEach (e :: es) X.env = (false, eval e X.env) :: starEach es X.env := by rfl) (hpl : (backTo pos (starEach es X.env)).any (·.1) = false := by rfl) :
  PE X (.Call (.Name x p) (e :: es) [] pos) (tMake C sp dvs E t) := by
 intro pins s σ H Q I h
 refine wpAny_Call_Name_kw (ld_glob I hg hm ?_ hdb)
 refine PySem.W.callWith_K (h₀ := X.base) I.ok.mod.kin M.kp (thn (ha pos pins s σ H _ I h) fun us s1 ⟨vs, H1, I1, r, q⟩ => ⟨I1.kIn, ?_⟩) he hpl
 exact run_make M F hr hb hd hx I1 r q
end
section
variable {X : Cx} {CX : CXT} {k : Nat} {f C : Addr} {fd : FuncData} {ps ks : List Str} {sp : Sp} {E : XK} {x m : Str} {p pos apos kpos : Pos} {e o : Expr} {es : List Expr} {kws : List Keyword} {te ta : TE} {t tk : TA} {nm : Option Str}
variable {g : List Value -> List Value -> List Value} {gV : List V -> List V -> List V}
end
structure FnScope (N P : List Str) (sc : Scope) : Prop where
 kind : sc.kind = .function
 co : sc.isCoroutine = false
 gen : sc.isGenerator = false
 nd : N.Nodup
 pre : N.take P.length = P
 par : ∀ x ∈ P, sc.names.lookup x = some .local \/ sc.names.lookup x = some .cell
 nofree : ∀ y ∈ sc.names, y.2 ≠ .free
theorem bindL_out {kindOf : Str -> Option NameKind} {x : Str} : ∀ {binds : List (Str × Value)} {m : Str -> Option Value}, (∀ v, (x, v) ∉ binds) -> bindL kindOf binds m x = m x
 | [], _, _ => rfl
 | (n, v) :: r, m, h => by
  unfold bindL
  rw [bindL_out fun w hw => h w (List.mem_cons_of_mem _ hw)]
  split
  · have : x ≠ n := by rintro rfl; exact h v List.mem_cons_self
    simp [this]
  · rfl
theorem bindC_out {kindOf : Str -> Option NameKind} {x : Str} : ∀ {binds : List (Str × Value)} {m : Str -> Option Value}, (∀ v, (x, v) ∉ binds) -> bindC kindOf binds m x = m x
 | [], _, _ => rfl
 | (n, v) :: r, m, h => by
  unfold bindC
  rw [bindC_out fun w hw => h w (List.mem_cons_of_mem _ hw)]
  split
  · rfl
  · have : x ≠ n := by rintro rfl; exact h v List.mem_cons_self
    simp [this]
theorem bindL_get {kindOf : Str -> Option NameKind} {x : Str} {v : Value} : ∀ {P : List Str} {vs : List Value} {i : Nat} {m : Str -> Option Value}, P.Nodup -> P[i]? = some x -> vs[i]? = some v -> kindOf x = some .local ->
  bindL kindOf (P.zip vs) m x = some v
 | [], _, _, _, _, h, _, _ => by simp at h
 | _ :: _, [], _, _, _, _, h, _ => by simp at h
 | p :: P, w :: vs, 0, m, nd, h1, h2, hk => by
  simp at h1 h2; subst h1; subst h2
  show bindL kindOf ((p, w) :: P.zip vs) m p = _
  unfold bindL
  rw [bindL_out fun v hv => (List.nodup_cons.mp nd).1 (List.of_mem_zip hv).1, if_pos hk]
  simp
 | p :: P, w :: vs, i + 1, m, nd, h1, h2, hk => by
  show bindL kindOf ((p, w) :: P.zip vs) m x = _
  unfold bindL
  exact bindL_get (i := i) (List.nodup_cons.mp nd).2 (by simpa using h1) (by simpa using h2) hk
theorem bindC_get {kindOf : Str -> Option NameKind} {x : Str} {v : Value} : ∀ {P : List Str} {vs : List Value} {i : Nat} {m : Str -> Option Value}, P.Nodup -> P[i]? = some x -> vs[i]? = some v -> kindOf x ≠ some .local ->
  bindC kindOf (P.zip vs) m x = some v
 | [], _, _, _, _, h, _, _ => by simp at h
 | _ :: _, [], _, _, _, _, h, _ => by simp at h
 | p :: P, w :: vs, 0, m, nd, h1, h2, hk => by
  simp at h1 h2; subst h1; subst h2
  show bindC kindOf ((p, w) :: P.zip vs) m p = _
  unfold bindC
  rw [bindC_out fun v hv => (List.nodup_cons.mp nd).1 (List.of_mem_zip hv).1, if_neg hk]
  simp
 | p :: P, w :: vs, i + 1, m, nd, h1, h2, hk => by
  show bindC kindOf ((p, w) :: P.zip vs) m x = _
  unfold bindC
  exact bindC_get (i := i) (List.nodup_cons.mp nd).2 (by simpa using h1) (by simpa using h2) hk
def start (N : List Str) (vs : List V) : St := vs.map some ++ List.replicate (N.length - vs.length) none
def cxOf (CX : CXT) (P : Program) (w : World) (K : PySem.W.Frag) (mg : Str -> Option Value) (base : Heap) (N : List Str) (qual : Str) (scope : Scope) (f : Addr) (cd : Value) (A : Around) (outer : List Env) (s : Shared) (H : Hp) (E : XK) : Cx where
 prog := P
 w := w
 K := K
 mg := mg
 base := base
 A := A.deeper (envOfC qual scope s.heap.objs.size f cd)
 N := N
 s₀ := s
 H₀ := H
 env := envOfC qual scope s.heap.objs.size f cd
 outer := outer
 stack := envOfC qual scope s.heap.objs.size f cd :: outer
 ex := []
 calm := true
 fn := fun _ => true
 pn := []
 xe := fun e s' => wpAny (model P w) (A.deeper (envOfC qual scope s.heap.objs.size f cd)) (leaving (envOfC qual scope s.heap.objs.size f cd) e) (fun _ s'' => CX outer H s E e s'') (fun e' s'' => CX outer H s E e' s'') s'
theorem cell_has {sc : Scope} {n : Nat} {x : Str} (h : sc.names.lookup x = some .cell) : ∃ c, (cellsFrom n sc.names []).lookup x = some c := by
 have q := PySem.W.cellsFrom_some sc.names n [] (.inl h)
 exact Option.isSome_iff_exists.mp q
theorem inv_start {CX : CXT} {P : Program} {w : World} {K : PySem.W.Frag} {mg : Str -> Option Value} {base : Heap} {N ps : List Str} {qual : Str} {scope : Scope} {f : Addr} {cd : Value} {A : Around} {outer : List Env} {s s1 : Shared} {H : Hp} {E : XK} {us : List Value} {vs : List V}
  (S : FnScope N ps scope) (hd : A.handled = none) (e0 : Env0 P w K mg base A outer s H) (hl : vs.length = ps.length) (r : Vals vs us)
  (x : InCallC s s.heap.objs.size (bindL (envOfC qual scope s.heap.objs.size f cd).kindOf (ps.zip us) fun _ => none) (cellsFrom (s.heap.objs.size + 1) scope.names []) (bindC (envOfC qual scope s.heap.objs.size f cd).kindOf (ps.zip us) fun _ => none) s1) :
  Inv (cxOf CX P w K mg base N qual scope f cd A outer s H E) [] (start N vs) H s1 := by
 have hpl : ps.length <= N.length := by have := congrArg List.length S.pre; rw [List.length_take] at this; omega
 obtain ⟨h1, tk, rfl, hk⟩ := x.done
 have noA : ∀ b : Addr, b ∉ (cxOf CX P w K mg base N qual scope f cd A outer s H E).ex := fun b z => absurd (show b ∈ ([] : List Addr) from z) (by simp)
 refine ⟨⟨e0.mod, S.kind, rfl, rfl, Nat.le_refl _, fun y z c h1 h2 => ?_, fun y hy => ?_, fun y c _ h => ?_, fun _ => hd, Around.frames_deeper e0.frames, .inr ⟨rfl, rfl⟩, fun b z => absurd z (noA b), e0.bs, e0.bsz, fun b _ _ => noA b, fun b z => absurd z (noA b), e0.funs, e0.frf⟩,
  rfl, e0.bare, Un.kept hk, ⟨_, x.toInCall.ns, fun i y v h1 h2 h3 => ?_⟩, fun y c h => ⟨_, x.cell y c h⟩, e0.hok.fresh (Nat.le_refl _), fun y c h => ?_, fun p hp => absurd (show p ∈ ([] : List (Addr × Obj)) from hp) (by simp), e0.hok.kept hk, ?_⟩
 · exact name_of_addr x.apart (PySem.mem_of_lookup h1) (PySem.mem_of_lookup h2)
 · have hy : scope.names.lookup y = some .cell \/ scope.names.lookup y = some .free := hy
   rcases hy with hy | hy
   · exact cell_has hy
   · exact absurd rfl (S.nofree _ (PySem.mem_of_lookup hy))
 · exact Nat.le_of_lt (x.above y c (PySem.mem_of_lookup h))
 · have hi : i < vs.length := by
    unfold start at h2
    by_cases hi : i < vs.length
    · exact hi
    · rw [List.getElem?_append_right (by simpa using hi)] at h2
      rw [List.getElem?_replicate] at h2
      split at h2 <;> cases h2
   have ha : vs[i]? = some v := by
    unfold start at h2
    rw [List.getElem?_append_left (by simpa using hi), List.getElem?_map] at h2
    cases e : vs[i]? with
    | none => rw [e] at h2; cases h2
    | some a => rw [e] at h2; cases h2; rfl
   obtain ⟨u, hu, rv⟩ := r.get ha
   have hp : ps[i]? = some y := by
    rw [← S.pre, List.getElem?_take_of_lt (by omega)]; exact h1
   have ndP : ps.Nodup := by rw [← S.pre]; exact S.nd.sublist (List.take_sublist _ _)
   refine ⟨u, rv, ?_⟩
   rcases S.par y (List.mem_of_getElem? hp) with k | k
   · exact .inl ⟨k, bindL_get ndP hp hu k⟩
   · obtain ⟨c, e⟩ := cell_has (n := s.heap.objs.size + 1) k
     refine .inr ⟨.inl k, c, e, ?_⟩
     have q := x.cell y c e
     rw [bindC_get ndP hp hu (by show scope.names.lookup y ≠ _; rw [k]; decide)] at q
     exact q
 · exact e0.hok.fresh (Nat.le_of_lt (x.above y c (PySem.mem_of_lookup h)))
 · unfold start
   show _ = N.length
   rw [List.length_append, List.length_map, List.length_replicate]
   omega
theorem fn_of {CX : CXT} {P : Program} {w : World} {K : PySem.W.Frag} {mg : Str -> Option Value} {base : Heap} {k : Nat} {f : Addr} {name qual : Str} {params : Arguments} {body : List Stmt} {scope : Scope} {dV kV doc pm cdv ct oc : Value} {an od : Option Addr}
  {osl : Array (Option Value)} {N ps : List Str} {sp : Sp} (lk : K.lookup f = some ⟨oc, od, .func (PySem.W.fnOf name qual params body scope dV kV doc pm an cdv ct), osl⟩) (hcd : PySem.W.codeIn K cdv qual = true) (S : FnScope N ps scope)
  (len : ∀ vs H Q E, sp vs H Q E -> vs.length = ps.length)
  (hbody : ∀ (A : Around) (outer : List Env) (s : Shared) (H : Hp) (vs : List V) (Q : VK) (E : XK), Room k (A.deeper (envOfC qual scope s.heap.objs.size f cdv)) -> sp vs H Q E ->
   ∃ t, PSs (cxOf CX P w K mg base N qual scope f cdv A outer s H E) body t /\ t { nx := fun _ H' => Q .non H', rt := Q } (start N vs) H) :
  FnOk P w K mg base CX (k + 1) f (PySem.W.fnOf name qual params body scope dV kV doc pm an cdv ct) ps sp := by
 refine ⟨len, fun A outer s H args us vs Q E hr e0 hb r hsp => ?_⟩
 have hl := len _ _ _ _ hsp
 have KX : K.In s.heap := e0.mod.kin.keeps fun b o e => (e0.bs b o e).1
 have lim : s.heap.NoLimit := e0.mod.nolimit.keeps fun b o e => (e0.bs b o e).1
 have hkind : ∀ y ∈ ps.zip us, scope.names.lookup y.1 = some .local \/ (scope.names.lookup y.1 = some .cell /\ ((cellsFrom (s.heap.objs.size + 1) scope.names []).lookup y.1).isSome = true) := fun ⟨n, v⟩ hy => by
  rcases S.par n (List.of_mem_zip hy).1 with q | q
  · exact .inl q
  · exact .inr ⟨q, PySem.W.cellsFrom_some _ _ _ (.inl q)⟩
 refine codeAny_call_function hr.depth (KX _ _ lk) rfl S.co S.gen rfl (PySem.W.codeRec_of KX hcd) (hb _ _ _ _ ?_)
 refine wpAny_newFunctionEnv_cells S.kind hkind fun env he s1 x => ?_
 subst he
 refine ⟨lim.keeps x.toInCall.keep, codeAny_func ?_⟩
 obtain ⟨t, ht, hq⟩ := hbody A outer s H vs Q E (hr.deeper _) hsp
 have I : Inv (cxOf CX P w K mg base N qual scope f cdv A outer s H E) [] (start N vs) H s1 := inv_start S hr.hd e0 hl r x
 refine wpAny_mono (ht [] s1 (start N vs) H _ I hq) (fun fl s' hs => ?_) fun e s' hs => hs
 have fin : ∀ {σ' : St} {H' : Hp} {v : V} {u : Value}, Inv (cxOf CX P w K mg base N qual scope f cdv A outer s H E) [] σ' H' s' -> RelV v u -> Q v H' -> CE outer P w H s Q u s' :=
  fun {σ' H' v u} J rv q => ⟨v, H', J.os, J.bare, J.base, J.hok, rv, q⟩
 cases fl with
 | ret u =>
  obtain ⟨v, σ', H', J, rv, q⟩ := hs
  exact fin J rv q
 | next =>
  obtain ⟨σ', H', J, q⟩ := hs
  exact fin (v := V.non) (u := Value.none) J rfl q
 | brk =>
  obtain ⟨_, _, _, q⟩ := hs
  exact False.elim q
 | cont =>
  obtain ⟨_, _, _, q⟩ := hs
  exact False.elim q
end L2
namespace L2
open PySem PySem.Spec PyProof.Rows
section
variable {X : Cx} {x : Str} {p pos : Pos} {e : Expr} {es : List Expr} {t : TA} {id T : String} {r : List V -> Hp -> VK -> Prop}
def tCB (r : List V -> Hp -> VK -> Prop) (t : TA) : TE := fun σ H Q => t σ H fun vs H1 => r vs H1 Q
theorem pe_callB (hc : CallR X (.builtin id) r) (hg : Gl X x) (hm : X.mg x = none) (hv : bootBuiltins x = some (.builtin id)) (ha : PA X (e :: es) t) (hn : x ≠ "__name__" := by decide) (hdb : (x == ("__debug__" : Str)) = false := by decide)
  (he : starEach (e :: es) X.env = (false, eval e X.env) :: starEach es X.env := by rfl) (hpl : (backTo pos (starEach es X.env)).any (·.1) = false := by rfl) : PE X (.Call (.Name x p) (e :: es) [] pos) (tCB r t) := by
 intro pins s σ H Q I h
 refine wpAny_Call_Name_kw (ld_blt I hg hm hv ?_ hn hdb)
 exact PyProof.Rows.callWith_builtin1 (thn (ha pos pins s σ H _ I h) fun us s1 ⟨vs, H1, I1, r1, q1⟩ => hc pins s1 σ H1 vs us Q I1 r1 q1) he hpl
theorem pe_callTy (hc : CallR X (.type T) r) (hg : Gl X x) (hm : X.mg x = none) (hv : bootBuiltins x = some (.type T)) (ha : PA X (e :: es) t) (hn : x ≠ "__name__" := by decide) (hdb : (x == ("__debug__" : Str)) = false := by decide)
  (he : starEach (e :: es) X.env = (false, eval e X.env) :: starEach es X.env := by rfl) (hpl : (backTo pos (starEach es X.env)).any (·.1) = false := by rfl) : PE X (.Call (.Name x p) (e :: es) [] pos) (tCB r t) := by
 intro pins s σ H Q I h
 refine wpAny_Call_Name_kw (ld_blt I hg hm hv ?_ hn hdb)
 exact PyProof.Rows.callWith_type1 (thn (ha pos pins s σ H _ I h) fun us s1 ⟨vs, H1, I1, r1, q1⟩ => hc pins s1 σ H1 vs us Q I1 r1 q1) he hpl
end
end L2
namespace HT
open PySem PyProof.Rows
section
open PySem.SeqAt
open PySem.AutoSeq1 (wpAny_loadPart')
open PySem.MeetsSeq PySem.MeetsSeq2 PySem.MeetsSeq3
end
section
variable {prog : Program} {w : World} {A : Around} {E : Value -> Shared -> Prop} {s : Shared}
theorem cat_tup {t b : Addr} {vs ws : List Value} {Q : Value -> Shared -> Prop} (ht : IsTup s.heap t vs.toArray) (hb : IsTup s.heap b ws.toArray) (hv : vs ≠ [])
  (h1 : ws = [] -> Q (.ref t) s) (h2 : ws ≠ [] -> Q (.ref s.heap.objs.size) { s with heap := s.heap.push { cls := .type "tuple", data := .seq (vs ++ ws).toArray } })
  (hsz : vs.length + ws.length <= sizeLine) : wpAny (model prog w) A (binaryOp .Add (.ref t) (.ref b)) Q E s := by
 obtain ⟨⟨cls, dd, data, sl⟩, ho, hc, n, hd⟩ := id ht
 obtain ⟨⟨cls2, dd2, data2, sl2⟩, ho2, hc2, n2, hd2⟩ := id hb
 simp only at hc hd hc2 hd2
 subst hc hd hc2 hd2
 have e : vs.toArray ++ ws.toArray = (vs ++ ws).toArray := by simp
 by_cases hw : ws = []
 · exact concat_meets ⟨_, ho, rfl⟩ ⟨_, ho2, rfl⟩ noFill_tuple_add seq_tuple_add PySem.F.slot_tuple_add PySem.F.entry_tuple_add (PySem.F.args_tuple_add_2 _ _)
    (tuple_addW1 t b vs.toArray ws.toArray n n2 dd dd2 sl sl2 (by simpa using hv) (by simp [hw])) ⟨ho, ho2, h1 hw⟩
 · refine concat_meets ⟨_, ho, rfl⟩ ⟨_, ho2, rfl⟩ noFill_tuple_add seq_tuple_add PySem.F.slot_tuple_add PySem.F.entry_tuple_add (PySem.F.args_tuple_add_2 _ _)
    (tuple_addW2 t b vs.toArray ws.toArray n n2 dd dd2 sl sl2 (by simpa using hv) (by simpa using hw) (by rw [List.size_toArray, List.size_toArray]; exact hsz)) ⟨ho, ho2, ?_⟩
   rw [e]
   exact h2 hw
def sIx (n d : Nat) : Option Int -> Nat
 | none => d
 | some v => if v < 0 then (v + (n : Int)).toNat else min v.toNat n
theorem sIx_le (n d : Nat) (hd : d <= n) (o : Option Int) : sIx n d o <= n := by
 cases o with
 | none => exact hd
 | some v =>
  show (if v < 0 then (v + (n : Int)).toNat else min v.toNat n) <= n
  by_cases hv : v < 0
  · rw [if_pos hv]; omega
  · rw [if_neg hv]; exact Nat.min_le_right _ _
theorem clip_eq (v : Int) (n d : Nat) : (if v < 0 then max (v + (n : Int)) 0 else min v (n : Int)) = ((sIx n d (some v) : Nat) : Int) := by
 show (if v < 0 then max (v + (n : Int)) 0 else min v (n : Int)) = (((if v < 0 then (v + (n : Int)).toNat else min v.toNat n) : Nat) : Int)
 by_cases hv : v < 0
 · simp only [if_pos hv]; omega
 · simp only [if_neg hv]; omega
theorem adjust_gen (lo hi : Option Int) (n : Nat) : Builtin.Slice.sliceAdjust lo hi 1 (n : Int) = (((sIx n 0 lo : Nat) : Int), ((sIx n n hi : Nat) : Int)) := by
 have h1 : ¬ ((1 : Int) < 0) := by omega
 unfold Builtin.Slice.sliceAdjust
 simp only [h1, if_false]
 refine Prod.ext ?_ ?_
 · cases lo with
   | none => rfl
   | some v => exact clip_eq v n 0
 · cases hi with
   | none => rfl
   | some v => exact clip_eq v n n
theorem places_gen (i j : Nat) : Builtin.Slice.slicePlaces (i : Int) (j : Int) 1 = j - i := by
 unfold Builtin.Slice.slicePlaces
 have h1 : (1 : Int) > 0 := by omega
 simp only [h1, if_true, Int.ediv_one]
 split <;> omega
theorem slicePart_ {v : Value} {o : Option Int} {Q : Option Int -> Shared -> Prop} (p : IsPart v o) (h : Q o s) : wpAny (model prog w) A (Builtin.Slice.slicePartIndex v) Q E s := by
 cases p with
 | none => exact slicePart_none h
 | int i t => exact slicePart_int h
theorem sliceApplied_gen {sl : Addr} {vl vu : Value} {lo hi : Option Int} {n : Nat} {Q : Int × Int × Nat -> Shared -> Prop} (hs : s.heap.IsSliceOf sl vl vu .none) (pl : IsPart vl lo) (pu : IsPart vu hi)
  (h : Q (((sIx n 0 lo : Nat) : Int), 1, sIx n n hi - sIx n 0 lo) s) : wpAny (model prog w) A (Builtin.Slice.sliceApplied (.ref sl) (pure (n : Int))) Q E s := by
 obtain ⟨os, hos, hcs, hds⟩ := id hs
 unfold Builtin.Slice.sliceApplied Builtin.Slice.sliceFields
 refine wpAny_bind (wpAny_bind (wpAny_field hos hds (x := vl) rfl (wpAny_bind (wpAny_field hos hds (x := vu) rfl (wpAny_bind (wpAny_field hos hds (x := .none) rfl (wpAny_pure ?_)))))))
 refine wpAny_bind (slicePart_none ?_)
 show wpAny _ _ (if ((1 : Int) == 0) = true then _ else _) _ _ s
 rw [if_neg (by decide)]
 refine wpAny_bind (slicePart_ pl (wpAny_bind (slicePart_ pu (wpAny_bind (wpAny_pure ?_)))))
 show wpAny _ _ (match Builtin.Slice.sliceAdjust lo hi 1 (n : Int) with | (lo, hi) => pure (lo, (1 : Int), Builtin.Slice.slicePlaces lo hi 1)) _ _ s
 rw [adjust_gen lo hi n]
 show wpAny _ _ (pure (((sIx n 0 lo : Nat) : Int), (1 : Int), Builtin.Slice.slicePlaces ((sIx n 0 lo : Nat) : Int) ((sIx n n hi : Nat) : Int) 1)) _ _ s
 rw [places_gen]
 exact wpAny_pure h
theorem pick_gen (xs : Array Value) (i k : Nat) : ((List.range k).filterMap fun (m : Nat) => xs[((i : Int) + (m : Int) * 1).toNat]?).toArray = ((xs.toList.drop i).take k).toArray := by
 have e : (fun (m : Nat) => xs[((i : Int) + (m : Int) * 1).toNat]?) = fun m => xs[i + m]? := by
  funext m
  have : ((i : Int) + (m : Int) * 1).toNat = i + m := by omega
  rw [this]
 rw [e]
 have := pick_run xs i k
 rw [List.filterMap_map] at this
 have e2 : ((fun x => xs[x]?) ∘ fun x => i + x) = fun m => xs[i + m]? := rfl
 rw [e2] at this
 rw [this]
theorem getItem_tuple_cut {t sl : Addr} {items : Array Value} {vl vu : Value} {lo hi : Option Int} {Q : Value -> Shared -> Prop} (ht : IsTup s.heap t items) (hs : s.heap.IsSliceOf sl vl vu .none) (pl : IsPart vl lo) (pu : IsPart vu hi)
  (hw : ¬ (sIx items.size 0 lo = 0 /\ sIx items.size items.size hi = items.size))
  (h : Q (.ref s.heap.objs.size) { s with heap := s.heap.push { cls := .type "tuple", data := .seq ((items.toList.drop (sIx items.size 0 lo)).take (sIx items.size items.size hi - sIx items.size 0 lo)).toArray } })
  (hsz : items.size <= sizeLine) : wpAny (model prog w) A (getItem (.ref t) (.ref sl)) Q E s := by
 have htake : sizeOk (.seq ((items.toList.drop (sIx items.size 0 lo)).take (sIx items.size items.size hi - sIx items.size 0 lo)).toArray) := by
  show ((items.toList.drop (sIx items.size 0 lo)).take (sIx items.size items.size hi - sIx items.size 0 lo)).toArray.size <= sizeLine
  rw [List.size_toArray, List.length_take, List.length_drop, Array.length_toList]
  omega
 have hj : sIx items.size items.size hi <= items.size := sIx_le _ _ (Nat.le_refl _) hi
 obtain ⟨os, hos, hcs, hds⟩ := id hs
 have hTs : s.TypeIs (.ref sl) "slice" := ⟨os, hos, hcs⟩
 unfold getItem
 try with_reducible refine wpAny_holding ?_
 first | refine wpAny_bind (wpAny_pure ?_) | skip
 refine wpAny_bind (wpAny_sequenceKey ht.typeIs (by decide) ?_)
 refine wpAny_bind (wpAny_callSpecial?_slot (name := Str.ofString "__getitem__") ht.typeIs PyProof.Rows.slot_tuple_getitem
  (wpAny_call_entry PyProof.Rows.slot_tuple_getitem ht.typeIs entry_tuple_getitem ?_ (args_tuple_getitem _ _)))
 show wpAny _ _ (Builtin.Tuple.tupleItemsOf (.ref t) >>= _) _ _ s
 refine wpAny_bind (tupleItemsOf_ ht ?_)
 refine wpAny_bind (wpAny_typeOf hTs ?_)
 rw [if_pos (by decide)]
 refine wpAny_bind (sliceApplied_gen hs pl pu ?_)
 have hno : ¬ ((((sIx items.size 0 lo : Nat) : Int) == 0 && (1 : Int) == 1 && (sIx items.size items.size hi - sIx items.size 0 lo) == items.size) = true) := by
  intro q
  rw [Bool.and_eq_true, Bool.and_eq_true] at q
  have q1 : ((sIx items.size 0 lo : Nat) : Int) = 0 := eq_of_beq q.1.1
  have q2 : sIx items.size items.size hi - sIx items.size 0 lo = items.size := eq_of_beq q.2
  exact hw ⟨by omega, by omega⟩
 show wpAny _ _ (if (((sIx items.size 0 lo : Nat) : Int) == 0 && (1 : Int) == 1 && (sIx items.size items.size hi - sIx items.size 0 lo) == items.size) = true then _ else _) _ _ s
 rw [if_neg hno, pick_gen]
 first
  | exact wpAny_bind (m := Builtin.Tuple.tupleExact _) (wpAny_newObj_type (wpAny_pure ⟨_, rfl, wpAny_pure h⟩) htake)
  | exact wpAny_bind (m := Builtin.Tuple.tupleExact _) (wpAny_newObj_type (wpAny_bind (wpAny_pure (wpAny_pure ⟨_, rfl, wpAny_pure h⟩))) htake)
  | exact wpAny_bind (wpAny_bind (m := Builtin.Tuple.tupleExact _) (wpAny_newObj_type (wpAny_pure (wpAny_pure ⟨_, rfl, wpAny_pure h⟩)) htake))
  | exact wpAny_bind (wpAny_bind (m := Builtin.Tuple.tupleExact _) (wpAny_newObj_type (wpAny_pure ⟨_, rfl, wpAny_pure h⟩) htake))
end
end HT
namespace L2
open PySem PySem.Spec PyProof.Rows
abbrev TO := St -> Hp -> (Option Int -> Hp -> Prop) -> Prop
def PO (X : Cx) (e : Option Expr) (t : TO) : Prop :=
 ∀ (pins : List (Addr × Obj)) (s : Shared) (σ : St) (H : Hp) (Q : Option Int -> Hp -> Prop), Inv X pins σ H s -> t σ H Q ->
  wpAny (model X.prog X.w) X.A (evalPart e X.env) (fun u s' => ∃ o H', Inv X pins σ H' s' /\ IsPart u o /\ Q o H') X.xe s
def tNoPart : TO := fun _ H Q => Q none H
def tPart (t : TE) : TO := fun σ H Q => t σ H fun x H1 => ∃ i, x = .int i /\ Q (some i) H1
theorem intsAre_of {ns : List Int} : ∀ {us : List Value}, Vals (ns.map V.int) us -> IntsAre us ns := by
 induction ns with
 | nil => intro us r; rw [List.map_nil] at r; cases r; exact .nil
 | cons n ns ih =>
  intro us r
  rw [List.map_cons] at r
  cases r with
  | cons r1 r2 =>
   obtain ⟨t, e⟩ := r1
   subst e
   exact .cons n t (ih r2)
section
variable {X : Cx} {e : Expr} {te : TE} {lo hi : Option Expr} {tl th : TO} {pos p2 : Pos}
theorem po_none : PO X none tNoPart := by
 intro pins s σ H Q I h
 rw [evalPart_none]
 exact wpAny_pure ⟨none, H, I, .none, h⟩
theorem po_some (h : PE X e te) : PO X (some e) (tPart te) := by
 intro pins s σ H Q I hw
 rw [evalPart_some]
 refine thn (h pins s σ H _ I hw) fun u s1 ⟨x, H1, I1, r1, q1⟩ => ?_
 obtain ⟨i, rfl, q⟩ := q1
 obtain ⟨t, rfl⟩ := r1
 exact ⟨some i, H1, I1, .int i t, q⟩
def SlR (X : Cx) (r : V -> Option Int -> Option Int -> Hp -> VK -> Prop) : Prop :=
 ∀ (pins : List (Addr × Obj)) (s : Shared) (σ : St) (H : Hp) (x : V) (v vl vu : Value) (lo hi : Option Int) (sl : Addr) (Q : VK), Inv X pins σ H s -> RelV x v -> s.heap.IsSliceOf sl vl vu .none -> IsPart vl lo -> IsPart vu hi -> r x lo hi H Q ->
  ∃ T id, typeLookup (.type T) "__getitem__" = pure (some (.builtin id)) /\ s.TypeIs v T /\ wpAny (model X.prog X.w) X.A (getItem v (.ref sl)) (EP X pins σ Q) X.xe s
def tSl (r : V -> Option Int -> Option Int -> Hp -> VK -> Prop) (te : TE) (tl th : TO) : TE := fun σ H Q => te σ H fun x H1 => tl σ H1 fun l H2 => th σ H2 fun u H3 => r x l u H3 Q
theorem pe_slice {r : V -> Option Int -> Option Int -> Hp -> VK -> Prop} (hr : SlR X r) (he : PE X e te) (hl : PO X lo tl) (hu : PO X hi th) : PE X (.Subscript e (.Slice lo hi none p2) pos) (tSl r te tl th) := by
 intro pins s σ H Q I h
 refine Subscript_ (thn (he pins s σ H _ I h) fun v s1 ⟨x, H1, I1, r1, q1⟩ => ?_)
 refine wpAny_Slice (thn (hl pins s1 σ H1 _ I1 q1) fun vl s2 ⟨l, H2, I2, pl, q2⟩ => thn (hu pins s2 σ H2 _ I2 q2) fun vu s3 ⟨u, H3, I3, pu, q3⟩ => ?_)
 rw [evalPart_none]
 refine wpAny_pure ?_
 have I4 : Inv X pins σ H3 { s3 with heap := s3.heap.push { cls := .type "slice", data := .fields #[vl, vu, .none] } } := I3.kept (t' := s3.toks) fun b ob q => Heap.get?_push_of_some _ q
 obtain ⟨T, id, hT, ht, hg⟩ := hr pins { s3 with heap := s3.heap.push { cls := .type "slice", data := .fields #[vl, vu, .none] } } σ H3 x v vl vu l u s3.heap.objs.size Q I4 r1 (Heap.IsSliceOf.new ..) pl pu q3
 show wpAny (model X.prog X.w) X.A (subscriptTail e (.Slice lo hi none p2) v (.ref s3.heap.objs.size)) (EP X pins σ Q) X.xe { s3 with heap := s3.heap.push { cls := .type "slice", data := .fields #[vl, vu, .none] } }
 exact tail_any (ops := [.ref s3.heap.objs.size, v]) ht hT hg (by with_unfolding_all rfl)
def cutV (xs : List V) (lo hi : Option Int) : List V := (xs.drop (HT.sIx xs.length 0 lo)).take (HT.sIx xs.length xs.length hi - HT.sIx xs.length 0 lo)
theorem cutV_length (xs : List V) (lo hi : Option Int) : (cutV xs lo hi).length <= xs.length := by
 unfold cutV
 rw [List.length_take, List.length_drop]
 omega
def rSlT (K : PySem.W.Frag) : V -> Option Int -> Option Int -> Hp -> VK -> Prop := fun x lo hi H Q => ∃ a xs, x = .ref a /\ SqT K H a xs /\
 ¬ (HT.sIx xs.length 0 lo = 0 /\ HT.sIx xs.length xs.length hi = xs.length) /\ ∀ p, H p = none -> Q (.ref p) (upd H p (.tup (cutV xs lo hi)))
theorem sl_tup : SlR X (rSlT X.K) := by
 intro pins s σ H x v vl vu lo hi sl Q I rx hs pl pu h
 obtain ⟨a, xs, rfl, hx, hw, q⟩ := h
 cases rx
 obtain ⟨its, r, ht, hz⟩ := I.tuple hx
 have hlen : its.toArray.size = xs.length := by rw [List.size_toArray]; exact r.length.symm
 refine ⟨"tuple", _, PyProof.Rows.slot_tuple_getitem.lookup, ht.typeIs, ?_⟩
 refine HT.getItem_tuple_cut ht hs pl pu (by rw [hlen]; exact hw) ?_ (by rw [hlen]; exact hz)
 rw [hlen]
 refine ⟨.ref s.heap.objs.size, _, I.laid (t' := s.toks) (o := .tup (cutV xs lo hi)) (fun b ob q => Heap.get?_push_of_some _ q) (Nat.le_refl _) ?_, rfl, q _ (I.hok.fresh (Nat.le_refl _))⟩
 exact ⟨Nat.le_trans (cutV_length xs lo hi) hz, _, (r.drop (HT.sIx xs.length 0 lo)).take (HT.sIx xs.length xs.length hi - HT.sIx xs.length 0 lo), IsTup.new _ _⟩
def rCatT (K : PySem.W.Frag) : R2 := fun x y H Q => ∃ a b xs ys, x = .ref a /\ y = .ref b /\ SqT K H a xs /\ SqT K H b ys /\ xs ≠ [] /\ xs.length + ys.length <= sizeLine /\
 (ys = [] -> Q (.ref a) H) /\ (ys ≠ [] -> ∀ p, H p = none -> Q (.ref p) (upd H p (.tup (xs ++ ys))))
theorem Vals.nil_iff {xs : List V} {us : List Value} (r : Vals xs us) : us = [] ↔ xs = [] := by
 cases r with
 | nil => simp
 | cons _ _ => simp
theorem op_catT : OpR X (binaryOp .Add) (rCatT X.K) := by
 intro pins s σ H x y v u Q I rx ry h
 obtain ⟨a, b, xs, ys, rfl, rfl, ha, hb, hx, hz, q1, q2⟩ := h
 cases rx
 cases ry
 obtain ⟨its, r1, p1, _⟩ := I.tuple ha
 obtain ⟨its2, r2, p2, _⟩ := I.tuple hb
 refine HT.cat_tup p1 p2 (fun z => hx (r1.nil_iff.mp z)) (fun z => ⟨.ref a, H, I, rfl, q1 (r2.nil_iff.mp z)⟩) (fun z => ?_) (by rw [← r1.length, ← r2.length]; exact hz)
 refine ⟨.ref s.heap.objs.size, _, I.laid (t' := s.toks) (o := .tup (xs ++ ys)) (fun b ob q => Heap.get?_push_of_some _ q) (Nat.le_refl _) ?_, rfl, q2 (fun w => z (r2.nil_iff.mpr w)) _ (I.hok.fresh (Nat.le_refl _))⟩
 exact ⟨by rw [List.length_append]; exact hz, _, r1.append r2, IsTup.new _ _⟩
end
end L2
namespace L2
open PySem PySem.Spec PyProof.Rows
def ixN (n : Nat) (i : Int) : Option Nat := if 0 <= i then (if i < n then some i.toNat else none) else if -(n : Int) <= i then some (i + n).toNat else none
def atI {α : Type} (xs : List α) (i : Int) : Option α := (ixN xs.length i).bind fun j => xs[j]?
theorem ixN_seq {n : Nat} {i : Int} {j : Nat} (h : ixN n i = some j) : seqIndex? i n = some j /\ j < n /\ -(n : Int) <= i /\ i < n := by
 unfold ixN at h
 by_cases h0 : 0 <= i
 · rw [if_pos h0] at h
   by_cases h1 : i < n
   · rw [if_pos h1] at h
     have e : i.toNat = j := Option.some.inj h
     exact ⟨by rw [seqIndex_of h0 h1, e], by omega, by omega, h1⟩
   · rw [if_neg h1] at h; cases h
 · rw [if_neg h0] at h
   by_cases h1 : -(n : Int) <= i
   · rw [if_pos h1] at h
     have e : (i + n).toNat = j := Option.some.inj h
     exact ⟨by rw [seqIndex_neg (by omega) h1, e], by omega, h1, by omega⟩
   · rw [if_neg h1] at h; cases h
theorem atI_get {α : Type} {xs : List α} {i : Int} {v : α} (h : atI xs i = some v) : ∃ j, seqIndex? i xs.length = some j /\ xs[j]? = some v /\ j < xs.length /\ -(xs.length : Int) <= i /\ i < xs.length := by
 unfold atI at h
 cases e : ixN xs.length i with
 | none => rw [e] at h; cases h
 | some j =>
  rw [e] at h
  obtain ⟨h1, h2, h3, h4⟩ := ixN_seq e
  exact ⟨j, h1, h, h2, h3, h4⟩
theorem atI_nat {α : Type} {xs : List α} {j : Nat} {v : α} (h : xs[j]? = some v) : atI xs (j : Int) = some v := by
 have hj : j < xs.length := (List.getElem?_eq_some_iff.mp h).1
 have e : ixN xs.length (j : Int) = some j := by
  unfold ixN
  rw [if_pos (by omega), if_pos (by omega)]; simp
 unfold atI; rw [e]; exact h
def PlainIx (b : Expr) : Prop := ∀ o i, subscripted b false o i = operate [o, i] (getItem o i)
def IxR (X : Cx) (r : R2) : Prop :=
 ∀ (value slice : Expr) (pins : List (Addr × Obj)) (s : Shared) (σ : St) (H : Hp) (x y : V) (v u : Value) (Q : VK), Inv X pins σ H s -> RelV x v -> RelV y u -> r x y H Q ->
  subscripted slice false v u = operate [v, u] (getItem v u) -> wpAny (model X.prog X.w) X.A (subscriptTail value slice v u) (EP X pins σ Q) X.xe s
def MtR (X : Cx) (id : String) (r : V -> List V -> Hp -> VK -> Prop) : Prop :=
 ∀ (pins : List (Addr × Obj)) (s : Shared) (σ : St) (H : Hp) (x : V) (xs : List V) (v : Value) (us : List Value) (Q : VK), Inv X pins σ H s -> RelV x v -> Vals xs us -> r x xs H Q ->
  wpAny (model X.prog X.w) X.A (call (.builtin id) (v :: us)) (EP X pins σ Q) X.xe s
section
variable {X : Cx} {a b : Expr} {ta tb : TE} {pos : Pos}
theorem pe_ix {r : R2} (hr : IxR X r) (ha : PE X a ta) (hb : PE X b tb) (hs : PlainIx b) : PE X (.Subscript a b pos) (tOp r ta tb) := by
 intro pins s σ H Q I h
 exact Subscript_ (binT ha hb I h fun v u s2 x y H2 I2 rx ry q => hr a b pins s2 σ H2 x y v u Q I2 rx ry q (hs _ _))
def rIxL (K : PySem.W.Frag) : R2 := fun x y H Q => ∃ p xs i v, x = .ref p /\ y = .int i /\ SqL K H p xs /\ atI xs i = some v /\ Q v H
def rIxT (K : PySem.W.Frag) : R2 := fun x y H Q => ∃ p xs i v, x = .ref p /\ y = .int i /\ SqT K H p xs /\ atI xs i = some v /\ Q v H
theorem ix_list : IxR X (rIxL X.K) := by
 intro value slice pins s σ H x y v u Q I rx ry h hs
 obtain ⟨p, xs, i, z, rfl, rfl, hq, he, q⟩ := h
 cases rx
 obtain ⟨t, rfl⟩ := ry
 obtain ⟨its, r, pl, hz⟩ := I.list hq
 obtain ⟨j, h1, h2, h3, h4, h5⟩ := atI_get he
 obtain ⟨w, ew, rw'⟩ := r.get h2
 have hl := r.length
 have hn := line63
 have fin : EP X pins σ Q w s := ⟨z, H, I, rw', q⟩
 by_cases h0 : 0 <= i
 · have hj : i.toNat = j := by
    rw [seqIndex_of h0 h5] at h1
    exact Option.some.inj h1
   exact item_listR pl.isList h0 (by omega) (by rw [hj]; simpa using ew) fin hs
 · have hj : (i + (its.toArray.size : Int)).toNat = j := by
    rw [seqIndex_neg (by omega) h4] at h1
    rw [List.size_toArray, ← hl]
    exact Option.some.inj h1
   exact subscriptTail_builtinR (x := w) pl.isList.typeIs slot_list_getitem.lookup
    (wpAny_getItem_list_neg (Q := fun r s' => r = w /\ EP X pins σ Q r s') pl.isList (by omega) (by rw [List.size_toArray] <;> omega) (by omega) (by rw [hj]; simpa using ew) ⟨rfl, fin⟩) hs
theorem ix_tup : IxR X (rIxT X.K) := by
 intro value slice pins s σ H x y v u Q I rx ry h hs
 obtain ⟨p, xs, i, z, rfl, rfl, hq, he, q⟩ := h
 cases rx
 obtain ⟨t, rfl⟩ := ry
 obtain ⟨its, r, pl, hz⟩ := I.tuple hq
 obtain ⟨j, h1, h2, h3, h4, h5⟩ := atI_get he
 obtain ⟨w, ew, rw'⟩ := r.get h2
 have hl := r.length
 have hn := line63
 have fin : EP X pins σ Q w s := ⟨z, H, I, rw', q⟩
 exact subscriptTail_builtinR (x := w) pl.typeIs slot_tuple_getitem.lookup
  (getItem_tuple (j := j) (Q := fun r s' => r = w /\ EP X pins σ Q r s') pl (by omega) (by omega) (by rw [List.size_toArray, ← hl]; exact h1) (by simpa using ew) ⟨rfl, fin⟩) hs
theorem mapSeq_set (its : List Value) (n j : Nat) (u : Value) : Obj.mapSeq (·.setIfInBounds j u) { cls := .type "list", data := .seq its.toArray n } = { cls := .type "list", data := .seq (its.set j u).toArray n } := by
 simp [Obj.mapSeq]
theorem Inv.lst {pins : List (Addr × Obj)} {σ : St} {H : Hp} {s : Shared} {p : Addr} {xs : List V} (I : Inv X pins σ H s) (h : H p = some (.lst xs)) :
  ∃ (its : List Value) (n : Nat), Vals xs its /\ s.heap.get? p = some { cls := .type "list", data := .seq its.toArray n } /\ xs.length <= sizeLine := by
 obtain ⟨z, its, n, r, e⟩ := I.hok p _ h
 exact ⟨its, n, r, e, z⟩
theorem Inv.lstUpd {pins : List (Addr × Obj)} {σ : St} {H : Hp} {s : Shared} {p : Addr} {xs ys : List V} {its its' : List Value} {n n' : Nat} {f : Obj -> Obj} (I : Inv X pins σ H s) (h : H p = some (.lst xs))
  (ho : s.heap.get? p = some { cls := .type "list", data := .seq its.toArray n }) (hf : f { cls := .type "list", data := .seq its.toArray n } = { cls := .type "list", data := .seq its'.toArray n' }) (r : Vals ys its') (hz : ys.length <= sizeLine) (t : Nat) :
  Inv X pins σ (upd H p (.lst ys)) { s with heap := s.heap.update p f, toks := t } := by
 have e : (s.heap.update p f).get? p = some { cls := .type "list", data := .seq its'.toArray n' } := by
  rw [Heap.get?_update_self f ho (by rw [hf] <;> rfl), hf]
 refine I.write (x := p) (e := p) (by rw [h]; trivial) (.inl rfl) (fun b u hb q => (Heap.get?_update_other _ _ (Ne.symm hb)).trans q) ⟨_, e⟩ ?_
 exact ⟨hz, its', n', r, e⟩
def rSetL : V -> V -> V -> Hp -> (Hp -> Prop) -> Prop := fun o i v H Q => ∃ p xs k j, o = .ref p /\ i = .int k /\ H p = some (.lst xs) /\ ixN xs.length k = some j /\ Q (upd H p (.lst (xs.set j v)))
theorem set_list : PSet X rSetL := by
 intro pins s σ H o i v ov iv u Q I ro ri rv h
 obtain ⟨p, xs, k, j, rfl, rfl, hp, hj, q⟩ := h
 cases ro
 obtain ⟨t, rfl⟩ := ri
 obtain ⟨its, n, r, ho, hz⟩ := I.lst hp
 obtain ⟨h1, h2, h3, h4⟩ := ixN_seq hj
 have hl := r.length
 have hn := line63
 have I' : Inv X pins σ (upd H p (.lst (xs.set j v))) { s with heap := s.heap.update p (Obj.mapSeq (·.setIfInBounds j u)) } :=
  I.lstUpd hp ho (mapSeq_set its n j u) (r.set rv j) (by rw [List.length_set]; exact hz) s.toks
 by_cases h0 : 0 <= k
 · have hk : k.toNat = j := by
    rw [seqIndex_of h0 h4] at h1
    exact Option.some.inj h1
   exact PySem.W.ki_setAt ho h0 (by omega) (by rw [List.size_toArray, ← hl]; exact h4) (by rw [hk]; exact ⟨_, I', q⟩)
 · have hk : (k + (its.toArray.size : Int)).toNat = j := by
    rw [seqIndex_neg (by omega) h3] at h1
    rw [List.size_toArray, ← hl]
    exact Option.some.inj h1
   exact PySem.W.ki_setBack ho (by omega) (by rw [List.size_toArray, ← hl]; exact h3) (by omega) (by rw [hk]; exact ⟨_, I', q⟩)
theorem slice_bounds (lo hi : Option Int) (n : Nat) : (sliceBounds lo hi none n).1 = ((HT.sIx n 0 lo : Nat) : Int) /\ (sliceBounds lo hi none n).2.1 = ((HT.sIx n n hi : Nat) : Int) /\ (sliceBounds lo hi none n).2.2 = 1 := by
 refine ⟨?_, ?_, rfl⟩
 · cases lo with
   | none => simp [sliceBounds, HT.sIx]
   | some i =>
    simp only [sliceBounds, HT.sIx, Option.getD_none, show (1 : Int) > 0 by decide, if_true]
    by_cases h : i < 0
    · simp only [h, if_true] <;> omega
    · simp only [h, if_false] <;> omega
 · cases hi with
   | none => simp [sliceBounds, HT.sIx]
   | some i =>
    simp only [sliceBounds, HT.sIx, Option.getD_none, show (1 : Int) > 0 by decide, if_true]
    by_cases h : i < 0
    · simp only [h, if_true] <;> omega
    · simp only [h, if_false] <;> omega
theorem slicePick_cut (its : List Value) (lo hi : Option Int) : slicePick its.toArray lo hi none = ((its.drop (HT.sIx its.length 0 lo)).take (HT.sIx its.length its.length hi - HT.sIx its.length 0 lo)).toArray := by
 obtain ⟨h1, h2, h3⟩ := slice_bounds lo hi its.toArray.size
 unfold slicePick
 rw [h1, h2, h3]
 simp only [sliceRange_one, pick_run, List.size_toArray] <;> rfl
def rSlL (K : PySem.W.Frag) : V -> Option Int -> Option Int -> Hp -> VK -> Prop := fun x lo hi H Q => ∃ a xs, x = .ref a /\ SqL K H a xs /\ ∀ p, H p = none -> Q (.ref p) (upd H p (.lst (cutV xs lo hi)))
theorem sl_list : SlR X (rSlL X.K) := by
 intro pins s σ H x v vl vu lo hi sl Q I rx hs pl pu h
 obtain ⟨a, xs, rfl, hx, q⟩ := h
 cases rx
 obtain ⟨its, r, ht, hz⟩ := I.list hx
 have hlen := r.length
 refine ⟨"list", _, slot_list_getitem.lookup, ht.isList.typeIs, ?_⟩
 refine wpAny_getItem_list_slice ht.isList hs pl pu .none (by simp) ?_ (by rw [List.size_toArray] <;> omega)
 rw [slicePick_cut, ← hlen]
 refine ⟨.ref s.heap.objs.size, _, I.laid (t' := s.toks) (o := .lst (cutV xs lo hi)) (fun b ob q => Heap.get?_push_of_some _ q) (Nat.le_refl _) ?_, rfl, q _ (I.hok.fresh (Nat.le_refl _))⟩
 exact ⟨Nat.le_trans (cutV_length xs lo hi) hz, _, 0, (r.drop (HT.sIx xs.length 0 lo)).take (HT.sIx xs.length xs.length hi - HT.sIx xs.length 0 lo), Heap.get?_push_size _ rfl⟩
def flatV : V -> Bool
 | .non => true
 | .bl _ => true
 | .int _ => true
 | .str _ => true
 | _ => false
def eqV : V -> V -> Bool
 | .non, .non => true
 | .bl a, .bl b => a == b
 | .bl a, .int b => (if a then 1 else 0) == b
 | .int a, .bl b => a == (if b then 1 else 0)
 | .int a, .int b => a == b
 | .str a, .str b => a == b
 | _, _ => false
theorem eqAt_V {A : Around} {s : Shared} {y x : V} {u v : Value} (ry : RelV y u) (rx : RelV x v) (fy : flatV y = true) (fx : flatV x = true) : SeqAt.EqAt A s u v (eqV y x) := by
 cases y with
 | non =>
  cases ry
  cases x with
  | non => cases rx; exact SeqAt.EqAt.same _
  | bl b => cases rx; exact SeqAt.EqAt.none_bool b
  | int b => obtain ⟨t, rfl⟩ := rx; exact SeqAt.EqAt.none_int b t
  | str b => obtain ⟨t, rfl⟩ := rx; exact SeqAt.EqAt.none_str b t
  | _ => exact absurd (show false = true from fx) Bool.false_ne_true
 | bl a =>
  cases ry
  cases x with
  | non => cases rx; exact SeqAt.EqAt.bool_none a
  | bl b => cases rx; exact SeqAt.EqAt.bool_bool a b
  | int b => obtain ⟨t, rfl⟩ := rx; exact SeqAt.EqAt.bool_int a b t
  | str b => obtain ⟨t, rfl⟩ := rx; exact SeqAt.EqAt.bool_str a b t
  | _ => exact absurd (show false = true from fx) Bool.false_ne_true
 | int a =>
  obtain ⟨t', rfl⟩ := ry
  cases x with
  | non => cases rx; exact SeqAt.EqAt.int_none a t'
  | bl b => cases rx; exact SeqAt.EqAt.int_bool a t' b
  | int b => obtain ⟨t, rfl⟩ := rx; exact SeqAt.EqAt.int_int a t' b t
  | str b => obtain ⟨t, rfl⟩ := rx; exact SeqAt.EqAt.int_str a t' b t
  | _ => exact absurd (show false = true from fx) Bool.false_ne_true
 | str a =>
  obtain ⟨t', rfl⟩ := ry
  cases x with
  | non => cases rx; exact SeqAt.EqAt.str_none a t'
  | bl b => cases rx; exact SeqAt.EqAt.str_bool a t' b
  | int b => obtain ⟨t, rfl⟩ := rx; exact SeqAt.EqAt.str_int a t' b t
  | str b => obtain ⟨t, rfl⟩ := rx; exact SeqAt.EqAt.str_str a t' b t
  | _ => exact absurd (show false = true from fx) Bool.false_ne_true
 | _ => exact absurd (show false = true from fy) Bool.false_ne_true
def eqU (x : V) (u : Value) : Bool := match u with
 | .none => eqV .non x
 | .bool b => eqV (.bl b) x
 | .int i _ => eqV (.int i) x
 | .str z _ => eqV (.str z) x
 | _ => false
theorem eqU_of {x y : V} {u : Value} (r : RelV y u) (f : flatV y = true) : eqU x u = eqV y x := by
 cases y with
 | non => cases r; rfl
 | bl b => cases r; rfl
 | int i => obtain ⟨t, rfl⟩ := r; rfl
 | str z => obtain ⟨t, rfl⟩ := r; rfl
 | _ => exact absurd (show false = true from f) Bool.false_ne_true
theorem any_eqU {x : V} : ∀ {xs : List V} {us : List Value}, Vals xs us -> xs.all flatV = true -> us.any (eqU x) = xs.any fun y => eqV y x
 | _, _, .nil, _ => rfl
 | y :: xs, u :: us, .cons r t, f => by
  rw [List.all_cons, Bool.and_eq_true] at f
  rw [List.any_cons, List.any_cons, eqU_of r f.1, any_eqU t f.2]
theorem mem_eqAt {A : Around} {s : Shared} {x : V} {v : Value} (rx : RelV x v) (fx : flatV x = true) : ∀ {xs : List V} {us : List Value}, Vals xs us -> xs.all flatV = true -> ∀ u ∈ us, SeqAt.EqAt A s u v (eqU x u)
 | _, _, .nil, _ => fun u hu => by cases hu
 | y :: xs, u :: us, .cons r t, f => fun u' hu => by
  rw [List.all_cons, Bool.and_eq_true] at f
  rcases List.mem_cons.mp hu with rfl | hu
  · rw [eqU_of r f.1]; exact eqAt_V r rx f.1 fx
  · exact mem_eqAt rx fx t f.2 u' hu
def inV (x : V) (xs : List V) : Bool := xs.any fun y => eqV y x
def rIn (K : PySem.W.Frag) (neg : Bool) : R2 := fun x y H Q => ∃ p xs, y = .ref p /\ (SqL K H p xs \/ SqT K H p xs) /\ flatV x = true /\ xs.all flatV = true /\ Q (.bl (if neg then !inV x xs else inV x xs)) H
theorem op_in_seq : OpR X (compareOp .In) (rIn X.K false) := by
 intro pins s σ H x y v u Q I rx ry h
 obtain ⟨p, xs, rfl, hq, fx, fs, q⟩ := h
 cases ry
 rcases hq with hq | hq
 · obtain ⟨its, r, pl, hz⟩ := I.list hq
   refine SeqAt.in_listAt (eqU x) pl.isList (fun w hw => mem_eqAt rx fx r fs w (by simpa using hw)) ⟨.bl _, H, I, rfl, ?_⟩
   rw [show its.toArray.any (eqU x) = its.any (eqU x) by simp, any_eqU r fs]
   exact q
 · obtain ⟨its, r, pl, hz⟩ := I.tuple hq
   refine SeqAt.in_tupleAt (eqU x) pl (fun w hw => mem_eqAt rx fx r fs w (by simpa using hw)) ⟨.bl _, H, I, rfl, ?_⟩
   rw [show its.toArray.any (eqU x) = its.any (eqU x) by simp, any_eqU r fs]
   exact q
theorem call_len_seq : CallR X (.builtin "len") (fun xs H Q => ∃ p ys, xs = [.ref p] /\ (SqL X.K H p ys \/ SqT X.K H p ys) /\ Q (.int ys.length) H) := by
 intro pins s σ H xs us Q I r h
 obtain ⟨p, ys, rfl, hq, q⟩ := h
 obtain ⟨u, rfl, rx⟩ := vals1 r
 cases rx
 have hn := line63
 rcases hq with hq | hq
 · obtain ⟨its, r', pl, hz⟩ := I.list hq
   have hlen := r'.length
   exact Calls.call_len_list pl.isList (by simp only [List.size_toArray] <;> omega) ⟨.int ys.length, H, I.tok _, ⟨s.toks + 1, by rw [List.size_toArray, hlen]⟩, q⟩
 · obtain ⟨its, r', pl, hz⟩ := I.tuple hq
   have hlen := r'.length
   exact len_tuple pl (by simp only [List.size_toArray] <;> omega) ⟨.int ys.length, H, I.tok _, ⟨s.toks + 1, by rw [List.size_toArray, hlen]⟩, q⟩
theorem call_list_of : CallR X (.type "list") (fun xs H Q => ∃ p ys, xs = [.ref p] /\ (SqL X.K H p ys \/ SqT X.K H p ys) /\ ∀ l, H l = none -> Q (.ref l) (upd H l (.lst ys))) := by
 intro pins s σ H xs us Q I r h
 obtain ⟨p, ys, rfl, hq, q⟩ := h
 obtain ⟨u, rfl, rx⟩ := vals1 r
 cases rx
 have fin : ∀ (its : List Value), Vals ys its -> ys.length <= sizeLine -> ∀ (h' : Heap) (c' : Nat), (∀ b o', s.heap.get? b = some o' -> h'.get? b = some o') ->
   h'.get? s.heap.objs.size = some { cls := .type "list", dict := none, data := .seq its.toArray c', slots := #[] } -> EP X pins σ Q (.ref s.heap.objs.size) { s with heap := h' } := fun its r' hz h' c' kp e =>
  ⟨.ref s.heap.objs.size, _, I.laid (t' := s.toks) kp (Nat.le_refl _) (show ObjOk X.prog X.w _ h' _ (.lst ys) from ⟨hz, its, c', r', e⟩), rfl, q _ (I.hok.fresh (Nat.le_refl _))⟩
 rcases hq with hq | hq
 · obtain ⟨its, r', pl, hz⟩ := I.list hq
   have hlen := r'.length
   obtain ⟨o, ho, hc, n, hd⟩ := pl.isList
   exact call_list_seq p (.inl rfl) ho hc hd (fun h' c' kp e => fin its r' hz h' c' kp e) (by simp only [List.size_toArray] <;> omega)
 · obtain ⟨its, r', pl, hz⟩ := I.tuple hq
   have hlen := r'.length
   obtain ⟨o, ho, hc, n, hd⟩ := pl
   exact call_list_seq p (.inr rfl) ho hc hd (fun h' c' kp e => fin its r' hz h' c' kp e) (by simp only [List.size_toArray] <;> omega)
theorem call_tuple_of : CallR X (.type "tuple") (fun xs H Q => ∃ p ys, xs = [.ref p] /\ ((SqL X.K H p ys /\ ∀ l, H l = none -> Q (.ref l) (upd H l (.tup ys))) \/ (SqT X.K H p ys /\ Q (.ref p) H))) := by
 intro pins s σ H xs us Q I r h
 obtain ⟨p, ys, rfl, h⟩ := h
 obtain ⟨u, rfl, rx⟩ := vals1 r
 cases rx
 rcases h with ⟨hq, q⟩ | ⟨hq, q⟩
 · obtain ⟨its, r', pl, hz⟩ := I.list hq
   have hlen := r'.length
   refine call_tuple_list pl.isList (fun h' kp => ?_) (by simp only [List.size_toArray] <;> omega)
   have I1 : Inv X pins σ H { s with heap := h' } := I.kept (t' := s.toks) kp
   have I2 : Inv X pins σ (upd H h'.objs.size (.tup ys)) { s with heap := h'.push { cls := .type "tuple", data := .seq its.toArray } } :=
    I1.laid (t' := s.toks) (fun b o e => Heap.get?_push_of_some _ e) (Nat.le_refl _) (show ObjOk X.prog X.w _ _ _ (.tup ys) from ⟨hz, its, r', IsTup.new _ _⟩)
   exact ⟨.ref h'.objs.size, _, I2, rfl, q _ (I1.hok.fresh (Nat.le_refl _))⟩
 · obtain ⟨its, r', pl, hz⟩ := I.tuple hq
   exact call_tuple_same pl ⟨.ref p, H, I, rfl, q⟩
def tyV (K : PySem.W.Frag) (T : String) (x : V) (H : Hp) : Prop := match x with
 | .str _ => T = "str"
 | .int _ => T = "int"
 | .ref p => (T = "list" /\ ∃ xs, SqL K H p xs) \/ (T = "tuple" /\ ∃ o, K.lookup p = some o /\ o.cls = .type "tuple" /\ o.dict = none) \/
   (T = "dict" /\ ((∃ kvs, H p = some (.dK kvs)) \/ ∃ kvs, H p = some (.dT kvs))) \/ (T = "set" /\ ∃ S n, H p = some (.set S n))
 | _ => False
theorem tyV_is {pins : List (Addr × Obj)} {σ : St} {H : Hp} {s : Shared} {T : String} {x : V} {v : Value} (I : Inv X pins σ H s) (r : RelV x v) (ty : tyV X.K T x H) :
  s.TypeIs v T /\ ∀ a, v = .ref a -> ∃ ob, s.heap.get? a = some ob /\ ob.dict = none := by
 cases x with
 | str z =>
  obtain ⟨t, rfl⟩ := r
  cases (show T = "str" from ty)
  exact ⟨typeIs_str s z t, fun _ e => nomatch e⟩
 | int i =>
  obtain ⟨t, rfl⟩ := r
  cases (show T = "int" from ty)
  exact ⟨typeIs_int s i t, fun _ e => nomatch e⟩
 | ref p =>
  cases r
  rcases ty with ⟨rfl, xs, hq⟩ | ⟨rfl, o, hk, hc, hd⟩ | ⟨rfl, hk⟩ | ⟨rfl, S, n, hk⟩
  · obtain ⟨its, _, pl, _⟩ := I.list hq
    refine ⟨pl.isList.typeIs, fun a e => ?_⟩
    cases e
    obtain ⟨o, n, e, c, hd, _⟩ := pl
    exact ⟨o, e, hd⟩
  · refine ⟨⟨o, I.kIn p o hk, hc⟩, fun a e => ?_⟩
    cases e
    exact ⟨o, I.kIn _ o hk, hd⟩
  · have z : ∃ o, s.heap.get? p = some o /\ o.ExactDict := by
     rcases hk with ⟨kvs, hk⟩ | ⟨kvs, hk⟩
     · obtain ⟨_, _, _, _, o, _, _, e, ex, _⟩ := I.hok p _ hk
       exact ⟨o, e, ex⟩
     · obtain ⟨_, _, _, _, o, _, _, e, ex, _⟩ := I.hok p _ hk
       exact ⟨o, e, ex⟩
    obtain ⟨o, e, ex⟩ := z
    refine ⟨⟨o, e, ex.1⟩, fun a e2 => ?_⟩
    cases e2
    exact ⟨o, e, ex.2.1⟩
  · obtain ⟨o, _, _, _, e, ex, _⟩ := I.hok p _ hk
    refine ⟨⟨o, e, ex.1⟩, fun a e2 => ?_⟩
    cases e2
    exact ⟨o, e, ex.2.1⟩
 | _ => exact False.elim ty
def tBM0 (K : PySem.W.Frag) (T : String) (r : V -> List V -> Hp -> VK -> Prop) (to : TE) : TE := fun σ H Q => to σ H fun x H1 => tyV K T x H1 /\ r x [] H1 Q
def tBM (K : PySem.W.Frag) (T : String) (r : V -> List V -> Hp -> VK -> Prop) (to : TE) (t : TA) : TE := fun σ H Q => to σ H fun x H1 => tyV K T x H1 /\ t σ H1 fun xs H2 => r x xs H2 Q
variable {o e : Expr} {es : List Expr} {to : TE} {t : TA} {name : Str} {apos cpos : Pos} {T id : String} {r : V -> List V -> Hp -> VK -> Prop}
theorem pe_bm0 (pa : PlainAttrs T) (slot : Slot T name id) (hty : typeOf (.builtin id) = pure (.type "method_descriptor")) (hm : MtR X id r) (ho : PE X o to)
  (hbase : attributeBase o name X.env (eval o X.env) = eval o X.env := by rfl) (hline : (apos.endLine == cpos.line) = true := by rfl) : PE X (.Call (.Attribute o name apos) [] [] cpos) (tBM0 X.K T r to) := by
 intro pins s σ H Q I h
 refine wpAny_Call_method0_late hbase hline (thn (ho pins s σ H _ I h) fun v s1 ⟨x, H1, I1, r1, ty, q1⟩ => ?_)
 obtain ⟨h1, h2⟩ := tyV_is I1 r1 ty
 exact ⟨T, id, pa, slot, hty, h1, h2, Calls.callWith_builtin rfl (PySem.evalArgs_none (hm pins s1 σ H1 x [] v [] Q I1 r1 .nil q1))⟩
theorem pe_bm (pa : PlainAttrs T) (slot : Slot T name id) (hty : typeOf (.builtin id) = pure (.type "method_descriptor")) (hm : MtR X id r) (ho : PE X o to) (ha : PA X (e :: es) t)
  (hbase : attributeBase o name X.env (eval o X.env) = eval o X.env := by rfl)
  (hfew : ((backTo cpos (starEach (e :: es) X.env)).all (fun x => !x.1) && (backToKw cpos (keywordEach [] X.env)).all (fun x => x.1.isSome)
   && decide ((e :: es).length + ([] : List Keyword).length + (if ([] : List Keyword).isEmpty then 0 else 1) < 30)) = true := by rfl)
  (hline : (apos.endLine == cpos.line) = true := by rfl) (hs : starEach (e :: es) X.env = (false, eval e X.env) :: starEach es X.env := by rfl) (hplain : (backTo cpos (starEach es X.env)).any (·.1) = false := by rfl) :
  PE X (.Call (.Attribute o name apos) (e :: es) [] cpos) (tBM X.K T r to t) := by
 intro pins s σ H Q I h
 refine wpAny_Call_method_late hbase hfew hline rfl (thn (ho pins s σ H _ I h) fun v s1 ⟨x, H1, I1, r1, ty, q1⟩ => ?_)
 obtain ⟨h1, h2⟩ := tyV_is I1 r1 ty
 refine ⟨T, id, pa, slot, hty, h1, h2, ?_⟩
 have hA := ha cpos pins s1 σ H1 _ I1 q1
 rw [hs] at hA ⊢
 refine Calls.callWith_builtin (by show (false || (backTo cpos (starEach es X.env)).any (·.1)) = false; rw [hplain] <;> rfl) (Calls.evalArgs_plain ?_)
 exact thn hA fun us s2 ⟨vs, H2, I2, r2, q2⟩ => hm pins s2 σ H2 x vs v us Q I2 r1 r2 q2
end
end L2
namespace L2
open PySem PySem.Spec PyProof.Rows
def MtM (X : Cx) (id : String) (r : V -> List V -> Hp -> VK -> Prop) : Prop :=
 ∀ (pins : List (Addr × Obj)) (s : Shared) (σ : St) (H : Hp) (x : V) (xs : List V) (v : Value) (us : List Value) (Q : VK), Inv X pins σ H s -> RelV x v -> Vals xs us -> r x xs H Q ->
  wpAny (model X.prog X.w) X.A (call (.builtin id) (v :: us)) (EP X pins σ Q) X.xe s
theorem Vals.one : ∀ {x : V} {us : List Value}, Vals [x] us -> ∃ u, us = [u] /\ RelV x u
 | _, _, .cons r .nil => ⟨_, rfl, r⟩
theorem Vals.two : ∀ {x y : V} {us : List Value}, Vals [x, y] us -> ∃ u v, us = [u, v] /\ RelV x u /\ RelV y v
 | _, _, _, .cons r (.cons q .nil) => ⟨_, _, rfl, r, q⟩
theorem Vals.zero : ∀ {us : List Value}, Vals [] us -> us = []
 | _, .nil => rfl
theorem Vals.dropLast {xs : List V} {us : List Value} (h : Vals xs us) : Vals xs.dropLast us.dropLast := by
 induction h with
 | nil => exact .nil
 | cons r t ih =>
  cases t with
  | nil => exact .nil
  | cons q t' => exact .cons r ih
theorem Vals.reverse {xs : List V} {us : List Value} (h : Vals xs us) : Vals xs.reverse us.reverse := by
 induction h with
 | nil => exact .nil
 | cons r t ih => rw [List.reverse_cons, List.reverse_cons]; exact Vals.append ih (.cons r .nil)
theorem erase_last {α : Type} (l : List α) : l.eraseIdx (l.length - 1) = l.dropLast := by
 induction l with
 | nil => rfl
 | cons a r ih =>
  cases r with
  | nil => rfl
  | cons b r =>
   have e : (a :: b :: r).length - 1 = ((b :: r).length - 1) + 1 := by
    have h1 : (a :: b :: r).length = r.length + 2 := rfl
    have h2 : (b :: r).length = r.length + 1 := rfl
    omega
   rw [e, List.eraseIdx_cons_succ, ih]
   all_goals rfl
section
variable {X : Cx} {pins : List (Addr × Obj)} {σ : St} {H : Hp} {s : Shared} {l b : Addr} {xs ys zs : List V}
theorem Inv.lset {its its' : List Value} {n : Nat} {f : Array Value -> Array Value} {t' : Nat} (I : Inv X pins σ H s) (hH : H l = some (.lst xs))
  (e : s.heap.get? l = some { cls := .type "list", data := .seq its.toArray n }) (hf : f its.toArray = its'.toArray) (hv : Vals ys its') (hz : ys.length <= sizeLine) :
  Inv X pins σ (upd H l (.lst ys)) { s with heap := s.heap.update l (Obj.mapSeq f), toks := t' } := by
 have q := PySem.IsL.update e f
 rw [hf] at q
 refine I.write (x := l) (e := l) (by rw [hH]; exact trivial) (.inl rfl) (fun b' u hb hu => (Heap.get?_update_other s.heap (Obj.mapSeq f) (Ne.symm hb)).trans hu) ⟨_, q⟩ ?_
 exact ⟨hz, its', _, hv, q⟩
theorem Inv.lnew {its : List Value} {t' : Nat} (I : Inv X pins σ H s) (hv : Vals ys its) (hz : ys.length <= sizeLine) :
  Inv X pins σ (upd H s.heap.objs.size (.lst ys)) { s with heap := s.heap.push { cls := .type "list", data := .seq its.toArray }, toks := t' } :=
 I.laid (fun _ _ q => Heap.get?_push_of_some _ q) (Nat.le_refl _) ⟨hz, its, 0, hv, Heap.get?_push_size _ rfl⟩
theorem Inv.fresh (I : Inv X pins σ H s) : H s.heap.objs.size = none := I.hok.fresh (Nat.le_refl _)
theorem Inv.lstM (I : Inv X pins σ H s) (hH : H l = some (.lst xs)) : xs.length <= sizeLine /\ ∃ (its : List Value) (n : Nat), Vals xs its /\ xs.length = its.length /\ s.heap.get? l = some { cls := .type "list", data := .seq its.toArray n } := by
 obtain ⟨z, its, n, r, e⟩ := I.hok l _ hH
 exact ⟨z, its, n, r, r.length, e⟩
theorem notLongL {n : Nat} (h : n <= sizeLine) : Builtin.List.listTooLong n = false := by
 unfold Builtin.List.listTooLong
 exact decide_eq_false (by omega)
end
section
variable {X : Cx}
def rAppend : V -> List V -> Hp -> VK -> Prop := fun x vs H Q => ∃ l xs y, x = .ref l /\ vs = [y] /\ H l = some (.lst xs) /\ xs.length < sizeLine /\ Q .non (upd H l (.lst (xs ++ [y])))
theorem mt_append : MtM X "list.append" rAppend := by
 intro pins s σ H x vs v us Q I rx rv h
 obtain ⟨l, xs, y, rfl, rfl, hH, hz, q⟩ := h
 cases rx
 obtain ⟨u, rfl, ru⟩ := rv.one
 obtain ⟨z, its, n, r, hl, e⟩ := I.lstM hH
 refine call_meets F.slot_list_append ⟨_, e, rfl⟩ F.entry_list_append (F.args_list_append_2 _ _) (PySem.list_append l its.toArray n u (by rw [List.size_toArray]; omega)) ⟨e, ?_⟩
 refine ⟨.non, _, I.lset (its' := its ++ [u]) hH e (by simp) (r.append (.cons ru .nil)) ?_, rfl, q⟩
 rw [List.length_append, List.length_singleton]
 omega
def rExtend : V -> List V -> Hp -> VK -> Prop := fun x vs H Q => ∃ l b xs zs, x = .ref l /\ vs = [.ref b] /\ H l = some (.lst xs) /\ H b = some (.lst zs) /\ xs.length + zs.length <= sizeLine /\ Q .non (upd H l (.lst (xs ++ zs)))
theorem mt_extend : MtM X "list.extend" rExtend := by
 intro pins s σ H x vs v us Q I rx rv h
 obtain ⟨l, b, xs, zs, rfl, rfl, hH, hB, hz, q⟩ := h
 cases rx
 obtain ⟨u, rfl, ru⟩ := rv.one
 cases ru
 obtain ⟨z, its, n, r, hl, e⟩ := I.lstM hH
 obtain ⟨z2, its2, n2, r2, hl2, e2⟩ := I.lstM hB
 have hsz : its.toArray.size + its2.toArray.size <= sizeLine := by rw [List.size_toArray, List.size_toArray]; omega
 have hlong : ¬ (!its.toArray.isEmpty && Builtin.List.listTooLong (its.toArray.size + its2.toArray.size)) = true := by
  rw [notLongL hsz, Bool.and_false]
  exact Bool.false_ne_true
 refine call_meets F.slot_list_extend ⟨_, e, rfl⟩ F.entry_list_extend (F.args_list_extend_2 _ _)
  (AutoSeq1.list_extend_list_list_0 l its.toArray n b its2.toArray n2 hlong (by rw [List.size_toArray]; omega) (by omega)) ⟨e, e2, ?_⟩
 refine ⟨.non, _, I.lset (its' := its ++ its2) hH e (by simp) (r.append r2) ?_, rfl, q⟩
 rw [List.length_append]
 omega
def rPop : V -> List V -> Hp -> VK -> Prop := fun x vs H Q => ∃ l xs y, x = .ref l /\ vs = [] /\ H l = some (.lst xs) /\ xs[xs.length - 1]? = some y /\ Q y (upd H l (.lst xs.dropLast))
theorem mt_pop : MtM X "list.pop" rPop := by
 intro pins s σ H x vs v us Q I rx rv h
 obtain ⟨l, xs, y, rfl, rfl, hH, hy, q⟩ := h
 cases rx
 have hus := rv.zero
 subst hus
 obtain ⟨z, its, n, r, hl, e⟩ := I.lstM hH
 obtain ⟨u, hu, ru⟩ := r.get hy
 have hy' : its.toArray[its.toArray.size - 1]? = some u := by
  show its.toArray[its.length - 1]? = some u
  rw [← Array.getElem?_toList, ← hl]
  exact hu
 refine call_meets F.slot_list_pop ⟨_, e, rfl⟩ F.entry_list_pop (F.args_list_pop_1 _) (MeetsSeq.list_pop_last l its.toArray n u hy' (by rw [List.size_toArray]; omega)) ⟨e, ?_⟩
 refine ⟨y, _, I.lset (its' := its.dropLast) hH e ?_ r.dropLast ?_, ru, q⟩
 · show its.toArray.eraseIdxIfInBounds (its.toArray.size - 1) = its.dropLast.toArray
   rw [List.size_toArray, List.eraseIdxIfInBounds_toArray, erase_last]
 · rw [List.length_dropLast]
   omega
def rReverse : V -> List V -> Hp -> VK -> Prop := fun x vs H Q => ∃ l xs, x = .ref l /\ vs = [] /\ H l = some (.lst xs) /\ Q .non (upd H l (.lst xs.reverse))
theorem mt_reverse : MtM X "list.reverse" rReverse := by
 intro pins s σ H x vs v us Q I rx rv h
 obtain ⟨l, xs, rfl, rfl, hH, q⟩ := h
 cases rx
 have hus := rv.zero
 subst hus
 obtain ⟨z, its, n, r, hl, e⟩ := I.lstM hH
 refine call_meets F.slot_list_reverse ⟨_, e, rfl⟩ F.entry_list_reverse (F.args_list_reverse_1 _) (AutoSeq1.list_reverse_list_0 l its.toArray n (by rw [List.size_toArray]; omega)) ⟨e, ?_⟩
 refine ⟨.non, _, I.lset (its' := its.reverse) hH e (by simp) r.reverse ?_, rfl, q⟩
 rw [List.length_reverse]
 omega
end
section
variable {prog : Program} {w : World} {A : Around} {E : Value -> Shared -> Prop} {s : Shared}
end
section
variable {X : Cx}
end
end L2
namespace Att
open PySem PySem.W PySem.Calls PyProof.Rows
theorem ints_of_wellAll {P : Params} {h : Heap} : ∀ (ns : List Int) (vs : List Value), WellAll P h vs (ns.map WData.int) -> IntsAre vs ns := by
 intro ns
 induction ns with
 | nil =>
  intro vs w
  rw [List.map_nil] at w
  cases w
  exact .nil
 | cons n ns ih =>
  intro vs w
  rw [List.map_cons] at w
  cases w with
  | cons a b =>
   cases a
   exact .cons _ _ (ih _ b)
theorem script_of {l : OpenLaw} {n : Nat} (hn : l.most = some n) {P : Params} {h : Heap} {args : List WData} {vals : List Value}
  (hpre : l.row.toRowW.claim.pre args = true) (hwl : WellAll P h vals args) :
  ∃ a vs ns, vals = [Value.ref a] /\ args = [WData.list (ns.map WData.int)] /\ h.get? a = some { cls := .type "list", data := .seq vs.toArray } /\ IntsAre vs ns /\ ns.length <= n := by
 have hsh : WShape.hasAll [] args [.list .int] = true := (pre_splitW hpre).1
 have hc : l.pre.holds [] { args := args } = true := (pre_splitW hpre).2
 obtain ⟨d, r, rfl, h1, h2⟩ := hasAllW_cons hsh
 obtain rfl := hasAllW_nil h2
 obtain ⟨xs, rfl, h3⟩ := hasW_list h1
 obtain ⟨ns, rfl⟩ := items_int h3
 have hlen : ns.length <= n := by
  unfold OpenLaw.pre at hc
  have h4 : (WTm.not (.lt (.lit (.int (n : Int))) (.len (.arg 0)))).holds [] { args := [.list (ns.map .int)] } = true := by
   have h4 := (holds_andW hc).1
   rw [hn] at h4
   exact h4
  have h5 := condW_of h4 (w_not (w_lt w_lit (w_len_list (w_arg rfl))))
  rw [List.length_map] at h5
  refine Nat.le_of_not_lt fun q => ?_
  have q' : (n : Int) < ((ns.length : Nat) : Int) := by omega
  first
   | (rw [decide_eq_true q'] at h5; exact absurd h5 (by decide))
   | (simp at h5; omega)
 cases hwl with
 | cons w1 w2 =>
  cases w2
  cases w1 with
  | list ho hall => exact ⟨_, _, ns, rfl, rfl, ho, ints_of_wellAll ns _ hall, hlen⟩
theorem post_true (l : OpenLaw) (args : List WData) : l.row.toRowW.claim.post args (.bool true) args = true :=
 postW_of (r := l.row.toRowW) (X := (true == true))
  (show WShape.has [] (.bool true) .bool = true by first | rfl | decide | simp [WShape.has, WShape.arms, WShape.armsAll])
  (show (WTm.eq .res (.lit (.bool true))).value [] { args := args, res := some (.bool true), after := args } = some (.bool (true == true)) from w_eq_bool (w_res rfl) w_lit) rfl
theorem attach_call {l : OpenLaw} {n : Nat} {q : Program} {loose : List Str} {XP : (Str -> Option Value) -> Heap -> Prop} {YP : World -> Heap -> Prop} {d : DefRec}
  (hn : l.most = some n) (hdf : d.params.defaults = [])
  (call : ∀ (w : World) (s₀ s₁ : Shared) (mg mb : Str -> Option Value) (fa : Addr) (o : Obj) (pm cd doc : Value) (a : Addr) (vs : List Value) (ns : List Int),
   Ground q loose [] XP w s₀ mg mb s₁.heap -> YP w s₁.heap ->
   s₁.heap.get? fa = some o -> o.data = .func (docDef d.name d.params d.body d.scope pm cd doc) -> s₁.heap.CodeRec cd d.name -> mg d.name = some (.ref fa) ->
   s₁.heap.get? a = some { cls := .type "list", data := .seq vs.toArray } -> IntsAre vs ns -> ns.length <= n -> s₁.gens = #[] ->
   codeAny (model l.prog w) callerA (.call (.ref fa) ⟨[.ref a], []⟩) (fun r s' => r = .ok (.ret (.bool true)) /\ OldK s₁.heap s'.heap /\ s'.os = s₁.os /\ AllBare s'.gens) s₁) :
  WalkO q loose XP YP l.row.toRowW d [] (fun f vs => PySem.call f vs) := by
 intro w s₀ s₁ mg mb G Y fa o pm cd doc dV kV ho hd hcd hD hmg hg args vals as hpre hlay hrd hwl hlo
 obtain rfl : dV = .none := Dflts.none hD hdf
 obtain rfl : kV = .none := Dflts.noKw hD
 obtain ⟨a, vs, ns, rfl, rfl, hobj, hints, hlen⟩ := script_of hn hpre hwl
 refine enter_call (codeAny_mono (call w s₀ s₁ mg mb fa o pm cd doc a vs ns G Y ho (fd_plain hd) hcd hmg hobj hints hlen hg) fun r s' hq => ?_)
 obtain ⟨rfl, h2, h3, h4⟩ := hq
 exact ⟨.inl ⟨.bool true, .bool true, [], rfl, fun _ => rfl, .bool true, post_true l _, fun _ => ⟨List.Pairwise.nil, fun _ hm => (nomatch hm)⟩⟩, h2, h3, h4⟩
section
variable {prog : Program} {w : World} {A : Around} {E : Value -> Shared -> Prop} {s : Shared} {K : Frag}
end
end Att
namespace L2
open PySem PySem.Spec PyProof.Rows
theorem vals_ints : ∀ {vs : List Value} {ns : List Int}, IntsAre vs ns -> Vals (ns.map V.int) vs
 | _, _, .nil => .nil
 | _, _, .cons n t h => .cons ⟨t, rfl⟩ (vals_ints h)
def Only (H : Hp) : Prop := ∀ b, H b = none \/ ∃ o xs, H b = some (.frz o (.lst xs))
theorem law_call {P : Program} {w : World} {K : PySem.W.Frag} {mg mb : Str -> Option Value} {CX : CXT} {k : Nat} {fa a : Addr} {fd : FuncData} {x : Str} {sp : Sp} {s₁ : Shared} {vs : List Value} {ns : List Int}
  (KX : K.In s₁.heap) (hns : s₁.heap.Ns mainGlobals mg) (hb : s₁.heap.Ns builtinsNs mb) (hbb : ∀ x : Str, x ≠ "__name__" -> mb x = bootBuiltins x) (hlim : s₁.heap.NoLimit) (hg : s₁.gens = #[])
  (ha : s₁.heap.get? a = some { cls := .type "list", data := .seq vs.toArray }) (hi : IntsAre vs ns) (hl : ns.length <= sizeLine) (hr : Room k callerA)
  (F : ∀ base : Heap, K.In base -> base.Ns mainGlobals mg -> FnOk P w K mg base CX k fa fd [x] sp) (hbind : ∀ (s : Shared) (u : Value), BindsTo s fd ⟨[u], []⟩ [(x, u)])
  (hsp : ∀ H : Hp, Only H -> SqL K H a (ns.map V.int) -> sp [.ref a] H (fun v _ => v = .bl true) fun _ _ _ => False)
  (hCX : ∀ H e s', CX [] H s₁ (fun _ _ _ => False) e s' -> False) :
  codeAny (model P w) callerA (.call (.ref fa) ⟨[.ref a], []⟩) (fun r s' => r = .ok (.ret (.bool true)) /\ OldK s₁.heap s'.heap /\ s'.os = s₁.os /\ AllBare s'.gens) s₁ := by
 have rv := vals_ints hi
 have lenV := hi.length
 -- from an abstract heap in which nothing but the script may be tracked
 have core : ∀ H : Hp, Only H -> SqL K H a (ns.map V.int) -> HOk P w H s₁.heap -> (∀ b, H b ≠ none -> b = a) -> (H a ≠ none -> K.lookup a = none) ->
   codeAny (model P w) callerA (.call (.ref fa) ⟨[.ref a], []⟩) (fun r s' => r = .ok (.ret (.bool true)) /\ OldK s₁.heap s'.heap /\ s'.os = s₁.os /\ AllBare s'.gens) s₁ := by
  intro H hO hS hok hA hK
  have base_of : ∀ {b : Addr} {o : Obj}, s₁.heap.get? b = some o -> H b = none -> (hidT s₁.heap H).get? b = some o := fun e n => hidT_get e n
  have noA : ∀ {b : Addr} {o : Obj} {es : Array DictEntry} {ep : Nat}, s₁.heap.get? b = some o -> o.data = .dict es ep -> H b = none := fun {b o es ep} e d => by
   cases q : H b with
   | none => rfl
   | some u =>
    have e' : b = a := hA b (by rw [q]; simp)
    subst e'
    rw [ha] at e; cases e
    have d' : Data.seq vs.toArray _ = Data.dict es ep := d
    cases d'
  have nsK : ∀ {b : Addr} {m : Str -> Option Value}, s₁.heap.Ns b m -> (hidT s₁.heap H).Ns b m := fun {b m} ⟨o, es, ep, e, d, r⟩ => ⟨o, es, ep, base_of e (noA e d), d, r⟩
  have hKb : K.In (hidT s₁.heap H) := fun b o e => base_of (KX b o e) (by
   cases q : H b with
   | none => rfl
   | some u =>
    have e' : b = a := hA b (by rw [q]; simp)
    subst e'
    rw [hK (by rw [q]; simp)] at e; cases e)
  have hM : Mod K mg (hidT s₁.heap H) := ⟨hKb, nsK hns, ⟨mb, nsK hb, hbb⟩, let ⟨mc, h1, h2⟩ := hlim; ⟨mc, nsK h1, h2⟩⟩
  have e0 : Env0 P w K mg (hidT s₁.heap H) callerA [] s₁ H := ⟨rfl, hM, fun b o e => of_hidT e, Nat.le_of_eq (hidT_size _ _), trivial, fun b hb => absurd (show b ∈ ([] : List Addr) from hb) (by simp), hok, .of_eq hg⟩
  refine codeAny_mono ((F _ hKb (nsK hns)).run callerA [] s₁ H ⟨[.ref a], []⟩ [.ref a] [.ref a] _ _ hr e0 (hbind s₁ (.ref a)) (.cons rfl .nil) (hsp H hO hS)) fun r s' h => ?_
  cases r with
  | error e => exact (hCX H e s' h).elim
  | ok fl =>
   cases fl with
   | next => exact False.elim h
   | brk => exact False.elim h
   | cont => exact False.elim h
   | ret u =>
    obtain ⟨v, H', os, bare, un, hok', r', q⟩ := h
    have q' : v = .bl true := q
    subst q'
    obtain rfl : u = Value.bool true := r'
    refine ⟨rfl, OldK.of_keep fun b o e => ?_, os, bare⟩
    cases q : H b with
    | none => exact un.keep b o e q (by intro z; exact absurd (show b ∈ ([] : List Addr) from z) (by simp)) (by simp)
    | some u =>
     rcases hO b with z | ⟨ob, xs, z⟩
     · rw [q] at z; cases z
     · have z2 := un.frzs b ob _ z
       obtain ⟨e1, _⟩ := hok b _ z
       obtain ⟨e2, _⟩ := hok' b _ z2
       rw [e] at e1; cases e1
       exact e2
 cases hk : K.lookup a with
 | some o =>
  -- the script is one of the module's own objects
  have e := KX a o hk
  rw [ha] at e
  cases e
  refine core (fun _ => none) (fun _ => .inl rfl) (.inr ⟨_, vs.toArray, _, hk, rfl, rfl, rfl, by rw [List.size_toArray, lenV]; exact hl, by simpa using rv⟩) (fun b u z => by have z' : (none : Option HO) = some u := z; cases z') (fun b z => absurd rfl z) fun z => absurd rfl z
 | none =>
  refine core (fun b => if b = a then some (.frz { cls := .type "list", data := .seq vs.toArray } (.lst (ns.map V.int))) else none) (fun b => ?_) (.inl (.inr ⟨{ cls := .type "list", data := .seq vs.toArray }, if_pos rfl⟩)) (fun b u z => ?_) (fun b z => ?_) fun _ => hk
  · by_cases hb : b = a
    · exact .inr ⟨_, _, if_pos hb⟩
    · exact .inl (if_neg hb)
  · by_cases hb : b = a
    · have z' := (if_pos hb).symm.trans z
      cases z'
      subst hb
      exact ⟨ha, by rw [List.length_map]; exact hl, vs, _, rv, ha⟩
    · have z' := (if_neg hb).symm.trans z
      cases z'
  · by_cases hb : b = a
    · exact hb
    · exact absurd (if_neg hb) z
end L2
namespace L2
open PySem PySem.Spec PyProof.Rows
abbrev KOf {K : PySem.W.Frag} {h : Heap} (_ : K.In h) : PySem.W.Frag := K
theorem walk_of {l : PySem.W.OpenLaw} {n k : Nat} {q : Program} {loose : List Str} {XP : (Str -> Option Value) -> Heap -> Prop} {YP : World -> Heap -> Prop} {d : DefRec} {K : Params -> PySem.W.Frag} {CX : World -> CXT} {sp : World -> Sp} {x : Str}
  (hn : l.most = some n) (hn2 : n <= sizeLine) (hdf : d.params.defaults = []) (hr : Room k callerA)
  (hY : ∀ (w : World) (h : Heap), YP w h -> (K w.params).In h)
  (F : ∀ (w : World) (mg : Str -> Option Value) (fa : Addr) (h : Heap), (K w.params).In h -> h.Ns mainGlobals mg -> mg d.name = some (.ref fa) ->
   ∃ fd : FuncData, (∀ (s : Shared) (u : Value), BindsTo s fd ⟨[u], []⟩ [(x, u)]) /\
    ∀ base : Heap, (K w.params).In base -> base.Ns mainGlobals mg -> FnOk l.prog w (K w.params) mg base (CX w) k fa fd [x] (sp w))
  (hsp : ∀ (w : World) (H : Hp) (a : Addr) (ns : List Int), ns.length <= n -> Only H -> SqL (K w.params) H a (ns.map V.int) -> sp w [.ref a] H (fun v _ => v = .bl true) fun _ _ _ => False)
  (hCX : ∀ (w : World) (H : Hp) (s : Shared) (e : Value) (s' : Shared), CX w [] H s (fun _ _ _ => False) e s' -> False) :
  PySem.W.WalkO q loose XP YP l.row.toRowW d [] (fun f vs => PySem.call f vs) := by
 refine Att.attach_call hn hdf fun w s₀ s₁ mg mb fa o pm cd doc a vs ns G Y ho hd hcd hmg hobj hints hlen hg => ?_
 have KX := hY w _ Y
 obtain ⟨fd, hb, hF⟩ := F w mg fa _ KX G.T.g hmg
 exact law_call KX G.T.g G.T.b G.T.builtins G.T.nolimit hg hobj hints (Nat.le_trans hlen hn2) hr hF hb (fun H hO hS => hsp w H a ns hlen hO hS) fun H e s' => hCX w H s₁ e s'
end L2
namespace L2
open PySem PySem.Spec PyProof.Rows
def defArgs (s : Stmt) : Arguments := match s with
 | .FunctionDef _ a _ _ _ _ _ _ _ _ => a
 | _ => { posonlyargs := [], args := [], vararg := none, kwonlyargs := [], kw_defaults := [], kwarg := none, defaults := [] }
def defBody (s : Stmt) : List Stmt := match s with
 | .FunctionDef _ _ b _ _ _ _ _ _ _ => b
 | _ => []
def defScope (s : Stmt) : Scope := match s with
 | .FunctionDef _ _ _ _ _ _ sc _ _ _ => sc
 | _ => { kind := .function, names := [], isGenerator := false, isCoroutine := false }
abbrev CX0 : CXT := fun _ _ _ _ _ _ => False
abbrev E0 : XK := fun _ _ _ => False
theorem pass0 {X : Cx} : Passes CX0 X E0 := fun _ _ _ _ _ _ _ h => h.elim
structure Fun (K : PySem.W.Frag) (x qual : Str) (st : Stmt) (f : Addr) (fd : FuncData) : Prop where
 ex : ∃ (oc : Value) (od : Option Addr) (kV doc pm : Value) (an : Option Addr) (cdv ct : Value) (osl : Array (Option Value)),
  fd = PySem.W.fnOf x qual (defArgs st) (defBody st) (defScope st) .none kV doc pm an cdv ct /\ K.lookup f = some ⟨oc, od, .func fd, osl⟩ /\ PySem.W.codeIn K cdv qual = true
 kp : PySem.W.keepIn K (.ref f) = true
section
variable {P : Program} {w : World} {K : PySem.W.Frag} {mg : Str -> Option Value} {base : Heap}
theorem Fun.ok {x qual : Str} {st : Stmt} {f : Addr} {fd : FuncData} {N ps : List Str} {k : Nat} {sp : Sp} (F : Fun K x qual st f fd) (S : FnScope N ps (defScope st)) (len : ∀ vs H Q E, sp vs H Q E -> vs.length = ps.length)
  (hbody : ∀ (cdv : Value) (A : Around) (outer : List Env) (s : Shared) (H : Hp) (vs : List V) (Q : VK) (E : XK), Room k (A.deeper (envOfC qual (defScope st) s.heap.objs.size f cdv)) -> sp vs H Q E ->
   ∃ t, PSs (cxOf CX0 P w K mg base N qual (defScope st) f cdv A outer s H E).nox (defBody st) t /\ t { nx := fun _ H' => Q .non H', rt := Q } (start N vs) H) : FnOk P w K mg base CX0 (k + 1) f fd ps sp := by
 obtain ⟨oc, od, kV, doc, pm, an, cdv, ct, osl, rfl, lk, hcd⟩ := F.ex
 refine fn_of lk hcd S len fun A outer s H vs Q E hr hsp => ?_
 obtain ⟨t, h, q⟩ := hbody cdv A outer s H vs Q E hr hsp
 exact ⟨t, h.nox, q⟩
theorem Fun.binds {x qual : Str} {st : Stmt} {f : Addr} {fd : FuncData} {ps : List Str} (F : Fun K x qual st f fd)
  (h : ∀ (kV doc pm : Value) (an : Option Addr) (cdv ct : Value) (us : List Value), us.length = ps.length -> bindArgs (PySem.W.fnOf x qual (defArgs st) (defBody st) (defScope st) .none kV doc pm an cdv ct) ⟨us, []⟩ = pure (ps.zip us)) : Binds K fd ps [] := by
 obtain ⟨oc, od, kV, doc, pm, an, cdv, ct, osl, rfl, lk, hcd⟩ := F.ex
 exact .all (h kV doc pm an cdv ct)
theorem fun_mk {x qual : Str} {st : Stmt} {f : Addr} {oc : Value} {od an : Option Addr} {osl : Array (Option Value)} {kV doc pm cdv ct : Value} (l : K.lookup f = some ⟨oc, od, .func (PySem.W.fnOf x qual (defArgs st) (defBody st) (defScope st) .none kV doc pm an cdv ct), osl⟩)
  (c : PySem.W.codeIn K cdv qual = true) (k : PySem.W.keepIn K (.ref f) = true) : Fun K x qual st f (PySem.W.fnOf x qual (defArgs st) (defBody st) (defScope st) .none kV doc pm an cdv ct) := ⟨⟨oc, od, kV, doc, pm, an, cdv, ct, osl, rfl, l, c⟩, k⟩
end
theorem small1000 {n : Nat} (h : n <= 1000) : n < sizeLine := Nat.lt_of_le_of_lt h (by decide)
section
variable {X : Cx}
theorem pv (i : Nat) {x : Str} {pos : Pos} (hN : X.N[i]? = some x := by rfl) (hv : Vis X.env.scope x := by first | exact Or.inl rfl | exact Or.inr (Or.inl rfl) | exact Or.inr (Or.inr rfl)) (hd : (x == ("__debug__" : Str)) = false := by decide)
  (hcd : (x == ("__classdict__" : Str)) = false := by decide) : PE X (.Name x pos) (tVar i) := pe_var hN hv hd hcd
end
theorem iteF {A B : Prop} (h : B) : if false = true then A else B := by
 rw [if_neg Bool.false_ne_true]
 exact h
theorem iteT {A B : Prop} (h : A) : if true = true then A else B := by
 rw [if_pos rfl]
 exact h
theorem ite2 {c A B : Prop} [Decidable c] (h1 : c -> A) (h2 : ¬ c -> B) : if c then A else B := by
 by_cases h : c
 · rw [if_pos h]
   exact h1 h
 · rw [if_neg h]
   exact h2 h
theorem iteNS {c A B : Prop} [Decidable c] (hc : c) (h : B) : if (!decide c) = true then A else B := by
 rw [decide_eq_true hc]
 exact iteF h
def Same (H H' : Hp) : Prop := ∀ b o, H b = some o -> H' b = some o
theorem Same.refl (H : Hp) : Same H H := fun _ _ h => h
theorem Same.trans {H H1 H2 : Hp} (a : Same H H1) (b : Same H1 H2) : Same H H2 := fun c o h => b c o (a c o h)
theorem Same.free {H H' : Hp} (e : Same H H') {l : Addr} (h : H' l = Option.none) : H l = Option.none := by
 cases q : H l with
 | none => rfl
 | some o =>
  rw [e l o q] at h
  cases h
theorem Same.seq {K : PySem.W.Frag} {H H' : Hp} {a : Addr} {xs : List V} (e : Same H H') (h : SqL K H a xs) : SqL K H' a xs := by
 rcases h with (h | ⟨o, h⟩) | h
 · exact .inl (.inl (e _ _ h))
 · exact .inl (.inr ⟨o, e _ _ h⟩)
 · exact .inr h
end L2
set_option Elab.async false
set_option linter.all false
set_option maxRecDepth 100000
set_option maxHeartbeats 4000000
namespace L2
open PySem PySem.Spec PyProof.Rows
theorem of_pure {α β : Type} {M : Model} {A : Around} {a : α} {t : Sem β} {Q : α -> Shared -> Prop} {E : Value -> Shared -> Prop} {Q' : β -> Shared -> Prop} {E' : Value -> Shared -> Prop} {s : Shared}
  (h : wpAny M A (pure a) Q E s) (k : Q a s -> wpAny M A t Q' E' s) : wpAny M A t Q' E' s := fun Γ p hΓ => k (h Γ p hΓ) Γ p hΓ
def clGo (env : Env) : List (Str × NameKind) -> List (Str × Addr) -> List (Str × Addr)
 | [], cs => cs
 | (n, k) :: r, cs => clGo env r (if k == .free then (n, (env.cells.lookup n).getD 0) :: cs else cs)
def clOf (scope : Scope) (env : Env) : List (Str × Addr) := clGo env scope.names []
theorem clGo_forIn (env : Env) : ∀ (names : List (Str × NameKind)) (cs : List (Str × Addr)), (∀ y ∈ names, y.2 = .free -> ∃ c, env.cells.lookup y.1 = some c) ->
  (forIn names cs (fun (y : Str × NameKind) (r : List (Str × Addr)) => (if (y.2 == NameKind.free) = true then (do let a ← cellOf env y.1; pure (ForInStep.yield ((y.1, a) :: r))) else pure (ForInStep.yield r) : Sem (ForInStep (List (Str × Addr)))))) = (pure (clGo env names cs) : Sem (List (Str × Addr)))
 | [], cs, _ => rfl
 | (n, k) :: r, cs, h => by
  have ih := fun cs' => clGo_forIn env r cs' fun y hy => h y (List.mem_cons_of_mem _ hy)
  rw [List.forIn_cons]
  by_cases hk : (k == NameKind.free) = true
  · obtain ⟨c, hc⟩ := h (n, k) List.mem_cons_self (by simpa using hk)
    have hc' : env.cells.lookup n = some c := hc
    have e : cellOf env n = pure c := by unfold cellOf; rw [hc']
    show ((if (k == NameKind.free) = true then (do let a ← cellOf env n; pure (ForInStep.yield ((n, a) :: cs))) else pure (ForInStep.yield cs) : Sem (ForInStep (List (Str × Addr)))) >>= _) = _
    rw [if_pos hk, e]
    show (forIn r ((n, c) :: cs) _ : Sem (List (Str × Addr))) = pure (clGo env r (if (k == NameKind.free) = true then (n, (env.cells.lookup n).getD 0) :: cs else cs))
    rw [if_pos hk, hc']
    exact ih _
  · show ((if (k == NameKind.free) = true then (do let a ← cellOf env n; pure (ForInStep.yield ((n, a) :: cs))) else pure (ForInStep.yield cs) : Sem (ForInStep (List (Str × Addr)))) >>= _) = _
    rw [if_neg hk]
    show (forIn r cs _ : Sem (List (Str × Addr))) = pure (clGo env r (if (k == NameKind.free) = true then (n, (env.cells.lookup n).getD 0) :: cs else cs))
    rw [if_neg hk]
    exact ih _
theorem closure_is {scope : Scope} {env : Env} (h : ∀ y ∈ scope.names, y.2 = .free -> ∃ c, env.cells.lookup y.1 = some c) : closureFor scope env = pure (clOf scope env) := by
 have q := clGo_forIn env scope.names [] h
 unfold closureFor
 show ((forIn scope.names ([] : List (Str × Addr)) _ : Sem (List (Str × Addr))) >>= fun r => pure r) = _
 have e : ∀ (m : Sem (List (Str × Addr))) , m = pure (clOf scope env) -> (m >>= fun r => pure r) = pure (clOf scope env) := fun m hm => by rw [hm]; rfl
 apply e
 rw [← show (pure (clGo env scope.names []) : Sem (List (Str × Addr))) = pure (clOf scope env) from rfl, ← q]
theorem clGo_sub {env : Env} {y : Str} {c : Addr} : ∀ (names : List (Str × NameKind)) (cs : List (Str × Addr)), (∀ z ∈ names, z.2 = .free -> ∃ c, env.cells.lookup z.1 = some c) -> (∀ c, cs.lookup y = some c -> env.cells.lookup y = some c) ->
  (clGo env names cs).lookup y = some c -> env.cells.lookup y = some c
 | [], cs, _, hc, e => hc c e
 | (n, k) :: r, cs, h, hc, e => by
  refine clGo_sub r _ (fun z hz => h z (List.mem_cons_of_mem _ hz)) ?_ e
  intro c' e'
  by_cases hk : (k == NameKind.free) = true
  · rw [if_pos hk] at e'
    obtain ⟨d, hd⟩ := h (n, k) List.mem_cons_self (by simpa using hk)
    have hd' : env.cells.lookup n = some d := hd
    rw [List.lookup_cons] at e'
    by_cases hy : (y == n) = true
    · rw [hy] at e'
      have : y = n := by simpa using hy
      subst this
      rw [hd'] at e' ⊢
      exact e'
    · have hy' : (y == n) = false := by simpa using hy
      rw [hy'] at e'
      exact hc c' e'
  · rw [if_neg hk] at e'
    exact hc c' e'
theorem clGo_has {env : Env} {y : Str} : ∀ (names : List (Str × NameKind)) (cs : List (Str × Addr)), ((∃ c, cs.lookup y = some c) \/ (y, NameKind.free) ∈ names) -> ∃ c, (clGo env names cs).lookup y = some c
 | [], cs, h => by
  rcases h with h | h
  · exact h
  · exact absurd h (by simp)
 | (n, k) :: r, cs, h => by
  refine clGo_has r _ ?_
  rcases h with ⟨c, h⟩ | h
  · refine .inl ?_
    by_cases hk : (k == NameKind.free) = true
    · rw [if_pos hk, List.lookup_cons]
      by_cases hy : (y == n) = true
      · rw [hy]; exact ⟨_, rfl⟩
      · have hy' : (y == n) = false := by simpa using hy
        rw [hy']; exact ⟨c, h⟩
    · rw [if_neg hk]; exact ⟨c, h⟩
  · rcases List.mem_cons.mp h with h | h
    · refine .inl ?_
      cases h
      rw [if_pos (by rfl), List.lookup_cons]
      rw [show (y == y) = true by simp]
      exact ⟨_, rfl⟩
    · exact .inr h
theorem lookup_relabel {scope : Scope} {env : Env} {y : Str} : (relabel scope env).names.lookup y = (scope.names.lookup y).map fun k => if (k == NameKind.free && env.scope.kind == .function && env.kindOf y == some .cell) then NameKind.cell else k := by
 show List.lookup y (scope.names.map _) = _
 induction scope.names with
 | nil => rfl
 | cons a r ih =>
  obtain ⟨n, k⟩ := a
  rw [List.map_cons]
  by_cases hy : (y == n) = true
  · have : y = n := by simpa using hy
    subst this
    by_cases hc : (k == NameKind.free && env.scope.kind == .function && env.kindOf y == some .cell) = true
    · dsimp only
      rw [if_pos hc, List.lookup_cons, List.lookup_cons, hy]
      dsimp only [Option.map]
      rw [if_pos hc]
    · dsimp only
      rw [if_neg hc, List.lookup_cons, List.lookup_cons, hy]
      dsimp only [Option.map]
      rw [if_neg hc]
  · have hy' : (y == n) = false := by simpa using hy
    by_cases hc : (k == NameKind.free && env.scope.kind == .function && env.kindOf n == some .cell) = true
    · dsimp only
      rw [if_pos hc, List.lookup_cons, List.lookup_cons, hy']
      exact ih
    · dsimp only
      rw [if_neg hc, List.lookup_cons, List.lookup_cons, hy']
      exact ih
structure CompScope (N : List Str) (osc : Scope) (x : Str) (sc : Scope) : Prop where
 kind : sc.kind = .function
 nocell : ∀ y ∈ sc.names, y.2 ≠ .cell
 names : ∀ y ∈ sc.names, y.2 = .local -> sc.names.lookup y.1 = some .local
 here : sc.names.lookup x = some .local
 nd : (x :: N).Nodup
 free : ∀ y ∈ sc.names, y.2 = .free -> osc.names.lookup y.1 = some .cell \/ osc.names.lookup y.1 = some .free
 own : ∀ y ∈ sc.names, y.2 = .local -> y.1 = x \/ y.1 ∉ N
def cxComp (X : Cx) (x : Str) (sc : Scope) (fp : List Addr) (s3 : Shared) (H3 : Hp) : Cx where
 prog := X.prog
 w := X.w
 K := X.K
 mg := X.mg
 base := X.base
 A := X.A
 N := x :: X.N
 s₀ := s3
 H₀ := H3
 env := compEnvC sc (clOf sc X.env) s3.heap.objs.size X.env
 outer := X.stack
 stack := X.stack
 ex := fp
 calm := X.calm
 fn := fun _ => false
 pn := []
 xe := fun _ _ => False
section
variable {X : Cx} {x : Str} {sc : Scope} {fp : List Addr} {s3 : Shared} {H3 : Hp} {pins : List (Addr × Obj)} {σ : St}
theorem CompScope.cells (S : CompScope X.N X.env.scope x sc) (ok : X.Ok) : ∀ y ∈ sc.names, y.2 = .free -> ∃ c, X.env.cells.lookup y.1 = some c := fun y hy hk => ok.has y.1 (S.free y hy hk)
theorem CompScope.sub (S : CompScope X.N X.env.scope x sc) (ok : X.Ok) {y : Str} {c : Addr} (e : (clOf sc X.env).lookup y = some c) : X.env.cells.lookup y = some c :=
 clGo_sub sc.names [] (S.cells ok) (fun c h => by cases h) e
theorem CompScope.isFree (S : CompScope X.N X.env.scope x sc) {y : Str} (h : (relabel sc X.env).names.lookup y = some .cell \/ (relabel sc X.env).names.lookup y = some .free) : (y, NameKind.free) ∈ sc.names := by
 rw [lookup_relabel] at h
 cases e : sc.names.lookup y with
 | none => rw [e] at h; rcases h with h | h <;> cases h
 | some k =>
  rw [e] at h
  have hm := PySem.mem_of_lookup e
  cases k with
  | free => exact hm
  | cell => exact absurd rfl (S.nocell _ hm)
  | _ =>
   exfalso
   rcases h with h | h
   all_goals (simp at h)
theorem FpOk.nobase (ok : X.Ok) {b : Addr} {H : Hp} (f : FpOk X pins H b) {o : Obj} : X.base.get? b = some o -> False := fun e => by
 rcases f.2.2.2.1 with z | z
 · exact ok.noex b o e z
 · exact absurd (Nat.lt_of_lt_of_le (Heap.lt_size e) (Nat.le_trans ok.bsz z)) (Nat.lt_irrefl _)
theorem ok_comp (S : CompScope X.N X.env.scope x sc) (I : Inv X pins σ H3 s3) (hf : ∀ b ∈ fp, FpOk X pins H3 b) (hl : ∀ b ∈ fp, b < s3.heap.objs.size) : (cxComp X x sc fp s3 H3).Ok where
 mod := I.ok.mod
 kind := S.kind
 glob := I.ok.glob
 blt := I.ok.blt
 above := Nat.le_refl _
 inj := fun y z c h1 h2 => I.ok.inj y z c (S.sub I.ok h1) (S.sub I.ok h2)
 has := fun y h => clGo_has sc.names [] (.inr (S.isFree h))
 cab := fun y c h => by cases h
 hd := I.ok.hd
 frames := I.ok.frames
 stk := .inl rfl
 exf := fun b hb => ⟨Nat.ne_of_lt (hl b hb), fun y c e => (hf b hb).2.2.2.2.1 y c (S.sub I.ok e)⟩
 bs := I.bs
 bsz := Nat.le_trans I.ok.bsz I.sz
 noex := fun b o e hb => FpOk.nobase I.ok (hf b hb) e
 exfs := fun b hb hs => by
  rcases List.mem_cons.mp (I.stkSub b hs) with z | z
  · exact (hf b hb).2.1 z
  · exact (hf b hb).2.2.1 z
 funs := I.stack
 frf := I.stkFree
theorem inv_comp {h4 : Heap} {tk : Nat} (S : CompScope X.N X.env.scope x sc) (I : Inv X pins σ H3 s3) (hf : ∀ b ∈ fp, FpOk X pins H3 b) (hl : ∀ b ∈ fp, b < s3.heap.objs.size)
  (hk : ∀ b o, s3.heap.get? b = some o -> h4.get? b = some o) {m : Str -> Option Value} (hn : h4.Ns s3.heap.objs.size m) :
  Inv (cxComp X x sc fp s3 H3) [] (none :: σ) H3 { s3 with heap := h4, toks := tk } := by
 refine ⟨ok_comp S I hf hl, rfl, I.bare, Un.kept hk, ⟨m, hn, fun i y v h1 h2 h3 => ?_⟩, fun y c e => ?_, I.fresh, fun y c e => I.freeC y c (S.sub I.ok e), fun p hp => absurd (show p ∈ ([] : List (Addr × Obj)) from hp) (by simp), I.hok.kept hk, by show σ.length + 1 = X.N.length + 1; rw [I.len]⟩
 · cases i with
   | zero => exact absurd (Option.some.inj h2) (by simp)
   | succ i =>
    have h1' : X.N[i]? = some y := h1
    have h2' : σ[i]? = some (some v) := h2
    have hyN : y ∈ X.N := List.mem_of_getElem? h1'
    have hfree : (y, NameKind.free) ∈ sc.names := by
     rcases h3 with h3 | h3 | h3
     · exfalso
       have h3' : (relabel sc X.env).names.lookup y = some .local := h3
       rw [lookup_relabel] at h3'
       cases e : sc.names.lookup y with
       | none => rw [e] at h3'; cases h3'
       | some k =>
        rw [e] at h3'
        have hm := PySem.mem_of_lookup e
        cases k with
        | «local» =>
         rcases S.own _ hm rfl with z | z
         · have z' : y = x := z
           exact (List.nodup_cons.mp S.nd).1 (z' ▸ hyN)
         · exact z hyN
        | _ =>
         revert h3'
         simp
         try (split <;> simp)
     · exact S.isFree (.inl h3)
     · exact S.isFree (.inr h3)
    have hk0 := S.free _ hfree rfl
    obtain ⟨m0, hn0, hl0⟩ := I.loc
    obtain ⟨u, r, l⟩ := hl0 i y v h1' h2' (hk0.elim (fun z => .inr (.inl z)) (fun z => .inr (.inr z)))
    refine ⟨u, r, .inr ?_⟩
    have hv : (cxComp X x sc fp s3 H3).env.kindOf y = some .cell \/ (cxComp X x sc fp s3 H3).env.kindOf y = some .free := by
     rcases h3 with h3 | h3 | h3
     · exfalso
       have h3' : (relabel sc X.env).names.lookup y = some .local := h3
       rw [lookup_relabel] at h3'
       cases e : sc.names.lookup y with
       | none => rw [e] at h3'; cases h3'
       | some k =>
        rw [e] at h3'
        have hm := PySem.mem_of_lookup e
        cases k with
        | «local» =>
         rcases S.own _ hm rfl with z | z
         · have z' : y = x := z
           exact (List.nodup_cons.mp S.nd).1 (z' ▸ hyN)
         · exact z hyN
        | _ =>
         revert h3'
         simp
         try (split <;> simp)
     · exact .inl h3
     · exact .inr h3
    refine ⟨hv, ?_⟩
    obtain ⟨c, hc⟩ := clGo_has (env := X.env) (y := y) sc.names [] (.inr hfree)
    refine ⟨c, hc, ?_⟩
    have hc' := S.sub I.ok hc
    rcases l with ⟨hk1, _⟩ | ⟨_, c2, e2, z2⟩
    · exfalso
      have hk1' : X.env.scope.names.lookup y = some .local := hk1
      have hk0' : X.env.scope.names.lookup y = some .cell \/ X.env.scope.names.lookup y = some .free := hk0
      rw [hk1'] at hk0'
      rcases hk0' with z | z <;> cases z
    · rw [hc'] at e2; cases e2
      exact z2.keeps hk
 · obtain ⟨v, z⟩ := I.cell y c (S.sub I.ok e)
   exact ⟨v, z.keeps hk⟩
end
end L2
set_option Elab.async false
set_option linter.all false
set_option maxRecDepth 100000
set_option maxHeartbeats 4000000
namespace L2
open PySem PySem.Spec PyProof.Rows
def PIf (X : Cx) (ifs : List Expr) (t : TT) : Prop :=
 ∀ (pins : List (Addr × Obj)) (s : Shared) (σ : St) (H : Hp) (Q : Bool -> Hp -> Prop), Inv X pins σ H s -> t σ H Q ->
  wpAny (model X.prog X.w) X.A (forIn ifs true fun d b => if b = true then do let z ← isTrue d X.env (eval d X.env); pure (ForInStep.yield z) else pure (ForInStep.yield b)) (TP X pins σ Q) X.xe s
def tYes : TT := fun _ H Q => Q true H
theorem pif_nil {X : Cx} : PIf X [] tYes := fun pins s σ H Q I h => wpAny_tests_nil ⟨H, I, h⟩
theorem pif_one {X : Cx} {c : Expr} {t : TT} (h : PT X c t) : PIf X [c] t := fun pins s σ H Q I q => wpAny_tests_one (h pins s σ H Q I q)
def tComp (wi : TI) (tc : TT) (te : TE) : TE := fun σ H Q => wi σ H fun J H1 => ∀ p, H1 p = none ->
 ∃ W : Nat -> Nat -> List V -> Hp -> Prop, (∃ m, W 0 m [] (upd H1 p (.lst []))) /\ ∀ i m ys H, W i m ys H ->
  (J.stop i H /\ Q (.ref p) H) \/ (J.go i H /\ ∀ x H', J.yld i H x H' -> tc (some x :: σ) H' fun b H2 =>
   if b = true then te (some x :: σ) H2 fun v H3 => H3 p = some (.lst ys) /\ ys.length < sizeLine /\ ∃ m', m' < m /\ W (i + 1) m' (ys ++ [v]) (upd H3 p (.lst (ys ++ [v])))
   else ∃ m', m' < m /\ W (i + 1) m' ys H2)
section
variable {X : Cx} {x : Str} {sc : Scope} {px pos : Pos} {elt iter : Expr} {ifs : List Expr} {wi : TI} {tc : TT} {te : TE}
theorem Inv.back {fp : List Addr} {s3 s' : Shared} {H3 H' : Hp} {pins : List (Addr × Obj)} {σ σ' : St} {pl : List (Addr × Obj)} {h' : Heap} (I : Inv X pins σ H3 s3) (hf : ∀ b ∈ fp, FpOk X pins H3 b)
  (J : Inv (cxComp X x sc fp s3 H3) pl σ' H' s') (hs : Heap.SameBut s3.heap.objs.size s'.heap h') : Inv X pins σ H' { s' with heap := h' } := by
 have I1 : Inv X pins σ H' s' := I.call' (ch := fp) J.os J.base J.hok J.bare fun b hb => ⟨(hf b hb).2.2.2.1, (hf b hb).2.1, (hf b hb).2.2.2.2.1, (hf b hb).2.2.2.2.2⟩
 refine I1.turned (t' := s'.toks) (it := s3.heap.objs.size) (fun b o hb e => (hs.2 b hb).trans e) J.free ?_ (.inr I.sz) ?_ ?_
 · exact Nat.ne_of_gt I.lt
 · intro y c e z
   obtain ⟨v, q⟩ := I.cell y c e
   exact absurd q.lt (by rw [z]; exact Nat.lt_irrefl _)
 · intro p hp z
   exact absurd (Heap.lt_size (I.pin p hp).1) (by rw [z]; exact Nat.lt_irrefl _)
theorem comp_core {pins : List (Addr × Obj)} {σ : St} {s2 : Shared} {H2 : Hp} {it : Addr} {fp : List Addr} {tn : Nat -> Heap -> Prop} {J : It} {Q : VK} {E : Value -> Shared -> Prop} {RR : Value -> Addr -> Result -> Shared -> Prop}
  (S : CompScope X.N X.env.scope x sc) (hc : X.calm = true) (hif : ∀ fp s3 H3, PIf (cxComp X x sc fp s3 H3) ifs tc) (he : ∀ fp s3 H3, PE (cxComp X x sc fp s3 H3) elt te)
  (I2 : Inv X pins σ H2 s2) (T : Turn X.prog X.w X.K (.Name x px) J fp it tn) (st2 : tn 0 s2.heap) (f2 : ∀ b ∈ fp, FpOk X pins H2 b)
  (h : ∀ p, H2 p = none -> ∃ W : Nat -> Nat -> List V -> Hp -> Prop, (∃ m, W 0 m [] (upd H2 p (.lst []))) /\ ∀ i m ys H, W i m ys H ->
   (J.stop i H /\ Q (.ref p) H) \/ (J.go i H /\ ∀ x H', J.yld i H x H' -> tc (some x :: σ) H' fun b H2 =>
    if b = true then te (some x :: σ) H2 fun v H3 => H3 p = some (.lst ys) /\ ys.length < sizeLine /\ ∃ m', m' < m /\ W (i + 1) m' (ys ++ [v]) (upd H3 p (.lst (ys ++ [v])))
    else ∃ m', m' < m /\ W (i + 1) m' ys H2))
  (hRR : ∀ (s3 : Shared) (H3 : Hp) (s' : Shared) (σ' : St) (H' : Hp), Inv X pins σ H3 s3 -> (∀ b ∈ fp, FpOk X pins H3 b) -> Inv (cxComp X x sc fp s3 H3) [] σ' H' s' -> Q (.ref s2.heap.objs.size) H' -> RR (.ref s2.heap.objs.size) s3.heap.objs.size (.ok .next) s') :
  wpAny (model X.prog X.w) X.A (newList []) (fun acc s₃ => wpAny (model X.prog X.w) X.A (newFunctionEnv sc X.env.globals (clOf sc X.env) [] X.env.qual none .none (some X.env)) (fun cenv s₄ =>
   codeAny (model X.prog X.w) X.A (.compStart (.ListComp elt [⟨.Name x px, iter, ifs, 0⟩] sc pos) 0 (.ref it) acc { cenv with scope := relabel sc X.env }) (RR acc cenv.locals) s₄) E s₃) E s2 := by
 obtain ⟨W, ⟨m0, w0⟩, turn⟩ := h s2.heap.objs.size I2.fresh
 refine wpAny_newList ?_
 have I3 : Inv X pins σ (upd H2 s2.heap.objs.size (.lst [])) { s2 with heap := s2.heap.push { cls := .type "list", data := .seq ([] : List Value).toArray } } := I2.lnew (ys := []) (t' := s2.toks) .nil (Nat.zero_le _)
 have fpl : ∀ b ∈ fp, b < s2.heap.objs.size := fun b hb => by
  obtain ⟨o, e, _⟩ := T.obj _ _ st2 b hb
  exact Heap.lt_size e
 have f3 : ∀ b ∈ fp, FpOk X pins (upd H2 s2.heap.objs.size (.lst [])) b := fun b hb => ⟨by rw [upd_ne (Nat.ne_of_lt (fpl b hb))]; exact (f2 b hb).1, (f2 b hb).2⟩
 have st3 : tn 0 (s2.heap.push { cls := .type "list", data := .seq ([] : List Value).toArray }) := T.keep _ _ _ st2 fun b _ o e => Heap.get?_push_of_some _ e
 generalize hs3 : ({ s2 with heap := s2.heap.push { cls := .type "list", data := .seq ([] : List Value).toArray } } : Shared) = s3 at *
 have st3' : tn 0 s3.heap := by rw [← hs3]; exact st3
 have fpl3 : ∀ b ∈ fp, b < s3.heap.objs.size := fun b hb => by
  obtain ⟨o, e, _⟩ := T.obj _ _ st3' b hb
  exact Heap.lt_size e
 refine wpAny_newFunctionEnv S.nocell (by intro y hy; simp at hy) (fun h₁ hns₁ hsb₁ => ?_) S.kind
 have keep4 : ∀ b o, s3.heap.get? b = some o -> h₁.get? b = some o := fun b o e => (hsb₁.2 b (Nat.ne_of_lt (Heap.lt_size e))).trans (Heap.get?_push_of_some _ e)
 have I4 := inv_comp (fp := fp) (tk := s3.toks + ([] : List (Str × Value)).length) S I3 f3 fpl3 keep4 hns₁
 have st4 : tn 0 h₁ := T.keep _ _ _ st3' fun b _ o e => keep4 b o e
 generalize hs4 : ({ s3 with heap := h₁, toks := s3.toks + ([] : List (Str × Value)).length } : Shared) = s4 at *
 have st4' : tn 0 s4.heap := by rw [← hs4]; exact st4
 generalize hH3 : upd H2 s2.heap.objs.size (.lst []) = H3 at *
 have stat : ∀ {H' : Hp}, (∀ b ∈ fp, H' b = none) -> ∀ b ∈ fp, FpOk (cxComp X x sc fp s3 H3) [] H' b := fun hn b hb =>
  ⟨hn b hb, Nat.ne_of_lt (fpl3 b hb), I4.ok.exfs b hb, .inl hb, fun y c e => (f3 b hb).2.2.2.2.1 y c (S.sub I3.ok e), fun p hp => absurd (show p ∈ ([] : List (Addr × Obj)) from hp) (by simp)⟩
 have loop : codeAny (model X.prog X.w) X.A (.compLoop (.ListComp elt [⟨.Name x px, iter, ifs, 0⟩] sc pos) 0 (.ref it) (.ref s2.heap.objs.size) (cxComp X x sc fp s3 H3).env) (RR (.ref s2.heap.objs.size) s3.heap.objs.size) s4 := by
  refine codeAny_compLoop_tests (fun n s' => ∃ i o ys H', Inv (cxComp X x sc fp s3 H3) [] (o :: σ) H' s' /\ tn i s'.heap /\ (∀ b ∈ fp, H' b = none) /\ W i n ys H') ?_ m0 ⟨0, none, [], H3, I4, st4', fun b hb => (f3 b hb).1, w0⟩
  rintro n s5 ⟨i, o, ys, H5, I5, st5, fr5, w5⟩
  rcases turn i n ys H5 w5 with ⟨stop, q⟩ | ⟨go, step⟩
  · refine wpAny_mono (T.done (cxComp X x sc fp s3 H3) rfl rfl rfl hc i [] s5 (o :: σ) H5 (fun _ _ => False) I5 (stat fr5) st5 stop) (fun r s6 ⟨hr, I6⟩ => ?_) fun _ _ z => z.elim
    subst hr
    exact hRR s3 H3 s6 _ H5 I3 f3 I6 q
  · refine wpAny_mono (T.item (cxComp X x sc fp s3 H3) rfl rfl rfl hc i [] s5 (o :: σ) H5 (fun _ _ => False) I5 (stat fr5) st5 go) (fun r s6 ⟨u, hr, h6⟩ => ?_) fun _ _ z => z.elim
    subst hr
    refine of_pure (a := ()) h6 fun ⟨xv, H6, I6, r6, y6, st6, fr6⟩ => ?_
    have I6' := I6.pinned (stat fr6) (T.obj _ _ st6)
    have hx : (relabel sc X.env).names.lookup x = some .local := lookup_relabel_local S.here
    refine wpAny_mono (pg_name (X := cxComp X x sc fp s3 H3) (i := 0) (pos := px) S.nd rfl (.inl hx) (.inr hx) _ s6 (o :: σ) H6 xv u (fun σ' H' => σ' = some xv :: σ /\ H' = H6) I6' r6 ⟨rfl, rfl⟩) (fun _ s7 ⟨σ7, H7, I7, e7, e7'⟩ => ?_) fun _ _ z => z.elim
    subst e7 e7'
    have again : ∀ {H' : Hp} {s' : Shared} {ys' : List V}, Inv (cxComp X x sc fp s3 H3) ([] ++ pinsAt fp s6.heap) (some xv :: σ) H' s' -> (∃ m', m' < n /\ W (i + 1) m' ys' H') ->
      ∃ m, m < n /\ ∃ i o ys H', Inv (cxComp X x sc fp s3 H3) [] (o :: σ) H' s' /\ tn i s'.heap /\ (∀ b ∈ fp, H' b = none) /\ W i m ys H' := fun {H' s' ys'} I' ⟨m', hm, w'⟩ => by
     refine ⟨m', hm, i + 1, some xv, ys', H', I'.unpinned, T.keep _ _ _ st6 fun b hb ob e => (I'.pin (b, ob) (List.mem_append_right _ (List.mem_append_right _ (mem_pinsAt hb e)))).1, fun b hb => ?_, w'⟩
     obtain ⟨ob, e, d⟩ := T.obj _ _ st6 b hb
     exact (I'.pin (b, ob) (List.mem_append_right _ (List.mem_append_right _ (mem_pinsAt hb e)))).2.1
    refine wpAny_mono (hif fp s3 H3 _ s7 _ H7 _ I7 (step xv H7 y6)) (fun ok s8 ⟨H8, I8, q8⟩ => ?_) fun _ _ z => z.elim
    cases ok with
    | false =>
     rw [if_neg Bool.false_ne_true] at q8 ⊢
     exact again I8 q8
    | true =>
     rw [if_pos rfl] at q8 ⊢
     refine wpAny_mono (he fp s3 H3 _ s8 _ H8 _ I8 q8) (fun v s9 ⟨y, H9, I9, r9, hp, hz, q9⟩ => ?_) fun _ _ z => z.elim
     refine wpAny_mono (mt_append (X := cxComp X x sc fp s3 H3) _ s9 _ H9 (.ref s2.heap.objs.size) [y] (.ref s2.heap.objs.size) [v] (fun _ H' => H' = upd H9 s2.heap.objs.size (.lst (ys ++ [y]))) I9 rfl (.cons r9 .nil) ⟨_, ys, y, rfl, rfl, hp, hz, rfl⟩) (fun _ s10 ⟨_, H10, I10, _, e10⟩ => ?_) fun _ _ z => z.elim
     subst e10
     exact again I10 q9
 exact codeAny_compStart_list loop (T.self _ 0 _ _ _ st4' loop)
theorem pe_comp (S : CompScope X.N X.env.scope x sc) (hc : X.calm = true) (hi : PI X (.Name x px) iter wi) (hif : ∀ fp s3 H3, PIf (cxComp X x sc fp s3 H3) ifs tc) (he : ∀ fp s3 H3, PE (cxComp X x sc fp s3 H3) elt te)
  (hs : ∀ x, foldedSetIterable iter X.env x = pure x := by intro _; rfl) : PE X (.ListComp elt [⟨.Name x px, iter, ifs, 0⟩] sc pos) (tComp wi tc te) := by
 intro pins s σ H Q I h
 rw [eval_ListComp]
 refine wpAny_comprehension_free (use := none) (cl := clOf sc X.env) rfl hs (closure_is (S.cells I.ok)) S.kind S.names (thn (hi pins s σ H _ I h) fun v s1 h1 => thn h1 fun itv s2 h2 => ?_)
 obtain ⟨it, fp, tn, J, H2, e, I2, T, st2, f2, q2⟩ := h2
 subst e
 refine comp_core (RR := fun acc C => compPost (model X.prog X.w) X.A X.xe none (EP X pins σ Q) acc C) (Q := Q) S hc hif he I2 T st2 f2 q2 ?_
 intro s3 H3 s' σ' H' I3 f3 J' q'
 obtain ⟨m, hn, _⟩ := J'.loc
 exact ⟨m, hn, fun h' hs' => ⟨.ref s2.heap.objs.size, H', I3.back f3 J' hs', rfl, q'⟩⟩
end
end L2
set_option Elab.async false
set_option linter.all false
set_option maxRecDepth 100000
set_option maxHeartbeats 4000000
namespace L2
open PySem PySem.Spec PyProof.Rows
mutual
def Dt (K : PySem.W.Frag) (H : Hp) : PyData -> V -> Prop
 | .none, v => v = .non
 | .bool b, v => v = .bl b
 | .int i, v => v = .int i
 | .str x, v => v = .str x /\ PyData.strOk x = true
 | .list ds, v => ∃ a xs, v = .ref a /\ SqL K H a xs /\ DtAll K H ds xs
 | .tuple ds, v => ∃ a xs, v = .ref a /\ SqT K H a xs /\ DtAll K H ds xs
 | .dict _, _ => False
def DtAll (K : PySem.W.Frag) (H : Hp) : List PyData -> List V -> Prop
 | [], xs => xs = []
 | d :: ds, xs => ∃ v r, xs = v :: r /\ Dt K H d v /\ DtAll K H ds r
end
section
variable {K : PySem.W.Frag} {H H' : Hp}
mutual
theorem Dt.lay : ∀ {d : PyData} {v : V}, Dt K H d v -> d.canLay0 = true
 | .none, _, _ => rfl
 | .bool _, _, _ => rfl
 | .int _, _, _ => rfl
 | .str x, _, h => by
  rw [Dt] at h
  exact h.2
 | .list ds, _, h => by
  rw [Dt] at h
  obtain ⟨a, xs, _, _, h⟩ := h
  rw [PyData.canLay0]
  exact DtAll.lay h
 | .tuple ds, _, h => by
  rw [Dt] at h
  obtain ⟨a, xs, _, _, h⟩ := h
  rw [PyData.canLay0]
  exact DtAll.lay h
 | .dict _, _, h => by
  rw [Dt] at h
  exact h.elim
theorem DtAll.lay : ∀ {ds : List PyData} {xs : List V}, DtAll K H ds xs -> PyData.canLayAll0 ds = true
 | [], _, _ => by rw [PyData.canLayAll0]
 | d :: ds, _, h => by
  rw [DtAll] at h
  obtain ⟨v, r, _, h1, h2⟩ := h
  rw [PyData.canLayAll0, Dt.lay h1, DtAll.lay h2]
  rfl
end
theorem Same.sqL {a : Addr} {xs : List V} (e : Same H H') (h : SqL K H a xs) : SqL K H' a xs := e.seq h
theorem Same.sqT {a : Addr} {xs : List V} (e : Same H H') (h : SqT K H a xs) : SqT K H' a xs := by
 rcases h with (h | ⟨o, h⟩) | h
 · exact .inl (.inl (e _ _ h))
 · exact .inl (.inr ⟨o, e _ _ h⟩)
 · exact .inr h
mutual
theorem Dt.same (e : Same H H') : ∀ {d : PyData} {v : V}, Dt K H d v -> Dt K H' d v
 | .none, _, h => by rw [Dt] at h ⊢; exact h
 | .bool _, _, h => by rw [Dt] at h ⊢; exact h
 | .int _, _, h => by rw [Dt] at h ⊢; exact h
 | .str x, _, h => by rw [Dt] at h ⊢; exact h
 | .list ds, _, h => by
  rw [Dt] at h ⊢
  obtain ⟨a, xs, h1, h2, h⟩ := h
  exact ⟨a, xs, h1, e.sqL h2, DtAll.same e h⟩
 | .tuple ds, _, h => by
  rw [Dt] at h ⊢
  obtain ⟨a, xs, h1, h2, h⟩ := h
  exact ⟨a, xs, h1, e.sqT h2, DtAll.same e h⟩
 | .dict _, _, h => by
  rw [Dt] at h
  exact h.elim
theorem DtAll.same (e : Same H H') : ∀ {ds : List PyData} {xs : List V}, DtAll K H ds xs -> DtAll K H' ds xs
 | [], _, h => by rw [DtAll] at h ⊢; exact h
 | d :: ds, _, h => by
  rw [DtAll] at h ⊢
  obtain ⟨v, r, h0, h1, h2⟩ := h
  exact ⟨v, r, h0, Dt.same e h1, DtAll.same e h2⟩
end
theorem DtAll.nil : DtAll K H [] [] := by rw [DtAll]
theorem DtAll.cons {d : PyData} {ds : List PyData} {v : V} {r : List V} (h1 : Dt K H d v) (h2 : DtAll K H ds r) : DtAll K H (d :: ds) (v :: r) := by rw [DtAll]; exact ⟨v, r, rfl, h1, h2⟩
theorem Dt.int {i : Int} : Dt K H (.int i) (.int i) := by rw [Dt]
theorem Dt.non : Dt K H .none .non := by rw [Dt]
theorem Dt.str {x : Str} (h : PyData.strOk x = true) : Dt K H (.str x) (.str x) := by rw [Dt]; exact ⟨rfl, h⟩
theorem Dt.lst {a : Addr} {xs : List V} {ds : List PyData} (h : SqL K H a xs) (q : DtAll K H ds xs) : Dt K H (.list ds) (.ref a) := by rw [Dt]; exact ⟨a, xs, rfl, h, q⟩
theorem Dt.tup {a : Addr} {xs : List V} {ds : List PyData} (h : SqT K H a xs) (q : DtAll K H ds xs) : Dt K H (.tuple ds) (.ref a) := by rw [Dt]; exact ⟨a, xs, rfl, h, q⟩
theorem DtAll.ints : ∀ (ns : List Int), DtAll K H (ns.map PyData.int) (ns.map V.int)
 | [] => DtAll.nil
 | n :: ns => DtAll.cons Dt.int (DtAll.ints ns)
theorem DtAll.length : ∀ {ds : List PyData} {xs : List V}, DtAll K H ds xs -> xs.length = ds.length
 | [], xs, h => by rw [DtAll] at h; subst h; rfl
 | d :: ds, xs, h => by
  rw [DtAll] at h
  obtain ⟨v, r, rfl, h1, h2⟩ := h
  rw [List.length_cons, List.length_cons, DtAll.length h2]
end
section
variable {X : Cx} {pins : List (Addr × Obj)} {σ : St} {H : Hp} {s : Shared}
mutual
theorem Dt.reads (I : Inv X pins σ H s) : ∀ {d : PyData} {v : V} {u : Value}, Dt X.K H d v -> RelV v u -> ∃ as, Reads s.heap u d as
 | .none, _, _, h, r => by rw [Dt] at h; subst h; cases r; exact ⟨[], .none⟩
 | .bool b, _, _, h, r => by rw [Dt] at h; subst h; cases r; exact ⟨[], .bool b⟩
 | .int i, _, _, h, r => by rw [Dt] at h; subst h; obtain ⟨t, rfl⟩ := r; exact ⟨[], .int i t⟩
 | .str x, _, _, h, r => by
  rw [Dt] at h
  obtain ⟨h, _⟩ := h
  subst h
  obtain ⟨t, rfl⟩ := r
  exact ⟨[], .str x t⟩
 | .list ds, _, _, h, r => by
  rw [Dt] at h
  obtain ⟨a, xs, h1, h2, h⟩ := h
  subst h1
  cases r
  obtain ⟨its, rv, ⟨o, n, e, hc, _, hd⟩, _⟩ := I.list h2
  obtain ⟨as, q⟩ := DtAll.reads I h rv
  exact ⟨_, .list e hc hd (by simpa using q)⟩
 | .tuple ds, _, _, h, r => by
  rw [Dt] at h
  obtain ⟨a, xs, h1, h2, h⟩ := h
  subst h1
  cases r
  obtain ⟨its, rv, ⟨o, e, hc, n, hd⟩, _⟩ := I.tuple h2
  obtain ⟨as, q⟩ := DtAll.reads I h rv
  exact ⟨_, .tuple e hc hd (by simpa using q)⟩
 | .dict _, _, _, h, _ => by
  rw [Dt] at h
  exact h.elim
theorem DtAll.reads (I : Inv X pins σ H s) : ∀ {ds : List PyData} {xs : List V} {us : List Value}, DtAll X.K H ds xs -> Vals xs us -> ∃ as, ReadsAll s.heap us ds as
 | [], _, _, h, r => by rw [DtAll] at h; subst h; cases r; exact ⟨[], .nil⟩
 | d :: ds, _, _, h, r => by
  rw [DtAll] at h
  obtain ⟨v, r', h0, h1, h2⟩ := h
  subst h0
  cases r with
  | cons ra rb =>
   obtain ⟨as, q1⟩ := Dt.reads I h1 ra
   obtain ⟨bs, q2⟩ := DtAll.reads I h2 rb
   exact ⟨_, .cons q1 q2⟩
end
end
section
variable {X : Cx}
def rEqD (K : PySem.W.Frag) : R2 := fun x y H Q => ∃ d e, Dt K H d x /\ Dt K H e y /\ d.depth <= 60 /\ Q (.bl (PyData.eqv d e)) H
def rNeD (K : PySem.W.Frag) : R2 := fun x y H Q => ∃ d e, Dt K H d x /\ Dt K H e y /\ d.depth <= 60 /\ Q (.bl (!PyData.eqv d e)) H
theorem op_eqD {k : Nat} (hr : Room k X.A) : OpR X (compareOp .Eq) (rEqD X.K) := by
 intro pins s σ H x y v u Q I rx ry h
 obtain ⟨d, e, h1, h2, hd, q⟩ := h
 obtain ⟨as, r1⟩ := Dt.reads I h1 rx
 obtain ⟨bs, r2⟩ := Dt.reads I h2 ry
 have hu := hr.units
 exact SeqAt.compareEq_reads r1 r2 h1.lay h2.lay (by have : min d.depth e.depth <= d.depth := Nat.min_le_left _ _; omega) ⟨.bl _, H, I, rfl, q⟩
theorem op_neD {k : Nat} (hr : Room k X.A) : OpR X (compareOp .NotEq) (rNeD X.K) := by
 intro pins s σ H x y v u Q I rx ry h
 obtain ⟨d, e, h1, h2, hd, q⟩ := h
 obtain ⟨as, r1⟩ := Dt.reads I h1 rx
 obtain ⟨bs, r2⟩ := Dt.reads I h2 ry
 have hu := hr.units
 exact SeqAt.compareNe_reads r1 r2 h1.lay h2.lay (by have : min d.depth e.depth <= d.depth := Nat.min_le_left _ _; omega) ⟨.bl _, H, I, rfl, q⟩
theorem call_isT : CallR X (.builtin "isinstance") (fun xs H Q => ∃ x n t b, xs = [x, .ty n] /\ TyOf X.K H x t /\ PySem.W.kitOne X.K t (.type n) = some b /\ Q (.bl b) H) := by
 intro pins s σ H xs us Q I rv h
 obtain ⟨x, n, t, b, rfl, ht, hk, q⟩ := h
 obtain ⟨u, v, rfl, ru, rv'⟩ := rv.two
 cases rv'
 exact isinst_ok I ru ht hk fun tk => ⟨.bl b, H, I.tok tk, rfl, q⟩
theorem call_sumL (hc : X.calm = true) : CallR X (.builtin "sum") (fun xs H Q => ∃ (p : Addr) (ns : List Int), xs = [.ref p] /\ SqL X.K H p (ns.map V.int) /\ Q (.int ns.sum) H) := by
 intro pins s σ H xs us Q I rv h
 obtain ⟨p, ns, rfl, hq, q⟩ := h
 obtain ⟨u, rfl, ru⟩ := rv.one
 cases ru
 obtain ⟨its, r, pl, hz⟩ := I.list hq
 have hi : IntsAre its ns := intsAre_of r
 obtain ⟨xs, e⟩ := hi.allInts.items
 have hl : s.heap.IsList p (intItems xs) := by rw [← e]; exact pl.isList
 refine sum_intListG (I.ok.hd hc) hl fun h' tk t' hk => ?_
 refine ⟨.int ns.sum, H, I.kept hk, ⟨t', ?_⟩, q⟩
 rw [preSum_eq, List.take_of_length_le (by simp)]
 have e2 := nums_intItems xs
 rw [← e, show its.toArray.toList = its from rfl, hi.numsOf] at e2
 rw [e2]
end
end L2
set_option Elab.async false
set_option linter.all false
set_option maxRecDepth 100000
set_option maxHeartbeats 4000000
namespace L2
open PySem PySem.Spec PyProof.Rows
def compCheck (N : List Str) (osc : Scope) (x : Str) (sc : Scope) : Bool :=
 (match sc.kind with | .function => true | _ => false) && sc.names.all (fun y => match y.2 with | .cell => false | _ => true)
 && sc.names.all (fun y => match y.2 with | .local => (match sc.names.lookup y.1 with | some .local => true | _ => false) | _ => true)
 && (match sc.names.lookup x with | some .local => true | _ => false) && N.all (fun y => !(y == x))
 && sc.names.all (fun y => match y.2 with | .free => (match osc.names.lookup y.1 with | some .cell => true | some .free => true | _ => false) | _ => true)
 && sc.names.all (fun y => match y.2 with | .local => (y.1 == x || N.all (fun z => !(z == y.1))) | _ => true)
theorem CompScope.of {N : List Str} {osc : Scope} {x : Str} {sc : Scope} (hN : N.Nodup) (h : compCheck N osc x sc = true) : CompScope N osc x sc := by
 unfold compCheck at h
 simp only [Bool.and_eq_true, List.all_eq_true] at h
 obtain ⟨⟨⟨⟨⟨⟨h1, h2⟩, h3⟩, h4⟩, h5⟩, h6⟩, h7⟩ := h
 refine ⟨?_, fun y hy e => ?_, fun y hy e => ?_, ?_, List.nodup_cons.mpr ⟨fun hx => ?_, hN⟩, fun y hy e => ?_, fun y hy e => ?_⟩
 · revert h1; cases sc.kind <;> simp
 · have := h2 y hy; rw [e] at this; exact absurd this (by simp)
 · have := h3 y hy; rw [e] at this
   revert this
   cases sc.names.lookup y.1 with
   | none => simp
   | some k => cases k <;> simp
 · revert h4
   cases sc.names.lookup x with
   | none => simp
   | some k => cases k <;> simp
 · have := h5 x hx; simp at this
 · have := h6 y hy; rw [e] at this
   revert this
   cases osc.names.lookup y.1 with
   | none => simp
   | some k => cases k <;> simp
 · have := h7 y hy; rw [e] at this
   simp only [Bool.or_eq_true, List.all_eq_true] at this
   rcases this with z | z
   · exact .inl (by simpa using z)
   · refine .inr fun q => ?_
     have := z _ q
     simp at this
structure Def (P : Program) (w : World) (K : PySem.W.Frag) (mg : Str -> Option Value) (base : Heap) (CX : CXT) (x : Str) (k : Nat) (ps : List Str) (sp : Sp) : Prop where
 ex : ∃ f fd, FnOk P w K mg base CX k f fd ps sp /\ Binds K fd ps [] /\ PySem.W.keepIn K (.ref f) = true /\ mg x = some (.ref f)
theorem Def.imp {P : Program} {w : World} {K : PySem.W.Frag} {mg : Str -> Option Value} {base : Heap} {CX : CXT} {x : Str} {k : Nat} {ps : List Str} {sp sp' : Sp} (F : Def P w K mg base CX x k ps sp) (h : ∀ vs H Q E, sp' vs H Q E -> sp vs H Q E) : Def P w K mg base CX x k ps sp' := by
 obtain ⟨f, fd, G, r⟩ := F.ex
 exact ⟨f, fd, G.imp h, r⟩
theorem pe_def {X : Cx} {CX : CXT} {k : Nat} {x : Str} {ps : List Str} {sp : Sp} {E : XK} {e : Expr} {es : List Expr} {t : TA} {p pos : Pos} (F : Def X.prog X.w X.K X.mg X.base CX x k ps sp) (hr : Room k X.A) (hg : Gl X x) (hx : Passes CX X E)
  (ha : PA X (e :: es) t) (hdb : (x == ("__debug__" : Str)) = false := by decide) (he : starEach (e :: es) X.env = (false, eval e X.env) :: starEach es X.env := by rfl) (hpl : (backTo pos (starEach es X.env)).any (·.1) = false := by rfl) :
  PE X (.Call (.Name x p) (e :: es) [] pos) (tCall sp [] E t) := by
 obtain ⟨f, fd, G, b, kp, m⟩ := F.ex
 exact pe_call G hr hg m kp b .nil hx ha hdb he hpl
def IsT (K : PySem.W.Frag) (H : Hp) (xs : List V) (b : Bool) : Prop := ∃ x n t, xs = [x, .ty n] /\ TyOf K H x t /\ PySem.W.kitOne K t (.type n) = some b
theorem call_isTy {X : Cx} : CallR X (.builtin "isinstance") (fun xs H Q => ∃ b, IsT X.K H xs b /\ Q (.bl b) H) := by
 intro pins s σ H xs us Q I rv h
 obtain ⟨b, ⟨x, n, t, e, ht, hk⟩, q⟩ := h
 exact call_isT pins s σ H xs us Q I rv ⟨x, n, t, b, e, ht, hk, q⟩
section
variable {K : PySem.W.Frag} {H : Hp}
theorem isT_int_int {i : Int} : IsT K H [.int i, .ty "int"] true := ⟨_, _, _, rfl, .int i, rfl⟩
theorem isT_int_bool {i : Int} : IsT K H [.int i, .ty "bool"] false := ⟨_, _, _, rfl, .int i, rfl⟩
theorem isT_bl_bool {i : Bool} : IsT K H [.bl i, .ty "bool"] true := ⟨_, _, _, rfl, .bl i, rfl⟩
theorem isT_tup {a : Addr} {xs : List V} (h : H a = some (.tup xs)) : IsT K H [.ref a, .ty "tuple"] true := ⟨_, _, _, rfl, .tup h, rfl⟩
theorem isT_lst {a : Addr} {xs : List V} (h : H a = some (.lst xs)) : IsT K H [.ref a, .ty "list"] true := ⟨_, _, _, rfl, .lst h, rfl⟩
end
theorem seq_step {t u : TS} {D : Ends} {σ : St} {H : Hp} (h : ∀ U, U = u D -> t { D with nx := U } σ H) : tSeq t u D σ H := h _ rfl
@[simp] theorem cxComp_K {X : Cx} {x : Str} {sc : Scope} {fp : List Addr} {s3 : Shared} {H3 : Hp} : (cxComp X x sc fp s3 H3).K = X.K := rfl
theorem sz (n : Nat) (h : n <= 1000 := by omega) : n <= sizeLine := Nat.le_of_lt (small1000 h)
theorem again {n i : Nat} {P : Prop} (h : i < n) (p : P) : ∃ m', m' < n - i /\ m' = n - (i + 1) /\ i + 1 <= n /\ P := ⟨_, by omega, rfl, h, p⟩
theorem same_new {H : Hp} {p : Addr} (h : H p = none) (o : HO) : Same H (upd H p o) := fun b u q => by rw [upd_ne (ne_of_none q h)]; exact q
theorem atI_int {ns : List Int} {k : Int} (h0 : 0 <= k) (h1 : k < ns.length) : atI (ns.map V.int) k = some (.int (ns.getD k.toNat 0)) := by
 have hk : k.toNat < ns.length := by omega
 have e : k = ((k.toNat : Nat) : Int) := by omega
 have q : atI (ns.map V.int) ((k.toNat : Nat) : Int) = some (.int (ns.getD k.toNat 0)) := atI_nat (by rw [List.getElem?_map, List.getElem?_eq_getElem hk, List.getD_eq_getElem?_getD, List.getElem?_eq_getElem hk]; rfl)
 rw [← e] at q
 exact q
theorem comp_listN {K : PySem.W.Frag} {a p : Addr} {xs : List V} {tc : TT} {te : TE} {σ : St} {H : Hp} {Z : Hp -> Prop} (Pv : Nat -> List V -> Hp -> Prop) (h0 : Pv 0 [] (upd H p (.lst []))) (hl : ∀ i ys H, i <= xs.length -> Pv i ys H -> SqL K H a xs)
  (hs : ∀ i x ys H, xs[i]? = some x -> Pv i ys H -> tc (some x :: σ) H fun b H2 =>
   if b = true then te (some x :: σ) H2 fun v H3 => H3 p = some (.lst ys) /\ ys.length < sizeLine /\ ∃ m', m' < xs.length - i /\ m' = xs.length - (i + 1) /\ i + 1 <= xs.length /\ Pv (i + 1) (ys ++ [v]) (upd H3 p (.lst (ys ++ [v]))) else ∃ m', m' < xs.length - i /\ m' = xs.length - (i + 1) /\ i + 1 <= xs.length /\ Pv (i + 1) ys H2)
  (hd : ∀ ys H, Pv xs.length ys H -> Z H) :
  ∃ W : Nat -> Nat -> List V -> Hp -> Prop, (∃ m, W 0 m [] (upd H p (.lst []))) /\ ∀ i m ys H, W i m ys H ->
   ((Itl K a).stop i H /\ Z H) \/ ((Itl K a).go i H /\ ∀ x H', (Itl K a).yld i H x H' -> tc (some x :: σ) H' fun b H2 =>
     if b = true then te (some x :: σ) H2 fun v H3 => H3 p = some (.lst ys) /\ ys.length < sizeLine /\ ∃ m', m' < m /\ W (i + 1) m' (ys ++ [v]) (upd H3 p (.lst (ys ++ [v])))
     else ∃ m', m' < m /\ W (i + 1) m' ys H2) := by
 refine ⟨fun i m ys H => m = xs.length - i /\ i <= xs.length /\ Pv i ys H, ⟨xs.length, by simp, Nat.zero_le _, h0⟩, ?_⟩
 rintro i m ys H ⟨rfl, hi, pv⟩
 have q := hl i ys H hi pv
 by_cases hlt : i < xs.length
 · refine .inr ⟨⟨xs, xs[i], q, by simp [hlt]⟩, fun x H' y => ?_⟩
   obtain ⟨e, y⟩ := y
   subst e
   exact hs i x ys _ (y xs q) pv
 · have e : i = xs.length := by omega
   subst e
   exact .inl ⟨⟨xs, q, Nat.le_refl _⟩, hd ys H pv⟩
theorem comp_rangeN {lo : Int} {n : Nat} {p : Addr} {tc : TT} {te : TE} {σ : St} {H : Hp} {Z : Hp -> Prop} (Pv : Nat -> List V -> Hp -> Prop) (h0 : Pv 0 [] (upd H p (.lst [])))
  (hs : ∀ i ys H, i < n -> Pv i ys H -> tc (some (.int (lo + i)) :: σ) H fun b H2 =>
   if b = true then te (some (.int (lo + i)) :: σ) H2 fun v H3 => H3 p = some (.lst ys) /\ ys.length < sizeLine /\ ∃ m', m' < n - i /\ m' = n - (i + 1) /\ i + 1 <= n /\ Pv (i + 1) (ys ++ [v]) (upd H3 p (.lst (ys ++ [v]))) else ∃ m', m' < n - i /\ m' = n - (i + 1) /\ i + 1 <= n /\ Pv (i + 1) ys H2)
  (hd : ∀ ys H, Pv n ys H -> Z H) :
  ∃ W : Nat -> Nat -> List V -> Hp -> Prop, (∃ m, W 0 m [] (upd H p (.lst []))) /\ ∀ i m ys H, W i m ys H ->
   ((Itr lo n).stop i H /\ Z H) \/ ((Itr lo n).go i H /\ ∀ x H', (Itr lo n).yld i H x H' -> tc (some x :: σ) H' fun b H2 =>
     if b = true then te (some x :: σ) H2 fun v H3 => H3 p = some (.lst ys) /\ ys.length < sizeLine /\ ∃ m', m' < m /\ W (i + 1) m' (ys ++ [v]) (upd H3 p (.lst (ys ++ [v])))
     else ∃ m', m' < m /\ W (i + 1) m' ys H2) := by
 refine ⟨fun i m ys H => m = n - i /\ i <= n /\ Pv i ys H, ⟨n, by simp, Nat.zero_le _, h0⟩, ?_⟩
 rintro i m ys H ⟨rfl, hi, pv⟩
 by_cases hlt : i < n
 · refine .inr ⟨hlt, fun x H' y => ?_⟩
   obtain ⟨e, y⟩ := y
   subst e y
   exact hs i ys _ hlt pv
 · have e : i = n := by omega
   subst e
   exact .inl ⟨Nat.le_refl _, hd ys H pv⟩
end L2
set_option Elab.async false
set_option linter.all false
set_option maxRecDepth 100000
set_option maxHeartbeats 4000000
namespace L2
open PySem PySem.Spec PyProof.Rows
section
variable {X : Cx}
end
section
variable {X : Cx} {K : PySem.W.Frag} {tg : Expr}
theorem ix_listK (h : X.K = K) : IxR X (rIxL K) := by subst h; exact ix_list
theorem ix_tupK (h : X.K = K) : IxR X (rIxT K) := by subst h; exact ix_tup
theorem sl_listK (h : X.K = K) : SlR X (rSlL K) := by subst h; exact sl_list
theorem sl_tupK (h : X.K = K) : SlR X (rSlT K) := by subst h; exact sl_tup
theorem op_eqDK {k : Nat} (hr : Room k X.A) (h : X.K = K) : OpR X (compareOp .Eq) (rEqD K) := by subst h; exact op_eqD hr
theorem op_neDK {k : Nat} (hr : Room k X.A) (h : X.K = K) : OpR X (compareOp .NotEq) (rNeD K) := by subst h; exact op_neD hr
theorem call_lenK (h : X.K = K) : CallR X (.builtin "len") (fun xs H Q => ∃ p ys, xs = [.ref p] /\ (SqL K H p ys \/ SqT K H p ys) /\ Q (.int ys.length) H) := by subst h; exact call_len_seq
theorem call_isTyK (h : X.K = K) : CallR X (.builtin "isinstance") (fun xs H Q => ∃ b, IsT K H xs b /\ Q (.bl b) H) := by subst h; exact call_isTy
theorem call_sumLK (hc : X.calm = true) (h : X.K = K) : CallR X (.builtin "sum") (fun xs H Q => ∃ (p : Addr) (ns : List Int), xs = [.ref p] /\ SqL K H p (ns.map V.int) /\ Q (.int ns.sum) H) := by subst h; exact call_sumL hc
theorem call_list_ofK (h : X.K = K) : CallR X (.type "list") (fun xs H Q => ∃ p ys, xs = [.ref p] /\ (SqL K H p ys \/ SqT K H p ys) /\ ∀ l, H l = none -> Q (.ref l) (upd H l (.lst ys))) := by subst h; exact call_list_of
theorem call_tuple_ofK (h : X.K = K) : CallR X (.type "tuple") (fun xs H Q => ∃ p ys, xs = [.ref p] /\ ((SqL K H p ys /\ ∀ l, H l = none -> Q (.ref l) (upd H l (.tup ys))) \/ (SqT K H p ys /\ Q (.ref p) H))) := by subst h; exact call_tuple_of
theorem pi_listK {l : Expr} {tl : TE} (h : X.K = K) (hl : PE X l tl) : PI X tg l (iList K tl) := by subst h; exact pi_list hl
theorem pi_tupK {l : Expr} {tl : TE} (h : X.K = K) (hl : PE X l tl) : PI X tg l (iTup K tl) := by subst h; exact pi_tup hl
end
end L2
set_option Elab.async false
set_option linter.all false
set_option maxRecDepth 100000
set_option maxHeartbeats 4000000
namespace L2
open PySem PySem.Spec PyProof.Rows
section
variable {P : Program} {w : World} {outer : List Env} {H H' : Hp} {s : Shared} {x C t : Addr} {B h h' : Heap}
end
section
variable {CX : CXT} {P : Program} {w : World} {K : PySem.W.Frag} {mg : Str -> Option Value} {base : Heap} {N : List Str} {qual : Str} {scope : Scope} {f : Addr} {cd : Value} {A : Around} {outer : List Env} {s₀ : Shared} {H₀ : Hp} {E : XK}
end
end L2
set_option Elab.async false
set_option linter.all false
set_option maxRecDepth 100000
set_option maxHeartbeats 4000000
namespace L2
open PySem PySem.Spec PyProof.Rows
section
variable {X : Cx} {x : Str} {np cpos pos : Pos} {e : Expr} {te : TE} {C : Addr} {E : XK}
end
section
variable {P : Program} {w : World} {K : PySem.W.Frag} {mg : Str -> Option Value} {base : Heap}
end
section
variable {X : Cx}
end
end L2
set_option Elab.async false
set_option linter.all false
set_option maxRecDepth 100000
set_option maxHeartbeats 4000000
namespace L2
open PySem PySem.Spec PyProof.Rows
structure ExcL (K : PySem.W.Frag) (C : Addr) : Prop where
 ga : PySem.W.findIn K (.ref C) "__getattribute__" = some (some (.builtin "BaseException.__getattribute__"))
 hk : PySem.W.findIn K (.ref C) "__getattr__" = some none
 ca : PySem.W.findIn K (.ref C) "__class__" = some (some (.builtin "object.__class__"))
 gt : PySem.W.specialIn K (.builtin "object.__class__") "__get__" = some (some (.builtin "getset_descriptor.__get__"))
 tk : PySem.W.takesIn K (.builtin "object.__class__") = some true
 ob : PySem.W.mroIn K C (.type "object") = some true
 be : PySem.W.mroIn K C (.type "BaseException") = some true
section
variable {prog : Program} {w : World} {A : Around} {E : Value -> Shared -> Prop} {K : PySem.W.Frag} {x C : Addr}
end
section
variable {X : Cx} {pins : List (Addr × Obj)} {σ : St} {H : Hp} {s : Shared}
end
end L2
set_option Elab.async false
set_option linter.all false
set_option maxRecDepth 100000
set_option maxHeartbeats 4000000
namespace L2
open PySem PySem.Spec PyProof.Rows
abbrev Ent := Option Int
def eV : Ent -> V
 | none => .non
 | some i => .int i
abbrev Tbl := List (List Ent)
def LineAt (H : Hp) (b : Addr) (r : List Ent) : Prop := H b = some (.lst (r.map eV))
structure TabAt (H : Hp) (a : Addr) (bs : List Addr) (t : Tbl) : Prop where
 at_ : H a = some (.lst (bs.map V.ref))
 nd : bs.Nodup
 ne : a ∉ bs
 lines : Paired (LineAt H) bs t
theorem paired_len {α β : Type} {R : α -> β -> Prop} : ∀ {xs : List α} {ys : List β}, Paired R xs ys -> xs.length = ys.length
 | _, _, .nil => rfl
 | _, _, .cons _ t => by simp [paired_len t]
theorem paired_get {α β : Type} {R : α -> β -> Prop} : ∀ {xs : List α} {ys : List β} {i : Nat} {y : β}, Paired R xs ys -> ys[i]? = some y -> ∃ x, xs[i]? = some x /\ R x y
 | _, _, _, _, .nil, e => by simp at e
 | _, _, 0, _, .cons r _, e => by cases e; exact ⟨_, rfl, r⟩
 | _, _, i + 1, _, .cons _ t, e => by
  obtain ⟨x, e1, r⟩ := paired_get t (by simpa using e)
  exact ⟨x, by simpa using e1, r⟩
theorem paired_get' {α β : Type} {R : α -> β -> Prop} : ∀ {xs : List α} {ys : List β} {i : Nat} {x : α}, Paired R xs ys -> xs[i]? = some x -> ∃ y, ys[i]? = some y /\ R x y
 | _, _, _, _, .nil, e => by simp at e
 | _, _, 0, _, .cons r _, e => by cases e; exact ⟨_, rfl, r⟩
 | _, _, i + 1, _, .cons _ t, e => by
  obtain ⟨x, e1, r⟩ := paired_get' t (by simpa using e)
  exact ⟨x, by simpa using e1, r⟩
section
variable {H H' : Hp} {a b : Addr} {bs : List Addr} {t : Tbl} {r : List Ent} {f g : Nat} {e : Ent}
theorem TabAt.len (T : TabAt H a bs t) : bs.length = t.length := paired_len T.lines
end
section
variable {K : PySem.W.Frag} {H : Hp}
end
end L2
set_option linter.all false
namespace Oct
abbrev E := Option Int
def leE : E -> E -> Prop
 | _, none => True
 | none, some _ => False
 | some a, some b => a <= b
def hlf : E -> E
 | none => none
 | some a => some (a / 2)
abbrev Tb := Nat -> Nat -> E
theorem leE_trans {a b c : E} (h : leE a b) (k : leE b c) : leE a c := by cases a <;> cases b <;> cases c <;> simp_all [leE] <;> omega
def hv (t : Tb) (f : Nat) : E := hlf (t f f)
def Le (c t : Tb) (N : Nat) : Prop := ∀ f g, f < N -> g < N -> leE (c f g) (t f g)
theorem Le.trans {a b c : Tb} {N : Nat} (h : Le a b N) (k : Le b c N) : Le a c N := fun f g hf hg => leE_trans (h f g hf hg) (k f g hf hg)
def neg0 : E -> Bool
 | some z => decide (z < 0)
 | none => false
def Agree (a b : Tb) (N : Nat) : Prop := ∀ f g, f < N -> g < N -> a f g = b f g
inductive SameO (N : Nat) : Option Tb -> Option Tb -> Prop
 | none : SameO N none none
 | some {a b : Tb} : Agree a b N -> SameO N (some a) (some b)
theorem Agree.symm {a b : Tb} {N : Nat} (h : Agree a b N) : Agree b a N := fun f g hf hg => (h f g hf hg).symm
def ln (N : Nat) (r : Nat -> E) : List E := (List.range N).map r
def rows (i N : Nat) (c : Tb) : List (List E) := (List.range i).map fun f => ln N (c f)
abbrev toT (N : Nat) (c : Tb) : List (List E) := rows N N c
end Oct
set_option Elab.async false
set_option linter.all false
set_option maxRecDepth 100000
set_option maxHeartbeats 4000000
namespace L2
open PySem PySem.Spec PyProof.Rows
section
variable {X : Cx} {pins : List (Addr × Obj)} {σ : St} {H : Hp} {s : Shared} {h' : Heap}
theorem Inv.turnedL {t' : Nat} {ch : List Addr} (I : Inv X pins σ H s) (hf : ∀ b ∈ ch, FpOk X pins H b) (k : ∀ b o, b ∉ ch -> s.heap.get? b = some o -> h'.get? b = some o) : Inv X pins σ H { s with heap := h', toks := t' } := by
 have nch : ∀ b u, H b = some u -> b ∉ ch := fun b u e z => by rw [(hf b z).1] at e; cases e
 refine I.step (g' := s.gens) (d' := s.drawn) (ch := ch) (fun b hb => ⟨(hf b hb).2.2.2.1, (hf b hb).2.1, (hf b hb).2.2.2.2.1, (hf b hb).2.2.2.2.2⟩) (fun b o _ _ hc e _ => k b o hc e) (fun b o _ _ hc e _ => ⟨o.slots, k b o hc e⟩)
  (fun b o hc e n => n) (fun b o hc e => ⟨o, k b o hc e⟩) (fun b ys e => e) (fun b o u e => e) (fun b ps e => ⟨#[], by rw [e]; simp⟩) (fun m hm => ?_) (fun b u e => ?_) I.bare
 · obtain ⟨o, es, ep, ho, r⟩ := hm
   exact ⟨o, es, ep, k _ o (fun z => (hf _ z).2.1 rfl) ho, r⟩
 · refine (I.hok b u e).stay (fun c v hc q => k c v ?_ q) (fun c q => q) fun c ys q => q
   rcases hc with z | z
   · rw [z]; exact nch b u e
   · exact nch c _ z
theorem Inv.turnedT {t' : Nat} {ch : List Addr} {T : Addr} {xs : List V} {us : List Value} (I : Inv X pins σ H s) (hf : ∀ b ∈ ch, FpOk X pins H b)
  (k : ∀ b o, b ∉ ch -> s.heap.get? b = some o -> h'.get? b = some o) (hp : s.heap.objs.size <= T) (new : IsTup h' T us.toArray) (r : Vals xs us) (hz : xs.length <= sizeLine) :
  Inv X pins σ (upd H T (.tup xs)) { s with heap := h', toks := t' } := by
 have hT : H T = none := I.hok.fresh hp
 have nch : ∀ b u, H b = some u -> b ∉ ch := fun b u e z => by rw [(hf b z).1] at e; cases e
 refine I.step (g' := s.gens) (d' := s.drawn) (ch := ch) (fun b hb => ⟨(hf b hb).2.2.2.1, (hf b hb).2.1, (hf b hb).2.2.2.2.1, (hf b hb).2.2.2.2.2⟩) (fun b o _ _ hc e _ => k b o hc e) (fun b o _ _ hc e _ => ⟨o.slots, k b o hc e⟩)
  (fun b o hc e n => by rw [upd_ne (Nat.ne_of_lt (Nat.lt_of_lt_of_le (Heap.lt_size e) hp))]; exact n)
  (fun b o hc e => ⟨o, k b o hc e⟩) (fun b ys e => by rw [upd_ne (ne_of_none e hT)]; exact e) (fun b o u e => by rw [upd_ne (ne_of_none e hT)]; exact e) (fun b ps e => ⟨#[], by rw [upd_ne (ne_of_none e hT), e]; simp⟩) (fun m hm => ?_) (fun b u e => ?_) I.bare
 · obtain ⟨o, es, ep, ho, r⟩ := hm
   exact ⟨o, es, ep, k _ o (fun z => (hf _ z).2.1 rfl) ho, r⟩
 · by_cases hb : b = T
   · subst hb
     rw [upd_same] at e
     cases e
     exact ⟨hz, us, r, new⟩
   · rw [upd_ne hb] at e
     refine (I.hok b u e).stay (fun c v hc q => k c v ?_ q) (fun c q => by rw [upd_ne (ne_of_none q hT)]; exact q) fun c ys q => by rw [upd_ne (ne_of_none q hT)]; exact q
     rcases hc with z | z
     · rw [z]; exact nch b u e
     · exact nch c _ z
end
def Itn (K : PySem.W.Frag) (a : Addr) : It :=
 ⟨fun i H => ∃ xs x, SqL K H a xs /\ xs[i]? = some x, fun i H v H' => ∃ T x, v = .ref T /\ H T = none /\ H' = upd H T (.tup [.int i, x]) /\ ∀ xs, SqL K H a xs -> xs[i]? = some x, fun i H => ∃ xs, SqL K H a xs /\ xs.length <= i⟩
theorem turn_enum {P : Program} {w : World} {K : PySem.W.Frag} {elts : List Expr} {k : Nat} {tp : Pos} (a e it : Addr) (hne : e ≠ it) : Turn P w K (.Tuple elts k tp) (Itn K a) [e, it] e (fun i h => (∃ old, IsEnum h e it i old) /\ h.IsListIter it a i) where
 mem := by simp
 obj := fun i h st b hb => by
  obtain ⟨⟨old, he⟩, o, eo, c, d⟩ := st
  have hb' : b = e \/ b = it := by simpa using hb
  rcases hb' with z | z
  · subst z
    exact ⟨_, he, fun v z => by
     have z' : Data.fields _ = Data.cell v := z
     cases z'⟩
  · subst z
    exact ⟨o, eo, fun v z => by rw [d] at z; cases z⟩
 keep := fun i h h' st k => ⟨⟨st.1.choose, k e (by simp) _ st.1.choose_spec⟩, st.2.at fun o eo => k it (by simp) o eo⟩
 item := by
  intro X hP hw hK hc i pins s σ H E I hf st hg
  subst hP hw hK
  obtain ⟨⟨old, he⟩, st⟩ := st
  obtain ⟨xs, x, hq, hx⟩ := hg
  obtain ⟨its, rv, p, hz⟩ := I.list hq
  obtain ⟨u, hu, ru⟩ := rv.get hx
  refine wpAny_pyNext_enum_item he st p.isList (x := u) (by simpa using hu) hne fun h' ho hit' hT hsz hk => ?_
  refine ⟨_, rfl, wpAny_letOwnedTupleGo_enum ho fun h2 he2 hs2 => ?_⟩
  have helt : e < s.heap.objs.size := Heap.lt_size he
  have kk : ∀ b o, b ∉ [e, it] -> s.heap.get? b = some o -> h2.get? b = some o := fun b o hb q => by
   have hb' : b ≠ e /\ b ≠ it := by simpa using hb
   exact (hs2.2 b hb'.1).trans (hk b o hb'.1 hb'.2 q)
  have I2 : Inv X pins σ (upd H s.heap.objs.size (.tup [.int i, x])) { s with heap := h2, toks := s.toks + 1 } := I.turnedT (xs := [.int i, x]) (us := [.int i s.toks, u]) hf kk (Nat.le_refl _) ⟨_, (hs2.2 _ (Nat.ne_of_gt helt)).trans hT, rfl, _, rfl⟩ (.cons ⟨_, rfl⟩ (.cons ru .nil)) (sz 2)
  refine ⟨.ref s.heap.objs.size, _, I2, rfl, ⟨_, x, rfl, I.hok.fresh (Nat.le_refl _), rfl, fun ys hy => by rw [I.list_inj hy hq]; exact hx⟩, ?_, fun b hb => ?_⟩
  · exact ⟨⟨u, by simpa using he2⟩, hit'.at fun o y => (hs2.2 it hne.symm).trans y⟩
  · have : b < s.heap.objs.size := by
     have hb' : b = e \/ b = it := by simpa using hb
     rcases hb' with z | z
     · rw [z]; exact helt
     · obtain ⟨o, eo, _⟩ := st
       rw [z]; exact Heap.lt_size eo
    rw [upd_ne (Nat.ne_of_lt this)]
    exact (hf b hb).1
 done := by
  intro X hP hw hK hc i pins s σ H E I hf st hg
  subst hP hw hK
  obtain ⟨⟨old, he⟩, st⟩ := st
  obtain ⟨xs, hq, hx⟩ := hg
  obtain ⟨its, rv, p, hz⟩ := I.list hq
  have hl := rv.length
  exact wpAny_pyNext_enum_end (I.ok.hd hc) he st p.isList (by simp; omega) fun h' eb => ⟨rfl, I.turnedL (t' := s.toks) hf fun b o hb q => eb b o (fun z => hb (by simp [z])) q⟩
 self := fun _ _ _ _ _ st h => by
  obtain ⟨⟨old, he⟩, _⟩ := st
  exact wpAny_pyIter_enum he h
def iEnum (K : PySem.W.Frag) (ta : TA) : TI := fun σ H R => ta σ H fun vs H1 => ∃ a, vs = [.ref a] /\ (∃ xs, SqL K H1 a xs) /\ R (Itn K a) H1
theorem pi_enum {X : Cx} {elts : List Expr} {k : Nat} {tp : Pos} {a : Expr} {ta : TA} {p pos : Pos} (hg : Gl X "enumerate") (hm : X.mg "enumerate" = none) (ha : PA X [a] ta) (hs : starEach [a] X.env = [(false, eval a X.env)] := by rfl) :
  PI X (.Tuple elts k tp) (.Call (.Name "enumerate" p) [a] [] pos) (iEnum X.K ta) := by
 intro pins s σ H R I h
 refine Call_ (ld_blt I hg hm boot_enumerate (PyProof.Rows.callWith_type1 (thn (ha pos pins s σ H _ I h) fun us s1 ⟨vs, H1, I1, r1, q1⟩ => ?_) hs rfl))
 obtain ⟨l, e, ⟨xs, hq⟩, q⟩ := q1
 subst e
 obtain ⟨u, rfl, ru⟩ := r1.one
 cases ru
 obtain ⟨its, rv, pl, hz⟩ := I1.list hq
 refine call_enumerate_list pl.isList fun h' he hit hsz hk => wpAny_pyIter_enum he ?_
 refine ⟨s1.heap.objs.size + 1, [s1.heap.objs.size + 1, s1.heap.objs.size], _, _, H1, rfl, I1.kept (t' := s1.toks) hk, turn_enum l _ _ (Nat.succ_ne_self _), ⟨⟨_, he⟩, hit⟩, fun b hb => ?_, q⟩
 have hb' : b = s1.heap.objs.size + 1 \/ b = s1.heap.objs.size := by simpa using hb
 have hle : s1.heap.objs.size <= b := by rcases hb' with z | z <;> rw [z]; exact Nat.le_succ _; exact Nat.le_refl _
 exact I1.fpOk hle (I1.hok.fresh hle)
structure Z5 (z TI TO i1 i2 : Addr) : Prop where
 TIz : TI ≠ z
 TOz : TO ≠ z
 i1z : i1 ≠ z
 i2z : i2 ≠ z
 TITO : TI ≠ TO
 TIi1 : TI ≠ i1
 TIi2 : TI ≠ i2
 TOi1 : TO ≠ i1
 TOi2 : TO ≠ i2
 i12 : i1 ≠ i2
def gPair (K : PySem.W.Frag) (i j : Nat) : TG := gTup K 2 (gCons (gName i) (gCons (gName j) gNil))
theorem pg_pair {X : Cx} {x y : Str} {i j k : Nat} {p q pos : Pos} (hc : X.calm = true) (h1 : PG X (.Name x p) (gName i)) (h2 : PG X (.Name y q) (gName j)) : PG X (.Tuple [.Name x p, .Name y q] k pos) (gPair X.K i j) := pg_tup hc (pgs_cons h1 (pgs_cons h2 pgs_nil))
theorem for_enum {K : PySem.W.Frag} {a : Addr} {xs : List V} {u v : Nat} {tb : TS} {D : Ends} {σ : St} {H : Hp} (Pv : Nat -> St -> Hp -> Prop) (h0 : Pv 0 σ H) (hl : ∀ i σ H, i <= xs.length -> Pv i σ H -> SqL K H a xs)
  (hs : ∀ i x σ H H', xs[i]? = some x -> Pv i σ H -> Same H H' -> tb { D with nx := Pv (i + 1), ct := Pv (i + 1), bk := D.nx } ((σ.set u (some (.int i))).set v (some x)) H') (hd : ∀ σ H, Pv xs.length σ H -> D.nx σ H) :
  ∃ W : Nat -> Nat -> St -> Hp -> Prop, (∃ m, W 0 m σ H) /\ ∀ i m σ H, W i m σ H ->
   ((Itn K a).stop i H /\ D.nx σ H) \/ ((Itn K a).go i H /\ ∃ N : St -> Hp -> Prop, (∀ σ' H', N σ' H' -> ∃ m', m' < m /\ W (i + 1) m' σ' H') /\ ∀ x H', (Itn K a).yld i H x H' -> gPair K u v x σ H' fun σ2 H2 => tb { D with nx := N, ct := N, bk := D.nx } σ2 H2) := by
 refine ⟨fun i m σ H => m = xs.length - i /\ i <= xs.length /\ Pv i σ H, ⟨xs.length, by simp, Nat.zero_le _, h0⟩, ?_⟩
 rintro i m σ H ⟨rfl, hi, p⟩
 have q := hl i σ H hi p
 by_cases hlt : i < xs.length
 · refine .inr ⟨⟨xs, xs[i], q, by simp [hlt]⟩, Pv (i + 1), fun σ' H' p' => ⟨xs.length - (i + 1), by omega, rfl, hlt, p'⟩, fun x H' y => ?_⟩
   obtain ⟨T, x, rfl, hT, rfl, y⟩ := y
   exact ⟨T, [.int i, x], rfl, SqT.of upd_same, rfl, _, _, rfl, _, _, rfl, rfl, hs i x σ H _ (y xs q) p (same_new hT _)⟩
 · have e : i = xs.length := by omega
   subst e
   exact .inl ⟨⟨xs, q, Nat.le_refl _⟩, hd σ H p⟩
theorem compLoop_any {prog : Program} {w : World} {A : Around} {s : Shared} {elt iter target : Expr} {scope : Scope} {pos : Pos} {it acc : Value} {env : Env} {R : Result -> Shared -> Prop} (I : Nat -> Shared -> Prop)
  (turn : ∀ n s, I n s -> wpAny (model prog w) A (pyNext it) (fun r s₁ => match r with
   | none => R (.ok .next) s₁
   | some v => wpAny (model prog w) A (letOwnedTupleGo target it v) (fun _ s₁' => wpAny (model prog w) A (assign target env v) (fun _ s₂ =>
     wpAny (model prog w) A (eval elt env) (fun x s₄ =>
       wpAny (model prog w) A (call (.builtin "list.append") [acc, x]) (fun _ s₅ => ∃ m, m < n /\ I m s₅) (notedBy (model prog w) A env fun e s' => R (.error e) s') s₄) (notedBy (model prog w) A env fun e s' => R (.error e) s') s₂)
     (notedBy (model prog w) A env fun e s' => R (.error e) s') s₁') (notedBy (model prog w) A env fun e s' => R (.error e) s') s₁) (notedBy (model prog w) A env fun e s' => R (.error e) s') s)
  (n : Nat) (h : I n s) : codeAny (model prog w) A (.compLoop (.ListComp elt [⟨target, iter, [], 0⟩] scope pos) 0 it acc env) R s := by
 refine codeAny_loop rfl I (fun n s hI => ?_) n h
 show wpAny _ A ((compTurn (.ListComp elt [⟨target, iter, [], 0⟩] scope pos) 0 it acc env).onRaise (fun x => do noteFrame x env; theTreesLotGoes x)) _ _ s
 refine wpAny_noted ?_
 rw [compTurn_list]
 refine wpAny_bind (wpAny_standAt (wpAny_bind (wpAny_mono (turn n s hI) (fun r s₁ h₁ => ?_) fun _ _ h' => h')))
 cases r with
 | none => exact wpAny_pure h₁
 | some v =>
  refine wpAny_bind (wpAny_mono h₁ (fun _ s₁' h₁' => ?_) fun _ _ h' => h')
  refine wpAny_bind (wpAny_mono h₁' (fun _ s₂ h₂ => wpAny_bind (wpAny_mono (wpAny_tests_nil (Q := fun ok s₃ => ok = true /\ s₃ = s₂) ⟨rfl, rfl⟩) (fun ok s₃ h₃ => ?_) fun _ _ h' => h')) fun _ _ h' => h')
  obtain ⟨rfl, rfl⟩ := h₃
  exact wpAny_bind (wpAny_bind (wpAny_mono h₂ (fun x s₄ h₄ => wpAny_bind (wpAny_mono h₄ (fun _ s₅ h₅ => wpAny_pure (wpAny_pure ⟨rfl, h₅⟩)) fun _ _ h' => h')) fun _ _ h' => h'))
structure CompScope2 (N M : List Str) (osc : Scope) (x y : Str) (sc : Scope) : Prop where
 kind : sc.kind = .function
 nocell : ∀ z ∈ sc.names, z.2 ≠ .cell
 names : ∀ z ∈ sc.names, z.2 = .local -> sc.names.lookup z.1 = some .local
 here : sc.names.lookup x = some .local
 here2 : sc.names.lookup y = some .local
 nd : (x :: y :: M).Nodup
 len : M.length = N.length
 hide : ∀ (i : Nat) z, M[i]? = some z -> N[i]? = some z \/ sc.names.lookup z = none
 free : ∀ z ∈ sc.names, z.2 = .free -> osc.names.lookup z.1 = some .cell \/ osc.names.lookup z.1 = some .free
 own : ∀ z ∈ sc.names, z.2 = .local -> z.1 = x \/ z.1 = y \/ z.1 ∉ M
section
variable {X : Cx} {M : List Str} {x y : Str} {sc : Scope} {fp : List Addr} {s3 : Shared} {H3 : Hp} {pins : List (Addr × Obj)} {σ : St}
end
section
variable {X : Cx} {M : List Str} {x y : Str} {sc : Scope} {px py tp pos : Pos} {k : Nat} {elt iter : Expr} {wi : TI} {te : TE}
end
structure CompScope1 (N M : List Str) (osc : Scope) (x : Str) (sc : Scope) : Prop where
 kind : sc.kind = .function
 nocell : ∀ z ∈ sc.names, z.2 ≠ .cell
 names : ∀ z ∈ sc.names, z.2 = .local -> sc.names.lookup z.1 = some .local
 here : sc.names.lookup x = some .local
 nd : (x :: M).Nodup
 len : M.length = N.length
 hide : ∀ (i : Nat) z, M[i]? = some z -> N[i]? = some z \/ sc.names.lookup z = none
 free : ∀ z ∈ sc.names, z.2 = .free -> osc.names.lookup z.1 = some .cell \/ osc.names.lookup z.1 = some .free
 own : ∀ z ∈ sc.names, z.2 = .local -> z.1 = x \/ z.1 ∉ M
def cxComp1 (X : Cx) (M : List Str) (x : Str) (sc : Scope) (fp : List Addr) (s3 : Shared) (H3 : Hp) : Cx where
 prog := X.prog
 w := X.w
 K := X.K
 mg := X.mg
 base := X.base
 A := X.A
 N := x :: M
 s₀ := s3
 H₀ := H3
 env := compEnvC sc (clOf sc X.env) s3.heap.objs.size X.env
 outer := X.stack
 stack := X.stack
 ex := fp
 calm := X.calm
 fn := fun _ => false
 pn := []
 xe := fun _ _ => False
section
variable {X : Cx} {M : List Str} {x : Str} {sc : Scope} {fp : List Addr} {s3 : Shared} {H3 : Hp} {pins : List (Addr × Obj)} {σ : St}
theorem CompScope1.cells (S : CompScope1 X.N M X.env.scope x sc) (ok : X.Ok) : ∀ z ∈ sc.names, z.2 = .free -> ∃ c, X.env.cells.lookup z.1 = some c := fun z hz hk => ok.has z.1 (S.free z hz hk)
theorem CompScope1.sub (S : CompScope1 X.N M X.env.scope x sc) (ok : X.Ok) {z : Str} {c : Addr} (e : (clOf sc X.env).lookup z = some c) : X.env.cells.lookup z = some c :=
 clGo_sub sc.names [] (S.cells ok) (fun c h => by cases h) e
theorem CompScope1.isFree (S : CompScope1 X.N M X.env.scope x sc) {z : Str} (h : (relabel sc X.env).names.lookup z = some .cell \/ (relabel sc X.env).names.lookup z = some .free) : (z, NameKind.free) ∈ sc.names := by
 rw [lookup_relabel] at h
 cases e : sc.names.lookup z with
 | none => rw [e] at h; rcases h with h | h <;> cases h
 | some k =>
  rw [e] at h
  have hm := PySem.mem_of_lookup e
  cases k with
  | free => exact hm
  | cell => exact absurd rfl (S.nocell _ hm)
  | _ =>
   exfalso
   rcases h with h | h
   all_goals (simp at h)
theorem CompScope1.noLocal (S : CompScope1 X.N M X.env.scope x sc) {z : Str} (hz : z ∈ M) (h : (relabel sc X.env).names.lookup z = some .local) : False := by
 rw [lookup_relabel] at h
 cases e : sc.names.lookup z with
 | none => rw [e] at h; cases h
 | some k =>
  rw [e] at h
  have hm := PySem.mem_of_lookup e
  cases k with
  | «local» =>
   have nd := List.nodup_cons.mp S.nd
   rcases S.own _ hm rfl with q | q
   · have q' : z = x := q
     exact nd.1 (q' ▸ hz)
   · exact q hz
  | _ =>
   revert h
   simp
   try (split <;> simp)
theorem ok_comp1 (S : CompScope1 X.N M X.env.scope x sc) (I : Inv X pins σ H3 s3) (hf : ∀ b ∈ fp, FpOk X pins H3 b) (hl : ∀ b ∈ fp, b < s3.heap.objs.size) : (cxComp1 X M x sc fp s3 H3).Ok where
 mod := I.ok.mod
 kind := S.kind
 glob := I.ok.glob
 blt := I.ok.blt
 above := Nat.le_refl _
 inj := fun y z c h1 h2 => I.ok.inj y z c (S.sub I.ok h1) (S.sub I.ok h2)
 has := fun y h => clGo_has sc.names [] (.inr (S.isFree h))
 cab := fun y c h => by cases h
 hd := I.ok.hd
 frames := I.ok.frames
 stk := .inl rfl
 exf := fun b hb => ⟨Nat.ne_of_lt (hl b hb), fun y c e => (hf b hb).2.2.2.2.1 y c (S.sub I.ok e)⟩
 bs := I.bs
 bsz := Nat.le_trans I.ok.bsz I.sz
 noex := fun b o e hb => FpOk.nobase I.ok (hf b hb) e
 exfs := fun b hb hs => by
  rcases List.mem_cons.mp (I.stkSub b hs) with z | z
  · exact (hf b hb).2.1 z
  · exact (hf b hb).2.2.1 z
 funs := I.stack
 frf := I.stkFree
theorem inv_comp1 {h4 : Heap} {tk : Nat} (S : CompScope1 X.N M X.env.scope x sc) (I : Inv X pins σ H3 s3) (hf : ∀ b ∈ fp, FpOk X pins H3 b) (hl : ∀ b ∈ fp, b < s3.heap.objs.size)
  (hk : ∀ b o, s3.heap.get? b = some o -> h4.get? b = some o) {m : Str -> Option Value} (hn : h4.Ns s3.heap.objs.size m) :
  Inv (cxComp1 X M x sc fp s3 H3) [] (none :: σ) H3 { s3 with heap := h4, toks := tk } := by
 refine ⟨ok_comp1 S I hf hl, rfl, I.bare, Un.kept hk, ⟨m, hn, fun i z v h1 h2 h3 => ?_⟩, fun z c e => ?_, I.fresh, fun z c e => I.freeC z c (S.sub I.ok e), fun p hp => absurd (show p ∈ ([] : List (Addr × Obj)) from hp) (by simp), I.hok.kept hk, by show σ.length + 1 = M.length + 1; rw [I.len, S.len]⟩
 · match i, h1, h2 with
   | 0, h1, h2 => exact absurd (Option.some.inj h2) (by simp)
   | i + 1, h1, h2 =>
    have h1m : M[i]? = some z := h1
    have h2' : σ[i]? = some (some v) := h2
    have hyN : z ∈ M := List.mem_of_getElem? h1m
    have hfree : (z, NameKind.free) ∈ sc.names := by
     rcases h3 with h3 | h3 | h3
     · exact (S.noLocal hyN h3).elim
     · exact S.isFree (.inl h3)
     · exact S.isFree (.inr h3)
    have h1' : X.N[i]? = some z := by
     rcases S.hide i z h1m with q | q
     · exact q
     · exfalso
       obtain ⟨k, hk⟩ : ∃ k, sc.names.lookup z = some k := by
        cases e : sc.names.lookup z with
        | some k => exact ⟨k, rfl⟩
        | none =>
         rw [List.lookup_eq_none_iff] at e
         exact absurd (e _ hfree) (by simp)
       rw [hk] at q; cases q
    have hk0 := S.free _ hfree rfl
    obtain ⟨m0, hn0, hl0⟩ := I.loc
    obtain ⟨u, r, l⟩ := hl0 i z v h1' h2' (hk0.elim (fun q => .inr (.inl q)) (fun q => .inr (.inr q)))
    refine ⟨u, r, .inr ?_⟩
    have hv : (cxComp1 X M x sc fp s3 H3).env.kindOf z = some .cell \/ (cxComp1 X M x sc fp s3 H3).env.kindOf z = some .free := by
     rcases h3 with h3 | h3 | h3
     · exact (S.noLocal hyN h3).elim
     · exact .inl h3
     · exact .inr h3
    refine ⟨hv, ?_⟩
    obtain ⟨c, hc⟩ := clGo_has (env := X.env) (y := z) sc.names [] (.inr hfree)
    refine ⟨c, hc, ?_⟩
    have hc' := S.sub I.ok hc
    rcases l with ⟨hk1, _⟩ | ⟨_, c2, e2, z2⟩
    · exfalso
      have hk1' : X.env.scope.names.lookup z = some .local := hk1
      have hk0' : X.env.scope.names.lookup z = some .cell \/ X.env.scope.names.lookup z = some .free := hk0
      rw [hk1'] at hk0'
      rcases hk0' with q | q <;> cases q
    · rw [hc'] at e2; cases e2
      exact z2.keeps hk
 · obtain ⟨v, q⟩ := I.cell z c (S.sub I.ok e)
   exact ⟨v, q.keeps hk⟩
end
def tComp1 (wi : TI) (te : TE) : TE := fun σ H Q => wi σ H fun J H1 => ∀ p, H1 p = none ->
 ∃ W : Nat -> Nat -> List V -> Hp -> Prop, (∃ m, W 0 m [] (upd H1 p (.lst []))) /\ ∀ i m ys H, W i m ys H ->
  (J.stop i H /\ Q (.ref p) H) \/ (J.go i H /\ ∀ u H', J.yld i H u H' ->
   te (some u :: σ) H' fun v H3 => H3 p = some (.lst ys) /\ ys.length < sizeLine /\ ∃ m', m' < m /\ W (i + 1) m' (ys ++ [v]) (upd H3 p (.lst (ys ++ [v]))))
section
variable {X : Cx} {M : List Str} {x : Str} {sc : Scope} {px pos : Pos} {k : Nat} {elt iter : Expr} {wi : TI} {te : TE}
theorem Inv.back1 {fp : List Addr} {s3 s' : Shared} {H3 H' : Hp} {pins : List (Addr × Obj)} {σ σ' : St} {pl : List (Addr × Obj)} {h' : Heap} (I : Inv X pins σ H3 s3) (hf : ∀ b ∈ fp, FpOk X pins H3 b)
  (J : Inv (cxComp1 X M x sc fp s3 H3) pl σ' H' s') (hs : Heap.SameBut s3.heap.objs.size s'.heap h') : Inv X pins σ H' { s' with heap := h' } := by
 have I1 : Inv X pins σ H' s' := I.call' (ch := fp) J.os J.base J.hok J.bare fun b hb => ⟨(hf b hb).2.2.2.1, (hf b hb).2.1, (hf b hb).2.2.2.2.1, (hf b hb).2.2.2.2.2⟩
 refine I1.turned (t' := s'.toks) (it := s3.heap.objs.size) (fun b o hb e => (hs.2 b hb).trans e) J.free ?_ (.inr I.sz) ?_ ?_
 · exact Nat.ne_of_gt I.lt
 · intro y c e z
   obtain ⟨v, q⟩ := I.cell y c e
   exact absurd q.lt (by rw [z]; exact Nat.lt_irrefl _)
 · intro p hp z
   exact absurd (Heap.lt_size (I.pin p hp).1) (by rw [z]; exact Nat.lt_irrefl _)
theorem comp_core1 {pins : List (Addr × Obj)} {σ : St} {s2 : Shared} {H2 : Hp} {it : Addr} {fp : List Addr} {tn : Nat -> Heap -> Prop} {J : It} {Q : VK} {E : Value -> Shared -> Prop} {RR : Value -> Addr -> Result -> Shared -> Prop}
  (S : CompScope1 X.N M X.env.scope x sc) (hc : X.calm = true) (he : ∀ fp s3 H3, PE (cxComp1 X M x sc fp s3 H3) elt te)
  (I2 : Inv X pins σ H2 s2) (T : Turn X.prog X.w X.K (.Name x px) J fp it tn) (st2 : tn 0 s2.heap) (f2 : ∀ b ∈ fp, FpOk X pins H2 b)
  (h : ∀ p, H2 p = none -> ∃ W : Nat -> Nat -> List V -> Hp -> Prop, (∃ m, W 0 m [] (upd H2 p (.lst []))) /\ ∀ i m ys H, W i m ys H ->
   (J.stop i H /\ Q (.ref p) H) \/ (J.go i H /\ ∀ u H', J.yld i H u H' ->
    te (some u :: σ) H' fun v H3 => H3 p = some (.lst ys) /\ ys.length < sizeLine /\ ∃ m', m' < m /\ W (i + 1) m' (ys ++ [v]) (upd H3 p (.lst (ys ++ [v])))))
  (hRR : ∀ (s3 : Shared) (H3 : Hp) (s' : Shared) (σ' : St) (H' : Hp), Inv X pins σ H3 s3 -> (∀ b ∈ fp, FpOk X pins H3 b) -> Inv (cxComp1 X M x sc fp s3 H3) [] σ' H' s' -> Q (.ref s2.heap.objs.size) H' -> RR (.ref s2.heap.objs.size) s3.heap.objs.size (.ok .next) s') :
  wpAny (model X.prog X.w) X.A (newList []) (fun acc s₃ => wpAny (model X.prog X.w) X.A (newFunctionEnv sc X.env.globals (clOf sc X.env) [] X.env.qual none .none (some X.env)) (fun cenv s₄ =>
   codeAny (model X.prog X.w) X.A (.compStart (.ListComp elt [⟨(.Name x px), iter, [], 0⟩] sc pos) 0 (.ref it) acc { cenv with scope := relabel sc X.env }) (RR acc cenv.locals) s₄) E s₃) E s2 := by
 obtain ⟨W, ⟨m0, w0⟩, turn⟩ := h s2.heap.objs.size I2.fresh
 refine wpAny_newList ?_
 have I3 : Inv X pins σ (upd H2 s2.heap.objs.size (.lst [])) { s2 with heap := s2.heap.push { cls := .type "list", data := .seq ([] : List Value).toArray } } := I2.lnew (ys := []) (t' := s2.toks) .nil (Nat.zero_le _)
 have fpl : ∀ b ∈ fp, b < s2.heap.objs.size := fun b hb => by
  obtain ⟨o, e, _⟩ := T.obj _ _ st2 b hb
  exact Heap.lt_size e
 have f3 : ∀ b ∈ fp, FpOk X pins (upd H2 s2.heap.objs.size (.lst [])) b := fun b hb => ⟨by rw [upd_ne (Nat.ne_of_lt (fpl b hb))]; exact (f2 b hb).1, (f2 b hb).2⟩
 have st3 : tn 0 (s2.heap.push { cls := .type "list", data := .seq ([] : List Value).toArray }) := T.keep _ _ _ st2 fun b _ o e => Heap.get?_push_of_some _ e
 generalize hs3 : ({ s2 with heap := s2.heap.push { cls := .type "list", data := .seq ([] : List Value).toArray } } : Shared) = s3 at *
 have st3' : tn 0 s3.heap := by rw [← hs3]; exact st3
 have fpl3 : ∀ b ∈ fp, b < s3.heap.objs.size := fun b hb => by
  obtain ⟨o, e, _⟩ := T.obj _ _ st3' b hb
  exact Heap.lt_size e
 refine wpAny_newFunctionEnv S.nocell (by intro y hy; simp at hy) (fun h₁ hns₁ hsb₁ => ?_) S.kind
 have keep4 : ∀ b o, s3.heap.get? b = some o -> h₁.get? b = some o := fun b o e => (hsb₁.2 b (Nat.ne_of_lt (Heap.lt_size e))).trans (Heap.get?_push_of_some _ e)
 have I4 := inv_comp1 (fp := fp) (tk := s3.toks + ([] : List (Str × Value)).length) S I3 f3 fpl3 keep4 hns₁
 have st4 : tn 0 h₁ := T.keep _ _ _ st3' fun b _ o e => keep4 b o e
 generalize hs4 : ({ s3 with heap := h₁, toks := s3.toks + ([] : List (Str × Value)).length } : Shared) = s4 at *
 have st4' : tn 0 s4.heap := by rw [← hs4]; exact st4
 generalize hH3 : upd H2 s2.heap.objs.size (.lst []) = H3 at *
 have stat : ∀ {H' : Hp}, (∀ b ∈ fp, H' b = none) -> ∀ b ∈ fp, FpOk (cxComp1 X M x sc fp s3 H3) [] H' b := fun hn b hb =>
  ⟨hn b hb, Nat.ne_of_lt (fpl3 b hb), I4.ok.exfs b hb, .inl hb, fun y c e => (f3 b hb).2.2.2.2.1 y c (S.sub I3.ok e), fun p hp => absurd (show p ∈ ([] : List (Addr × Obj)) from hp) (by simp)⟩
 have loop : codeAny (model X.prog X.w) X.A (.compLoop (.ListComp elt [⟨(.Name x px), iter, [], 0⟩] sc pos) 0 (.ref it) (.ref s2.heap.objs.size) (cxComp1 X M x sc fp s3 H3).env) (RR (.ref s2.heap.objs.size) s3.heap.objs.size) s4 := by
  refine compLoop_any (fun n s' => ∃ i o ys H', Inv (cxComp1 X M x sc fp s3 H3) [] (o :: σ) H' s' /\ tn i s'.heap /\ (∀ b ∈ fp, H' b = none) /\ W i n ys H') ?_ m0 ⟨0, none, [], H3, I4, st4', fun b hb => (f3 b hb).1, w0⟩
  rintro n s5 ⟨i, o, ys, H5, I5, st5, fr5, w5⟩
  rcases turn i n ys H5 w5 with ⟨stop, q⟩ | ⟨go, step⟩
  · refine wpAny_mono (T.done (cxComp1 X M x sc fp s3 H3) rfl rfl rfl hc i [] s5 (o :: σ) H5 (fun _ _ => False) I5 (stat fr5) st5 stop) (fun r s6 ⟨hr, I6⟩ => ?_) fun _ _ z => z.elim
    subst hr
    exact hRR s3 H3 s6 _ H5 I3 f3 I6 q
  · refine wpAny_mono (T.item (cxComp1 X M x sc fp s3 H3) rfl rfl rfl hc i [] s5 (o :: σ) H5 (fun _ _ => False) I5 (stat fr5) st5 go) (fun r s6 ⟨u, hr, h6⟩ => ?_) fun _ _ z => z.elim
    subst hr
    refine wpAny_mono h6 (fun _ s6' ⟨tv, H6, I6, r6, y6, st6, fr6⟩ => ?_) fun _ _ z => z.elim
    have I6' := I6.pinned (stat fr6) (T.obj _ _ st6)
    have hx : (relabel sc X.env).names.lookup x = some .local := lookup_relabel_local S.here
    have nd' : (cxComp1 X M x sc fp s3 H3).N.Nodup := S.nd
    have q6 := step tv H6 y6
    refine wpAny_mono (pg_name (X := cxComp1 X M x sc fp s3 H3) (i := 0) (pos := px) nd' rfl (.inl hx) (.inr hx) _ s6' (o :: σ) H6 tv u (fun σ' H' => σ' = some tv :: σ /\ H' = H6) I6' r6 ⟨rfl, rfl⟩) (fun _ s7 ⟨σ7, H7, I7, e7, e7'⟩ => ?_) fun _ _ z => z.elim
    subst e7 e7'
    have again : ∀ {H' : Hp} {s' : Shared} {ys' : List V}, Inv (cxComp1 X M x sc fp s3 H3) ([] ++ pinsAt fp s6'.heap) (some tv :: σ) H' s' -> (∃ m', m' < n /\ W (i + 1) m' ys' H') ->
      ∃ m, m < n /\ ∃ i o ys H', Inv (cxComp1 X M x sc fp s3 H3) [] (o :: σ) H' s' /\ tn i s'.heap /\ (∀ b ∈ fp, H' b = none) /\ W i m ys H' := fun {H' s' ys'} I' ⟨m', hm, w'⟩ => by
     refine ⟨m', hm, i + 1, some tv, ys', H', I'.unpinned, T.keep _ _ _ st6 fun b hb ob e => (I'.pin (b, ob) (List.mem_append_right _ (List.mem_append_right _ (mem_pinsAt hb e)))).1, fun b hb => ?_, w'⟩
     obtain ⟨ob, e, d⟩ := T.obj _ _ st6 b hb
     exact (I'.pin (b, ob) (List.mem_append_right _ (List.mem_append_right _ (mem_pinsAt hb e)))).2.1
    refine wpAny_mono (he fp s3 H3 _ s7 _ H7 _ I7 q6) (fun v s9 ⟨yy, H9, I9, r9, hp, hz, q9⟩ => ?_) fun _ _ z => z.elim
    refine wpAny_mono (mt_append (X := cxComp1 X M x sc fp s3 H3) _ s9 _ H9 (.ref s2.heap.objs.size) [yy] (.ref s2.heap.objs.size) [v] (fun _ H' => H' = upd H9 s2.heap.objs.size (.lst (ys ++ [yy]))) I9 rfl (.cons r9 .nil) ⟨_, ys, yy, rfl, rfl, hp, hz, rfl⟩) (fun _ s10 ⟨_, H10, I10, _, e10⟩ => ?_) fun _ _ z => z.elim
    subst e10
    exact again I10 q9
 exact codeAny_compStart_list loop (T.self _ 0 _ _ _ st4' loop)
theorem pe_comp1 (S : CompScope1 X.N M X.env.scope x sc) (hc : X.calm = true) (hi : PI X (.Name x px) iter wi) (he : ∀ fp s3 H3, PE (cxComp1 X M x sc fp s3 H3) elt te)
  (hs : ∀ x, foldedSetIterable iter X.env x = pure x := by intro _; rfl) : PE X (.ListComp elt [⟨(.Name x px), iter, [], 0⟩] sc pos) (tComp1 wi te) := by
 intro pins s σ H Q I h
 rw [eval_ListComp]
 refine wpAny_comprehension_free (use := none) (cl := clOf sc X.env) rfl hs (closure_is (S.cells I.ok)) S.kind S.names (thn (hi pins s σ H _ I h) fun v s1 h1 => thn h1 fun itv s2 h2 => ?_)
 obtain ⟨it, fp, tn, J, H2, e, I2, T, st2, f2, q2⟩ := h2
 subst e
 refine comp_core1 (RR := fun acc C => compPost (model X.prog X.w) X.A X.xe none (EP X pins σ Q) acc C) (Q := Q) S hc he I2 T st2 f2 q2 ?_
 intro s3 H3 s' σ' H' I3 f3 J' q'
 obtain ⟨m, hn, _⟩ := J'.loc
 exact ⟨m, hn, fun h' hs' => ⟨.ref s2.heap.objs.size, H', I3.back1 f3 J' hs', rfl, q'⟩⟩
end
def compCheck1 (N M : List Str) (osc : Scope) (x : Str) (sc : Scope) : Bool :=
 (match sc.kind with | .function => true | _ => false) && sc.names.all (fun y => match y.2 with | .cell => false | _ => true)
 && sc.names.all (fun y => match y.2 with | .local => (match sc.names.lookup y.1 with | some .local => true | _ => false) | _ => true)
 && (match sc.names.lookup x with | some .local => true | _ => false) && M.all (fun y => !(y == x))
 && sc.names.all (fun y => match y.2 with | .free => (match osc.names.lookup y.1 with | some .cell => true | some .free => true | _ => false) | _ => true)
 && sc.names.all (fun y => match y.2 with | .local => (y.1 == x || (M.all (fun z => !(z == y.1))))| _ => true)
 && decide (M.length = N.length) && (List.range M.length).all (fun i => match M[i]?, N[i]? with | some a, some b => a == b || (match sc.names.lookup a with | none => true | _ => false) | _, _ => false)
theorem CompScope1.of {N M : List Str} {osc : Scope} {x : Str} {sc : Scope} (hN : M.Nodup) (h : compCheck1 N M osc x sc = true) : CompScope1 N M osc x sc := by
 unfold compCheck1 at h
 simp only [Bool.and_eq_true, List.all_eq_true, decide_eq_true_eq] at h
 obtain ⟨⟨⟨⟨⟨⟨⟨⟨h1, h2⟩, h3⟩, h4⟩, h5⟩, h6⟩, h7⟩, h8⟩, h9⟩ := h
 refine ⟨?_, fun y hy e => ?_, fun y hy e => ?_, ?_, List.nodup_cons.mpr ⟨fun hx => by have := h5 x hx; simp at this, hN⟩, h8, fun i z hz => ?_, fun y hy e => ?_, fun y hy e => ?_⟩
 · revert h1; cases sc.kind <;> simp
 · have := h2 y hy; rw [e] at this; exact absurd this (by simp)
 · have := h3 y hy; rw [e] at this
   revert this
   cases sc.names.lookup y.1 with
   | none => simp
   | some k => cases k <;> simp
 · revert h4
   cases sc.names.lookup x with
   | none => simp
   | some k => cases k <;> simp
 · have hl := (List.getElem?_eq_some_iff.mp hz).1
   have q := h9 i (List.mem_range.mpr hl)
   have hl' : i < N.length := by rw [← h8]; exact hl
   rw [hz, List.getElem?_eq_getElem hl'] at q
   rw [List.getElem?_eq_getElem hl']
   simp only [Bool.or_eq_true, beq_iff_eq] at q
   rcases q with q | q
   · exact .inl (by rw [q])
   · refine .inr ?_
     revert q
     cases sc.names.lookup z with
     | none => simp
     | some k => simp
 · have := h6 y hy; rw [e] at this
   revert this
   cases osc.names.lookup y.1 with
   | none => simp
   | some k => cases k <;> simp
 · have := h7 y hy; rw [e] at this
   simp only [Bool.or_eq_true, List.all_eq_true] at this
   rcases this with z | z
   · exact .inl (by simpa using z)
   · refine .inr fun q => ?_
     have := z _ q
     simp at this
theorem comp_range1 {lo : Int} {n : Nat} {p : Addr} {te : TE} {σ : St} {H : Hp} {Z : Hp -> Prop} (Pv : Nat -> List V -> Hp -> Prop) (h0 : Pv 0 [] (upd H p (.lst [])))
  (hs : ∀ i ys H, i < n -> Pv i ys H -> te (some (.int (lo + i)) :: σ) H fun v H3 => H3 p = some (.lst ys) /\ ys.length < sizeLine /\ ∃ m', m' < n - i /\ m' = n - (i + 1) /\ i + 1 <= n /\ Pv (i + 1) (ys ++ [v]) (upd H3 p (.lst (ys ++ [v]))))
  (hd : ∀ ys H, Pv n ys H -> Z H) :
  ∃ W : Nat -> Nat -> List V -> Hp -> Prop, (∃ m, W 0 m [] (upd H p (.lst []))) /\ ∀ i m ys H, W i m ys H ->
   ((Itr lo n).stop i H /\ Z H) \/ ((Itr lo n).go i H /\ ∀ u H', (Itr lo n).yld i H u H' ->
     te (some u :: σ) H' fun v H3 => H3 p = some (.lst ys) /\ ys.length < sizeLine /\ ∃ m', m' < m /\ W (i + 1) m' (ys ++ [v]) (upd H3 p (.lst (ys ++ [v])))) := by
 refine ⟨fun i m ys H => m = n - i /\ i <= n /\ Pv i ys H, ⟨n, by simp, Nat.zero_le _, h0⟩, ?_⟩
 rintro i m ys H ⟨rfl, hi, pv⟩
 by_cases hlt : i < n
 · refine .inr ⟨hlt, fun x H' y => ?_⟩
   obtain ⟨e, y⟩ := y
   subst e y
   exact hs i ys _ hlt pv
 · have e : i = n := by omega
   subst e
   exact .inl ⟨Nat.le_refl _, hd ys H pv⟩
theorem pi_enumK {X : Cx} {K : PySem.W.Frag} {elts : List Expr} {k : Nat} {tp : Pos} {a : Expr} {ta : TA} {p pos : Pos} (h : X.K = K) (hg : Gl X "enumerate") (hm : X.mg "enumerate" = none) (ha : PA X [a] ta) (hs : starEach [a] X.env = [(false, eval a X.env)] := by rfl) :
  PI X (.Tuple elts k tp) (.Call (.Name "enumerate" p) [a] [] pos) (iEnum K ta) := by subst h; exact pi_enum hg hm ha hs
theorem pg_pairK {X : Cx} {K : PySem.W.Frag} {x y : Str} {i j k : Nat} {p q pos : Pos} (h : X.K = K) (hc : X.calm = true) (h1 : PG X (.Name x p) (gName i)) (h2 : PG X (.Name y q) (gName j)) : PG X (.Tuple [.Name x p, .Name y q] k pos) (gPair K i j) := by subst h; exact pg_pair hc h1 h2
def rCat0 (K : PySem.W.Frag) : R2 := fun x y H Q => ∃ a b ys, x = .ref a /\ y = .ref b /\ SqT K H a [] /\ SqT K H b ys /\ Q (.ref b) H
theorem op_catT0 {X : Cx} : OpR X (binaryOp .Add) (rCat0 X.K) := by
 intro pins s σ H x y v u Q I rx ry h
 obtain ⟨a, b, ys, rfl, rfl, ha, hb, q⟩ := h
 cases rx
 cases ry
 obtain ⟨its, r1, p1, _⟩ := I.tuple ha
 obtain ⟨its2, r2, p2, _⟩ := I.tuple hb
 have e0 : its = [] := r1.nil_iff.mpr rfl
 subst e0
 obtain ⟨⟨c, dd, dt, sl⟩, ho, hc, n, hd⟩ := p1
 obtain ⟨⟨c2, dd2, dt2, sl2⟩, ho2, hc2, n2, hd2⟩ := p2
 replace hc : c = .type "tuple" := hc
 replace hd : dt = .seq ([] : List Value).toArray n := hd
 replace hc2 : c2 = .type "tuple" := hc2
 replace hd2 : dt2 = .seq its2.toArray n2 := hd2
 subst hc hd hc2 hd2
 exact concat_meets ⟨_, ho, rfl⟩ ⟨_, ho2, rfl⟩ noFill_tuple_add seq_tuple_add PySem.F.slot_tuple_add PySem.F.entry_tuple_add (PySem.F.args_tuple_add_2 _ _) (tuple_addW0 a b ([] : List Value).toArray its2.toArray n n2 dd dd2 sl sl2 rfl) ⟨ho, ho2, ⟨.ref b, H, I, rfl, q⟩⟩
def rCatA (K : PySem.W.Frag) : R2 := fun x y H Q => rCatT K x y H Q \/ rCat0 K x y H Q
theorem op_catTA {X : Cx} {K : PySem.W.Frag} (h : X.K = K) : OpR X (binaryOp .Add) (rCatA K) := by subst h; exact OpR.or op_catT op_catT0
end L2
set_option Elab.async false
set_option linter.all false
set_option maxRecDepth 100000
set_option maxHeartbeats 4000000
namespace L2
open PySem PySem.Spec PyProof.Rows
def worthI (ns : List Int) (f : Int) : Int := if f % 2 = 0 then ns.getD (f / 2).toNat 0 else -(ns.getD (f / 2).toNat 0)
def hashI (k seed : Int) : Int := (seed * 48271 % 65537) * (seed * 48271 % 65537 + 2 * k + 1) / 7 % 65521
def cellI (ns : List Int) (k : Int) : Int :=
 if k < ns.length then ns.getD k.toNat 0 else hashI k (if 0 < ns.length then k * 7919 + ns.getD (k % ns.length).toNat 0 % 65537 else k * 7919)
def bigI (c : Int) : Int := if c % 4 = 3 then c / 4 % (2 * 10 ^ 60 + 1) - 10 ^ 60 else c / 4 % 21 - 10
def pointI (ns : List Int) (k : Int) (n : Nat) : List Int := (List.range n).map fun (i : Nat) => bigI (cellI ns (k + (i : Int)))
theorem pointI_length (ns : List Int) (k : Int) (n : Nat) : (pointI ns k n).length = n := by simp [pointI]
theorem pointI_succ (ns : List Int) (k : Int) (n : Nat) : pointI ns k (n + 1) = pointI ns k n ++ [bigI (cellI ns (k + (n : Int)))] := by simp [pointI, List.range_succ]
theorem worthI_eq (ns : List Int) (f : Int) : ns.getD (f / 2).toNat 0 * (1 - f % 2 * 2) = worthI ns f := by
 unfold worthI
 by_cases h : f % 2 = 0
 · rw [if_pos h, h]; simp
 · have e : f % 2 = 1 := by omega
   rw [if_neg h, e]; omega
theorem eqvAll_ints : ∀ (a b : List Int), PyData.eqvAll (a.map PyData.int) (b.map PyData.int) = decide (a = b)
 | [], [] => by simp [PyData.eqvAll]
 | [], _ :: _ => by simp [PyData.eqvAll]
 | _ :: _, [] => by simp [PyData.eqvAll]
 | x :: a, y :: b => by
  rw [List.map_cons, List.map_cons, PyData.eqvAll, eqvAll_ints a b, PyData.eqv, Bool.eq_iff_iff]
  simp
theorem depth_ints : ∀ (a : List Int), PyData.depthAll (a.map PyData.int) <= 1
 | [] => by simp [PyData.depthAll]
 | x :: a => by
  have := depth_ints a
  simp [PyData.depthAll, PyData.depth]
  omega
structure Bl (mg : Str -> Option Value) : Prop where
 len : mg "len" = none
 isinstance : mg "isinstance" = none
 int : mg "int" = none
 bool : mg "bool" = none
 tuple : mg "tuple" = none
 range : mg "range" = none
 list : mg "list" = none
 sum : mg "sum" = none
 str : mg "str" = none
 enumerate : mg "enumerate" = none
 zip : mg "zip" = none
 min : mg "min" = none
 max : mg "max" = none
def sp_worth (K : PySem.W.Frag) : Sp := fun vs H Q _ => ∃ (a : Addr) (ns : List Int) (f : Int), vs = [.ref a, .int f] /\ SqT K H a (ns.map V.int) /\ 0 <= f /\ f < 2 * ns.length /\ Q (.int (worthI ns f)) H
def sp__law_cell (K : PySem.W.Frag) : Sp := fun vs H Q _ => ∃ (a : Addr) (ns : List Int) (k : Int), vs = [.ref a, .int k] /\ SqL K H a (ns.map V.int) /\ 0 <= k /\ Q (.int (cellI ns k)) H
def sp__law_whole (K : PySem.W.Frag) : Sp := fun vs H Q _ => ∃ i, vs = [.int i] /\ Q (.bl true) H
def sp__law_big (K : PySem.W.Frag) : Sp := fun vs H Q _ => ∃ c, vs = [.int c] /\ Q (.int (bigI c)) H
def sp__law_point (K : PySem.W.Frag) : Sp := fun vs H Q _ => ∃ (a : Addr) (ns : List Int) (k : Int) (n : Nat), vs = [.ref a, .int k, .int n] /\ SqL K H a (ns.map V.int) /\ 0 <= k /\ n <= 100 /\
 ∀ p H', H p = none -> Same H H' -> H' p = some (.tup ((pointI ns k n).map V.int)) -> Q (.ref p) H'
def sp_law (K : PySem.W.Frag) : Sp := fun vs H Q _ => ∃ (a : Addr) (ns : List Int), vs = [.ref a] /\ SqL K H a (ns.map V.int) /\ ns.length <= 63 /\ ∀ H', Q (.bl true) H'
def cellAt (K : PySem.W.Frag) (a : Addr) (ns : List Int) : Sp := fun vs H Q _ => ∃ k, vs = [.ref a, .int k] /\ 0 <= k /\ SqL K H a (ns.map V.int) /\ Q (.int (cellI ns k)) H
theorem cellAt_of {K : PySem.W.Frag} {a : Addr} {ns : List Int} : ∀ vs H Q E, cellAt K a ns vs H Q E -> sp__law_cell K vs H Q E := fun vs H Q E ⟨k, e, h0, hS, q⟩ => ⟨a, ns, k, e, hS, h0, q⟩
theorem pt_of (ns : List Int) (k : Int) (n : Nat) : ∃ xs : List Int, pointI ns k n = xs /\ xs.length = n := ⟨_, rfl, pointI_length ns k n⟩
def gV : Option Int -> V
 | none => .non
 | some g => .int g
def formsI (f : Int) : Option Int -> List Int
 | none => [f]
 | some g => [f, g]
def sumI (xs : List Int) (f : Int) : Option Int -> Int
 | none => worthI xs f
 | some g => worthI xs f + worthI xs g
def holdsI (w : Str) (s c : Int) : Bool := if w = Str.ofString "most" then decide (s <= c) else if w = Str.ofString "least" then decide (c <= s) else if w = Str.ofString "same" then decide (s = c) else !decide (s = c)
def InR (n : Nat) (f : Int) : Prop := 0 <= f /\ f < 2 * (n : Int)
def InG (n : Nat) : Option Int -> Prop
 | none => True
 | some g => InR n g
theorem sum_formsI (xs : List Int) (f : Int) (g : Option Int) : ((formsI f g).map (worthI xs)).sum = sumI xs f g := by cases g <;> simp [formsI, sumI]
theorem formsI_in {n : Nat} {f : Int} {g : Option Int} (hf : InR n f) (hg : InG n g) : ∀ h ∈ formsI f g, InR n h := by
 intro h hh
 cases g with
 | none =>
  have : h = f := by simpa [formsI] using hh
  subst this; exact hf
 | some g =>
  have : h = f \/ h = g := by simpa [formsI] using hh
  rcases this with rfl | rfl
  · exact hf
  · exact hg
def sp_total (K : PySem.W.Frag) : Sp := fun vs H Q _ => ∃ (a b : Addr) (xs fs : List Int), vs = [.ref a, .ref b] /\ SqT K H a (xs.map V.int) /\ SqL K H b (fs.map V.int) /\ (∀ f ∈ fs, InR xs.length f) /\ fs.length <= 1000 /\ ∀ H', Same H H' -> Q (.int (fs.map (worthI xs)).sum) H'
def sp_sum_forms (K : PySem.W.Frag) : Sp := fun vs H Q _ => ∃ (b : Addr) (f : Int) (g : Option Int) (w : Str) (c : Int), vs = [.ref b] /\ SqT K H b [.int f, gV g, .str w, .int c] /\ ∀ p H', Same H H' -> H' p = some (.lst ((formsI f g).map V.int)) -> Q (.ref p) H'
def sp_holds (K : PySem.W.Frag) : Sp := fun vs H Q _ => ∃ (a b : Addr) (xs : List Int) (f : Int) (g : Option Int) (w : Str) (c : Int), vs = [.ref a, .ref b] /\ SqT K H a (xs.map V.int) /\ SqT K H b [.int f, gV g, .str w, .int c] /\ InR xs.length f /\ InG xs.length g /\
 ∀ H', Same H H' -> Q (.bl (holdsI w (sumI xs f g) c)) H'
abbrev Tb := Oct.Tb
theorem paired_snoc {α β : Type} {R : α -> β -> Prop} {a : α} {b : β} : ∀ {xs : List α} {ys : List β}, Paired R xs ys -> R a b -> Paired R (xs ++ [a]) (ys ++ [b])
 | _, _, .nil, r => .cons r .nil
 | _, _, .cons q t, r => .cons q (paired_snoc t r)
theorem same_over {H H' : Hp} {p : Addr} {o : HO} (h : H p = none) (s : Same H H') : Same H (upd H' p o) := fun b u q => by
 rw [upd_ne (ne_of_none q h)]; exact s b u q
structure TabNew (H H' : Hp) (p : Addr) (bs : List Addr) (t : Tbl) : Prop where
 tab : TabAt H' p bs t
 newT : H p = none
 newL : ∀ b ∈ bs, H b = none
def ShapeAt (H : Hp) (v : V) (N : Nat) : Option Tb -> Prop
 | none => v = .non
 | some c => ∃ a bs, v = .ref a /\ TabAt H a bs (Oct.toT N c)
def ShapeNew (H H' : Hp) (v : V) (N : Nat) : Option Tb -> Prop
 | none => v = .non
 | some c => ∃ a bs, v = .ref a /\ TabNew H H' a bs (Oct.toT N c)
theorem ShapeNew.at {H H' : Hp} {v : V} {N : Nat} : ∀ {o : Option Tb}, ShapeNew H H' v N o -> ShapeAt H' v N o
 | none, h => h
 | some _, ⟨a, bs, e, T⟩ => ⟨a, bs, e, T.tab⟩
def belowE (e : Ent) (z : Int) : Bool := match e with
 | some x => decide (x < z)
 | none => false
def sp_below (K : PySem.W.Frag) : Sp := fun vs H Q _ => ∃ (e : Ent) (z : Int), vs = [eV e, .int z] /\ Q (.bl (belowE e z)) H
def Grow (H H' : Hp) (p : Addr) (ys : List V) (t : Tbl) : Prop := ∃ bs, ys = bs.map V.ref /\ TabNew H H' p bs t /\ Same H H'
theorem Grow.start {H : Hp} {p : Addr} (hp : H p = none) : Grow H (upd H p (.lst [])) p [] [] :=
 ⟨[], rfl, ⟨⟨upd_same, List.nodup_nil, by simp, .nil⟩, hp, by simp⟩, same_new hp _⟩
theorem Grow.len {H H' : Hp} {p : Addr} {ys : List V} {t : Tbl} (G : Grow H H' p ys t) : ys.length = t.length := by
 obtain ⟨bs, rfl, T, _⟩ := G
 rw [List.length_map, T.tab.len]
theorem belowE_neg0 (e : Ent) : belowE e 0 = Oct.neg0 e := by cases e <;> rfl
theorem at_nat {xs : List V} {j : Nat} {v : V} (h : xs[j]? = some v) : atI xs (j : Int) = some v := atI_nat h
theorem take_succ_of {α : Type} {l : List α} {i : Nat} {x : α} (h : l[i]? = some x) : l.take (i + 1) = l.take i ++ [x] := by rw [List.take_add_one, h]; rfl
theorem at_of {fs : List Int} {i : Nat} {y : V} (hi : (fs.map V.int)[i]? = some y) : ∃ h : i < fs.length, y = .int fs[i] := by
 have hil : i < fs.length := by
  have := (List.getElem?_eq_some_iff.mp hi).1
  rwa [List.length_map] at this
 refine ⟨hil, ?_⟩
 rw [List.getElem?_map, List.getElem?_eq_getElem hil] at hi
 exact (Option.some.inj hi).symm
end L2
set_option Elab.async false
set_option linter.all false
set_option maxRecDepth 100000
set_option maxHeartbeats 4000000
namespace L2
open PySem PySem.Spec PyProof.Rows
end L2
set_option linter.all false
namespace Oct
end Oct
set_option Elab.async false
set_option linter.all false
set_option maxRecDepth 100000
set_option maxHeartbeats 4000000
namespace L2
open PySem PySem.Spec PyProof.Rows
section
variable {X : Cx}
end
section
variable {X : Cx} {es : List Expr} {te : TE} {t : TA}
theorem pa_Constant {c : Const} {k : Nat} {p : Pos} (ha : PE X (.Constant c k p) te) (hr : PA X es t) : PA X (.Constant c k p :: es) (tCons te t) := pa_cons ha hr (by rfl)
theorem pa_Name {x : Str} {p : Pos} (ha : PE X (.Name x p) te) (hr : PA X es t) : PA X (.Name x p :: es) (tCons te t) := pa_cons ha hr (by rfl)
theorem pa_BinOp {a b : Expr} {o : Operator} {p : Pos} (ha : PE X (.BinOp a o b p) te) (hr : PA X es t) : PA X (.BinOp a o b p :: es) (tCons te t) := pa_cons ha hr (by rfl)
theorem pa_Call {f : Expr} {as : List Expr} {ks : List Keyword} {p : Pos} (ha : PE X (.Call f as ks p) te) (hr : PA X es t) : PA X (.Call f as ks p :: es) (tCons te t) := pa_cons ha hr (by rfl)
theorem pa_Subscript {a b : Expr} {p : Pos} (ha : PE X (.Subscript a b p) te) (hr : PA X es t) : PA X (.Subscript a b p :: es) (tCons te t) := pa_cons ha hr (by rfl)
theorem pa_Tuple {as : List Expr} {k : Nat} {p : Pos} (ha : PE X (.Tuple as k p) te) (hr : PA X es t) : PA X (.Tuple as k p :: es) (tCons te t) := pa_cons ha hr (by rfl)
end
end L2
set_option linter.all false
set_option maxHeartbeats 4000000
namespace Oct
end Oct
set_option Elab.async false
set_option linter.all false
set_option maxRecDepth 100000
set_option maxHeartbeats 4000000
namespace L2
open PySem PySem.Spec PyProof.Rows
section
variable {P : Program} {w : World} {A : Around} {R : Result -> Shared -> Prop}
end
section
variable {P : Program} {w : World} {A : Around} {s : Shared} {E : Value -> Shared -> Prop} {Q : Value -> Shared -> Prop}
end
section
variable {P : Program} {w : World} {A : Around} {R : Result -> Shared -> Prop}
end
section
variable {P : Program} {w : World} {A : Around} {s : Shared} {E : Value -> Shared -> Prop} {Q : Value -> Shared -> Prop}
end
section
variable {X : Cx} {K : PySem.W.Frag} {e d : Expr} {ta tk : TA} {p kp pos : Pos}
end
end L2
set_option Elab.async false
set_option linter.all false
set_option maxRecDepth 100000
set_option maxHeartbeats 4000000
namespace L2
open PySem PySem.Spec PyProof.Rows
open Sem (wp)
open Builtin Builtin.Str
section
variable {prog : Program} {w : World} {A : Around} {E : Value -> Shared -> Prop} {s : Shared}
open AutoSeq1 (wpAny_loadPart')
end
end L2
set_option Elab.async false
set_option linter.all false
set_option maxRecDepth 100000
set_option maxHeartbeats 4000000
namespace L2
open PySem PySem.Spec PyProof.Rows
end L2
set_option Elab.async false
set_option linter.all false
set_option maxRecDepth 100000
set_option maxHeartbeats 4000000
namespace L2
open PySem PySem.Spec PyProof.Rows
end L2
set_option Elab.async false
set_option linter.all false
set_option maxRecDepth 100000
set_option maxHeartbeats 4000000
namespace L2
open PySem PySem.Spec PyProof.Rows
structure FDef (P : Program) (w : World) (K : PySem.W.Frag) (mg : Str -> Option Value) (base : Heap) (CX : CXT) (k : Nat) (ps : List Str) (sp : Sp) (f : Addr) : Prop where
 ex : ∃ fd, FnOk P w K mg base CX k f fd ps sp /\ Binds K fd ps []
section
variable {X : Cx} {CX : CXT} {k : Nat} {m x : Str} {ps : List Str} {sp : Sp} {E : XK} {e o : Expr} {es : List Expr} {t : TA} {ta : TE} {p pos apos : Pos} {f C : Addr} {K : PySem.W.Frag}
theorem pe_mdef {pl : Sem Bool} (F : FDef X.prog X.w X.K X.mg X.base CX k ps sp f) (c : Cls X.K C) (hm : Meth X.K C m f) (he : PE X o ta) (hr : Room k X.A) (hx : Passes CX X E) (ha : PA X (e :: es) t)
  (hst : starEach (e :: es) X.env = (false, eval e X.env) :: starEach es X.env := by rfl) (hpl : (backTo pos (starEach es X.env)).any (·.1) = false := by rfl)
  (ht : eval (.Call (.Attribute o m apos) (e :: es) [] pos) X.env = (do
   let ov ← eval o X.env
   standAt apos.atName
   let (f, first) ← holding [ov] (getMethod ov m pl)
   callWith pos f first (backTo pos (starEach (e :: es) X.env)) (backToKw pos (keywordEach [] X.env))) := by rfl) :
  PE X (.Call (.Attribute o m apos) (e :: es) [] pos) (tMeth C m sp [] E ta t) := by
 obtain ⟨fd, G, b⟩ := F.ex
 exact pe_meth (pl := pl) he c hm G hr b .nil hx ha hst hpl ht
theorem pe_mdef0 {pl : Sem Bool} (F : FDef X.prog X.w X.K X.mg X.base CX k ps sp f) (c : Cls X.K C) (hm : Meth X.K C m f) (he : PE X o ta) (hr : Room k X.A) (hx : Passes CX X E)
  (ht : eval (.Call (.Attribute o m apos) [] [] pos) X.env = (do
   let ov ← eval o X.env
   standAt apos.atName
   let (f, first) ← holding [ov] (getMethod ov m pl)
   callWith pos f first (backTo pos (starEach [] X.env)) (backToKw pos (keywordEach [] X.env))) := by rfl) :
  PE X (.Call (.Attribute o m apos) [] [] pos) (tMeth C m sp [] E ta tNil) := by
 obtain ⟨fd, G, b⟩ := F.ex
 exact pe_meth0 (pl := pl) he c hm G hr b .nil hx ht
theorem pe_cdef (F : FDef X.prog X.w X.K X.mg X.base CX k ps sp f) (M : Mk X.K C f) (hm : X.mg x = some (.ref C)) (hr : Room (k + 1) X.A) (hg : Gl X x) (hx : Passes CX X E)
  (ha : PA X (e :: es) t) (hdb : (x == ("__debug__" : Str)) = false := by decide) (he : starEach (e :: es) X.env = (false, eval e X.env) :: starEach es X.env := by rfl) (hpl : (backTo pos (starEach es X.env)).any (·.1) = false := by rfl) :
  PE X (.Call (.Name x p) (e :: es) [] pos) (tMake C sp [] E t) := by
 obtain ⟨fd, G, b⟩ := F.ex
 exact pe_make M G hr hg hm b .nil hx ha hdb he hpl
structure MkO (K : PySem.W.Frag) (C : Addr) : Prop where
 makes : PySem.W.makesIn K C = true
 init : PySem.W.findIn K (.ref C) "__init__" = some (some (.builtin "object.__init__"))
 kp : PySem.W.keepIn K (.ref C) = true
def tMakeO (C : Addr) : TE := fun _ H Q => ∀ x dx, H x = none -> H dx = none -> dx ≠ x -> Q (.ref x) (upd (upd H dx (.own x)) x (.ins C dx []))
theorem pe_odef0 (M : MkO X.K C) (hm : X.mg x = some (.ref C)) (hg : Gl X x) (hdb : (x == ("__debug__" : Str)) = false := by decide) : PE X (.Call (.Name x p) [] [] pos) (tMakeO C) := by
 intro pins s σ H Q I h
 refine wpAny_Call_Name_kw (ld_glob I hg hm ?_ hdb)
 refine PySem.W.callWith_K0 I.kIn M.kp ?_
 have hq := h (s.heap.objs.size + 1) s.heap.objs.size (I.hok.fresh (Nat.le_succ _)) (I.hok.fresh (Nat.le_refl _)) (Nat.ne_of_lt (Nat.lt_succ_self _))
 have I2 := Inv.made (C := C) I
 refine wpAny_call (make_map0 I.kIn M.makes M.init (fun self => PySem.W.Looks.of_pure (PySem.W.oi_bind self)) ?_)
 have Y := PySem.W.makes_of (M := model X.prog X.w) I.kIn M.makes
 have e2 : ((s.heap.push PySem.W.emptyDict).push (PySem.W.instObj C s.heap.objs.size)).get? (s.heap.objs.size + 1) = some (PySem.W.instObj C s.heap.objs.size) := by
  have z := Heap.get?_push_size (s.heap.push PySem.W.emptyDict) (o := PySem.W.instObj C s.heap.objs.size) rfl
  rwa [Heap.size_push] at z
 have t1 : PySem.W.Looks (model X.prog X.w) ((s.heap.push PySem.W.emptyDict).push (PySem.W.instObj C s.heap.objs.size)) (typeOf (.ref (s.heap.objs.size + 1))) (.ref C) := (PySem.W.Looks.ld e2).andThen .now
 have t2 : PySem.W.Looks (model X.prog X.w) ((s.heap.push PySem.W.emptyDict).push (PySem.W.instObj C s.heap.objs.size)) (isInstance (.ref (s.heap.objs.size + 1)) (.type "object")) true := t1.andThen (Y.top.keeps fun b o e => Heap.get?_push_of_some _ (Heap.get?_push_of_some _ e))
 refine codeAny_call_builtin PySem.W.oi_plain PySem.W.entry_oi (PySem.W.check_slot PySem.W.oi_kind PySem.W.oi_split t2 (PySem.W.oi_args _) ?_)
 rw [PySem.W.oi_run]
 exact wpAny_pure (And.intro rfl ⟨V.ref (s.heap.objs.size + 1), _, I2, rfl, hq⟩)
theorem pe_either {e : Expr} {t1 t2 : TE} (h1 : PE X e t1) (h2 : PE X e t2) : PE X e (fun σ H Q => t1 σ H Q \/ t2 σ H Q) := fun pins s σ H Q I h => h.elim (fun z => h1 pins s σ H Q I z) fun z => h2 pins s σ H Q I z
theorem pe_fldK (h : X.K = K) {f : Str} (he : PE X o ta) (hb : attributeBase o f X.env (eval o X.env) = eval o X.env := by rfl) : PE X (.Attribute o f pos) (tFld K ta f) := by subst h; exact pe_fld he hb
theorem ps_fldK (h : X.K = K) {f : Str} {value : Expr} {tv : TE} {pos' : Pos} (ha : PE X o ta) (hv : PE X value tv) (hs : swapsWith value (some (.Attribute o f pos')) pos.line X.env = pure false := by rfl) : PS X (.Assign [.Attribute o f pos'] value pos) (sFld K ta tv f) := by subst h; exact ps_fld ha hv hs
end
theorem comp_tupN {K : PySem.W.Frag} {a p : Addr} {xs : List V} {tc : TT} {te : TE} {σ : St} {H : Hp} {Z : Hp -> Prop} (Pv : Nat -> List V -> Hp -> Prop) (h0 : Pv 0 [] (upd H p (.lst []))) (hl : ∀ i ys H, i <= xs.length -> Pv i ys H -> SqT K H a xs)
  (hs : ∀ i x ys H, xs[i]? = some x -> Pv i ys H -> tc (some x :: σ) H fun b H2 =>
   if b = true then te (some x :: σ) H2 fun v H3 => H3 p = some (.lst ys) /\ ys.length < sizeLine /\ ∃ m', m' < xs.length - i /\ m' = xs.length - (i + 1) /\ i + 1 <= xs.length /\ Pv (i + 1) (ys ++ [v]) (upd H3 p (.lst (ys ++ [v]))) else ∃ m', m' < xs.length - i /\ m' = xs.length - (i + 1) /\ i + 1 <= xs.length /\ Pv (i + 1) ys H2)
  (hd : ∀ ys H, Pv xs.length ys H -> Z H) :
  ∃ W : Nat -> Nat -> List V -> Hp -> Prop, (∃ m, W 0 m [] (upd H p (.lst []))) /\ ∀ i m ys H, W i m ys H ->
   ((Itt K a).stop i H /\ Z H) \/ ((Itt K a).go i H /\ ∀ x H', (Itt K a).yld i H x H' -> tc (some x :: σ) H' fun b H2 =>
     if b = true then te (some x :: σ) H2 fun v H3 => H3 p = some (.lst ys) /\ ys.length < sizeLine /\ ∃ m', m' < m /\ W (i + 1) m' (ys ++ [v]) (upd H3 p (.lst (ys ++ [v])))
     else ∃ m', m' < m /\ W (i + 1) m' ys H2) := by
 refine ⟨fun i m ys H => m = xs.length - i /\ i <= xs.length /\ Pv i ys H, ⟨xs.length, by simp, Nat.zero_le _, h0⟩, ?_⟩
 rintro i m ys H ⟨rfl, hi, pv⟩
 have q := hl i ys H hi pv
 by_cases hlt : i < xs.length
 · refine .inr ⟨⟨xs, xs[i], q, by simp [hlt]⟩, fun x H' y => ?_⟩
   obtain ⟨e, y⟩ := y
   subst e
   exact hs i x ys _ (y xs q) pv
 · have e : i = xs.length := by omega
   subst e
   exact .inl ⟨⟨xs, q, Nat.le_refl _⟩, hd ys H pv⟩
section
variable {X : Cx} {x : Str} {px pos : Pos} {sc : Scope} {M : List Str} {elt iter : Expr} {wi : TI} {te : TE}
theorem ps_setC1 {i : Nat} {y : Str} {py spos : Pos} (S : CompScope1 X.N M X.env.scope x sc) (hc : X.calm = true) (hi : PI X (.Name x px) iter wi) (he : ∀ fp s3 H3, PE (cxComp1 X M x sc fp s3 H3) elt te)
  (hN : X.N.Nodup) (hy : X.N[i]? = some y) (hl : Loc X.env.scope y) (hsw : swapsWith (.ListComp elt [⟨.Name x px, iter, [], 0⟩] sc pos) (some (.Name y py)) spos.line X.env = pure true)
  (hs : ∀ x, foldedSetIterable iter X.env x = pure x := by intro _; rfl) (hf : X.fn y = true \/ X.env.scope.names.lookup y = some .local := by first | exact .inl rfl | exact .inr rfl | assumption) :
  PS X (.Assign [.Name y py] (.ListComp elt [⟨.Name x px, iter, [], 0⟩] sc pos) spos) (tAsg (tComp1 wi te) (gName i)) := by
 intro pins s σ H D I h
 rw [exec_Assign_Name_used _ _ _ _ hsw]
 refine wpAny_bind (wpAny_standAt (wpAny_bind ?_))
 show wpAny _ X.A (do let _ ← comprehension (.ListComp elt [⟨.Name x px, iter, [], 0⟩] sc pos) sc X.env _ (newList []) false (eval iter X.env) (some (assign (.Name y py) X.env))) _ _ s
 refine wpAny_bind (wpAny_mono (wpAny_comprehension_free (use := some (assign (.Name y py) X.env)) (cl := clOf sc X.env) (Q := fun _ s' => SP X pins D .next s') rfl hs (closure_is (S.cells I.ok)) S.kind S.names
  (thn (hi pins s σ H _ I h) fun v s1 h1 => thn h1 fun itv s2 h2 => ?_)) (fun _ s' hq => wpAny_pure (wpAny_pure hq)) fun _ _ e => e)
 obtain ⟨it, fp, tn, J, H2, e, I2, T, st2, f2, q2⟩ := h2
 subst e
 refine comp_core1 (RR := fun acc C => compPost (model X.prog X.w) X.A X.xe (some (assign (.Name y py) X.env)) (fun _ s' => SP X pins D .next s') acc C) (Q := fun v H' => D.nx (σ.set i (some v)) H') S hc he I2 T st2 f2 q2 ?_
 intro s3 H3 s' σ' H' I3 f3 J' q'
 obtain ⟨m, hn, _⟩ := J'.loc
 have I1 : Inv X pins σ H' s' := I3.call' (ch := fp) J'.os J'.base J'.hok J'.bare fun b hb => ⟨(f3 b hb).2.2.2.1, (f3 b hb).2.1, (f3 b hb).2.2.2.2.1, (f3 b hb).2.2.2.2.2⟩
 have cL : s3.heap.objs.size ≠ X.env.locals := Nat.ne_of_gt I3.lt
 have cC : ∀ z c, X.env.cells.lookup z = some c -> c ≠ s3.heap.objs.size := fun z c e q => by
  obtain ⟨v, w⟩ := I3.cell z c e
  exact absurd w.lt (by rw [q]; exact Nat.lt_irrefl _)
 have cP : ∀ p ∈ X.pn ++ pins, p.1 ≠ s3.heap.objs.size := fun p hp z => absurd (Heap.lt_size (I3.pin p hp).1) (by rw [z]; exact Nat.lt_irrefl _)
 show wpAny _ X.A (assign (.Name y py) X.env (.ref s2.heap.objs.size)) _ _ s'
 refine wpAny_assign_Name (store_ok2 (v := .ref s2.heap.objs.size) I1 hN hy hl rfl (fun s4 I4 ⟨a, sb, ha⟩ => ?_) hf)
 have ne : s3.heap.objs.size ≠ a := by
  rcases ha with z | z
  · rw [z]; exact cL
  · exact (cC _ _ z).symm
 refine ⟨m, hn.sameBut sb ne, fun h' hs' => ⟨_, H', ?_, q'⟩⟩
 exact I4.turned (t' := s4.toks) (it := s3.heap.objs.size) (fun b o hb e => (hs'.2 b hb).trans e) J'.free cL (.inr I3.sz) cC cP
end
theorem comp_list1 {K : PySem.W.Frag} {a p : Addr} {xs : List V} {te : TE} {σ : St} {H : Hp} {Z : Hp -> Prop} (Pv : Nat -> List V -> Hp -> Prop) (h0 : Pv 0 [] (upd H p (.lst []))) (hl : ∀ i ys H, i <= xs.length -> Pv i ys H -> SqL K H a xs)
  (hs : ∀ i x ys H, xs[i]? = some x -> Pv i ys H -> te (some x :: σ) H fun v H3 => H3 p = some (.lst ys) /\ ys.length < sizeLine /\ ∃ m', m' < xs.length - i /\ m' = xs.length - (i + 1) /\ i + 1 <= xs.length /\ Pv (i + 1) (ys ++ [v]) (upd H3 p (.lst (ys ++ [v]))))
  (hd : ∀ ys H, Pv xs.length ys H -> Z H) :
  ∃ W : Nat -> Nat -> List V -> Hp -> Prop, (∃ m, W 0 m [] (upd H p (.lst []))) /\ ∀ i m ys H, W i m ys H ->
   ((Itl K a).stop i H /\ Z H) \/ ((Itl K a).go i H /\ ∀ x H', (Itl K a).yld i H x H' -> te (some x :: σ) H' fun v H3 => H3 p = some (.lst ys) /\ ys.length < sizeLine /\ ∃ m', m' < m /\ W (i + 1) m' (ys ++ [v]) (upd H3 p (.lst (ys ++ [v])))) := by
 refine ⟨fun i m ys H => m = xs.length - i /\ i <= xs.length /\ Pv i ys H, ⟨xs.length, by simp, Nat.zero_le _, h0⟩, ?_⟩
 rintro i m ys H ⟨rfl, hi, pv⟩
 have q := hl i ys H hi pv
 by_cases hlt : i < xs.length
 · refine .inr ⟨⟨xs, xs[i], q, by simp [hlt]⟩, fun x H' y => ?_⟩
   obtain ⟨e, y⟩ := y
   subst e
   exact hs i x ys _ (y xs q) pv
 · have e : i = xs.length := by omega
   subst e
   exact .inl ⟨⟨xs, q, Nat.le_refl _⟩, hd ys H pv⟩
end L2
set_option Elab.async false
set_option linter.all false
set_option maxRecDepth 100000
set_option maxHeartbeats 4000000
namespace L2
open PySem PySem.Spec PyProof.Rows
section
variable {P : Program} {w : World} {A : Around} {s : Shared} {E : Value -> Shared -> Prop} {Q : Value -> Shared -> Prop}
end
variable {X : Cx}
end L2
set_option Elab.async false
set_option linter.all false
set_option maxRecDepth 100000
set_option maxHeartbeats 4000000
namespace L2
open PySem PySem.Spec PyProof.Rows
section
variable {prog : Program} {w : World} {A : Around} {E : Value -> Shared -> Prop} {s : Shared}
end
section
variable {X : Cx} {pos : Pos}
end
end L2
set_option Elab.async false
set_option linter.all false
set_option maxRecDepth 100000
set_option maxHeartbeats 4000000
namespace L2
open PySem PySem.Spec PyProof.Rows
section
variable {X : Cx} {M : List Str} {x : Str} {sc : Scope} {px pos : Pos} {elt iter : Expr} {ifs : List Expr} {wi : TI} {tc : TT} {te : TE}
end
section
variable {X : Cx} {K : PySem.W.Frag} {n k : Nat} {x : Str} {ps : List Str} {sp : Sp} {a b e : Expr} {es : List Expr} {t : TA} {ta tb te : TE} {p pos pos' : Pos}
theorem pe_dz (F : Def X.prog X.w X.K X.mg X.base CX0 x k ps sp) (hr : Room n X.A) (ha : PA X (e :: es) t) (hk : k <= n := by decide) (hg : Gl X x := by rfl)
  (hdb : (x == ("__debug__" : Str)) = false := by decide) (he : starEach (e :: es) X.env = (false, eval e X.env) :: starEach es X.env := by rfl) (hpl : (backTo pos (starEach es X.env)).any (·.1) = false := by rfl) :
  PE X (.Call (.Name x p) (e :: es) [] pos) (tCall sp [] E0 t) := pe_def F (hr.mono hk) hg pass0 ha hdb he hpl
theorem ps_sz (i : Nat) (hN : X.N.Nodup) (he : PE X e te) (hi : X.N[i]? = some x := by rfl) (hx : Loc X.env.scope x := by first | exact Or.inl rfl | exact Or.inr rfl) (hs : swapsWith e (some (.Name x pos')) pos.line X.env = pure false := by rfl) (hf : X.fn x = true \/ X.env.scope.names.lookup x = some .local := by first | exact .inl rfl | exact .inr rfl | assumption) :
  PS X (.Assign [.Name x pos'] e pos) (tAsg te (gName i)) := ps_set hN hi hx he hs hf
theorem pg_nz (i : Nat) (hN : X.N.Nodup) (hi : X.N[i]? = some x := by rfl) (hx : Loc X.env.scope x := by first | exact Or.inl rfl | exact Or.inr rfl) (hf : X.fn x = true \/ X.env.scope.names.lookup x = some .local := by first | exact .inl rfl | exact .inr rfl | assumption) : PG X (.Name x pos) (gName i) := pg_name hN hi hx hf
theorem pe_xL (ha : PE X a ta) (hb : PE X b tb) (h : X.K = K := by rfl) (hs : PlainIx b := by exact fun _ _ => rfl) : PE X (.Subscript a b pos) (tOp (rIxL K) ta tb) := pe_ix (ix_listK h) ha hb hs
theorem pe_xT (ha : PE X a ta) (hb : PE X b tb) (h : X.K = K := by rfl) (hs : PlainIx b := by exact fun _ _ => rfl) : PE X (.Subscript a b pos) (tOp (rIxT K) ta tb) := pe_ix (ix_tupK h) ha hb hs
end
abbrev Ha (K : PySem.W.Frag) (x : Str) (f : Addr) : Prop := PySem.W.nsIn K mainGlobals x = some (some (.ref f))
abbrev Hl (K : PySem.W.Frag) (f : Addr) (x q : Str) (st : Stmt) (oc : Value) (od : Option Addr) (kV dc pm : Value) (an : Option Addr) (cd ct : Value) (sl : Array (Option Value)) : Prop := K.lookup f = some ⟨oc, od, .func (PySem.W.fnOf x q (defArgs st) (defBody st) (defScope st) .none kV dc pm an cd ct), sl⟩
abbrev Hc (K : PySem.W.Frag) (cd : Value) (x : Str) : Prop := PySem.W.codeIn K cd x = true
abbrev Hk (K : PySem.W.Frag) (f : Addr) : Prop := PySem.W.keepIn K (.ref f) = true
abbrev Hm (K : PySem.W.Frag) (Z : Addr) (m : Str) (f : Addr) : Prop := PySem.W.findIn K (.ref Z) m = some (some (.ref f))
abbrev Hi (K : PySem.W.Frag) (f : Addr) : Prop := PySem.W.isFn K (.ref f) = true
abbrev Hz (K : PySem.W.Frag) (x : Str) : Prop := PySem.W.nsIn K mainGlobals x = some none
end L2
set_option Elab.async false
set_option linter.all false
set_option maxRecDepth 100000
set_option maxHeartbeats 4000000
namespace L2
open PySem PySem.Spec PyProof.Rows
structure ICls (K : PySem.W.Frag) (C : Addr) : Prop where
 ga : PySem.W.plainGet K C "__class__" = true
 hd : PySem.W.hasDictIn K C = true
 ca : PySem.W.findIn K (.ref C) "__class__" = some (some (.builtin "object.__class__"))
 gt : PySem.W.specialIn K (.builtin "object.__class__") "__get__" = some (some (.builtin "getset_descriptor.__get__"))
 tk : PySem.W.takesIn K (.builtin "object.__class__") = some true
 ob : PySem.W.mroIn K C (.type "object") = some true
def IsI (K : PySem.W.Frag) (H : Hp) (xs : List V) (b : Bool) : Prop := ∃ x C dx fs D, xs = [.ref x, .ref D] /\ H x = some (.ins C dx fs) /\ ICls K C /\ PySem.W.kitOne K (.ref C) (.ref D) = some b
theorem call_isI {X : Cx} : CallR X (.builtin "isinstance") (fun xs H Q => ∃ b, IsI X.K H xs b /\ Q (.bl b) H) := by
 intro pins s σ H xs us Q I rv h
 obtain ⟨b, ⟨x, C, dx, fs, D, rfl, hx, f, e⟩, q⟩ := h
 obtain ⟨u, v, rfl, ru, rv'⟩ := rv.two
 cases (show u = Value.ref x from ru)
 cases (show v = Value.ref D from rv')
 obtain ⟨mA, M, _⟩ := ins_get I.hok hx
 obtain ⟨od, IA, _⟩ := M.look
 exact PySem.W.kia_one (PySem.W.kitx_own f.ga f.hd f.ca f.gt f.tk f.ob) I.kIn IA e (fun z => nomatch z) fun tk => ⟨.bl b, H, I.tok tk, rfl, q⟩
theorem call_isIK {X : Cx} {K : PySem.W.Frag} (h : X.K = K) : CallR X (.builtin "isinstance") (fun xs H Q => ∃ b, IsI K H xs b /\ Q (.bl b) H) := by subst h; exact call_isI
theorem op_in_seqK {X : Cx} {K : PySem.W.Frag} (h : X.K = K) : OpR X (compareOp .In) (rIn K false) := by subst h; exact op_in_seq
end L2
set_option Elab.async false
set_option linter.all false
set_option maxRecDepth 100000
set_option maxHeartbeats 4000000
namespace T
open PySem L2
def top (i : Nat) : Stmt := PySem.Challenge.pw_eightsides_k36_one_way.main.body.getD i (.Pass ⟨0, 0, 0, 0⟩)
def clsBody : Stmt -> List Stmt
 | .ClassDef _ _ _ b _ _ _ _ _ _ _ => b
 | _ => []
abbrev s_partners : Stmt := top 5
abbrev s_may_have_else : Stmt := top 6
abbrev s_close : Stmt := top 7
abbrev s_below : Stmt := top 9
abbrev s_worth : Stmt := top 11
abbrev s_total : Stmt := top 12
abbrev s_with_number : Stmt := top 14
abbrev s_amount_at : Stmt := top 15
abbrev s_amount_forms : Stmt := top 16
abbrev s_holds : Stmt := top 18
abbrev s_sum_forms : Stmt := top 19
abbrev s_turned : Stmt := top 20
abbrev s_Deed_asks : Stmt := (clsBody (top 22)).getD 0 (.Pass ⟨0, 0, 0, 0⟩)
abbrev s_Go_done : Stmt := (clsBody (top 23)).getD 0 (.Pass ⟨0, 0, 0, 0⟩)
abbrev s_Keep_init : Stmt := (clsBody (top 24)).getD 0 (.Pass ⟨0, 0, 0, 0⟩)
abbrev s_Keep_done : Stmt := (clsBody (top 24)).getD 1 (.Pass ⟨0, 0, 0, 0⟩)
abbrev s_Put_init : Stmt := (clsBody (top 25)).getD 0 (.Pass ⟨0, 0, 0, 0⟩)
abbrev s_Put_done : Stmt := (clsBody (top 25)).getD 1 (.Pass ⟨0, 0, 0, 0⟩)
abbrev s_Ask_init : Stmt := (clsBody (top 26)).getD 0 (.Pass ⟨0, 0, 0, 0⟩)
abbrev s_Ask_asks : Stmt := (clsBody (top 26)).getD 1 (.Pass ⟨0, 0, 0, 0⟩)
abbrev s_Ask_done : Stmt := (clsBody (top 26)).getD 2 (.Pass ⟨0, 0, 0, 0⟩)
abbrev s_Ask_between_ends : Stmt := (clsBody (top 26)).getD 3 (.Pass ⟨0, 0, 0, 0⟩)
abbrev s_ways : Stmt := top 28
abbrev s_ways_from : Stmt := top 29
abbrev s_parted_ways : Stmt := top 30
abbrev s_row_if_not : Stmt := top 31
abbrev s_onward_deed : Stmt := top 32
abbrev s__law_cell : Stmt := top 34
abbrev s__law_spread : Stmt := top 35
abbrev s__law_whole : Stmt := top 36
abbrev s__law_big : Stmt := top 37
abbrev s__law_point : Stmt := top 38
abbrev s__law_sum : Stmt := top 39
abbrev s__law_holds : Stmt := top 40
abbrev s__law_word : Stmt := top 41
abbrev s__law_row : Stmt := top 42
abbrev s__law_program : Stmt := top 43
abbrev s__law_leads : Stmt := top 44
abbrev s__law_made : Stmt := top 45
abbrev s__law_point_like : Stmt := top 46
abbrev s__law_kind : Stmt := top 47
abbrev s__law_way_good : Stmt := top 48
abbrev s__law_ways_good : Stmt := top 49
abbrev s_law : Stmt := top 50
structure Kl (K : PySem.W.Frag) (mg : Str -> Option Value) (Z_Deed Z_Go Z_Keep Z_Put Z_Ask y3 y4 y8 y7 y10 y9 y2 y0 y1 f_Ask_between_ends : Addr) : Prop where
 cl_Go : Cls K Z_Go
 ic_Go : ICls K Z_Go
 cl_Keep : Cls K Z_Keep
 ic_Keep : ICls K Z_Keep
 cl_Put : Cls K Z_Put
 ic_Put : ICls K Z_Put
 cl_Ask : Cls K Z_Ask
 ic_Ask : ICls K Z_Ask
 me_Go_done : Meth K Z_Go "done" y4
 me_Go_asks : Meth K Z_Go "asks" y3
 me_Keep_done : Meth K Z_Keep "done" y7
 me_Keep_asks : Meth K Z_Keep "asks" y3
 me_Put_done : Meth K Z_Put "done" y9
 me_Put_asks : Meth K Z_Put "asks" y3
 me_Ask_done : Meth K Z_Ask "done" y1
 me_Ask_asks : Meth K Z_Ask "asks" y0
 me_Ask_between_ends : Meth K Z_Ask "between_ends" f_Ask_between_ends
 mk_Go : MkO K Z_Go
 mk_Keep : Mk K Z_Keep y8
 mk_Put : Mk K Z_Put y10
 mk_Ask : Mk K Z_Ask y2
 mg_Deed : mg "Deed" = some (.ref Z_Deed)
 mg_Go : mg "Go" = some (.ref Z_Go)
 mg_Keep : mg "Keep" = some (.ref Z_Keep)
 mg_Put : mg "Put" = some (.ref Z_Put)
 mg_Ask : mg "Ask" = some (.ref Z_Ask)
 n_Keep_question : NoAttr K Z_Keep "question"
 n_Put_k : NoAttr K Z_Put "k"
 n_Put_amount : NoAttr K Z_Put "amount"
 n_Ask_k : NoAttr K Z_Ask "k"
 n_Ask_low : NoAttr K Z_Ask "low"
 n_Ask_high : NoAttr K Z_Ask "high"
 ko_Go_Deed : PySem.W.kitOne K (.ref Z_Go) (.ref Z_Deed) = some true
 ko_Go_Go : PySem.W.kitOne K (.ref Z_Go) (.ref Z_Go) = some true
 ko_Go_Keep : PySem.W.kitOne K (.ref Z_Go) (.ref Z_Keep) = some false
 ko_Go_Put : PySem.W.kitOne K (.ref Z_Go) (.ref Z_Put) = some false
 ko_Go_Ask : PySem.W.kitOne K (.ref Z_Go) (.ref Z_Ask) = some false
 ko_Keep_Deed : PySem.W.kitOne K (.ref Z_Keep) (.ref Z_Deed) = some true
 ko_Keep_Go : PySem.W.kitOne K (.ref Z_Keep) (.ref Z_Go) = some false
 ko_Keep_Keep : PySem.W.kitOne K (.ref Z_Keep) (.ref Z_Keep) = some true
 ko_Keep_Put : PySem.W.kitOne K (.ref Z_Keep) (.ref Z_Put) = some false
 ko_Keep_Ask : PySem.W.kitOne K (.ref Z_Keep) (.ref Z_Ask) = some false
 ko_Put_Deed : PySem.W.kitOne K (.ref Z_Put) (.ref Z_Deed) = some true
 ko_Put_Go : PySem.W.kitOne K (.ref Z_Put) (.ref Z_Go) = some false
 ko_Put_Keep : PySem.W.kitOne K (.ref Z_Put) (.ref Z_Keep) = some false
 ko_Put_Put : PySem.W.kitOne K (.ref Z_Put) (.ref Z_Put) = some true
 ko_Put_Ask : PySem.W.kitOne K (.ref Z_Put) (.ref Z_Ask) = some false
 ko_Ask_Deed : PySem.W.kitOne K (.ref Z_Ask) (.ref Z_Deed) = some true
 ko_Ask_Go : PySem.W.kitOne K (.ref Z_Ask) (.ref Z_Go) = some false
 ko_Ask_Keep : PySem.W.kitOne K (.ref Z_Ask) (.ref Z_Keep) = some false
 ko_Ask_Put : PySem.W.kitOne K (.ref Z_Ask) (.ref Z_Put) = some false
 ko_Ask_Ask : PySem.W.kitOne K (.ref Z_Ask) (.ref Z_Ask) = some true
theorem kit_of {K : PySem.W.Frag} {C D : Addr} {cd : ClassData} {b : Bool} (fs : PySem.W.subIn K (.ref C) (.ref C) = some true) (f2 : PySem.W.clsIn K D = some cd) (f3 : PySem.W.typeIn K (.ref D) = some (.type "type")) (f4 : PySem.W.subIn K (.ref C) (.ref D) = some b) : PySem.W.kitOne K (.ref C) (.ref D) = some b := by
 unfold PySem.W.kitOne PySem.W.kitCls
 by_cases h : C = D
 · subst h
   rw [fs] at f4
   cases f4
   simp
 · rw [if_neg (fun z => h (Value.ref.inj (beq_iff_eq.mp z)))]
   dsimp only
   rw [f2, f3, f4]
   rfl
def IsQ (w : Str) : Prop := w = Str.ofString "most" \/ w = Str.ofString "least" \/ w = Str.ofString "same" \/ w = Str.ofString "unlike"
def leLH (lo hi : Ent) : Prop := ∀ l h, lo = some l -> hi = some h -> l <= h
abbrev fK (a : V) : List (Str × V) := putF "question" a []
abbrev fP (k a : V) : List (Str × V) := putF "amount" a (putF "k" k [])
abbrev fA (k lo hi : V) : List (Str × V) := putF "high" hi (putF "low" lo (putF "k" k []))
theorem lkK (a : V) : (fK a).lookup ("question" : Str) = some a := by rw [lookup_putF, if_pos rfl]
theorem lkPa (k a : V) : (fP k a).lookup ("amount" : Str) = some a := by rw [lookup_putF, if_pos rfl]
theorem lkPk (k a : V) : (fP k a).lookup ("k" : Str) = some k := by rw [lookup_putF, if_neg (by decide +kernel), lookup_putF, if_pos rfl]
theorem lkAh (k lo hi : V) : (fA k lo hi).lookup ("high" : Str) = some hi := by rw [lookup_putF, if_pos rfl]
theorem lkAl (k lo hi : V) : (fA k lo hi).lookup ("low" : Str) = some lo := by rw [lookup_putF, if_neg (by decide +kernel), lookup_putF, if_pos rfl]
theorem lkAk (k lo hi : V) : (fA k lo hi).lookup ("k" : Str) = some k := by rw [lookup_putF, if_neg (by decide +kernel), lookup_putF, if_neg (by decide +kernel), lookup_putF, if_pos rfl]
def offM (m : Str) : Prop := m ≠ "question" /\ m ≠ "amount" /\ m ≠ "k" /\ m ≠ "low" /\ m ≠ "high"
theorem off_done : offM "done" := ⟨by decide +kernel, by decide +kernel, by decide +kernel, by decide +kernel, by decide +kernel⟩
theorem off_asks : offM "asks" := ⟨by decide +kernel, by decide +kernel, by decide +kernel, by decide +kernel, by decide +kernel⟩
theorem off_between : offM "between_ends" := ⟨by decide +kernel, by decide +kernel, by decide +kernel, by decide +kernel, by decide +kernel⟩
theorem noK {m : Str} (h : offM m) (a : V) : (fK a).lookup m = none := by rw [lookup_putF, if_neg h.1]; rfl
theorem noP {m : Str} (h : offM m) (k a : V) : (fP k a).lookup m = none := by rw [lookup_putF, if_neg h.2.1, lookup_putF, if_neg h.2.2.1]; rfl
theorem noA {m : Str} (h : offM m) (k lo hi : V) : (fA k lo hi).lookup m = none := by rw [lookup_putF, if_neg h.2.2.2.2, lookup_putF, if_neg h.2.2.2.1, lookup_putF, if_neg h.2.2.1]; rfl
inductive Dd where
 | go
 | keep (f : Int) (g : Option Int) (w : Str) (c : Int)
 | put (k : Nat) (f g : Option Int) (c : Int)
 | ask (k : Nat) (lo hi : Ent)
def InD (n : Nat) : Dd -> Prop
 | .go => True
 | .keep f g w _ => InR n f /\ InG n g /\ IsQ w
 | .put k f g _ => k < n /\ InG n f /\ InG n g
 | .ask k lo hi => k < n /\ leLH lo hi
def optL : Option Int -> List Int
 | none => []
 | some f => [f]
def fsO (f g : Option Int) : List Int := optL f ++ optL g
theorem fsO_in {n : Nat} {f g : Option Int} (hf : InG n f) (hg : InG n g) : ∀ h ∈ fsO f g, InR n h := by
 intro h hh
 unfold fsO at hh
 cases f <;> cases g <;> simp [optL] at hh
 · rw [hh]; exact hg
 · rw [hh]; exact hf
 · rcases hh with e | e <;> rw [e]
   · exact hf
   · exact hg
theorem fsO_len (f g : Option Int) : (fsO f g).length <= 2 := by unfold fsO; cases f <;> cases g <;> simp [optL]
def capHi : Ent -> Int -> Int
 | some h, z => if h < z then h else z
 | none, z => z
def clampI : Ent -> Ent -> Int -> Int
 | some l, hi, z => if z < l then l else capHi hi z
 | none, hi, z => capHi hi z
theorem clamp_no {lo hi : Ent} {z : Int} (h : ∀ l, lo = some l -> ¬ z < l) : clampI lo hi z = capHi hi z := by
 cases lo with
 | none => rfl
 | some l => show (if z < l then l else capHi hi z) = _; rw [if_neg (h l rfl)]
theorem clamp_lo {l : Int} {hi : Ent} {z : Int} (h : z < l) : clampI (some l) hi z = l := by show (if z < l then l else capHi hi z) = _; rw [if_pos h]
theorem cap_hi {y z : Int} (h : y < z) : capHi (some y) z = y := by show (if y < z then y else z) = _; rw [if_pos h]
theorem cap_no {y z : Int} (h : ¬ y < z) : capHi (some y) z = z := by show (if y < z then y else z) = _; rw [if_neg h]
def amtI (xs : List Int) (f g : Option Int) (c : Int) : Int := ((fsO f g).map (worthI xs)).sum + c
def stepI (xs : List Int) (num : Int) : Dd -> Option (List Int)
 | .go => some xs
 | .keep f g w c => if holdsI w (sumI xs f g) c = true then some xs else none
 | .put k f g c => some (xs.set k (amtI xs f g c))
 | .ask k lo hi => some (xs.set k (clampI lo hi num))
def PtO (H : Hp) (r : V) : Option (List Int) -> Prop
 | none => r = .non
 | some ys => ∃ p, r = .ref p /\ H p = some (.tup (ys.map V.int))
theorem PtO.same {H H' : Hp} (s : Same H H') {r : V} : ∀ {o : Option (List Int)}, PtO H r o -> PtO H' r o
 | none, h => h
 | some _, ⟨p, e, h⟩ => ⟨p, e, s _ _ h⟩
def DeedAt (Z_Go Z_Keep Z_Put Z_Ask : Addr) (H : Hp) (v : V) : Dd -> Prop
 | .go => ∃ x dx, v = .ref x /\ H x = some (.ins Z_Go dx [])
 | .keep f g w c => ∃ x dx qa, v = .ref x /\ H x = some (.ins Z_Keep dx (fK (.ref qa))) /\ H qa = some (.tup [.int f, gV g, .str w, .int c])
 | .put k f g c => ∃ x dx aa, v = .ref x /\ H x = some (.ins Z_Put dx (fP (.int k) (.ref aa))) /\ H aa = some (.tup [gV f, gV g, .int c])
 | .ask k lo hi => ∃ x dx, v = .ref x /\ H x = some (.ins Z_Ask dx (fA (.int k) (eV lo) (eV hi)))
theorem DeedAt.same {Z_Go Z_Keep Z_Put Z_Ask : Addr} {H H' : Hp} (s : Same H H') {v : V} : ∀ {D : Dd}, DeedAt Z_Go Z_Keep Z_Put Z_Ask H v D -> DeedAt Z_Go Z_Keep Z_Put Z_Ask H' v D
 | .go, ⟨x, dx, e, h⟩ => ⟨x, dx, e, s _ _ h⟩
 | .keep _ _ _ _, ⟨x, dx, qa, e, h, h2⟩ => ⟨x, dx, qa, e, s _ _ h, s _ _ h2⟩
 | .put _ _ _ _, ⟨x, dx, aa, e, h, h2⟩ => ⟨x, dx, aa, e, s _ _ h, s _ _ h2⟩
 | .ask _ _ _, ⟨x, dx, e, h⟩ => ⟨x, dx, e, s _ _ h⟩
def SameX (p : Addr) (H H' : Hp) : Prop := ∀ b u, b ≠ p -> H b = some u -> H' b = some u
theorem deedX {Z_Go Z_Keep Z_Put Z_Ask p : Addr} {H H' : Hp} {ws : List V} (hp : H p = some (.lst ws)) (s : SameX p H H') {v : V} : ∀ {D : Dd}, DeedAt Z_Go Z_Keep Z_Put Z_Ask H v D -> DeedAt Z_Go Z_Keep Z_Put Z_Ask H' v D := by
 have k : ∀ b xs, H b = some (.tup xs) -> H' b = some (.tup xs) := fun b xs h => s b _ (ne_of h hp (by intro z; cases z)) h
 have k2 : ∀ b C dx fs, H b = some (.ins C dx fs) -> H' b = some (.ins C dx fs) := fun b C dx fs h => s b _ (ne_of h hp (by intro z; cases z)) h
 intro D
 cases D with
 | go => exact fun ⟨x, dx, e, h⟩ => ⟨x, dx, e, k2 _ _ _ _ h⟩
 | keep f g w c => exact fun ⟨x, dx, qa, e, h, h2⟩ => ⟨x, dx, qa, e, k2 _ _ _ _ h, k _ _ h2⟩
 | put i f g c => exact fun ⟨x, dx, aa, e, h, h2⟩ => ⟨x, dx, aa, e, k2 _ _ _ _ h, k _ _ h2⟩
 | ask i lo hi => exact fun ⟨x, dx, e, h⟩ => ⟨x, dx, e, k2 _ _ _ _ h⟩
theorem sameX_upd {p : Addr} {H : Hp} {o : HO} : SameX p H (upd H p o) := fun b u ne h => by rw [upd_ne ne]; exact h
theorem sIx_some {n i d : Nat} (h : i <= n) : HT.sIx n d (some (i : Int)) = i := by
 simp only [HT.sIx]
 split <;> omega
theorem cut_take {xs : List Int} {k : Nat} (h : k <= xs.length) : cutV (xs.map V.int) none (some (k : Int)) = (xs.take k).map V.int := by
 unfold cutV
 rw [List.length_map, sIx_some h]
 simp [HT.sIx, List.map_take]
theorem cut_drop {xs : List Int} {k : Nat} (h : k <= xs.length) : cutV (xs.map V.int) (some (k : Int)) none = (xs.drop k).map V.int := by
 unfold cutV
 rw [List.length_map, sIx_some h]
 simp [HT.sIx, List.map_drop, List.take_of_length_le]
theorem set_parts {xs : List Int} {k : Nat} {z : Int} (h : k < xs.length) : (xs.set k z).map V.int = ((xs.take k).map V.int ++ [V.int z]) ++ (xs.drop (k + 1)).map V.int := by
 rw [List.set_eq_take_append_cons_drop, if_pos h]
 simp
def sp_with_number (K : PySem.W.Frag) : Sp := fun vs H Q _ => ∃ (a : Addr) (xs : List Int) (k : Nat) (z : Int), vs = [.ref a, .int k, .int z] /\ SqT K H a (xs.map V.int) /\ k < xs.length /\ xs.length <= 100 /\
 ∀ p H', Same H H' -> H' p = some (.tup ((xs.set k z).map V.int)) -> Q (.ref p) H'
def sp_amount_forms (K : PySem.W.Frag) : Sp := fun vs H Q _ => ∃ (b : Addr) (f g : Option Int) (c : Int), vs = [.ref b] /\ SqT K H b [gV f, gV g, .int c] /\ ∀ p H', Same H H' -> H' p = some (.lst ((fsO f g).map V.int)) -> Q (.ref p) H'
def sp_amount_at (K : PySem.W.Frag) : Sp := fun vs H Q _ => ∃ (a b : Addr) (xs : List Int) (f g : Option Int) (c : Int), vs = [.ref a, .ref b] /\ SqT K H a (xs.map V.int) /\ SqT K H b [gV f, gV g, .int c] /\ InG xs.length f /\ InG xs.length g /\ ∀ H', Same H H' -> Q (.int (amtI xs f g c)) H'
def sp_Deed_asks (K : PySem.W.Frag) : Sp := fun vs H Q _ => ∃ x, vs = [x] /\ Q (.bl false) H
def sp_Ask_asks (K : PySem.W.Frag) : Sp := fun vs H Q _ => ∃ x, vs = [x] /\ Q (.bl true) H
def sp_Go_done (K : PySem.W.Frag) : Sp := fun vs H Q _ => ∃ x p z, vs = [x, p, z] /\ Q p H
def sp_Keep_init (K : PySem.W.Frag) (Z : Addr) : Sp := fun vs H Q _ => ∃ (x dx : Addr) (v : V), vs = [.ref x, v] /\ H x = some (.ins Z dx []) /\ Q .non (upd H x (.ins Z dx (fK v)))
def sp_Put_init (K : PySem.W.Frag) (Z : Addr) : Sp := fun vs H Q _ => ∃ (x dx : Addr) (v u : V), vs = [.ref x, v, u] /\ H x = some (.ins Z dx []) /\ Q .non (upd (upd H x (.ins Z dx (putF "k" v []))) x (.ins Z dx (fP v u)))
def sp_Ask_init (K : PySem.W.Frag) (Z : Addr) : Sp := fun vs H Q _ => ∃ (x dx : Addr) (v u t : V), vs = [.ref x, v, u, t] /\ H x = some (.ins Z dx []) /\ Q .non (upd (upd (upd H x (.ins Z dx (putF "k" v []))) x (.ins Z dx (putF "low" u (putF "k" v [])))) x (.ins Z dx (fA v u t)))
def sp_Keep_done (K : PySem.W.Frag) (Z : Addr) : Sp := fun vs H Q _ => ∃ (x dx qa pt : Addr) (xs : List Int) (f : Int) (g : Option Int) (w : Str) (c : Int) (z : V), vs = [.ref x, .ref pt, z] /\ H x = some (.ins Z dx (fK (.ref qa))) /\ H qa = some (.tup [.int f, gV g, .str w, .int c]) /\ H pt = some (.tup (xs.map V.int)) /\ InR xs.length f /\ InG xs.length g /\
 ∀ H', Same H H' -> Q (if holdsI w (sumI xs f g) c = true then .ref pt else .non) H'
def sp_Put_done (K : PySem.W.Frag) (Z : Addr) : Sp := fun vs H Q _ => ∃ (x dx aa pt : Addr) (xs : List Int) (k : Nat) (f g : Option Int) (c : Int) (z : V), vs = [.ref x, .ref pt, z] /\ H x = some (.ins Z dx (fP (.int k) (.ref aa))) /\ H aa = some (.tup [gV f, gV g, .int c]) /\ H pt = some (.tup (xs.map V.int)) /\ k < xs.length /\ xs.length <= 100 /\ InG xs.length f /\ InG xs.length g /\
 ∀ p H', Same H H' -> H' p = some (.tup ((xs.set k (amtI xs f g c)).map V.int)) -> Q (.ref p) H'
def sp_Ask_between_ends (K : PySem.W.Frag) (Z : Addr) : Sp := fun vs H Q _ => ∃ (x dx : Addr) (k : V) (lo hi : Ent) (z : Int), vs = [.ref x, .int z] /\ H x = some (.ins Z dx (fA k (eV lo) (eV hi))) /\ Q (.int (clampI lo hi z)) H
def sp_Ask_done (K : PySem.W.Frag) (Z : Addr) : Sp := fun vs H Q _ => ∃ (x dx pt : Addr) (xs : List Int) (k : Nat) (lo hi : Ent) (z : Int), vs = [.ref x, .ref pt, .int z] /\ H x = some (.ins Z dx (fA (.int k) (eV lo) (eV hi))) /\ H pt = some (.tup (xs.map V.int)) /\ k < xs.length /\ xs.length <= 100 /\
 ∀ p H', Same H H' -> H' p = some (.tup ((xs.set k (clampI lo hi z)).map V.int)) -> Q (.ref p) H'
theorem strT (a : Str) : decide (V.str a = V.str a) = true := decide_eq_true rfl
theorem strF {a b : Str} (h : a ≠ b) : decide (V.str a = V.str b) = false := decide_eq_false fun e => h (V.str.inj e)
theorem modF (c : Int) {n : Nat} (h : 1 <= n) : ∃ f : Int, c % (2 * (n : Int)) = f /\ InR n f := ⟨_, rfl, Int.emod_nonneg _ (by omega), Int.emod_lt_of_pos _ (by omega)⟩
theorem mod_ltD (c : Int) {n : Nat} (h : 1 <= n) : ∃ f : Nat, c % (n : Int) = (f : Int) /\ f < n :=
 ⟨(c % (n : Int)).toNat, by have := Int.emod_nonneg c (b := (n : Int)) (by omega); omega, by have := Int.emod_nonneg c (b := (n : Int)) (by omega); have := Int.emod_lt_of_pos c (b := (n : Int)) (by omega); omega⟩
theorem two_low (v u : V) : (putF "low" u (putF "k" v [])).length = 2 := by
 show (if ("k" : Str) = "low" then [(("k" : Str), u)] else (("k" : Str), v) :: putF "low" u []).length = 2
 rw [if_neg (by decide +kernel)]
 rfl
def gN : Option Nat -> V
 | none => .non
 | some x => .int (x : Nat)
abbrev sIf : Str := Str.ofString "if"
abbrev sWh : Str := Str.ofString "while"
abbrev sEl : Str := Str.ofString "else"
abbrev sEn : Str := Str.ofString "end"
theorem el_if : sEl ≠ sIf := by decide +kernel
theorem el_wh : sEl ≠ sWh := by decide +kernel
theorem en_if : sEn ≠ sIf := by decide +kernel
theorem en_wh : sEn ≠ sWh := by decide +kernel
theorem en_el : sEn ≠ sEl := by decide +kernel
structure Bs where
 ws : List Str
 f : List (Option Nat)
 o : List Nat
def clo (f : List (Option Nat)) (t e : Nat) : List (Option Nat) := match (f.set e (some t))[t]? with
 | some (some x) => (f.set e (some t)).set x (some e)
 | _ => (f.set e (some t)).set t (some e)
def stepB (s : Bs) (w : Str) : Option Bs :=
 if w = sIf \/ w = sWh then some ⟨s.ws ++ [w], s.f ++ [none], s.o ++ [s.ws.length]⟩
 else if w = sEl then match s.o.getLast? with
  | some t => if s.ws[t]? = some sIf /\ s.f[t]? = some none then some ⟨s.ws ++ [w], (s.f ++ [none]).set t (some s.ws.length), s.o⟩ else none
  | none => none
 else if w = sEn then match s.o.getLast? with
  | some t => some ⟨s.ws ++ [w], clo (s.f ++ [none]) t s.ws.length, s.o.dropLast⟩
  | none => none
 else some ⟨s.ws ++ [w], s.f ++ [none], s.o⟩
inductive StepB (s : Bs) (w : Str) : Bs -> Prop
 | opn (h : w = sIf \/ w = sWh) : StepB s w ⟨s.ws ++ [w], s.f ++ [none], s.o ++ [s.ws.length]⟩
 | els (h : w = sEl) (o : List Nat) (t : Nat) (eo : s.o = o ++ [t]) (h1 : s.ws[t]? = some sIf) (h2 : s.f[t]? = some none) : StepB s w ⟨s.ws ++ [w], (s.f ++ [none]).set t (some s.ws.length), s.o⟩
 | fin (h : w = sEn) (o : List Nat) (t : Nat) (eo : s.o = o ++ [t]) : StepB s w ⟨s.ws ++ [w], clo (s.f ++ [none]) t s.ws.length, o⟩
 | oth (h1 : w ≠ sIf) (h2 : w ≠ sWh) (h3 : w ≠ sEl) (h4 : w ≠ sEn) : StepB s w ⟨s.ws ++ [w], s.f ++ [none], s.o⟩
theorem last_split {o : List Nat} {t : Nat} (h : o.getLast? = some t) : ∃ o', o = o' ++ [t] := by
 obtain ⟨ys, rfl⟩ := List.getLast?_eq_some_iff.mp h
 exact ⟨ys, rfl⟩
theorem stepB_ways {s s' : Bs} {w : Str} (h : stepB s w = some s') : StepB s w s' := by
 unfold stepB at h
 by_cases h1 : w = sIf \/ w = sWh
 · rw [if_pos h1] at h
   cases h
   exact .opn h1
 rw [if_neg h1] at h
 by_cases h2 : w = sEl
 · rw [if_pos h2] at h
   cases e : s.o.getLast? with
   | none => rw [e] at h; cases h
   | some t =>
    rw [e] at h
    obtain ⟨o, eo⟩ := last_split e
    dsimp only at h
    by_cases h3 : s.ws[t]? = some sIf /\ s.f[t]? = some none
    · rw [if_pos h3] at h
      cases h
      exact .els h2 o t eo h3.1 h3.2
    · rw [if_neg h3] at h; cases h
 rw [if_neg h2] at h
 by_cases h3 : w = sEn
 · rw [if_pos h3] at h
   cases e : s.o.getLast? with
   | none => rw [e] at h; cases h
   | some t =>
    rw [e] at h
    obtain ⟨o, eo⟩ := last_split e
    cases h
    have := StepB.fin (s := s) h3 o t eo
    rw [eo, List.dropLast_concat]
    exact this
 · rw [if_neg h3] at h
   cases h
   exact .oth (fun z => h1 (.inl z)) (fun z => h1 (.inr z)) h2 h3
theorem ways_step {s s' : Bs} {w : Str} (h : StepB s w s') : stepB s w = some s' := by
 cases h with
 | opn h => unfold stepB; rw [if_pos h]
 | els h o t eo h1 h2 =>
  subst h
  unfold stepB
  rw [if_neg (fun z => z.elim el_if el_wh), if_pos rfl, eo, List.getLast?_concat]
  dsimp only
  rw [if_pos ⟨h1, h2⟩]
 | fin h o t eo =>
  subst h
  unfold stepB
  rw [if_neg (fun z => z.elim en_if en_wh), if_neg en_el, if_pos rfl, eo, List.getLast?_concat]
  dsimp only
  rw [List.dropLast_concat]
 | oth h1 h2 h3 h4 => unfold stepB; rw [if_neg (fun z => z.elim h1 h2), if_neg h3, if_neg h4]
structure BOk (s : Bs) : Prop where
 len : s.f.length = s.ws.length
 o_lt : ∀ t ∈ s.o, t < s.ws.length
 o_len : s.o.length <= s.ws.length
 f_lt : ∀ (i x : Nat), s.f[i]? = some (some x) -> x < s.ws.length
theorem set_lt {f : List (Option Nat)} {j y n : Nat} (h : ∀ (i x : Nat), f[i]? = some (some x) -> x < n) (hy : y < n) : ∀ (i x : Nat), (f.set j (some y))[i]? = some (some x) -> x < n := by
 intro i x e
 rw [List.getElem?_set] at e
 by_cases hj : j = i
 · rw [if_pos hj] at e
   by_cases hl : j < f.length
   · rw [if_pos hl] at e; cases e; exact hy
   · rw [if_neg hl] at e; cases e
 · rw [if_neg hj] at e; exact h i x e
theorem snoc_lt {f : List (Option Nat)} {n : Nat} (h : ∀ (i x : Nat), f[i]? = some (some x) -> x < n) : ∀ (i x : Nat), (f ++ [none])[i]? = some (some x) -> x < n + 1 := by
 intro i x e
 rw [List.getElem?_append] at e
 by_cases hi : i < f.length
 · rw [if_pos hi] at e; have := h i x e; omega
 · rw [if_neg hi] at e
   cases hk : i - f.length with
   | zero => rw [hk] at e; cases e
   | succ k => rw [hk] at e; simp at e
theorem clo_len (f : List (Option Nat)) (t e : Nat) : (clo f t e).length = f.length := by
 unfold clo; split <;> simp
theorem clo_lt {f : List (Option Nat)} {t e n : Nat} (h : ∀ (i x : Nat), f[i]? = some (some x) -> x < n) (ht : t < n) (he : e < n) : ∀ (i x : Nat), (clo f t e)[i]? = some (some x) -> x < n := by
 unfold clo
 split
 · exact set_lt (set_lt h ht) he
 · exact set_lt (set_lt h ht) he
theorem step_ok {s s' : Bs} {w : Str} (B : BOk s) (h : StepB s w s') : BOk s' /\ s'.ws = s.ws ++ [w] := by
 have l1 : (s.ws ++ [w]).length = s.ws.length + 1 := by simp
 cases h with
 | opn h =>
  refine ⟨⟨by simp [B.len], fun t ht => ?_, by have := B.o_len; simp; omega, ?_⟩, rfl⟩
  · rw [l1]
    rcases List.mem_append.mp ht with z | z
    · have := B.o_lt t z; omega
    · rw [List.mem_singleton.mp z]; omega
  · rw [l1]; exact snoc_lt B.f_lt
 | els h o t eo h1 h2 =>
  refine ⟨⟨by simp [B.len], fun t ht => ?_, by have := B.o_len; simp; omega, ?_⟩, rfl⟩
  · rw [l1]; have := B.o_lt t ht; omega
  · rw [l1]; exact set_lt (snoc_lt B.f_lt) (by omega)
 | fin h o t eo =>
  have ht : t < s.ws.length := B.o_lt t (by rw [eo]; simp)
  refine ⟨⟨by rw [clo_len]; simp [B.len], fun t ht => ?_, by have := B.o_len; rw [eo] at this; simp at this ⊢; omega, ?_⟩, rfl⟩
  · rw [l1]; have := B.o_lt t (by rw [eo]; exact List.mem_append.mpr (.inl ht)); omega
  · rw [l1]; exact clo_lt (snoc_lt B.f_lt) (by omega) (by omega)
 | oth h1 h2 h3 h4 =>
  refine ⟨⟨by simp [B.len], fun t ht => ?_, by have := B.o_len; simp; omega, ?_⟩, rfl⟩
  · rw [l1]; have := B.o_lt t ht; omega
  · rw [l1]; exact snoc_lt B.f_lt
def b0 : Bs := ⟨[], [], []⟩
theorem b0_ok : BOk b0 := ⟨rfl, fun t h => (by cases h), Nat.le_refl _, fun i x h => (by simp [b0] at h)⟩
def runB (ws : List Str) : Option Bs := ws.foldlM stepB b0
theorem runB_snoc (ws : List Str) (w : Str) : runB (ws ++ [w]) = (runB ws).bind fun s => stepB s w := by
 unfold runB
 rw [List.foldlM_append]
 cases ws.foldlM stepB b0 with
 | none => rfl
 | some s => show (stepB s w).bind some = stepB s w; cases stepB s w <;> rfl
theorem runB_step {ws : List Str} {w : Str} {s s' : Bs} (h : runB ws = some s) (e : StepB s w s') : runB (ws ++ [w]) = some s' := by
 rw [runB_snoc, h]
 exact ways_step e
theorem runB_ok : ∀ (n : Nat) {ws : List Str} {s : Bs}, ws.length = n -> runB ws = some s -> BOk s /\ s.ws = ws := by
 intro n
 induction n with
 | zero =>
  intro ws s l h
  have : ws = [] := List.length_eq_zero_iff.mp l
  subst this
  have : s = b0 := (Option.some.inj h).symm
  subst this
  exact ⟨b0_ok, rfl⟩
 | succ n ih =>
  intro ws s l h
  have e : ws = ws.dropLast ++ [ws.getLast (by intro z; subst z; cases l)] := (List.dropLast_concat_getLast _).symm
  rw [e, runB_snoc] at h
  cases e1 : runB ws.dropLast with
  | none => rw [e1] at h; cases h
  | some s1 =>
   rw [e1] at h
   obtain ⟨B1, e2⟩ := ih (by rw [List.length_dropLast]; omega) e1
   obtain ⟨B, e3⟩ := step_ok B1 (stepB_ways h)
   refine ⟨B, ?_⟩
   rw [e3, e2]
   exact e.symm
theorem runB_pre {ws : List Str} {s : Bs} (h : runB ws = some s) : ∀ i, i < ws.length -> ∃ s1 s2 w, runB (ws.take i) = some s1 /\ ws[i]? = some w /\ StepB s1 w s2 /\ runB (ws.take (i + 1)) = some s2 := by
 have all : ∀ k, ∃ s1, runB (ws.take k) = some s1 := by
  intro k
  have : ∀ (us vs : List Str) (s : Bs), runB (us ++ vs) = some s -> ∃ s1, runB us = some s1 := fun us vs s h => by
   unfold runB at h ⊢
   rw [List.foldlM_append] at h
   cases e : us.foldlM stepB b0 with
   | none => rw [e] at h; cases h
   | some s1 => exact ⟨s1, rfl⟩
  exact this (ws.take k) (ws.drop k) s (by rw [List.take_append_drop]; exact h)
 intro i hi
 obtain ⟨s1, e1⟩ := all i
 obtain ⟨s2, e2⟩ := all (i + 1)
 have ew : ws[i]? = some ws[i] := List.getElem?_eq_getElem hi
 refine ⟨s1, s2, ws[i], e1, ew, ?_, e2⟩
 rw [take_succ_of ew, runB_snoc, e1] at e2
 exact stepB_ways e2
theorem clo_app {f r : List (Option Nat)} {t e n : Nat} (hn : f.length = n) (h : ∀ (i x : Nat), f[i]? = some (some x) -> x < n) (ht : t < n) (he : e < n) : clo (f ++ r) t e = clo f t e ++ r := by
 have l1 : e < f.length := by omega
 have s1 : (f ++ r).set e (some t) = f.set e (some t) ++ r := List.set_append_left _ _ l1
 have h' := set_lt (j := e) h ht
 have l2 : (f.set e (some t)).length = n := by rw [List.length_set, hn]
 unfold clo
 rw [s1]
 generalize f.set e (some t) = g at *
 rw [List.getElem?_append_left (by omega)]
 cases e1 : g[t]? with
 | none => exact List.set_append_left _ _ (by omega)
 | some z =>
  cases z with
  | none => exact List.set_append_left _ _ (by omega)
  | some x => exact List.set_append_left _ _ (by have := h' t x e1; omega)
theorem at_nat' {α : Type} {xs : List α} {j : Nat} {v : α} (h : xs[j]? = some v) : atI xs (j : Int) = some v := atI_nat h
theorem at_last {α : Type} (xs : List α) (x : α) : atI (xs ++ [x]) (-1) = some x := by
 unfold atI ixN
 rw [if_neg (by decide), if_pos (by simp; omega)]
 show (xs ++ [x])[(-1 + ((xs ++ [x]).length : Int)).toNat]? = some x
 rw [show (-1 + ((xs ++ [x]).length : Int)).toNat = xs.length by simp; omega]
 simp
theorem at0 {α : Type} (x : α) (xs : List α) : atI (x :: xs) 0 = some x := at_nat' (j := 0) rfl
theorem gN_get {f : List (Option Nat)} {t : Nat} {x : Option Nat} (h : f[t]? = some x) : atI (f.map gN) (t : Int) = some (gN x) := at_nat (by rw [List.getElem?_map, h]; rfl)
theorem map_set {f : List (Option Nat)} {t : Nat} {x : Option Nat} : (f.map gN).set t (gN x) = (f.set t x).map gN := by rw [List.map_set]
theorem ix_nat {n t : Nat} (h : t < n) : ixN n (t : Int) = some t := by
 unfold ixN
 rw [if_pos (by omega), if_pos (by omega), Int.toNat_natCast]
def Sc (v : V) (d : PyData) : Prop := (∃ i, d = .int i /\ v = .int i) \/ (d = .none /\ v = .non) \/ ∃ x, d = .str x /\ v = .str x /\ PyData.strOk x = true
def It (H : Hp) (v : V) (d : PyData) : Prop := Sc v d \/ ∃ (b : Addr) (ys : List V) (ds : List PyData), d = .tuple ds /\ v = .ref b /\ H b = some (.tup ys) /\ Paired Sc ys ds
abbrev Row := Str × List PyData
def RowAt (H : Hp) (v : V) (r : Row) : Prop := ∃ a xs, v = .ref a /\ H a = some (.tup (.str r.1 :: xs)) /\ PyData.strOk r.1 = true /\ Paired (It H) xs r.2
def TKeep (H H' : Hp) : Prop := ∀ b t, H b = some (.tup t) -> H' b = some (.tup t)
theorem TKeep.of {H H' : Hp} (s : Same H H') : TKeep H H' := fun b t h => s b _ h
theorem TKeep.trans {H H1 H2 : Hp} (s : TKeep H H1) (t : TKeep H1 H2) : TKeep H H2 := fun b u h => t b u (s b u h)
theorem TKeep.put {H : Hp} {p : Addr} {zs ws : List V} (hp : H p = some (.lst zs)) : TKeep H (upd H p (.lst ws)) := fun b t h => by rw [upd_ne (ne_of h hp (by intro z; cases z))]; exact h
theorem It.keep {H H' : Hp} (k : TKeep H H') {v : V} {d : PyData} : It H v d -> It H' v d
 | .inl h => .inl h
 | .inr ⟨b, ys, ds, h1, h2, h3, h4⟩ => .inr ⟨b, ys, ds, h1, h2, k _ _ h3, h4⟩
theorem RowAt.keep {H H' : Hp} (k : TKeep H H') {v : V} {r : Row} : RowAt H v r -> RowAt H' v r := fun ⟨a, xs, h1, h2, h3, h4⟩ => ⟨a, xs, h1, k _ _ h2, h3, Paired.mapP h4 fun _ _ z => z.keep k⟩
theorem rows_keep {H H' : Hp} (k : TKeep H H') {vs : List V} {rs : List Row} (h : Paired (RowAt H) vs rs) : Paired (RowAt H') vs rs := Paired.mapP h fun _ _ z => z.keep k
def rowD (r : Row) : PyData := .tuple (.str r.1 :: r.2)
theorem dt_sc {K : PySem.W.Frag} {H : Hp} {v : V} {d : PyData} (h : Sc v d) : Dt K H d v := by
 rcases h with ⟨i, rfl, rfl⟩ | ⟨rfl, rfl⟩ | ⟨x, rfl, rfl, h⟩
 · exact .int
 · exact .non
 · exact .str h
theorem dt_scs {K : PySem.W.Frag} {H : Hp} : ∀ {vs : List V} {ds : List PyData}, Paired Sc vs ds -> DtAll K H ds vs
 | _, _, .nil => .nil
 | _, _, .cons h t => .cons (dt_sc h) (dt_scs t)
theorem dt_its {K : PySem.W.Frag} {H : Hp} : ∀ {vs : List V} {ds : List PyData}, Paired (It H) vs ds -> DtAll K H ds vs
 | _, _, .nil => .nil
 | _, _, .cons (.inl h) t => .cons (dt_sc h) (dt_its t)
 | _, _, .cons (.inr ⟨b, ys, ds, h1, h2, h3, h4⟩) t => by
  subst h1 h2
  exact .cons (.tup (SqT.of h3) (dt_scs h4)) (dt_its t)
theorem dt_rows {K : PySem.W.Frag} {H : Hp} : ∀ {vs : List V} {rs : List Row}, Paired (RowAt H) vs rs -> DtAll K H (rs.map rowD) vs
 | _, _, .nil => .nil
 | _, _, .cons ⟨a, xs, h1, h2, h3, h4⟩ t => by
  subst h1
  exact .cons (.tup (SqT.of h2) (.cons (.str h3) (dt_its h4))) (dt_rows t)
theorem depth_sc {v : V} {d : PyData} (h : Sc v d) : d.depth <= 2 := by
 rcases h with ⟨i, rfl, rfl⟩ | ⟨rfl, rfl⟩ | ⟨x, rfl, rfl, h⟩ <;> simp [PyData.depth]
theorem depth_scs : ∀ {vs : List V} {ds : List PyData}, Paired Sc vs ds -> PyData.depthAll ds <= 2
 | _, _, .nil => by simp [PyData.depthAll]
 | _, _, .cons h t => by have := depth_sc h; have := depth_scs t; simp only [PyData.depthAll]; omega
theorem depth_its {H : Hp} : ∀ {vs : List V} {ds : List PyData}, Paired (It H) vs ds -> PyData.depthAll ds <= 4
 | _, _, .nil => by simp [PyData.depthAll]
 | _, _, .cons (.inl h) t => by have := depth_sc h; have := depth_its t; simp only [PyData.depthAll]; omega
 | _, _, .cons (.inr ⟨b, ys, ds, h1, h2, h3, h4⟩) t => by subst h1; have := depth_scs h4; have := depth_its t; simp only [PyData.depthAll, PyData.depth]; omega
theorem depth_rows {H : Hp} : ∀ {vs : List V} {rs : List Row}, Paired (RowAt H) vs rs -> PyData.depthAll (rs.map rowD) <= 8
 | _, _, .nil => by simp [PyData.depthAll]
 | _, _, .cons ⟨a, xs, h1, h2, h3, h4⟩ t => by
  have := depth_its h4
  have := depth_rows t
  simp only [List.map_cons, rowD, PyData.depthAll, PyData.depth] at this ⊢
  omega
theorem depth_rowsL {H : Hp} {vs : List V} {rs : List Row} (h : Paired (RowAt H) vs rs) : (PyData.list (rs.map rowD)).depth <= 60 := by
 have := depth_rows h
 simp only [PyData.depth]
 omega
theorem dt_rowsL {K : PySem.W.Frag} {H : Hp} {a : Addr} {vs : List V} {rs : List Row} (e : H a = some (.lst vs)) (h : Paired (RowAt H) vs rs) : Dt K H (.list (rs.map rowD)) (.ref a) := .lst (SqL.of e) (dt_rows h)
theorem rows_word {H : Hp} {vs : List V} {rs : List Row} {i : Nat} {w : Str} (h : Paired (RowAt H) vs rs) (e : (rs.map Prod.fst)[i]? = some w) : ∃ a xs, vs[i]? = some (.ref a) /\ H a = some (.tup (.str w :: xs)) := by
 rw [List.getElem?_map] at e
 cases er : rs[i]? with
 | none => rw [er] at e; cases e
 | some r =>
  rw [er] at e
  obtain ⟨x, ex, a, xs, rfl, h2, _⟩ := paired_get h er
  have : r.1 = w := Option.some.inj e
  subst this
  exact ⟨a, xs, ex, h2⟩
def Only (p : Addr) (H H' : Hp) : Prop := ∀ b, b ≠ p -> H' b = H b
theorem Only.same {H0 H H' : Hp} {p : Addr} (o : Only p H H') (n : H0 p = none) (s : Same H0 H) : Same H0 H' := fun b u h => by rw [o b (ne_of_none h n)]; exact s b u h
theorem Only.keep {H H' : Hp} {p : Addr} {zs : List V} (o : Only p H H') (e : H p = some (.lst zs)) : TKeep H H' := fun b t h => by rw [o b (ne_of h e (by intro z; cases z))]; exact h
theorem Only.put {H : Hp} {p : Addr} {u : HO} : Only p H (upd H p u) := fun b h => upd_ne h
def fV (f : List (Option Nat)) : List V := f.map gN
def nV (o : List Nat) : List V := o.map fun t => .int (t : Nat)
def sp_close (K : PySem.W.Frag) : Sp := fun vs H Q _ => ∃ (p : Addr) (f : List (Option Nat)) (t e : Nat), vs = [.ref p, .int t, .int e] /\ H p = some (.lst (fV f)) /\ (∀ (i x : Nat), f[i]? = some (some x) -> x < f.length) /\ t < f.length /\ e < f.length /\
 ∀ H', Only p H H' -> H' p = some (.lst (fV (clo f t e))) -> Q .non H'
def sp_may_have_else (K : PySem.W.Frag) : Sp := fun vs H Q _ => ∃ (a p q1 : Addr) (xs : List V) (f : List (Option Nat)) (o : List Nat) (t : Nat) (rs : List Row), vs = [.ref a, .ref p, .ref q1] /\ SqL K H a xs /\ Paired (RowAt H) xs rs /\ H p = some (.lst (fV f)) /\ H q1 = some (.lst (nV (o ++ [t]))) /\
 (rs.map Prod.fst)[t]? = some sIf /\ f[t]? = some none /\ Q (.bl true) H
def sp_partners (K : PySem.W.Frag) : Sp := fun vs H Q _ => ∃ (a : Addr) (xs : List V) (rs : List Row) (s : Bs), vs = [.ref a] /\ H a = some (.lst xs) /\ Paired (RowAt H) xs rs /\ runB (rs.map Prod.fst) = some s /\ s.o = [] /\ rs.length <= 100 /\
 ∀ p H', Same H H' -> H p = none -> H' p = some (.lst (fV s.f)) -> Q (.ref p) H'
theorem pickW {l : List Str} {c : Int} (h0 : 0 <= c) (h1 : c < l.length) : ∃ w, w ∈ l /\ atI (l.map V.str) c = some (.str w) := by
 obtain ⟨j, rfl⟩ := Int.eq_ofNat_of_zero_le h0
 have hj : j < l.length := by omega
 exact ⟨l[j], List.getElem_mem hj, at_nat (by rw [List.getElem?_map, List.getElem?_eq_getElem hj]; rfl)⟩
theorem snoc_of {o : List Nat} (h : 0 < o.length) : ∃ o' t, o = o' ++ [t] := ⟨o.dropLast, o.getLast (List.length_pos_iff.mp h), (List.dropLast_concat_getLast _).symm⟩
theorem paired_app {α β : Type} {R : α -> β -> Prop} : ∀ {xs xs' : List α} {ys ys' : List β}, Paired R xs ys -> Paired R xs' ys' -> Paired R (xs ++ xs') (ys ++ ys')
 | _, _, _, _, .nil, r => r
 | _, _, _, _, .cons q t, r => .cons q (paired_app t r)
abbrev sSe : Str := Str.ofString "set"
abbrev sAs : Str := Str.ofString "ask"
abbrev sNe : Str := Str.ofString "need"
abbrev sCl : Str := Str.ofString "claim"
inductive Rw where
 | set (k : Nat) (f g : Option Int) (c : Int)
 | ask (k : Nat) (lo hi : Ent)
 | qu (w : Str) (f : Int) (g : Option Int) (q : Str) (c : Int)
 | bare (w : Str)
def Rw.word : Rw -> Str
 | .set _ _ _ _ => sSe
 | .ask _ _ _ => sAs
 | .qu w _ _ _ _ => w
 | .bare w => w
def RwAt (H : Hp) (v : V) : Rw -> Prop
 | .set k f g c => ∃ a, v = .ref a /\ H a = some (.tup [.str sSe, .int k, gV f, gV g, .int c])
 | .ask k lo hi => ∃ a, v = .ref a /\ H a = some (.tup [.str sAs, .int k, eV lo, eV hi])
 | .qu w f g q c => ∃ a b, v = .ref a /\ H a = some (.tup [.str w, .ref b]) /\ H b = some (.tup [.int f, gV g, .str q, .int c])
 | .bare w => ∃ a, v = .ref a /\ H a = some (.tup [.str w])
def InW (n : Nat) : Rw -> Prop
 | .set k f g _ => k < n /\ InG n f /\ InG n g
 | .ask k lo hi => k < n /\ leLH lo hi
 | .qu w f g q _ => (w = sNe \/ w = sCl \/ w = sIf \/ w = sWh) /\ InR n f /\ InG n g /\ IsQ q
 | .bare w => w = sEl \/ w = sEn
theorem RwAt.keep {H H' : Hp} (k : TKeep H H') {v : V} : ∀ {R : Rw}, RwAt H v R -> RwAt H' v R
 | .set _ _ _ _, ⟨a, e, h⟩ => ⟨a, e, k _ _ h⟩
 | .ask _ _ _, ⟨a, e, h⟩ => ⟨a, e, k _ _ h⟩
 | .qu _ _ _ _ _, ⟨a, b, e, h, h2⟩ => ⟨a, b, e, k _ _ h, k _ _ h2⟩
 | .bare _, ⟨a, e, h⟩ => ⟨a, e, k _ _ h⟩
theorem rw_keep {H H' : Hp} (k : TKeep H H') {vs : List V} {Rs : List Rw} (h : Paired (RwAt H) vs Rs) : Paired (RwAt H') vs Rs := Paired.mapP h fun _ _ z => z.keep k
theorem RwAt.word {H : Hp} {v : V} : ∀ {R : Rw}, RwAt H v R -> ∃ a xs, v = .ref a /\ H a = some (.tup (.str R.word :: xs))
 | .set _ _ _ _, ⟨a, e, h⟩ => ⟨a, _, e, h⟩
 | .ask _ _ _, ⟨a, e, h⟩ => ⟨a, _, e, h⟩
 | .qu _ _ _ _ _, ⟨a, b, e, h, h2⟩ => ⟨a, _, e, h⟩
 | .bare _, ⟨a, e, h⟩ => ⟨a, _, e, h⟩
def oD : Option Int -> PyData
 | none => .none
 | some i => .int i
def rowOf : Rw -> Row
 | .set k f g c => (sSe, [.int (k : Nat), oD f, oD g, .int c])
 | .ask k lo hi => (sAs, [.int (k : Nat), oD lo, oD hi])
 | .qu w f g q c => (w, [.tuple [.int f, oD g, .str q, .int c]])
 | .bare w => (w, [])
theorem rowOf_fst (R : Rw) : (rowOf R).1 = R.word := by cases R <;> rfl
theorem rowOf_map (Rs : List Rw) : (Rs.map rowOf).map Prod.fst = Rs.map Rw.word := by
 rw [List.map_map]
 congr 1
 funext R
 exact rowOf_fst R
theorem sc_gV (g : Option Int) : Sc (gV g) (oD g) := by
 cases g with
 | none => exact .inr (.inl ⟨rfl, rfl⟩)
 | some i => exact .inl ⟨i, rfl, rfl⟩
theorem sc_eV (g : Ent) : Sc (eV g) (oD g) := by
 cases g with
 | none => exact .inr (.inl ⟨rfl, rfl⟩)
 | some i => exact .inl ⟨i, rfl, rfl⟩
theorem sc_int (i : Int) : Sc (.int i) (.int i) := .inl ⟨i, rfl, rfl⟩
theorem ok_ne : PyData.strOk sNe = true /\ PyData.strOk sCl = true /\ PyData.strOk sIf = true /\ PyData.strOk sWh = true /\ PyData.strOk sEl = true /\ PyData.strOk sEn = true /\ PyData.strOk sSe = true /\ PyData.strOk sAs = true := by decide +kernel
theorem ok_q {w : Str} (h : IsQ w) : PyData.strOk w = true := by
 rcases h with rfl | rfl | rfl | rfl <;> decide +kernel
theorem row_of {n : Nat} {H : Hp} {v : V} {R : Rw} (h : RwAt H v R) (i : InW n R) : RowAt H v (rowOf R) := by
 obtain ⟨o1, o2, o3, o4, o5, o6, o7, o8⟩ := ok_ne
 cases R with
 | set k f g c =>
  obtain ⟨a, e, h⟩ := h
  exact ⟨a, _, e, h, o7, .cons (.inl (sc_int _)) (.cons (.inl (sc_gV f)) (.cons (.inl (sc_gV g)) (.cons (.inl (sc_int _)) .nil)))⟩
 | ask k lo hi =>
  obtain ⟨a, e, h⟩ := h
  exact ⟨a, _, e, h, o8, .cons (.inl (sc_int _)) (.cons (.inl (sc_eV lo)) (.cons (.inl (sc_eV hi)) .nil))⟩
 | qu w f g q c =>
  obtain ⟨a, b, e, h, h2⟩ := h
  obtain ⟨hw, _, _, hq⟩ := i
  refine ⟨a, _, e, h, ?_, .cons (.inr ⟨b, _, _, rfl, rfl, h2, .cons (sc_int _) (.cons (sc_gV g) (.cons (.inr (.inr ⟨q, rfl, rfl, ok_q hq⟩)) (.cons (sc_int _) .nil)))⟩) .nil⟩
  rcases hw with rfl | rfl | rfl | rfl <;> assumption
 | bare w =>
  obtain ⟨a, e, h⟩ := h
  refine ⟨a, _, e, h, ?_, .nil⟩
  rcases i with rfl | rfl <;> assumption
theorem rows_of {n : Nat} {H : Hp} : ∀ {vs : List V} {Rs : List Rw}, Paired (RwAt H) vs Rs -> (∀ R ∈ Rs, InW n R) -> Paired (RowAt H) vs (Rs.map rowOf)
 | _, _, .nil, _ => .nil
 | _, _, .cons h t, i => .cons (row_of h (i _ List.mem_cons_self)) (rows_of t fun R hR => i R (List.mem_cons_of_mem _ hR))
def isBl (w : Str) : Prop := w = sIf \/ w = sWh
structure PInv (s : Bs) : Prop where
 nd : s.o.Nodup
 ow : ∀ t ∈ s.o, ∃ w, s.ws[t]? = some w /\ isBl w
 oe : ∀ t ∈ s.o, ∀ (x : Nat), s.f[t]? = some (some x) -> s.ws[x]? = some sEl
 bl : ∀ (i : Nat) (w : Str), s.ws[i]? = some w -> isBl w -> i ∈ s.o \/ ∃ x, s.f[i]? = some (some x)
 el : ∀ (i : Nat), s.ws[i]? = some sEl -> (∃ x, s.f[i]? = some (some x)) \/ ∃ t ∈ s.o, s.f[t]? = some (some i)
 en : ∀ (i : Nat), s.ws[i]? = some sEn -> ∃ x, s.f[i]? = some (some x)
theorem get_snoc {α : Type} {xs : List α} {x y : α} {i : Nat} (h : (xs ++ [x])[i]? = some y) : (i < xs.length /\ xs[i]? = some y) \/ (i = xs.length /\ y = x) := by
 by_cases hi : i < xs.length
 · rw [List.getElem?_append_left hi] at h; exact .inl ⟨hi, h⟩
 · rw [List.getElem?_append_right (by omega)] at h
   cases hk : i - xs.length with
   | zero => rw [hk] at h; cases h; exact .inr ⟨by omega, rfl⟩
   | succ k => rw [hk] at h; simp at h
theorem get_left {α : Type} {xs : List α} {x y : α} {i : Nat} (h : xs[i]? = some y) : (xs ++ [x])[i]? = some y := by
 rw [List.getElem?_append_left (List.getElem?_eq_some_iff.mp h).1]; exact h
theorem set_some {f : List (Option Nat)} {i j y : Nat} (h : ∃ x, f[i]? = some (some x)) : ∃ x, (f.set j (some y))[i]? = some (some x) := by
 obtain ⟨x, e⟩ := h
 rw [List.getElem?_set]
 by_cases hj : j = i
 · have := (List.getElem?_eq_some_iff.mp e).1
   subst hj
   exact ⟨y, by simp [this]⟩
 · exact ⟨x, by rw [if_neg hj]; exact e⟩
theorem set_at {f : List (Option Nat)} {j y : Nat} (h : j < f.length) : (f.set j (some y))[j]? = some (some y) := by simp [h]
theorem set_off {f : List (Option Nat)} {i j y : Nat} (h : j ≠ i) : (f.set j (some y))[i]? = f[i]? := by rw [List.getElem?_set, if_neg h]
theorem pinv_step {s s' : Bs} {w : Str} (B : BOk s) (P : PInv s) (h : StepB s w s') : PInv s' := by
 have bne : ∀ {u : Str}, isBl u -> u ≠ sEl /\ u ≠ sEn := fun {u} hu => by
  rcases hu with rfl | rfl
  · exact ⟨fun e => el_if e.symm, fun e => en_if e.symm⟩
  · exact ⟨fun e => el_wh e.symm, fun e => en_wh e.symm⟩
 cases h with
 | opn h =>
  refine ⟨?_, fun t ht => ?_, fun t ht x e => ?_, fun i u e hu => ?_, fun i e => ?_, fun i e => ?_⟩
  · refine List.nodup_append.mpr ⟨P.nd, by simp, fun a ha b hb => ?_⟩
    have := B.o_lt a ha
    rw [List.mem_singleton.mp hb]; omega
  · rcases List.mem_append.mp ht with z | z
    · obtain ⟨u, e, hu⟩ := P.ow t z; exact ⟨u, get_left e, hu⟩
    · rw [List.mem_singleton.mp z]; exact ⟨w, by simp, h⟩
  · rcases get_snoc e with ⟨_, e⟩ | ⟨_, e⟩
    · rcases List.mem_append.mp ht with z | z
      · exact get_left (P.oe t z x e)
      · rw [List.mem_singleton.mp z, ← B.len] at e
        simp at e
    · cases e
  · rcases get_snoc e with ⟨_, e⟩ | ⟨e1, _⟩
    · rcases P.bl i u e hu with z | ⟨x, z⟩
      · exact .inl (List.mem_append.mpr (.inl z))
      · exact .inr ⟨x, get_left z⟩
    · exact .inl (List.mem_append.mpr (.inr (by rw [e1]; exact List.mem_cons_self)))
  · rcases get_snoc e with ⟨_, e⟩ | ⟨_, e⟩
    · rcases P.el i e with ⟨x, z⟩ | ⟨t, ht, z⟩
      · exact .inl ⟨x, get_left z⟩
      · exact .inr ⟨t, List.mem_append.mpr (.inl ht), get_left z⟩
    · exact absurd e.symm (bne h).1
  · rcases get_snoc e with ⟨_, e⟩ | ⟨_, e⟩
    · obtain ⟨x, z⟩ := P.en i e; exact ⟨x, get_left z⟩
    · exact absurd e.symm (bne h).2
 | els h o t eo h1 h2 =>
  subst h
  have tlt : t < s.ws.length := B.o_lt t (by rw [eo]; simp)
  have tm : t ∈ s.o := by rw [eo]; simp
  have lf : t < (s.f ++ [none]).length := by simp [B.len]; omega
  refine ⟨P.nd, fun u hu => ?_, fun u hu x e => ?_, fun i u e hu => ?_, fun i e => ?_, fun i e => ?_⟩
  · obtain ⟨v, e, hv⟩ := P.ow u hu; exact ⟨v, get_left e, hv⟩
  · by_cases hut : t = u
    · subst hut
      rw [set_at lf] at e
      cases e
      simp
    · rw [set_off hut] at e
      rcases get_snoc e with ⟨_, e⟩ | ⟨_, e⟩
      · exact get_left (P.oe u hu x e)
      · cases e
  · rcases get_snoc e with ⟨_, e⟩ | ⟨_, e1⟩
    · rcases P.bl i u e hu with z | ⟨x, z⟩
      · exact .inl z
      · exact .inr (set_some ⟨x, get_left z⟩)
    · exact absurd e1 (bne hu).1
  · rcases get_snoc e with ⟨_, e⟩ | ⟨e1, _⟩
    · rcases P.el i e with z | ⟨u, hu, z⟩
      · obtain ⟨x, z⟩ := z
        exact .inl (set_some ⟨x, get_left z⟩)
      · have : t ≠ u := fun q => by subst q; rw [h2] at z; cases z
        exact .inr ⟨u, hu, by rw [set_off this]; exact get_left z⟩
    · exact .inr ⟨t, tm, by rw [set_at lf, e1]⟩
  · rcases get_snoc e with ⟨_, e⟩ | ⟨_, e1⟩
    · obtain ⟨x, z⟩ := P.en i e; exact set_some ⟨x, get_left z⟩
    · exact absurd e1 en_el
 | fin h o t eo =>
  subst h
  have tlt : t < s.ws.length := B.o_lt t (by rw [eo]; simp)
  have tm : t ∈ s.o := by rw [eo]; simp
  have lf : (s.f ++ [none]).length = s.ws.length + 1 := by simp [B.len]
  have om : ∀ u ∈ o, u ∈ s.o := fun u hu => by rw [eo]; exact List.mem_append.mpr (.inl hu)
  have keep : ∀ {i : Nat}, (∃ x, (s.f ++ [none])[i]? = some (some x)) -> ∃ x, (clo (s.f ++ [none]) t s.ws.length)[i]? = some (some x) := fun {i} hx => by
   unfold clo
   split
   · exact set_some (set_some hx)
   · exact set_some (set_some hx)
  have atE : ∃ x, (clo (s.f ++ [none]) t s.ws.length)[s.ws.length]? = some (some x) := by
   have z : ∃ x, ((s.f ++ [none]).set s.ws.length (some t))[s.ws.length]? = some (some x) := ⟨t, set_at (by omega)⟩
   unfold clo
   split
   · exact set_some z
   · exact set_some z
  have gt : ((s.f ++ [none]).set s.ws.length (some t))[t]? = (s.f ++ [none])[t]? := set_off (by omega)
  have ft : (s.f ++ [none])[t]? = s.f[t]? := List.getElem?_append_left (by rw [B.len]; exact tlt)
  have atT : ∃ x, (clo (s.f ++ [none]) t s.ws.length)[t]? = some (some x) := by
   unfold clo
   rw [gt, ft]
   cases e : s.f[t]? with
   | none => exact absurd (List.getElem?_eq_none_iff.mp e) (by rw [B.len]; omega)
   | some z =>
    cases z with
    | none => exact ⟨_, set_at (by simp [B.len]; omega)⟩
    | some x => exact set_some ⟨x, by rw [gt, ft, e]⟩
  have atX : ∀ x, s.f[t]? = some (some x) -> ∃ y, (clo (s.f ++ [none]) t s.ws.length)[x]? = some (some y) := fun x e => by
   unfold clo
   rw [gt, ft, e]
   have := B.f_lt t x e
   exact ⟨_, set_at (by simp [B.len]; omega)⟩
  have nd2 : (o ++ [t]).Nodup := by rw [← eo]; exact P.nd
  have tno : ∀ u ∈ o, u ≠ t := fun u hu => (List.nodup_append.mp nd2).2.2 u hu t List.mem_cons_self
  have offF : ∀ u ∈ o, u ≠ t -> (clo (s.f ++ [none]) t s.ws.length)[u]? = s.f[u]? := fun u hu ne => by
   have ul := B.o_lt u (om u hu)
   have base : ((s.f ++ [none]).set s.ws.length (some t))[u]? = s.f[u]? := by rw [set_off (by omega), List.getElem?_append_left (by rw [B.len]; exact ul)]
   unfold clo
   rw [gt, ft]
   cases e : s.f[t]? with
   | none => rw [set_off (Ne.symm ne)]; exact base
   | some z =>
    cases z with
    | none => rw [set_off (Ne.symm ne)]; exact base
    | some x =>
     have xe := P.oe t tm x e
     obtain ⟨v, ev, hv⟩ := P.ow u (om u hu)
     have nx : x ≠ u := fun q => by subst q; rw [xe] at ev; cases ev; exact (bne hv).1 rfl
     show (((s.f ++ [none]).set s.ws.length (some t)).set x (some s.ws.length))[u]? = _
     rw [set_off nx]; exact base
  refine ⟨(List.nodup_append.mp nd2).1, fun u hu => ?_, fun u hu x e => ?_, fun i u e hu => ?_, fun i e => ?_, fun i e => ?_⟩
  · obtain ⟨v, e, hv⟩ := P.ow u (om u hu); exact ⟨v, get_left e, hv⟩
  · rw [offF u hu (tno u hu)] at e
    exact get_left (P.oe u (om u hu) x e)
  · rcases get_snoc e with ⟨_, e⟩ | ⟨_, e1⟩
    · rcases P.bl i u e hu with z | ⟨x, z⟩
      · rw [eo] at z
        rcases List.mem_append.mp z with z | z
        · exact .inl z
        · rw [List.mem_singleton.mp z]; exact .inr atT
      · exact .inr (keep ⟨x, get_left z⟩)
    · exact absurd e1 (bne hu).2
  · rcases get_snoc e with ⟨_, e⟩ | ⟨_, e1⟩
    · rcases P.el i e with ⟨x, z⟩ | ⟨u, hu, z⟩
      · exact .inl (keep ⟨x, get_left z⟩)
      · by_cases ne : u = t
        · subst ne; exact .inl (atX i z)
        · rw [eo] at hu
          rcases List.mem_append.mp hu with q | q
          · exact .inr ⟨u, q, by rw [offF u q ne]; exact z⟩
          · exact absurd (List.mem_singleton.mp q) ne
    · exact absurd e1.symm en_el
  · rcases get_snoc e with ⟨_, e⟩ | ⟨e1, _⟩
    · obtain ⟨x, z⟩ := P.en i e; exact keep ⟨x, get_left z⟩
    · rw [e1]; exact atE
 | oth h1 h2 h3 h4 =>
  refine ⟨P.nd, fun t ht => ?_, fun t ht x e => ?_, fun i u e hu => ?_, fun i e => ?_, fun i e => ?_⟩
  · obtain ⟨u, e, hu⟩ := P.ow t ht; exact ⟨u, get_left e, hu⟩
  · rcases get_snoc e with ⟨_, e⟩ | ⟨_, e⟩
    · exact get_left (P.oe t ht x e)
    · cases e
  · rcases get_snoc e with ⟨_, e⟩ | ⟨_, e1⟩
    · rcases P.bl i u e hu with z | ⟨x, z⟩
      · exact .inl z
      · exact .inr ⟨x, get_left z⟩
    · rw [e1] at hu; exact (hu.elim h1 h2).elim
  · rcases get_snoc e with ⟨_, e⟩ | ⟨_, e1⟩
    · rcases P.el i e with ⟨x, z⟩ | ⟨t, ht, z⟩
      · exact .inl ⟨x, get_left z⟩
      · exact .inr ⟨t, ht, get_left z⟩
    · exact absurd e1.symm h3
  · rcases get_snoc e with ⟨_, e⟩ | ⟨_, e1⟩
    · obtain ⟨x, z⟩ := P.en i e; exact ⟨x, get_left z⟩
    · exact absurd e1.symm h4
theorem pinv_run : ∀ (n : Nat) {ws : List Str} {s : Bs}, ws.length = n -> runB ws = some s -> PInv s := by
 intro n
 induction n with
 | zero =>
  intro ws s l h
  have : ws = [] := List.length_eq_zero_iff.mp l
  subst this
  have : s = b0 := (Option.some.inj h).symm
  subst this
  exact ⟨by simp [b0], fun t h => (by cases h), fun t h => (by cases h), fun i w e => (by simp [b0] at e), fun i e => (by simp [b0] at e), fun i e => (by simp [b0] at e)⟩
 | succ n ih =>
  intro ws s l h
  have e : ws = ws.dropLast ++ [ws.getLast (by intro z; subst z; cases l)] := (List.dropLast_concat_getLast _).symm
  rw [e, runB_snoc] at h
  cases e1 : runB ws.dropLast with
  | none => rw [e1] at h; cases h
  | some s1 =>
   rw [e1] at h
   have l1 : ws.dropLast.length = n := by rw [List.length_dropLast]; omega
   exact pinv_step (runB_ok _ rfl e1).1 (ih l1 e1) (stepB_ways h)
theorem partner {ws : List Str} {s : Bs} (h : runB ws = some s) (ho : s.o = []) {i : Nat} {w : Str} (e : ws[i]? = some w) (hw : w = sIf \/ w = sWh \/ w = sEl \/ w = sEn) : ∃ x, s.f[i]? = some (some x) /\ x < ws.length := by
 obtain ⟨B, ew⟩ := runB_ok _ rfl h
 have P := pinv_run _ rfl h
 rw [← ew] at e
 have : ∃ x, s.f[i]? = some (some x) := by
  rcases hw with rfl | rfl | rfl | rfl
  · rcases P.bl i _ e (.inl rfl) with z | z
    · rw [ho] at z; cases z
    · exact z
  · rcases P.bl i _ e (.inr rfl) with z | z
    · rw [ho] at z; cases z
    · exact z
  · rcases P.el i e with z | ⟨t, ht, _⟩
    · exact z
    · rw [ho] at ht; cases ht
  · exact P.en i e
 obtain ⟨x, ex⟩ := this
 exact ⟨x, ex, by have := B.f_lt i x ex; rw [ew] at this; exact this⟩
abbrev wM : Str := Str.ofString "most"
abbrev wL : Str := Str.ofString "least"
abbrev wS : Str := Str.ofString "same"
abbrev wU : Str := Str.ofString "unlike"
theorem ne_lm : wL ≠ wM := by decide +kernel
theorem ne_sm : wS ≠ wM := by decide +kernel
theorem ne_sl : wS ≠ wL := by decide +kernel
theorem ne_um : wU ≠ wM := by decide +kernel
theorem ne_ul : wU ≠ wL := by decide +kernel
theorem ne_us : wU ≠ wS := by decide +kernel
def turnW (w : Str) : Str := if w = wM then wL else if w = wL then wM else if w = wS then wU else wS
def turnC (w : Str) (c : Int) : Int := if w = wM then c + 1 else if w = wL then c - 1 else c
theorem turn_is {v : Str} (h : IsQ v) : IsQ (turnW v) := by
 rcases h with rfl | rfl | rfl | rfl
 · exact .inr (.inl (by simp [turnW]))
 · exact .inl (by simp [turnW, ne_lm])
 · exact .inr (.inr (.inr (by simp [turnW, ne_sm, ne_sl])))
 · exact .inr (.inr (.inl (by simp [turnW, ne_um, ne_ul, ne_us])))
theorem turn_holds {v : Str} (h : IsQ v) (s c : Int) : holdsI (turnW v) s (turnC v c) = !holdsI v s c := by
 rcases h with rfl | rfl | rfl | rfl
 · simp [turnW, turnC, holdsI, ne_lm]; rw [Bool.eq_iff_iff]; simp; omega
 · simp [turnW, turnC, holdsI, ne_lm]; rw [Bool.eq_iff_iff]; simp; omega
 · simp [turnW, turnC, holdsI, ne_sm, ne_sl, ne_um, ne_ul, ne_us]
 · simp [turnW, turnC, holdsI, ne_sm, ne_sl, ne_um, ne_ul, ne_us]
def leadW (ws : List Str) (w : Str) (p i : Nat) : List Nat :=
 if w = sEl \/ (w = sEn /\ ws[p]? = some sWh) then [p] else if w = sWh then [i + 1, p + 1] else if w = sIf then (if ws[p]? = some sEl then [i + 1, p + 1] else [i + 1, p]) else [i + 1]
theorem lead_el (ws : List Str) (p i : Nat) : leadW ws sEl p i = [p] := by unfold leadW; rw [if_pos (.inl rfl)]
theorem lead_en (ws : List Str) (p i : Nat) (h : ws[p]? = some sWh) : leadW ws sEn p i = [p] := by unfold leadW; rw [if_pos (.inr ⟨rfl, h⟩)]
theorem lead_ei (ws : List Str) (p i : Nat) (h : ¬ ws[p]? = some sWh) : leadW ws sEn p i = [i + 1] := by unfold leadW; rw [if_neg (fun z => z.elim en_el fun y => h y.2), if_neg en_wh, if_neg en_if]
theorem lead_wh (ws : List Str) (p i : Nat) : leadW ws sWh p i = [i + 1, p + 1] := by unfold leadW; rw [if_neg (fun z => z.elim (fun e => el_wh e.symm) fun y => en_wh y.1.symm), if_pos rfl]
theorem lead_if (ws : List Str) (p i : Nat) : leadW ws sIf p i = if ws[p]? = some sEl then [i + 1, p + 1] else [i + 1, p] := by unfold leadW; rw [if_neg (fun z => z.elim (fun e => el_if e.symm) fun y => en_if y.1.symm), if_neg (by decide +kernel), if_pos rfl]
theorem lead_ot {ws : List Str} {w : Str} {p i : Nat} (h1 : w ≠ sIf) (h2 : w ≠ sWh) (h3 : w ≠ sEl) (h4 : w ≠ sEn) : leadW ws w p i = [i + 1] := by unfold leadW; rw [if_neg (fun z => z.elim h3 fun y => h4 y.1), if_neg h2, if_neg h1]
def onwD : Rw -> Dd
 | .set k f g c => .put k f g c
 | .ask k lo hi => .ask k lo hi
 | .qu w f g q c => if w = sNe then .keep f g q c else .go
 | .bare _ => .go
def deedN (R : Rw) (t : Nat) : Dd := match R with
 | .set k f g c => .put k f g c
 | .ask k lo hi => .ask k lo hi
 | .qu w f g q c => if w = sCl then .go else if t = 0 then .keep f g q c else .keep f g (turnW q) (turnC q c)
 | .bare _ => .go
def wayL (i : Nat) (R : Rw) : List Nat -> List (Nat × Nat × Dd)
 | [] => []
 | [a] => [(i, a, deedN R 0)]
 | a :: b :: _ => [(i, a, deedN R 0), (i, b, deedN R 1)]
theorem onw_deed {n : Nat} {R : Rw} (h : InW n R) (h1 : R.word ≠ sIf) (h2 : R.word ≠ sWh) : onwD R = deedN R 0 := by
 cases R with
 | set k f g c => rfl
 | ask k lo hi => rfl
 | bare w => rfl
 | qu w f g q c =>
  rcases h.1 with e | e | e | e
  · subst e; simp [onwD, deedN, show sNe ≠ sCl by decide +kernel]
  · subst e; simp [onwD, deedN, show sCl ≠ sNe by decide +kernel]
  · exact absurd e h1
  · exact absurd e h2
theorem deedN_in {n : Nat} {R : Rw} {t : Nat} (h : InW n R) : InD n (deedN R t) := by
 cases R with
 | set k f g c => exact h
 | ask k lo hi => exact h
 | bare w => trivial
 | qu w f g q c =>
  unfold deedN
  dsimp only
  split
  · trivial
  split
  · exact h.2
  · exact ⟨h.2.1, h.2.2.1, turn_is h.2.2.2⟩
def WayAt (Z_Go Z_Keep Z_Put Z_Ask : Addr) (H : Hp) (v : V) (w : Nat × Nat × Dd) : Prop := ∃ p d, v = .ref p /\ H p = some (.tup [.int (w.1 : Nat), .int (w.2.1 : Nat), d]) /\ DeedAt Z_Go Z_Keep Z_Put Z_Ask H d w.2.2
theorem WayAt.same {Z_Go Z_Keep Z_Put Z_Ask : Addr} {H H' : Hp} (s : Same H H') {v : V} {w : Nat × Nat × Dd} : WayAt Z_Go Z_Keep Z_Put Z_Ask H v w -> WayAt Z_Go Z_Keep Z_Put Z_Ask H' v w := fun ⟨p, d, e, h, hd⟩ => ⟨p, d, e, s _ _ h, hd.same s⟩
theorem wayX {Z_Go Z_Keep Z_Put Z_Ask p : Addr} {H H' : Hp} {ws : List V} (hp : H p = some (.lst ws)) (s : SameX p H H') {v : V} {w : Nat × Nat × Dd} : WayAt Z_Go Z_Keep Z_Put Z_Ask H v w -> WayAt Z_Go Z_Keep Z_Put Z_Ask H' v w := fun ⟨b, d, e, h, hd⟩ => ⟨b, d, e, s b _ (ne_of h hp (by intro z; cases z)) h, deedX hp s hd⟩
def sp_turned (K : PySem.W.Frag) : Sp := fun vs H Q _ => ∃ (b : Addr) (f : Int) (g : Option Int) (w : Str) (c : Int), vs = [.ref b] /\ H b = some (.tup [.int f, gV g, .str w, .int c]) /\ ∀ p H', Same H H' -> H' p = some (.tup [.int f, gV g, .str (turnW w), .int (turnC w c)]) -> Q (.ref p) H'
def sp_onward_deed (K : PySem.W.Frag) (Z_Go Z_Keep Z_Put Z_Ask : Addr) : Sp := fun vs H Q _ => ∃ (v : V) (n : Nat) (R : Rw), vs = [v] /\ RwAt H v R /\ InW n R /\ ∀ u H', Same H H' -> DeedAt Z_Go Z_Keep Z_Put Z_Ask H' u (onwD R) -> Q u H'
def sp_parted_ways (K : PySem.W.Frag) (Z_Go Z_Keep Z_Put Z_Ask : Addr) : Sp := fun vs H Q _ => ∃ (b : Addr) (i o : Nat) (f : Int) (g : Option Int) (w : Str) (c : Int), vs = [.int i, .ref b, .int o] /\ H b = some (.tup [.int f, gV g, .str w, .int c]) /\ ∀ p ys H', Same H H' -> H' p = some (.lst ys) -> Paired (WayAt Z_Go Z_Keep Z_Put Z_Ask H') ys [(i, i + 1, .keep f g w c), (i, o, .keep f g (turnW w) (turnC w c))] -> Q (.ref p) H'
def sp_row_if_not (K : PySem.W.Frag) : Sp := fun vs H Q _ => ∃ (r : Addr) (rv : List V) (Rs : List Rw) (p : Nat) (w : Str), vs = [.ref r, .int p] /\ H r = some (.lst rv) /\ Paired (RwAt H) rv Rs /\ (Rs.map Rw.word)[p]? = some w /\ Q (.int ((if w = sEl then p + 1 else p : Nat) : Int)) H
def BlP (ws : List Str) (w : Str) (o : Option Nat) : Prop := (w = sIf \/ w = sWh \/ w = sEl \/ w = sEn) -> ∃ x, o = some x /\ x < ws.length
def sp_ways_from (K : PySem.W.Frag) (Z_Go Z_Keep Z_Put Z_Ask : Addr) : Sp := fun vs H Q _ => ∃ (r : Addr) (rv : List V) (Rs : List Rw) (n i : Nat) (o : Option Nat) (R : Rw), vs = [.ref r, .int i, gN o] /\ H r = some (.lst rv) /\ Paired (RwAt H) rv Rs /\ (∀ R ∈ Rs, InW n R) /\ Rs[i]? = some R /\ BlP (Rs.map Rw.word) R.word o /\ ∀ p ys H', Same H H' -> H' p = some (.lst ys) -> Paired (WayAt Z_Go Z_Keep Z_Put Z_Ask H') ys (wayL i R (leadW (Rs.map Rw.word) R.word (o.getD 0) i)) -> Q (.ref p) H'
def allW (Rs : List Rw) (f : List (Option Nat)) : Nat -> List (Nat × Nat × Dd)
 | 0 => []
 | k + 1 => allW Rs f k ++ wayL k (Rs.getD k (.bare sEn)) (leadW (Rs.map Rw.word) (Rs.getD k (.bare sEn)).word ((f.getD k none).getD 0) k)
theorem lead_len (ws : List Str) (w : Str) (p i : Nat) : (leadW ws w p i).length <= 2 := by
 unfold leadW
 repeat (first | (split; · simp) | split)
 all_goals simp
theorem wayL_len (i : Nat) (R : Rw) {l : List Nat} (h : l.length <= 2) : (wayL i R l).length = l.length := by
 match l, h with
 | [], _ => rfl
 | [a], _ => rfl
 | [a, b], _ => rfl
theorem allW_len (Rs : List Rw) (f : List (Option Nat)) : ∀ k, (allW Rs f k).length <= 2 * k
 | 0 => by simp [allW]
 | k + 1 => by
  have := allW_len Rs f k
  have h2 := lead_len (Rs.map Rw.word) (Rs.getD k (.bare sEn)).word ((f.getD k none).getD 0) k
  simp only [allW, List.length_append, wayL_len k _ h2]
  omega
def sp_ways (K : PySem.W.Frag) (Z_Go Z_Keep Z_Put Z_Ask : Addr) : Sp := fun vs H Q _ => ∃ (r : Addr) (rv : List V) (Rs : List Rw) (n : Nat) (s : Bs), vs = [.ref r] /\ H r = some (.lst rv) /\ Paired (RwAt H) rv Rs /\ (∀ R ∈ Rs, InW n R) /\ runB (Rs.map Rw.word) = some s /\ s.o = [] /\ Rs.length <= 100 /\ ∀ p ys H', Same H H' -> H p = none -> H' p = some (.lst ys) -> Paired (WayAt Z_Go Z_Keep Z_Put Z_Ask H') ys (allW Rs s.f Rs.length) -> Q (.ref p) H'
theorem rw_word {H : Hp} {vs : List V} {Rs : List Rw} {i : Nat} {w : Str} (h : Paired (RwAt H) vs Rs) (e : (Rs.map Rw.word)[i]? = some w) : ∃ a xs, vs[i]? = some (.ref a) /\ H a = some (.tup (.str w :: xs)) := by
 rw [List.getElem?_map] at e
 cases er : Rs[i]? with
 | none => rw [er] at e; cases e
 | some R =>
  rw [er] at e
  obtain ⟨x, ex, h2⟩ := paired_get h er
  obtain ⟨a, xs, rfl, h3⟩ := h2.word
  cases e
  exact ⟨a, xs, ex, h3⟩
def sp__law_spread (K : PySem.W.Frag) : Sp := fun vs H Q _ => ∃ (c k : Int), vs = [.int c, .int k] /\ ∀ z, Q (.int z) H
def sp__law_sum (K : PySem.W.Frag) : Sp := fun vs H Q _ => ∃ (a : Addr) (xs : List Int) (f g : Option Int), vs = [.ref a, gV f, gV g] /\ SqT K H a (xs.map V.int) /\ InG xs.length f /\ InG xs.length g /\ ∀ H', Same H H' -> Q (.int (((fsO f g).map (worthI xs)).sum)) H'
theorem sumO_eq (xs : List Int) (f : Int) (g : Option Int) : ((fsO (some f) g).map (worthI xs)).sum = sumI xs f g := by
 cases g <;> simp [fsO, optL, sumI]
def sp__law_holds (K : PySem.W.Frag) : Sp := fun vs H Q _ => ∃ (a b : Addr) (xs : List Int) (f : Int) (g : Option Int) (w : Str) (c : Int), vs = [.ref a, .ref b] /\ SqT K H a (xs.map V.int) /\ SqT K H b [.int f, gV g, .str w, .int c] /\ InR xs.length f /\ InG xs.length g /\ ∀ H', Same H H' -> Q (.bl (holdsI w (sumI xs f g) c)) H'
def IsWd (w : Str) : Prop := w = sSe \/ w = sAs \/ w = sNe \/ w = sCl \/ w = sIf \/ w = sWh \/ w = sEl \/ w = sEn
def sp__law_word (K : PySem.W.Frag) : Sp := fun vs H Q _ => ∃ (kd : Int) (z : Nat) (room : Int) (r op fo : Addr) (rv : List V) (Rs : List Rw) (s : Bs), vs = [.int kd, .int room, .ref op, .ref r, .ref fo] /\ H r = some (.lst rv) /\ Paired (RwAt H) rv Rs /\ Rs.map Rw.word = s.ws /\ H fo = some (.lst (fV s.f)) /\ H op = some (.lst (nV s.o)) /\ BOk s /\
 0 <= kd /\ room = (z : Int) - (s.ws.length : Int) - (s.o.length : Int) /\ s.ws.length < z /\ s.ws.length + s.o.length <= z /\ ∀ w s' H', Same H H' -> StepB s w s' -> s'.ws.length + s'.o.length <= z -> IsWd w -> Q (.str w) H'
theorem w_two : ∀ w ∈ [sIf, sWh], (w = sIf \/ w = sWh) /\ IsWd w := by
 intro w h
 have : w = sIf \/ w = sWh := by simpa using h
 exact ⟨this, this.elim (fun e => .inr (.inr (.inr (.inr (.inl e))))) fun e => .inr (.inr (.inr (.inr (.inr (.inl e)))))⟩
theorem w_five : ∀ w ∈ [sSe, sSe, sAs, sNe, sCl], w ≠ sIf /\ w ≠ sWh /\ w ≠ sEl /\ w ≠ sEn /\ IsWd w := by
 intro w h
 have : w = sSe \/ w = sAs \/ w = sNe \/ w = sCl := by simpa using h
 rcases this with rfl | rfl | rfl | rfl
 · exact ⟨by decide +kernel, by decide +kernel, by decide +kernel, by decide +kernel, .inl rfl⟩
 · exact ⟨by decide +kernel, by decide +kernel, by decide +kernel, by decide +kernel, .inr (.inl rfl)⟩
 · exact ⟨by decide +kernel, by decide +kernel, by decide +kernel, by decide +kernel, .inr (.inr (.inl rfl))⟩
 · exact ⟨by decide +kernel, by decide +kernel, by decide +kernel, by decide +kernel, .inr (.inr (.inr (.inl rfl)))⟩
def sp__law_row (K : PySem.W.Frag) : Sp := fun vs H Q _ => ∃ (w : Str) (c far : Int) (pt : Addr) (xs : List Int) (n : Nat), vs = [.str w, .ref pt, .int c, .int far] /\ SqT K H pt (xs.map V.int) /\ xs.length = n /\ 1 <= n /\ n <= 6 /\ IsWd w /\ ∀ v R H', Same H H' -> RwAt H' v R -> InW n R -> R.word = w -> Q v H'
theorem pickQ4 (c : Int) : ∃ w : Str, IsQ w /\ atI ([.str (Str.ofString "most"), .str (Str.ofString "least"), .str (Str.ofString "same"), .str (Str.ofString "unlike")] : List V) (c % 4) = some (.str w) := by
 have : c % 4 = 0 \/ c % 4 = 1 \/ c % 4 = 2 \/ c % 4 = 3 := by omega
 rcases this with h | h | h | h <;> rw [h]
 · exact ⟨_, .inl rfl, rfl⟩
 · exact ⟨_, .inr (.inl rfl), rfl⟩
 · exact ⟨_, .inr (.inr (.inl rfl)), rfl⟩
 · exact ⟨_, .inr (.inr (.inr rfl)), rfl⟩
theorem pickLo (c b : Int) (e : Int) (h : 0 <= e) : ∃ lo hi : Ent, atI ([.non, .int b, .non, .int b] : List V) (c % 4) = some (eV lo) /\ atI ([.non, .non, .int b, .int (b + e)] : List V) (c % 4) = some (eV hi) /\ leLH lo hi := by
 have : c % 4 = 0 \/ c % 4 = 1 \/ c % 4 = 2 \/ c % 4 = 3 := by omega
 rcases this with q | q | q | q <;> rw [q]
 · exact ⟨none, none, rfl, rfl, fun l h e => (by cases e)⟩
 · exact ⟨some b, none, rfl, rfl, fun l h _ e => (by cases e)⟩
 · exact ⟨none, some b, rfl, rfl, fun l h e => (by cases e)⟩
 · exact ⟨some b, some (b + e), rfl, rfl, fun l h e1 e2 => by cases e1; cases e2; omega⟩
theorem pickG2 (c g : Int) (h : c % 3 ≠ 0) : ∃ o : Option Int, atI ([.int g, .non] : List V) (c % 3 - 1) = some (gV o) /\ (o = some g \/ o = none) := by
 have : c % 3 = 1 \/ c % 3 = 2 := by omega
 rcases this with q | q <;> rw [q]
 · exact ⟨some g, rfl, .inl rfl⟩
 · exact ⟨none, rfl, .inr rfl⟩
theorem pickG3 (c g : Int) : ∃ o : Option Int, atI ([.int g, .int g, .non] : List V) (c % 3) = some (gV o) /\ (o = some g \/ o = none) := by
 have : c % 3 = 0 \/ c % 3 = 1 \/ c % 3 = 2 := by omega
 rcases this with q | q | q <;> rw [q]
 · exact ⟨some g, rfl, .inl rfl⟩
 · exact ⟨some g, rfl, .inl rfl⟩
 · exact ⟨none, rfl, .inr rfl⟩
theorem inG_of {n : Nat} {g : Int} {o : Option Int} (h : InR n g) (e : o = some g \/ o = none) : InG n o := by
 rcases e with rfl | rfl
 · exact h
 · trivial
theorem cat_with2 {K : PySem.W.Frag} {σ : St} {H : Hp} {Q : VK} {ia : Nat} {a : Addr} {xs : List Int} {k : Nat} {z : Int} {tm tk : TE} (ha : σ[ia]? = some (some (.ref a))) (hk' : ∀ H1, Same H H1 -> ∀ G : VK, G (.int (k : Nat)) H1 -> tk σ H1 G) (hA : SqT K H a (xs.map V.int)) (hk : k < xs.length) (l100 : xs.length <= 100)
  (hm : ∀ H1, Same H H1 -> ∀ G : VK, (∀ H2, Same H1 H2 -> G (.int z) H2) -> tm σ H1 G) (q : ∀ p H', Same H H' -> H' p = some (.tup ((xs.set k z).map V.int)) -> Q (.ref p) H') :
  tOp (rCatA K) (tOp (rCatA K) (tSl (rSlT K) (tVar ia) tNoPart (tPart tk)) (tTup (tCons tm tNil))) (tSl (rSlT K) (tVar ia) (tPart (tOp (rI0 fun i j => .int (i + j)) tk (tC (.int 1)))) tNoPart) σ H Q := by
 have small : ∀ {m : Nat}, m <= 1000 -> m <= sizeLine := fun h => Nat.le_of_lt (small1000 h)
 have ez : cutV (xs.map V.int) (some ((k : Int) + 1)) none = (xs.drop (k + 1)).map V.int := cut_drop (k := k + 1) (by omega)
 refine ⟨_, ha, hk' H (Same.refl _) _ ⟨(k : Int), rfl, a, _, rfl, hA, ?_, fun p1 hp1 => ?_⟩⟩
 · rw [List.length_map, sIx_some (by omega)]
   omega
 have s1 := same_new hp1 (.tup (cutV (xs.map V.int) none (some (k : Int))))
 have e1 : upd H p1 (.tup (cutV (xs.map V.int) none (some (k : Int)))) p1 = some (.tup ((xs.take k).map V.int)) := by rw [upd_same, cut_take (by omega)]
 generalize upd H p1 (.tup (cutV (xs.map V.int) none (some (k : Int)))) = H1 at *
 refine hm H1 s1 _ fun H2 s2 => ?_
 refine ⟨sz 1, fun p2 hp2 => ?_⟩
 have s3 := (s1.trans s2).trans (same_new hp2 (.tup [.int z]))
 have e1' := (same_new hp2 (.tup [.int z])) _ _ (s2 _ _ e1)
 have e2 : upd H2 p2 (.tup [.int z]) p2 = some (.tup [.int z]) := upd_same
 generalize upd H2 p2 (.tup [.int z]) = H3 at *
 have last : ∀ (pa : Addr) (H4 : Hp), Same H H4 -> H4 pa = some (.tup ((xs.take k).map V.int ++ [.int z])) -> tSl (rSlT K) (tVar ia) (tPart (tOp (rI0 fun i j => .int (i + j)) tk (tC (.int 1)))) tNoPart σ H4 fun y H5 => rCatA K (.ref pa) y H5 Q := by
  intro pa H4 s4 e4
  refine ⟨_, ha, hk' H4 s4 _ ⟨_, _, rfl, rfl, _, rfl, a, _, rfl, s4.sqT hA, ?_, fun p3 hp3 => ?_⟩⟩
  · rw [List.length_map, show ((k : Int) + 1) = ((k + 1 : Nat) : Int) from rfl, sIx_some (by omega)]
    omega
  rw [ez]
  have s5 := same_new hp3 (.tup ((xs.drop (k + 1)).map V.int))
  refine .inl ⟨_, p3, _, _, rfl, rfl, SqT.of (s5 _ _ e4), SqT.of upd_same, by simp, small (by simp; omega), fun e => ?_, fun _ p4 hp4 => ?_⟩
  · have es : (xs.set k z).map V.int = (xs.take k).map V.int ++ [V.int z] := by rw [set_parts hk, e, List.append_nil]
    refine q _ _ (s4.trans s5) ?_
    rw [es]
    exact s5 _ _ e4
  · refine q _ _ ((s4.trans s5).trans (same_new hp4 _)) ?_
    rw [upd_same, set_parts hk]
 by_cases h0 : k = 0
 · have e0 : (xs.take k).map V.int = [] := by rw [h0]; rfl
   rw [e0] at e1'
   refine .inr ⟨p1, p2, _, rfl, rfl, SqT.of e1', SqT.of e2, ?_⟩
   exact last p2 H3 s3 (by rw [e0]; exact e2)
 · refine .inl ⟨p1, p2, _, _, rfl, rfl, SqT.of e1', SqT.of e2, (by intro z; have := congrArg List.length z; rw [List.length_map, List.length_take, List.length_nil] at this; omega), small (by simp; omega), fun e => (by cases e), fun _ pp hpp => ?_⟩
   exact last pp _ (s3.trans (same_new hpp _)) upd_same
def loM : Ent -> Int -> Int
 | none, z => z
 | some l, z => if l > z then l else z
def hiM : Ent -> Int -> Int
 | none, m => m
 | some y, m => if y < m then y else m
theorem clampMM {lo hi : Ent} {z : Int} (h : leLH lo hi) : clampI lo hi z = hiM hi (loM lo z) := by
 cases lo with
 | none => cases hi <;> rfl
 | some l =>
  cases hi with
  | none => rfl
  | some y =>
   have := h l y rfl rfl
   show (if z < l then l else if y < z then y else z) = if y < (if l > z then l else z) then y else (if l > z then l else z)
   by_cases h1 : z < l
   · rw [if_pos h1, if_pos h1, if_neg (by omega)]
   · rw [if_neg h1, if_neg h1]
def sp__law_leads (K : PySem.W.Frag) : Sp := fun vs H Q _ => ∃ (r fo : Addr) (rv : List V) (Rs : List Rw) (f : List (Option Nat)) (i : Nat) (w : Str) (o : Option Nat), vs = [.ref r, .ref fo, .int i] /\ H r = some (.lst rv) /\ Paired (RwAt H) rv Rs /\ H fo = some (.lst (fV f)) /\ (Rs.map Rw.word)[i]? = some w /\ f[i]? = some o /\ BlP (Rs.map Rw.word) w o /\ ∀ p H', Same H H' -> H p = none -> H' p = some (.lst (nV (leadW (Rs.map Rw.word) w (o.getD 0) i))) -> Q (.ref p) H'
def sp__law_made (K : PySem.W.Frag) : Sp := fun vs H Q _ => ∃ (v : V) (pt : Addr) (xs : List Int) (num : Int) (t n : Nat) (R : Rw), vs = [v, .int t, .ref pt, .int num] /\ RwAt H v R /\ InW n R /\ H pt = some (.tup (xs.map V.int)) /\ xs.length = n /\ n <= 6 /\ ∀ r H', Same H H' -> PtO H' r (stepI xs num (deedN R t)) -> Q r H'
def sp__law_point_like (K : PySem.W.Frag) : Sp := fun vs H Q _ => ∃ (r u : V) (o : Option (List Int)), vs = [r, u] /\ PtO H r o /\ PtO H u o /\ Q (.bl true) H
def sp__law_program (K : PySem.W.Frag) : Sp := fun vs H Q _ => ∃ (a pt : Addr) (ns xs : List Int) (z n : Nat), vs = [.ref a, .int z, .ref pt] /\ SqL K H a (ns.map V.int) /\ z <= 60 /\ H pt = some (.tup (xs.map V.int)) /\ xs.length = n /\ 1 <= n /\ n <= 6 /\
 ∀ p r fo H' rv Rs s, Same H H' -> H' p = some (.tup [.ref r, .ref fo]) -> H' r = some (.lst rv) -> Paired (RwAt H') rv Rs -> (∀ R ∈ Rs, InW n R) -> H' fo = some (.lst (fV s.f)) -> runB (Rs.map Rw.word) = some s -> s.o = [] -> Rs.length <= 60 -> Q (.ref p) H'
theorem all_snoc {n : Nat} {Rs : List Rw} {R : Rw} (h : ∀ R ∈ Rs, InW n R) (hR : InW n R) : ∀ S ∈ Rs ++ [R], InW n S := fun S hS => by
 rcases List.mem_append.mp hS with z | z
 · exact h S z
 · rw [List.mem_singleton.mp z]; exact hR
def sp__law_kind (K : PySem.W.Frag) (Z_Go Z_Keep Z_Put Z_Ask : Addr) : Sp := fun vs H Q _ => ∃ (v : V) (t n : Nat) (R : Rw), vs = [v, .str R.word] /\ InW n R /\ DeedAt Z_Go Z_Keep Z_Put Z_Ask H v (deedN R t) /\ ∀ H', Same H H' -> Q (.bl true) H'
theorem dt_bl {K : PySem.W.Frag} {H : Hp} {b c : Bool} (e : b = c) : Dt K H (.bool c) (.bl b) := by subst e; rw [Dt]
def TryAt (H : Hp) (v : V) (y : List Int × Int) : Prop := ∃ b pt, v = .ref b /\ H b = some (.tup [.ref pt, .int y.2]) /\ H pt = some (.tup (y.1.map V.int))
theorem TryAt.same {H H' : Hp} (s : Same H H') {v : V} {y : List Int × Int} : TryAt H v y -> TryAt H' v y := fun ⟨b, pt, e, h1, h2⟩ => ⟨b, pt, e, s _ _ h1, s _ _ h2⟩
def askB : Dd -> Bool
 | .ask _ _ _ => true
 | _ => false
theorem askB_deed {n : Nat} {R : Rw} {t : Nat} (h : InW n R) : askB (deedN R t) = decide (V.str R.word = V.str sAs) := by
 cases R with
 | set k f g c => exact (strF (a := sSe) (b := sAs) (by decide +kernel)).symm
 | ask k lo hi => exact (strT sAs).symm
 | qu w f g q c =>
  have e1 : askB (deedN (.qu w f g q c) t) = false := by
   unfold deedN
   dsimp only
   split
   · rfl
   split
   · rfl
   · rfl
  rw [e1]
  rcases h.1 with rfl | rfl | rfl | rfl
  · exact (strF (a := sNe) (b := sAs) (by decide +kernel)).symm
  · exact (strF (a := sCl) (b := sAs) (by decide +kernel)).symm
  · exact (strF (a := sIf) (b := sAs) (by decide +kernel)).symm
  · exact (strF (a := sWh) (b := sAs) (by decide +kernel)).symm
 | bare w =>
  rcases h with rfl | rfl
  · exact (strF (a := sEl) (b := sAs) (by decide +kernel)).symm
  · exact (strF (a := sEn) (b := sAs) (by decide +kernel)).symm
theorem asks_call {K : PySem.W.Frag} {Z_Go Z_Keep Z_Put Z_Ask : Addr} {D : Dd} {σ : St} {H : Hp} {Q : VK} {E : XK} {i : Nat} {d : V} (hd : σ[i]? = some (some d)) (hD : DeedAt Z_Go Z_Keep Z_Put Z_Ask H d D) (k : Q (.bl (askB D)) H) :
  tMeth Z_Go "asks" (sp_Deed_asks K) [] E (tVar i) tNil σ H Q \/ tMeth Z_Keep "asks" (sp_Deed_asks K) [] E (tVar i) tNil σ H Q \/ tMeth Z_Put "asks" (sp_Deed_asks K) [] E (tVar i) tNil σ H Q \/ tMeth Z_Ask "asks" (sp_Ask_asks K) [] E (tVar i) tNil σ H Q := by
 cases D with
 | go =>
  obtain ⟨x, dx, rfl, hx⟩ := hD
  exact .inl ⟨_, hd, x, dx, [], rfl, hx, rfl, _, rfl, k⟩
 | keep f1 g1 w c =>
  obtain ⟨x, dx, qa, rfl, hx, hqa⟩ := hD
  exact .inr (.inl ⟨_, hd, x, dx, _, rfl, hx, noK off_asks _, _, rfl, k⟩)
 | put j f1 g1 c =>
  obtain ⟨x, dx, aa, rfl, hx, haa⟩ := hD
  exact .inr (.inr (.inl ⟨_, hd, x, dx, _, rfl, hx, noP off_asks _ _, _, rfl, k⟩))
 | ask j lo hi =>
  obtain ⟨x, dx, rfl, hx⟩ := hD
  exact .inr (.inr (.inr ⟨_, hd, x, dx, _, rfl, hx, noA off_asks _ _ _, _, rfl, k⟩))
theorem done_call {K : PySem.W.Frag} {Z_Go Z_Keep Z_Put Z_Ask : Addr} {D : Dd} {σ : St} {H : Hp} {Q : VK} {E : XK} {i n : Nat} {d : V} {pt : Addr} {xs : List Int} {num : Int} {ta : TA} (hd : σ[i]? = some (some d)) (hta : ∀ G, G [.ref pt, .int num] H -> ta σ H G) (hD : DeedAt Z_Go Z_Keep Z_Put Z_Ask H d D) (hI : InD n D) (hpt : H pt = some (.tup (xs.map V.int))) (xl : xs.length = n) (n6 : n <= 6) (k : ∀ r H', Same H H' -> PtO H' r (stepI xs num D) -> Q r H') :
  tMeth Z_Go "done" (sp_Go_done K) [] E (tVar i) ta σ H Q \/ tMeth Z_Keep "done" (sp_Keep_done K Z_Keep) [] E (tVar i) ta σ H Q \/ tMeth Z_Put "done" (sp_Put_done K Z_Put) [] E (tVar i) ta σ H Q \/ tMeth Z_Ask "done" (sp_Ask_done K Z_Ask) [] E (tVar i) ta σ H Q := by
 cases D with
 | go =>
  obtain ⟨x, dx, rfl, hx⟩ := hD
  exact .inl ⟨_, hd, x, dx, [], rfl, hx, rfl, hta _ ⟨_, _, _, rfl, k _ H (Same.refl _) ⟨pt, rfl, hpt⟩⟩⟩
 | keep f1 g1 w c =>
  obtain ⟨x, dx, qa, rfl, hx, hqa⟩ := hD
  refine .inr (.inl ⟨_, hd, x, dx, _, rfl, hx, noK off_done _, hta _ ⟨x, dx, qa, pt, xs, f1, g1, w, c, _, rfl, hx, hqa, hpt, by rw [xl]; exact hI.1, by rw [xl]; exact hI.2.1, fun H' sm => k _ H' sm ?_⟩⟩)
  show PtO H' _ (if holdsI w (sumI xs f1 g1) c = true then some xs else none)
  cases holdsI w (sumI xs f1 g1) c with
  | true => exact ⟨pt, rfl, sm _ _ hpt⟩
  | false => rfl
 | put j f1 g1 c =>
  obtain ⟨x, dx, aa, rfl, hx, haa⟩ := hD
  exact .inr (.inr (.inl ⟨_, hd, x, dx, _, rfl, hx, noP off_done _ _, hta _ ⟨x, dx, aa, pt, xs, j, f1, g1, c, _, rfl, hx, haa, hpt, by rw [xl]; exact hI.1, by omega, by rw [xl]; exact hI.2.1, by rw [xl]; exact hI.2.2, fun p H' sm e => k _ H' sm ⟨p, rfl, e⟩⟩⟩))
 | ask j lo hi =>
  obtain ⟨x, dx, rfl, hx⟩ := hD
  exact .inr (.inr (.inr ⟨_, hd, x, dx, _, rfl, hx, noA off_done _ _ _, hta _ ⟨x, dx, pt, xs, j, lo, hi, num, rfl, hx, hpt, by rw [xl]; exact hI.1, by omega, fun p H' sm e => k _ H' sm ⟨p, rfl, e⟩⟩⟩))
def sp__law_way_good (K : PySem.W.Frag) (Z_Go Z_Keep Z_Put Z_Ask : Addr) : Sp := fun vs H Q _ => ∃ (p r tr : Addr) (d : V) (rv tv : List V) (Rs : List Rw) (tts : List (List Int × Int)) (n i to t : Nat) (R : Rw), vs = [.ref p, .ref r, .int i, .int to, .int t, .ref tr] /\ H p = some (.tup [.int (i : Nat), .int (to : Nat), d]) /\ DeedAt Z_Go Z_Keep Z_Put Z_Ask H d (deedN R t) /\ H r = some (.lst rv) /\ Paired (RwAt H) rv Rs /\ Rs[i]? = some R /\ InW n R /\ n <= 6 /\ H tr = some (.lst tv) /\ Paired (TryAt H) tv tts /\ (∀ y ∈ tts, y.1.length = n) /\ ∀ H', Same H H' -> Q (.bl true) H'
def sp__law_ways_good (K : PySem.W.Frag) (Z_Go Z_Keep Z_Put Z_Ask : Addr) : Sp := fun vs H Q _ => ∃ (to r fo tr : Addr) (ys rv tv : List V) (Rs : List Rw) (tts : List (List Int × Int)) (n : Nat) (s : Bs), vs = [.ref to, .ref r, .ref fo, .ref tr] /\ H to = some (.lst ys) /\ Paired (WayAt Z_Go Z_Keep Z_Put Z_Ask H) ys (allW Rs s.f Rs.length) /\ H r = some (.lst rv) /\ Paired (RwAt H) rv Rs /\ (∀ R ∈ Rs, InW n R) /\ H fo = some (.lst (fV s.f)) /\ runB (Rs.map Rw.word) = some s /\ s.o = [] /\ Rs.length <= 60 /\ n <= 6 /\ H tr = some (.lst tv) /\ Paired (TryAt H) tv tts /\ (∀ y ∈ tts, y.1.length = n) /\ ∀ H', Same H H' -> Q (.bl true) H'
theorem allW_pre (Rs : List Rw) (f : List (Option Nat)) {i k : Nat} (h : i <= k) : ∃ r, allW Rs f k = allW Rs f i ++ r := by
 induction k with
 | zero =>
  have : i = 0 := by omega
  subst this
  exact ⟨[], by simp⟩
 | succ k ih =>
  by_cases e : i = k + 1
  · subst e; exact ⟨[], by simp⟩
  · obtain ⟨r, er⟩ := ih (by omega)
    exact ⟨r ++ wayL k (Rs.getD k (.bare sEn)) (leadW (Rs.map Rw.word) (Rs.getD k (.bare sEn)).word ((f.getD k none).getD 0) k), by rw [allW, er, List.append_assoc]⟩
theorem wayL_get {i t a : Nat} {R : Rw} : ∀ {L : List Nat}, L.length <= 2 -> L[t]? = some a -> (wayL i R L)[t]? = some (i, a, deedN R t)
 | [], _, e => by simp at e
 | [b], _, e => by
  cases t with
  | zero => simp at e; subst e; rfl
  | succ t => simp at e
 | [b, c], _, e => by
  match t, e with
  | 0, e => simp at e; subst e; rfl
  | 1, e => simp at e; subst e; rfl
  | t + 2, e => simp at e
 | _ :: _ :: _ :: _, h, _ => by simp at h
theorem allW_get (Rs : List Rw) (f : List (Option Nat)) {i k t a : Nat} (h : i < k) (e : (leadW (Rs.map Rw.word) (Rs.getD i (.bare sEn)).word ((f.getD i none).getD 0) i)[t]? = some a) : (allW Rs f k)[(allW Rs f i).length + t]? = some (i, a, deedN (Rs.getD i (.bare sEn)) t) := by
 obtain ⟨r, er⟩ := allW_pre Rs f (show i + 1 <= k from h)
 have z := wayL_get (i := i) (R := Rs.getD i (.bare sEn)) (lead_len _ _ _ _) e
 rw [er, allW, List.append_assoc, List.getElem?_append_right (by omega), Nat.add_sub_cancel_left, List.getElem?_append_left (List.getElem?_eq_some_iff.mp z).1]
 exact z
theorem allW_succ (Rs : List Rw) (f : List (Option Nat)) (i : Nat) : (allW Rs f (i + 1)).length = (allW Rs f i).length + (leadW (Rs.map Rw.word) (Rs.getD i (.bare sEn)).word ((f.getD i none).getD 0) i).length := by
 rw [allW, List.length_append, wayL_len _ _ (lead_len _ _ _ _)]
theorem drop_rev {ys : List V} {m : Nat} {y : V} (h : ys[m]? = some y) : (ys.drop m).reverse = (ys.drop (m + 1)).reverse ++ [y] := by
 obtain ⟨hm, e⟩ := List.getElem?_eq_some_iff.mp h
 rw [List.drop_eq_getElem_cons hm, List.reverse_cons, e]
theorem us1 {α : Type} : ∀ {us : List α}, us.length = 1 -> ∃ b0, us = [b0]
 | [b0], _ => ⟨b0, rfl⟩
theorem us2 {α : Type} : ∀ {us : List α}, us.length = 2 -> ∃ b0 b1, us = [b0, b1]
 | [b0, b1], _ => ⟨b0, b1, rfl⟩
theorem us3 {α : Type} : ∀ {us : List α}, us.length = 3 -> ∃ b0 b1 b2, us = [b0, b1, b2]
 | [b0, b1, b2], _ => ⟨b0, b1, b2, rfl⟩
theorem us4 {α : Type} : ∀ {us : List α}, us.length = 4 -> ∃ b0 b1 b2 b3, us = [b0, b1, b2, b3]
 | [b0, b1, b2, b3], _ => ⟨b0, b1, b2, b3, rfl⟩
theorem us5 {α : Type} : ∀ {us : List α}, us.length = 5 -> ∃ b0 b1 b2 b3 b4, us = [b0, b1, b2, b3, b4]
 | [b0, b1, b2, b3, b4], _ => ⟨b0, b1, b2, b3, b4, rfl⟩
theorem us6 {α : Type} : ∀ {us : List α}, us.length = 6 -> ∃ b0 b1 b2 b3 b4 b5, us = [b0, b1, b2, b3, b4, b5]
 | [b0, b1, b2, b3, b4, b5], _ => ⟨b0, b1, b2, b3, b4, b5, rfl⟩
section
variable {P : Program} {w : World} {K : PySem.W.Frag} {mg : Str -> Option Value} {base : Heap}
theorem sc_partners : FnScope ["rows", "found", "opened", "at", "row", "word"] ["rows"] (defScope s_partners) := ⟨rfl, rfl, rfl, by decide +kernel, rfl, by decide +kernel, by decide +kernel⟩
theorem sc_may_have_else : FnScope ["rows", "found", "opened"] ["rows", "found", "opened"] (defScope s_may_have_else) := ⟨rfl, rfl, rfl, by decide +kernel, rfl, by decide +kernel, by decide +kernel⟩
theorem sc_close : FnScope ["found", "start", "end"] ["found", "start", "end"] (defScope s_close) := ⟨rfl, rfl, rfl, by decide +kernel, rfl, by decide +kernel, by decide +kernel⟩
theorem sc_below : FnScope ["entry", "number"] ["entry", "number"] (defScope s_below) := ⟨rfl, rfl, rfl, by decide +kernel, rfl, by decide +kernel, by decide +kernel⟩
theorem sc_worth : FnScope ["point", "f", "number"] ["point", "f"] (defScope s_worth) := ⟨rfl, rfl, rfl, by decide +kernel, rfl, by decide +kernel, by decide +kernel⟩
theorem sc_total : FnScope ["point", "forms"] ["point", "forms"] (defScope s_total) := ⟨rfl, rfl, rfl, by decide +kernel, rfl, by decide +kernel, by decide +kernel⟩
theorem sc_with_number : FnScope ["point", "k", "number"] ["point", "k", "number"] (defScope s_with_number) := ⟨rfl, rfl, rfl, by decide +kernel, rfl, by decide +kernel, by decide +kernel⟩
theorem sc_amount_at : FnScope ["point", "amount"] ["point", "amount"] (defScope s_amount_at) := ⟨rfl, rfl, rfl, by decide +kernel, rfl, by decide +kernel, by decide +kernel⟩
theorem sc_amount_forms : FnScope ["amount"] ["amount"] (defScope s_amount_forms) := ⟨rfl, rfl, rfl, by decide +kernel, rfl, by decide +kernel, by decide +kernel⟩
theorem sc_holds : FnScope ["point", "question", "come_to", "word", "c"] ["point", "question"] (defScope s_holds) := ⟨rfl, rfl, rfl, by decide +kernel, rfl, by decide +kernel, by decide +kernel⟩
theorem sc_sum_forms : FnScope ["question"] ["question"] (defScope s_sum_forms) := ⟨rfl, rfl, rfl, by decide +kernel, rfl, by decide +kernel, by decide +kernel⟩
theorem sc_turned : FnScope ["question", "f", "g", "word", "c"] ["question"] (defScope s_turned) := ⟨rfl, rfl, rfl, by decide +kernel, rfl, by decide +kernel, by decide +kernel⟩
theorem sc_Deed_asks : FnScope ["self"] ["self"] (defScope s_Deed_asks) := ⟨rfl, rfl, rfl, by decide +kernel, rfl, by decide +kernel, by decide +kernel⟩
theorem sc_Go_done : FnScope ["self", "point", "number"] ["self", "point", "number"] (defScope s_Go_done) := ⟨rfl, rfl, rfl, by decide +kernel, rfl, by decide +kernel, by decide +kernel⟩
theorem sc_Keep_init : FnScope ["self", "question"] ["self", "question"] (defScope s_Keep_init) := ⟨rfl, rfl, rfl, by decide +kernel, rfl, by decide +kernel, by decide +kernel⟩
theorem sc_Keep_done : FnScope ["self", "point", "number"] ["self", "point", "number"] (defScope s_Keep_done) := ⟨rfl, rfl, rfl, by decide +kernel, rfl, by decide +kernel, by decide +kernel⟩
theorem sc_Put_init : FnScope ["self", "k", "amount"] ["self", "k", "amount"] (defScope s_Put_init) := ⟨rfl, rfl, rfl, by decide +kernel, rfl, by decide +kernel, by decide +kernel⟩
theorem sc_Put_done : FnScope ["self", "point", "number"] ["self", "point", "number"] (defScope s_Put_done) := ⟨rfl, rfl, rfl, by decide +kernel, rfl, by decide +kernel, by decide +kernel⟩
theorem sc_Ask_init : FnScope ["self", "k", "low", "high"] ["self", "k", "low", "high"] (defScope s_Ask_init) := ⟨rfl, rfl, rfl, by decide +kernel, rfl, by decide +kernel, by decide +kernel⟩
theorem sc_Ask_asks : FnScope ["self"] ["self"] (defScope s_Ask_asks) := ⟨rfl, rfl, rfl, by decide +kernel, rfl, by decide +kernel, by decide +kernel⟩
theorem sc_Ask_done : FnScope ["self", "point", "number"] ["self", "point", "number"] (defScope s_Ask_done) := ⟨rfl, rfl, rfl, by decide +kernel, rfl, by decide +kernel, by decide +kernel⟩
theorem sc_Ask_between_ends : FnScope ["self", "number"] ["self", "number"] (defScope s_Ask_between_ends) := ⟨rfl, rfl, rfl, by decide +kernel, rfl, by decide +kernel, by decide +kernel⟩
theorem sc_ways : FnScope ["rows", "found", "at", "partner"] ["rows"] (defScope s_ways) := ⟨rfl, rfl, rfl, by decide +kernel, rfl, by decide +kernel, by decide +kernel⟩
theorem sc_ways_from : FnScope ["rows", "at", "partner", "word"] ["rows", "at", "partner"] (defScope s_ways_from) := ⟨rfl, rfl, rfl, by decide +kernel, rfl, by decide +kernel, by decide +kernel⟩
theorem sc_parted_ways : FnScope ["at", "question", "other"] ["at", "question", "other"] (defScope s_parted_ways) := ⟨rfl, rfl, rfl, by decide +kernel, rfl, by decide +kernel, by decide +kernel⟩
theorem sc_row_if_not : FnScope ["rows", "partner"] ["rows", "partner"] (defScope s_row_if_not) := ⟨rfl, rfl, rfl, by decide +kernel, rfl, by decide +kernel, by decide +kernel⟩
theorem sc_onward_deed : FnScope ["row", "word"] ["row"] (defScope s_onward_deed) := ⟨rfl, rfl, rfl, by decide +kernel, rfl, by decide +kernel, by decide +kernel⟩
theorem sc__law_cell : FnScope ["_law_script", "_law_k", "_law_seed", "_law_some"] ["_law_script", "_law_k"] (defScope s__law_cell) := ⟨rfl, rfl, rfl, by decide +kernel, rfl, by decide +kernel, by decide +kernel⟩
theorem sc__law_spread : FnScope ["_law_cell_here", "_law_k"] ["_law_cell_here", "_law_k"] (defScope s__law_spread) := ⟨rfl, rfl, rfl, by decide +kernel, rfl, by decide +kernel, by decide +kernel⟩
theorem sc__law_whole : FnScope ["_law_found"] ["_law_found"] (defScope s__law_whole) := ⟨rfl, rfl, rfl, by decide +kernel, rfl, by decide +kernel, by decide +kernel⟩
theorem sc__law_big : FnScope ["_law_cell_here"] ["_law_cell_here"] (defScope s__law_big) := ⟨rfl, rfl, rfl, by decide +kernel, rfl, by decide +kernel, by decide +kernel⟩
theorem sc__law_point : FnScope ["_law_script", "_law_at", "_law_count"] ["_law_script", "_law_at", "_law_count"] (defScope s__law_point) := ⟨rfl, rfl, rfl, by decide +kernel, rfl, by decide +kernel, by decide +kernel⟩
theorem sc__law_sum : FnScope ["_law_point_here", "_law_f", "_law_g", "_law_some", "_law_form"] ["_law_point_here", "_law_f", "_law_g"] (defScope s__law_sum) := ⟨rfl, rfl, rfl, by decide +kernel, rfl, by decide +kernel, by decide +kernel⟩
theorem sc__law_holds : FnScope ["_law_point_here", "_law_question", "_law_some"] ["_law_point_here", "_law_question"] (defScope s__law_holds) := ⟨rfl, rfl, rfl, by decide +kernel, rfl, by decide +kernel, by decide +kernel⟩
theorem sc__law_word : FnScope ["_law_kind_here", "_law_room", "_law_opened", "_law_rows", "_law_found"] ["_law_kind_here", "_law_room", "_law_opened", "_law_rows", "_law_found"] (defScope s__law_word) := ⟨rfl, rfl, rfl, by decide +kernel, rfl, by decide +kernel, by decide +kernel⟩
theorem sc__law_row : FnScope ["_law_word_here", "_law_point_here", "_law_cell_here", "_law_far", "_law_forms", "_law_f", "_law_g", "_law_low", "_law_high", "_law_number"] ["_law_word_here", "_law_point_here", "_law_cell_here", "_law_far"] (defScope s__law_row) := ⟨rfl, rfl, rfl, by decide +kernel, rfl, by decide +kernel, by decide +kernel⟩
theorem sc__law_program : FnScope ["_law_script", "_law_size", "_law_point_here", "_law_rows", "_law_found", "_law_opened", "_law_place", "_law_cell_here", "_law_word_here", "_law_head"] ["_law_script", "_law_size", "_law_point_here"] (defScope s__law_program) := ⟨rfl, rfl, rfl, by decide +kernel, rfl, by decide +kernel, by decide +kernel⟩
theorem sc__law_leads : FnScope ["_law_rows", "_law_found", "_law_at", "_law_word_here"] ["_law_rows", "_law_found", "_law_at"] (defScope s__law_leads) := ⟨rfl, rfl, rfl, by decide +kernel, rfl, by decide +kernel, by decide +kernel⟩
theorem sc__law_made : FnScope ["_law_row_here", "_law_turn", "_law_point_here", "_law_number", "_law_some"] ["_law_row_here", "_law_turn", "_law_point_here", "_law_number"] (defScope s__law_made) := ⟨rfl, rfl, rfl, by decide +kernel, rfl, by decide +kernel, by decide +kernel⟩
theorem sc__law_point_like : FnScope ["_law_made_here", "_law_due", "_law_number"] ["_law_made_here", "_law_due"] (defScope s__law_point_like) := ⟨rfl, rfl, rfl, by decide +kernel, rfl, by decide +kernel, by decide +kernel⟩
theorem sc__law_kind : FnScope ["_law_deed", "_law_word_here", "_law_some"] ["_law_deed", "_law_word_here"] (defScope s__law_kind) := ⟨rfl, rfl, rfl, by decide +kernel, rfl, by decide +kernel, by decide +kernel⟩
theorem sc__law_way_good : FnScope ["_law_way", "_law_rows", "_law_at", "_law_to", "_law_turn", "_law_tries", "_law_deed", "_law_point_here", "_law_number", "_law_said"] ["_law_way", "_law_rows", "_law_at", "_law_to", "_law_turn", "_law_tries"] (defScope s__law_way_good) := ⟨rfl, rfl, rfl, by decide +kernel, rfl, by decide +kernel, by decide +kernel⟩
theorem sc__law_ways_good : FnScope ["_law_told", "_law_rows", "_law_found", "_law_tries", "_law_left", "_law_at", "_law_turn", "_law_to"] ["_law_told", "_law_rows", "_law_found", "_law_tries"] (defScope s__law_ways_good) := ⟨rfl, rfl, rfl, by decide +kernel, rfl, by decide +kernel, by decide +kernel⟩
variable {Z_Deed Z_Go Z_Keep Z_Put Z_Ask y3 y4 y8 y7 y10 y9 y2 y0 y1 f_Ask_between_ends : Addr} (T : Kl K mg Z_Deed Z_Go Z_Keep Z_Put Z_Ask y3 y4 y8 y7 y10 y9 y2 y0 y1 f_Ask_between_ends)
include T
theorem ok_partners {f : Addr} {fd : FuncData} (F : Fun K "partners" "partners" s_partners f fd) (m : mg "partners" = some (.ref f)) (B : Bl mg) (D_may_have_else : Def P w K mg base CX0 "may_have_else" 1 ["rows", "found", "opened"] (sp_may_have_else K)) (D_close : Def P w K mg base CX0 "close" 1 ["found", "start", "end"] (sp_close K)) : Def P w K mg base CX0 "partners" 2 ["rows"] (sp_partners K) := by
 refine ⟨f, fd, F.ok sc_partners (fun vs H Q E h => ?_) (fun cdv A outer s H vs Q E hr h => ?_), F.binds (ps := ["rows"]) fun _ _ _ _ _ _ us hl => (by obtain ⟨b0, rfl⟩ := us1 hl; rfl), F.kp, m⟩
 · obtain ⟨a, xs, rs, s1, rfl, _⟩ := h
   rfl
 obtain ⟨a, xs, rs, s1, rfl, ea, hR, hrun, ho, hn, q⟩ := h
 refine ⟨_, (@pss_cons _ _ _ _ _ (ps_setC1 (i := 1) (CompScope1.of (M := ["rows", "found", "opened", "at", "?row", "word"]) (by decide +kernel) (by rfl)) rfl (pi_listK (K := K) rfl (pv 0)) (fun _ _ _ => pe_non) sc_partners.nd rfl (by first | exact Or.inl rfl | exact Or.inr rfl) rfl)
  (@pss_cons _ _ _ _ _ (ps_sz 2 sc_partners.nd (pe_lst pa_nil))
  (@pss_cons _ _ _ _ _ (ps_for PassesOwn.never rfl (pi_enumK (K := K) rfl (by rfl) B.enumerate (pa_Name (pv 0) pa_nil)) (pg_pairK (K := K) rfl rfl (pg_nz 3 sc_partners.nd) (pg_nz 4 sc_partners.nd)) (@pss_cons _ _ _ _ _ (ps_sz 5 sc_partners.nd (pe_xT (K := K) (pv 4) pe_int))
  (pss_one (ps_if (pw_or (pt_cmpR op_eq (pv 5) pe_str (nomark _)) (pw_or1 (pt_cmpR op_eq (pv 5) pe_str (nomark _)))).pt (pss_one (ps_expr (pe_bm PySem.F.plainAttrs_list PySem.F.slot_list_append PySem.F.type_list_append mt_append (pv 2) (pa_Name (pv 3) pa_nil)))) (pss_one (ps_if (pt_cmpR op_eq (pv 5) pe_str (nomark _)) (@pss_cons _ _ _ _ _ (ps_if (pt_not (pt_val (pe_dz D_may_have_else hr (pa_Name (pv 0) (pa_Name (pv 1) (pa_Name (pv 2) pa_nil)))))) pss_never pss_nil)
  (pss_one (ps_asg (pv 3) (pg_sub (pv 1) (pe_xL (K := K) (pv 2) (pe_un un_neg pe_int)) set_list)))) (pss_one (ps_if (pt_cmpR op_eq (pv 5) pe_str (nomark _)) (@pss_cons _ _ _ _ _ (ps_if (pt_cmpR op_eq (pe_callB (call_lenK (K := K) rfl) (by rfl) B.len (by decide +kernel) (pa_Name (pv 2) pa_nil)) pe_int (nomark _)) pss_never pss_nil)
  (pss_one (ps_expr (pe_dz D_close hr (pa_Name (pv 1) (pa_Call (pe_bm0 PySem.F.plainAttrs_list PySem.F.slot_list_pop PySem.F.type_list_pop mt_pop (pv 2)) (pa_Name (pv 3) pa_nil))))))) pss_nil))))))))
  (@pss_cons _ _ _ _ _ (ps_if (pt_cmpR op_gt (pe_callB (call_lenK (K := K) rfl) (by rfl) B.len (by decide +kernel) (pa_Name (pv 2) pa_nil)) pe_int (nomark _)) pss_never pss_nil)
  (pss_one (ps_ret (pv 1))))))), ?_⟩
 have lx : xs.length = rs.length := paired_len hR
 generalize ews : rs.map Prod.fst = ws at *
 have lw : ws.length = rs.length := by rw [← ews]; simp
 refine seq_step fun U hU => ?_
 refine ⟨_, rfl, a, rfl, ⟨_, SqL.of ea⟩, fun p hp => comp_list1 (K := K) (a := a) (xs := xs) (fun i ys H' => ys = fV (List.replicate i none) /\ H' p = some (.lst ys) /\ Same H H') ⟨rfl, upd_same, same_new hp _⟩ (fun i ys H' _ ⟨_, _, sm⟩ => SqL.of (sm _ _ ea)) ?_ ?_⟩
 · rintro i y ys H' hy ⟨rfl, hp', sm⟩
   have hi : i < xs.length := (List.getElem?_eq_some_iff.mp hy).1
   exact ⟨hp', by simp [fV]; exact small1000 (by omega), again hi ⟨by rw [List.replicate_succ']; simp [fV, gN], upd_same, same_over hp sm⟩⟩
 · rintro ys H1 ⟨rfl, ep, sm1⟩
   show U _ _
   subst hU
   refine seq_step fun U hU => ?_
   refine ⟨sz 0, fun o1 ho1 => ?_⟩
   show U _ _
   subst hU
   have nop : o1 ≠ p := Ne.symm (ne_of_none ep ho1)
   have n1 : H o1 = none := sm1.free ho1
   have s2 := same_over n1 (o := .lst []) sm1
   have ep2 : upd H1 o1 (.lst []) p = some (.lst (fV (List.replicate xs.length none))) := by rw [upd_ne (Ne.symm nop)]; exact ep
   have eo2 : upd H1 o1 (.lst []) o1 = some (.lst (nV [])) := upd_same
   generalize upd H1 o1 (.lst []) = H2 at *
   refine seq_step fun U hU => ?_
   refine ⟨_, rfl, a, rfl, ⟨_, SqL.of (s2 _ _ ea)⟩, for_enum (K := K) (a := a) (xs := xs) (fun i σ H' => ∃ (x y z : Option V) (s : Bs), σ = [some (.ref a), some (.ref p), some (.ref o1), x, y, z] /\ Same H H' /\ runB (ws.take i) = some s /\ H' p = some (.lst (fV (s.f ++ List.replicate (xs.length - i) none))) /\ H' o1 = some (.lst (nV s.o))) ⟨none, none, none, b0, rfl, s2, rfl, ep2, eo2⟩ (fun i σ H' _ ⟨_, _, _, _, _, sm, _⟩ => SqL.of (sm _ _ ea)) ?_ ?_⟩
   · rintro i v σ H3 H4 hv ⟨x, y, z, s, rfl, sm3, hs, ep3, eo3⟩ sm4
     have hi : i < xs.length := (List.getElem?_eq_some_iff.mp hv).1
     obtain ⟨s', s2', w, es', ew, st, run'⟩ := runB_pre hrun i (by omega)
     have : s' = s := Option.some.inj (es'.symm.trans hs)
     subst this
     obtain ⟨B, ewt⟩ := runB_ok i (by rw [List.length_take]; omega) hs
     have lws : s'.ws.length = i := by rw [ewt, List.length_take]; omega
     have s34 := sm3.trans sm4
     have ep4 := sm4 _ _ ep3
     have eo4 := sm4 _ _ eo3
     have hR4 := rows_keep (TKeep.of s34) hR
     rw [← ews] at ew
     obtain ⟨ra, rx, er, hra⟩ := rows_word hR4 ew
     rw [ews] at ew
     have : v = .ref ra := Option.some.inj (hv.symm.trans er)
     subst this
     have er2 : List.replicate (xs.length - i) (none : Option Nat) = [none] ++ List.replicate (xs.length - (i + 1)) none := by rw [show xs.length - i = (xs.length - (i + 1)) + 1 by omega, List.replicate_succ]; rfl
     rw [er2, ← List.append_assoc] at ep4
     have lo4 : (nV s'.o).length < sizeLine := by unfold nV; rw [List.length_map]; exact small1000 (by have := B.o_len; omega)
     refine seq_step fun U hU => ?_
     refine ⟨_, rfl, ra, _, (0 : Int), _, rfl, rfl, SqT.of hra, at0 _ _, ?_⟩
     show U _ _
     subst hU
     cases st with
     | opn h =>
      have done : Same H (upd H4 o1 (.lst (nV s'.o ++ [.int (i : Nat)]))) := same_over n1 s34
      have fin : ∀ z, ∃ x y z' s, [some (V.ref a), some (.ref p), some (.ref o1), some (.int (i : Nat)), some (.ref ra), z] = [some (.ref a), some (.ref p), some (.ref o1), x, y, z'] /\ Same H (upd H4 o1 (.lst (nV s'.o ++ [.int (i : Nat)]))) /\ runB (ws.take (i + 1)) = some s /\ upd H4 o1 (.lst (nV s'.o ++ [.int (i : Nat)])) p = some (.lst (fV (s.f ++ List.replicate (xs.length - (i + 1)) none))) /\ upd H4 o1 (.lst (nV s'.o ++ [.int (i : Nat)])) o1 = some (.lst (nV s.o)) :=
       fun z => ⟨_, _, _, _, rfl, done, run', by rw [upd_ne (Ne.symm nop)]; exact ep4, by rw [upd_same, lws]; simp [nV]⟩
      refine ⟨_, rfl, rfl, _, rfl, ?_⟩
      rcases h with h | h
      · rw [decide_eq_true (show V.str w = V.str sIf by rw [h])]
        refine iteT ?_
        refine iteT ?_
        exact ⟨_, rfl, .inl ⟨rfl, _, SqL.of eo4⟩, _, rfl, o1, _, _, rfl, rfl, eo4, lo4, fin _⟩
      · rw [decide_eq_false (show ¬ V.str w = V.str sIf from fun e => (show sWh ≠ sIf by decide +kernel) (h.symm.trans (V.str.inj e)))]
        refine iteF ?_
        refine ⟨_, rfl, rfl, _, rfl, ?_⟩
        rw [decide_eq_true (show V.str w = V.str sWh by rw [h])]
        refine iteT ?_
        exact ⟨_, rfl, .inl ⟨rfl, _, SqL.of eo4⟩, _, rfl, o1, _, _, rfl, rfl, eo4, lo4, fin _⟩
     | els h o t eo h1 h2 =>
      subst h
      refine ⟨_, rfl, rfl, _, rfl, ?_⟩
      rw [decide_eq_false (show ¬ V.str sEl = V.str sIf from fun e => el_if (V.str.inj e))]
      refine iteF ?_
      refine ⟨_, rfl, rfl, _, rfl, ?_⟩
      rw [decide_eq_false (show ¬ V.str sEl = V.str sWh from fun e => el_wh (V.str.inj e))]
      refine iteF ?_
      refine ⟨_, rfl, rfl, _, rfl, ?_⟩
      rw [decide_eq_true (show V.str sEl = V.str sEl from rfl)]
      refine iteT ?_
      rw [eo] at eo4
      have ht : t < i := by have := B.o_lt t (by rw [eo]; simp); omega
      have lf : s'.f.length = i := by rw [B.len, lws]
      have g2 : (s'.f ++ [none] ++ List.replicate (xs.length - (i + 1)) none)[t]? = some none := by rw [List.append_assoc, List.getElem?_append_left (by omega)]; exact h2
      refine seq_step fun U hU => ?_
      refine ⟨_, rfl, _, rfl, _, rfl, a, p, o1, xs, _, o, t, rs, rfl, SqL.of (s34 _ _ ea), hR4, ep4, eo4, ?_, g2, ?_⟩
      · rw [ews]
        rw [ewt, List.getElem?_take, if_pos ht] at h1
        exact h1
      refine ⟨true, rfl, ?_⟩
      refine iteF ?_
      show U _ _
      subst hU
      have el : nV (o ++ [t]) = nV o ++ [.int (t : Nat)] := by simp [nV]
      have at1 : atI (nV (o ++ [t])) (-1) = some (.int (t : Nat)) := by rw [el]; exact at_last _ _
      refine ⟨_, rfl, _, rfl, _, rfl, (1 : Int), rfl, o1, _, _, _, rfl, rfl, SqL.of eo4, at1, p, _, _, t, rfl, rfl, ep4, ix_nat (by simp [fV]; omega), ?_⟩
      refine ⟨_, _, _, _, rfl, same_over hp s34, run', ?_, by rw [upd_ne nop]; rw [eo]; exact eo4⟩
      rw [upd_same]
      show some (HO.lst ((List.map gN _).set t (gN (some i)))) = _
      rw [map_set, List.set_append_left _ _ (by simp; omega), lws]
      rfl
     | fin h o t eo =>
      subst h
      refine ⟨_, rfl, rfl, _, rfl, ?_⟩
      rw [decide_eq_false (show ¬ V.str sEn = V.str sIf from fun e => en_if (V.str.inj e))]
      refine iteF ?_
      refine ⟨_, rfl, rfl, _, rfl, ?_⟩
      rw [decide_eq_false (show ¬ V.str sEn = V.str sWh from fun e => en_wh (V.str.inj e))]
      refine iteF ?_
      refine ⟨_, rfl, rfl, _, rfl, ?_⟩
      rw [decide_eq_false (show ¬ V.str sEn = V.str sEl from fun e => en_el (V.str.inj e))]
      refine iteF ?_
      refine ⟨_, rfl, rfl, _, rfl, ?_⟩
      rw [decide_eq_true (show V.str sEn = V.str sEn from rfl)]
      refine iteT ?_
      rw [eo] at eo4
      have ht : t < i := by have := B.o_lt t (by rw [eo]; simp); omega
      have lf : s'.f.length = i := by rw [B.len, lws]
      have el : nV (o ++ [t]) = nV o ++ [.int (t : Nat)] := by simp [nV]
      rw [el] at eo4
      refine seq_step fun U hU => ?_
      refine ⟨_, rfl, o1, _, rfl, .inl (SqL.of eo4), rfl, _, rfl, ?_⟩
      rw [decide_eq_false (show ¬ V.int ((nV o ++ [V.int (t : Nat)]).length : Nat) = V.int 0 from fun e => (by have := V.int.inj e; simp at this; omega))]
      refine iteF ?_
      show U _ _
      subst hU
      refine ⟨_, rfl, _, rfl, .inl ⟨rfl, _, SqL.of eo4⟩, o1, _, _, rfl, rfl, eo4, (by simp : (nV o ++ [V.int (t : Nat)])[(nV o ++ [V.int (t : Nat)]).length - 1]? = some (.int (t : Nat))), ?_⟩
      rw [List.dropLast_concat]
      refine ⟨_, rfl, p, s'.f ++ [none] ++ List.replicate (xs.length - (i + 1)) none, t, i, rfl, by rw [upd_ne (Ne.symm nop)]; exact ep4, ?_, by simp; omega, by simp; omega, fun H5 o5 e5 => ?_⟩
      · intro j x e
        have : x < i + 1 := by
         by_cases hj : j < (s'.f ++ [none]).length
         · rw [List.getElem?_append_left hj] at e
           have := snoc_lt B.f_lt j x e
           omega
         · rw [List.getElem?_append_right (by omega), List.getElem?_replicate] at e
           split at e <;> cases e
        simp
        omega
      refine ⟨_, _, _, _, rfl, o5.same hp (same_over n1 s34), run', ?_, by rw [o5 _ nop, upd_same]⟩
      rw [e5, clo_app (n := i + 1) (by simp [lf]) (by have := snoc_lt B.f_lt; rw [lws] at this; exact this) (by omega) (by omega), lws]
     | oth h1 h2 h3 h4 =>
      refine ⟨_, rfl, rfl, _, rfl, ?_⟩
      rw [decide_eq_false (show ¬ V.str w = V.str sIf from fun e => h1 (V.str.inj e))]
      refine iteF ?_
      refine ⟨_, rfl, rfl, _, rfl, ?_⟩
      rw [decide_eq_false (show ¬ V.str w = V.str sWh from fun e => h2 (V.str.inj e))]
      refine iteF ?_
      refine ⟨_, rfl, rfl, _, rfl, ?_⟩
      rw [decide_eq_false (show ¬ V.str w = V.str sEl from fun e => h3 (V.str.inj e))]
      refine iteF ?_
      refine ⟨_, rfl, rfl, _, rfl, ?_⟩
      rw [decide_eq_false (show ¬ V.str w = V.str sEn from fun e => h4 (V.str.inj e))]
      refine iteF ?_
      exact ⟨_, _, _, _, rfl, s34, run', ep4, eo4⟩
   · rintro σ H3 ⟨x, y, z, s, rfl, sm3, hs, ep3, eo3⟩
     show U _ _
     subst hU
     have et : ws.take xs.length = ws := List.take_of_length_le (by omega)
     rw [et, hrun] at hs
     have : s1 = s := Option.some.inj hs
     subst this
     rw [ho] at eo3
     refine seq_step fun U hU => ?_
     refine ⟨_, rfl, o1, _, rfl, .inl (SqL.of eo3), _, _, rfl, rfl, _, rfl, ?_⟩
     refine iteF ?_
     show U _ _
     subst hU
     refine ⟨_, rfl, q p H3 sm3 hp ?_⟩
     rw [ep3, Nat.sub_self]
     simp
theorem ok_may_have_else {f : Addr} {fd : FuncData} (F : Fun K "may_have_else" "may_have_else" s_may_have_else f fd) (m : mg "may_have_else" = some (.ref f)) (B : Bl mg)  : Def P w K mg base CX0 "may_have_else" 1 ["rows", "found", "opened"] (sp_may_have_else K) := by
 refine ⟨f, fd, F.ok sc_may_have_else (fun vs H Q E h => ?_) (fun cdv A outer s H vs Q E hr h => ?_), F.binds (ps := ["rows", "found", "opened"]) fun _ _ _ _ _ _ us hl => (by obtain ⟨b0, b1, b2, rfl⟩ := us3 hl; rfl), F.kp, m⟩
 · obtain ⟨a, p, q1, xs, f1, o1, t1, rs, rfl, _⟩ := h
   rfl
 obtain ⟨a, p, q1, xs, f1, o1, t1, rs, rfl, hA, hR, ep, eq1, h1, h2, q⟩ := h
 refine ⟨_, (pss_one (ps_ret (pe_and (pe_cmpR op_gt (pe_callB (call_lenK (K := K) rfl) (by rfl) B.len (by decide +kernel) (pa_Name (pv 2) pa_nil)) pe_int (nomark _)) (pe_and (pe_cmpR op_eq (pe_xT (K := K) (pe_xL (K := K) (pv 0) (pe_xL (K := K) (pv 2) (pe_un un_neg pe_int))) pe_int) pe_str (nomark _)) (pe_one (pe_cmpR op_isN (pe_xL (K := K) (pv 1) (pe_xL (K := K) (pv 2) (pe_un un_neg pe_int))) pe_non (nomark _))))))), ?_⟩
 have el : nV (o1 ++ [t1]) = nV o1 ++ [.int (t1 : Nat)] := by simp [nV]
 obtain ⟨ra, rx, er, hra⟩ := rows_word hR h1
 have lq : (nV (o1 ++ [t1])).length = o1.length + 1 := by rw [el]; simp [nV]
 have at1 : atI (nV (o1 ++ [t1])) (-1) = some (.int (t1 : Nat)) := by rw [el]; exact at_last _ _
 refine ⟨_, rfl, q1, _, rfl, .inl (SqL.of eq1), _, _, rfl, rfl, _, rfl, ?_⟩
 rw [decide_eq_true (show (0 : Int) < ((nV (o1 ++ [t1])).length : Int) by rw [lq]; omega)]
 refine iteT ?_
 refine ⟨_, rfl, _, rfl, (1 : Int), rfl, q1, _, _, _, rfl, rfl, SqL.of eq1, at1, a, _, _, _, rfl, rfl, hA, at_nat er, ra, _, (0 : Int), _, rfl, rfl, SqT.of hra, at0 _ _, rfl, _, rfl, ?_⟩
 rw [decide_eq_true (show V.str sIf = V.str sIf from rfl)]
 refine iteT ?_
 refine ⟨_, rfl, _, rfl, (1 : Int), rfl, q1, _, _, _, rfl, rfl, SqL.of eq1, at1, p, _, _, _, rfl, rfl, SqL.of ep, gN_get h2, rfl, q⟩
theorem ok_close {f : Addr} {fd : FuncData} (F : Fun K "close" "close" s_close f fd) (m : mg "close" = some (.ref f)) (B : Bl mg)  : Def P w K mg base CX0 "close" 1 ["found", "start", "end"] (sp_close K) := by
 refine ⟨f, fd, F.ok sc_close (fun vs H Q E h => ?_) (fun cdv A outer s H vs Q E hr h => ?_), F.binds (ps := ["found", "start", "end"]) fun _ _ _ _ _ _ us hl => (by obtain ⟨b0, b1, b2, rfl⟩ := us3 hl; rfl), F.kp, m⟩
 · obtain ⟨p, f1, t1, e1, rfl, _⟩ := h
   rfl
 obtain ⟨p, f1, t1, e1, rfl, ep, hf, ht, he, q⟩ := h
 refine ⟨_, (@pss_cons _ _ _ _ _ (ps_asg (pv 1) (pg_sub (pv 0) (pv 2) set_list))
  (pss_one (ps_if (pt_cmpR op_isN (pe_xL (K := K) (pv 0) (pv 1)) pe_non (nomark _)) (pss_one (ps_asg (pv 2) (pg_sub (pv 0) (pv 1) set_list))) (pss_one (ps_asg (pv 2) (pg_sub (pv 0) (pe_xL (K := K) (pv 0) (pv 1)) set_list)))))), ?_⟩
 have lf : (fV f1).length = f1.length := List.length_map _
 refine seq_step fun U hU => ?_
 refine ⟨_, rfl, _, rfl, _, rfl, p, _, _, e1, rfl, rfl, ep, (by rw [lf]; exact ix_nat he), ?_⟩
 show U _ _
 subst hU
 have e2 : upd H p (.lst ((fV f1).set e1 (.int (t1 : Nat)))) p = some (.lst (fV (f1.set e1 (some t1)))) := by rw [upd_same]; show some (HO.lst ((f1.map gN).set e1 (gN (some t1)))) = _; rw [map_set]; rfl
 have o2 : Only p H (upd H p (.lst ((fV f1).set e1 (.int (t1 : Nat))))) := Only.put
 generalize upd H p (.lst ((fV f1).set e1 (.int (t1 : Nat)))) = H2 at *
 have l2 : (f1.set e1 (some t1)).length = f1.length := List.length_set
 have h2 := set_lt (j := e1) hf ht
 unfold clo at q
 generalize f1.set e1 (some t1) = f2 at *
 have lf2 : (fV f2).length = f2.length := List.length_map _
 have et : f2[t1]? = some f2[t1] := List.getElem?_eq_getElem (by omega)
 generalize f2[t1] = z at et
 refine ⟨_, rfl, _, rfl, p, _, _, _, rfl, rfl, SqL.of e2, gN_get et, rfl, _, rfl, ?_⟩
 rw [et] at q
 cases z with
 | none =>
  refine iteT ?_
  refine ⟨_, rfl, _, rfl, _, rfl, p, _, _, t1, rfl, rfl, e2, (by rw [lf2]; exact ix_nat (by omega)), ?_⟩
  refine q _ (fun b h => (upd_ne h).trans (o2 b h)) ?_
  rw [upd_same]
  show some (HO.lst ((f2.map gN).set t1 (gN (some e1)))) = _
  rw [map_set]
  rfl
 | some x =>
  refine iteF ?_
  have hx := h2 t1 x et
  refine ⟨_, rfl, _, rfl, _, rfl, _, rfl, p, _, _, _, rfl, rfl, SqL.of e2, gN_get et, p, _, _, x, rfl, rfl, e2, (by rw [lf2]; exact ix_nat (by omega)), ?_⟩
  refine q _ (fun b h => (upd_ne h).trans (o2 b h)) ?_
  rw [upd_same]
  show some (HO.lst ((f2.map gN).set x (gN (some e1)))) = _
  rw [map_set]
  rfl
theorem ok_below {f : Addr} {fd : FuncData} (F : Fun K "below" "below" s_below f fd) (m : mg "below" = some (.ref f)) (B : Bl mg)  : Def P w K mg base CX0 "below" 1 ["entry", "number"] (sp_below K) := by
 refine ⟨f, fd, F.ok sc_below (fun vs H Q E h => ?_) (fun cdv A outer s H vs Q E hr h => ?_), F.binds (ps := ["entry", "number"]) fun _ _ _ _ _ _ us hl => (by obtain ⟨b0, b1, rfl⟩ := us2 hl; rfl), F.kp, m⟩
 · obtain ⟨e, z, rfl, _⟩ := h
   rfl
 obtain ⟨e, z, rfl, q⟩ := h
 refine ⟨_, (pss_one (ps_ret (pe_and (pe_cmpR op_notN (pv 0) pe_non (nomark _)) (pe_one (pe_cmpR op_lt (pv 0) (pv 1) (nomark _)))))), ?_⟩
 cases e with
 | none => simp [tSeq, tNext, tIfS, tRet, tAsg, gName, tTest, tOp, tUn, tVar, tC, rI, rI0, rU, rEq, rNe, scal, L2.start, tCall, tCB, tNil, tCons, tTup, tLst, tNot, tAnd, tOr, tAndV, tOrV, tNotV, tIf, tDrop, CDiv, tB, rIxT, rIxL, tSl, tPart, tNoPart, tYes, CPow, eV]; exact q
 | some x => simp [tSeq, tNext, tIfS, tRet, tAsg, gName, tTest, tOp, tUn, tVar, tC, rI, rI0, rU, rEq, rNe, scal, L2.start, tCall, tCB, tNil, tCons, tTup, tLst, tNot, tAnd, tOr, tAndV, tOrV, tNotV, tIf, tDrop, CDiv, tB, rIxT, rIxL, tSl, tPart, tNoPart, tYes, CPow, eV]; exact q
theorem ok_worth {f : Addr} {fd : FuncData} (F : Fun K "worth" "worth" s_worth f fd) (m : mg "worth" = some (.ref f)) (B : Bl mg)  : Def P w K mg base CX0 "worth" 1 ["point", "f"] (sp_worth K) := by
 refine ⟨f, fd, F.ok sc_worth (fun vs H Q E h => ?_) (fun cdv A outer s H vs Q E hr h => ?_), F.binds (ps := ["point", "f"]) fun _ _ _ _ _ _ us hl => (by obtain ⟨b0, b1, rfl⟩ := us2 hl; rfl), F.kp, m⟩
 · obtain ⟨a, ns, f, rfl, _⟩ := h
   rfl
 obtain ⟨a, ns, f, rfl, hS, h0, h1, q⟩ := h
 refine ⟨_, (@pss_cons _ _ _ _ _ (ps_sz 2 sc_worth.nd (pe_xT (K := K) (pv 0) (pe_op op_fdiv (pv 1) pe_int)))
  (@pss_cons _ _ _ _ _ (ps_if (pt_cmpR op_eq (pe_op op_mod (pv 1) pe_int) pe_int (nomark _)) (pss_one (ps_ret (pv 2))) pss_nil)
  (pss_one (ps_ret (pe_un un_neg (pv 2)))))), ?_⟩
 simp [tSeq, tNext, tIfS, tRet, tAsg, gName, tTest, tOp, tUn, tVar, tC, rI, rI0, rU, rEq, rNe, scal, L2.start, tCall, tCB, tNil, tCons, tTup, tLst, tNot, tAnd, tOr, tAndV, tOrV, tNotV, tIf, tDrop, CDiv, tB, rIxT, rIxL, tSl, tPart, tNoPart, tYes, CPow]
 refine ⟨_, hS, _, atI_int (by omega) (by omega), ?_⟩
 simp
 unfold worthI at q
 split at q
 · rw [if_pos ‹_›]; exact q
 · rw [if_neg ‹_›]; exact q
theorem ok_total {f : Addr} {fd : FuncData} (F : Fun K "total" "total" s_total f fd) (m : mg "total" = some (.ref f)) (B : Bl mg) (D_worth : Def P w K mg base CX0 "worth" 1 ["point", "f"] (sp_worth K)) : Def P w K mg base CX0 "total" 2 ["point", "forms"] (sp_total K) := by
 refine ⟨f, fd, F.ok sc_total (fun vs H Q E h => ?_) (fun cdv A outer s H vs Q E hr h => ?_), F.binds (ps := ["point", "forms"]) fun _ _ _ _ _ _ us hl => (by obtain ⟨b0, b1, rfl⟩ := us2 hl; rfl), F.kp, m⟩
 · obtain ⟨a, b, xs, fs, rfl, _⟩ := h
   rfl
 obtain ⟨a, b, xs, fs, rfl, hP, hF, hin, hz, q⟩ := h
 refine ⟨_, (pss_one (ps_ret (pe_callB (call_sumLK (K := K) rfl rfl) (by rfl) B.sum (by decide +kernel) (pa_cons (pe_comp (CompScope.of sc_total.nd (by rfl)) rfl (pi_listK (K := K) rfl (pv 1)) (fun _ _ _ => pif_nil) (fun _ _ _ => (pe_dz D_worth hr (pa_Name (pv 1) (pa_Name (pv 0) pa_nil))))) pa_nil)))), ?_⟩
 refine ⟨_, rfl, b, rfl, ⟨_, hF⟩, fun p hp => comp_listN (K := K) (a := b) (xs := fs.map V.int) (fun i ys H' => ys = ((fs.take i).map (worthI xs)).map V.int /\ H' p = some (.lst ys) /\ Same H H') ⟨by simp, upd_same, same_new hp _⟩ (fun i ys H' _ ⟨_, _, sm⟩ => sm.seq hF) ?_ ?_⟩
 · rintro i y ys H' hi ⟨rfl, hp', sm⟩
   have hil : i < fs.length := by
    have := (List.getElem?_eq_some_iff.mp hi).1
    rwa [List.length_map] at this
   have ey : y = .int fs[i] := by
    rw [List.getElem?_map, List.getElem?_eq_getElem hil] at hi
    exact (Option.some.inj hi).symm
   subst ey
   have hr' := hin _ (List.getElem_mem hil)
   simp [tSeq, tNext, tIfS, tRet, tAsg, gName, tTest, tOp, tUn, tVar, tC, rI, rI0, rU, rEq, rNe, scal, L2.start, tCall, tCB, tNil, tCons, tTup, tLst, tNot, tAnd, tOr, tAndV, tOrV, tNotV, tIf, tDrop, CDiv, tB, rIxT, rIxL, tSl, tPart, tNoPart, tYes, CPow, sp_worth]
   refine ⟨_, _, _, ⟨rfl, rfl⟩, sm.sqT hP, hr'.1, hr'.2, by simpa using hp', ?_, ?_⟩
   · exact Nat.lt_of_le_of_lt (Nat.min_le_left _ _) (small1000 (by omega))
   · refine ⟨fs.length - (i + 1), by omega, rfl, by omega, ?_, ?_, fun c o e => ?_⟩
     · rw [List.take_add_one, List.getElem?_map, List.getElem?_eq_getElem hil]; simp
     · rw [upd_same]
     · rw [upd_ne (fun z => by subst z; rw [hp] at e; cases e)]
       exact sm c o e
 · rintro ys H' ⟨rfl, hp', sm⟩
   rw [List.length_map, List.take_length] at hp'
   exact ⟨p, fs.map (worthI xs), rfl, SqL.of hp', q H' sm⟩
theorem ok_with_number {f : Addr} {fd : FuncData} (F : Fun K "with_number" "with_number" s_with_number f fd) (m : mg "with_number" = some (.ref f)) (B : Bl mg)  : Def P w K mg base CX0 "with_number" 1 ["point", "k", "number"] (sp_with_number K) := by
 refine ⟨f, fd, F.ok sc_with_number (fun vs H Q E h => ?_) (fun cdv A outer s H vs Q E hr h => ?_), F.binds (ps := ["point", "k", "number"]) fun _ _ _ _ _ _ us hl => (by obtain ⟨b0, b1, b2, rfl⟩ := us3 hl; rfl), F.kp, m⟩
 · obtain ⟨a, xs, k, z, rfl, _⟩ := h
   rfl
 obtain ⟨a, xs, k, z, rfl, hA, hk, l100, q⟩ := h
 refine ⟨_, (pss_one (ps_ret (pe_op (op_catTA (K := K) rfl) (pe_op (op_catTA (K := K) rfl) (pe_slice (sl_tupK (K := K) rfl) (pv 0) po_none (po_some (pv 1))) (pe_tup (pa_Name (pv 2) pa_nil))) (pe_slice (sl_tupK (K := K) rfl) (pv 0) (po_some (pe_op op_add (pv 1) pe_int)) po_none)))), ?_⟩
 have small : ∀ {m : Nat}, m <= 1000 -> m <= sizeLine := fun h => Nat.le_of_lt (small1000 h)
 refine ⟨_, rfl, _, rfl, (k : Int), rfl, a, _, rfl, hA, ?_, fun p1 hp1 => ?_⟩
 · rw [List.length_map, sIx_some (by omega)]
   omega
 have s1 := same_new hp1 (.tup (cutV (xs.map V.int) none (some (k : Int))))
 have e1 : upd H p1 (.tup (cutV (xs.map V.int) none (some (k : Int)))) p1 = some (.tup ((xs.take k).map V.int)) := by rw [upd_same, cut_take (by omega)]
 refine ⟨_, rfl, sz 1, fun p2 hp2 => ?_⟩
 have s2 := same_new hp2 (.tup [.int z])
 have s12 := s1.trans s2
 by_cases h0 : k = 0
 · have e0 : (xs.take k).map V.int = [] := by rw [h0]; rfl
   rw [e0] at e1
   refine .inr ⟨p1, p2, _, rfl, rfl, SqT.of (s2 _ _ e1), SqT.of upd_same, ?_⟩
   have e2 : upd (upd H p1 (.tup (cutV (xs.map V.int) none (some (k : Int))))) p2 (.tup [.int z]) p2 = some (.tup ((xs.take k).map V.int ++ [.int z])) := by rw [upd_same, e0]; rfl
   have ez : cutV (xs.map V.int) (some ((k : Int) + 1)) none = (xs.drop (k + 1)).map V.int := cut_drop (k := k + 1) (by omega)
   refine ⟨_, rfl, _, rfl, _, _, rfl, rfl, _, rfl, a, _, rfl, s12.sqT hA, ?_, fun p3 hp3 => ?_⟩
   · rw [List.length_map, show ((k : Int) + 1) = ((k + 1 : Nat) : Int) from rfl, sIx_some (by omega)]
     omega
   rw [ez]
   have s3 := same_new hp3 (.tup ((xs.drop (k + 1)).map V.int))
   refine .inl ⟨_, p3, _, _, rfl, rfl, SqT.of (s3 _ _ e2), SqT.of upd_same, by simp, small (by simp; omega), fun e => ?_, fun _ p4 hp4 => ?_⟩
   · have es : (xs.set k z).map V.int = (xs.take k).map V.int ++ [V.int z] := by rw [set_parts hk, e, List.append_nil]
     refine q _ _ (s12.trans s3) ?_
     rw [es]
     exact s3 _ _ e2
   · refine q _ _ ((s12.trans s3).trans (same_new hp4 _)) ?_
     rw [upd_same, set_parts hk]
 · refine .inl ⟨p1, p2, _, _, rfl, rfl, SqT.of (s2 _ _ e1), SqT.of upd_same, (by intro z; have := congrArg List.length z; rw [List.length_map, List.length_take, List.length_nil] at this; omega), small (by simp; omega), fun e => (by cases e), fun _ pp hpp => ?_⟩
   have s13 := s12.trans (same_new hpp (.tup ((xs.take k).map V.int ++ [.int z])))
   have e2 : upd (upd (upd H p1 (.tup (cutV (xs.map V.int) none (some (k : Int))))) p2 (.tup [.int z])) pp (.tup ((xs.take k).map V.int ++ [.int z])) pp = some (.tup ((xs.take k).map V.int ++ [.int z])) := upd_same
   have ez : cutV (xs.map V.int) (some ((k : Int) + 1)) none = (xs.drop (k + 1)).map V.int := cut_drop (k := k + 1) (by omega)
   refine ⟨_, rfl, _, rfl, _, _, rfl, rfl, _, rfl, a, _, rfl, s13.sqT hA, ?_, fun p3 hp3 => ?_⟩
   · rw [List.length_map, show ((k : Int) + 1) = ((k + 1 : Nat) : Int) from rfl, sIx_some (by omega)]
     omega
   rw [ez]
   have s3 := same_new hp3 (.tup ((xs.drop (k + 1)).map V.int))
   refine .inl ⟨_, p3, _, _, rfl, rfl, SqT.of (s3 _ _ e2), SqT.of upd_same, by simp, small (by simp; omega), fun e => ?_, fun _ p4 hp4 => ?_⟩
   · have es : (xs.set k z).map V.int = (xs.take k).map V.int ++ [V.int z] := by rw [set_parts hk, e, List.append_nil]
     refine q _ _ (s13.trans s3) ?_
     rw [es]
     exact s3 _ _ e2
   · refine q _ _ ((s13.trans s3).trans (same_new hp4 _)) ?_
     rw [upd_same, set_parts hk]
theorem ok_amount_at {f : Addr} {fd : FuncData} (F : Fun K "amount_at" "amount_at" s_amount_at f fd) (m : mg "amount_at" = some (.ref f)) (B : Bl mg) (D_total : Def P w K mg base CX0 "total" 2 ["point", "forms"] (sp_total K)) (D_amount_forms : Def P w K mg base CX0 "amount_forms" 1 ["amount"] (sp_amount_forms K)) : Def P w K mg base CX0 "amount_at" 3 ["point", "amount"] (sp_amount_at K) := by
 refine ⟨f, fd, F.ok sc_amount_at (fun vs H Q E h => ?_) (fun cdv A outer s H vs Q E hr h => ?_), F.binds (ps := ["point", "amount"]) fun _ _ _ _ _ _ us hl => (by obtain ⟨b0, b1, rfl⟩ := us2 hl; rfl), F.kp, m⟩
 · obtain ⟨a, b, xs, f, g, c, rfl, _⟩ := h
   rfl
 obtain ⟨a, b, xs, f, g, c, rfl, hA, hB, hf, hg, q⟩ := h
 refine ⟨_, (pss_one (ps_ret (pe_op op_add (pe_dz D_total hr (pa_Name (pv 0) (pa_Call (pe_dz D_amount_forms hr (pa_Name (pv 1) pa_nil)) pa_nil))) (pe_xT (K := K) (pv 1) pe_int)))), ?_⟩
 refine ⟨_, rfl, _, rfl, b, f, g, c, rfl, hB, fun p H1 sm1 e1 => ?_⟩
 have l2 := fsO_len f g
 refine ⟨a, p, xs, fsO f g, rfl, sm1.sqT hA, SqL.of e1, fsO_in hf hg, by omega, fun H2 sm2 => ?_⟩
 have s2 := sm1.trans sm2
 exact ⟨_, rfl, b, _, 2, _, rfl, rfl, s2.sqT hB, rfl, _, _, rfl, rfl, q H2 s2⟩
theorem ok_amount_forms {f : Addr} {fd : FuncData} (F : Fun K "amount_forms" "amount_forms" s_amount_forms f fd) (m : mg "amount_forms" = some (.ref f)) (B : Bl mg)  : Def P w K mg base CX0 "amount_forms" 1 ["amount"] (sp_amount_forms K) := by
 refine ⟨f, fd, F.ok sc_amount_forms (fun vs H Q E h => ?_) (fun cdv A outer s H vs Q E hr h => ?_), F.binds (ps := ["amount"]) fun _ _ _ _ _ _ us hl => (by obtain ⟨b0, rfl⟩ := us1 hl; rfl), F.kp, m⟩
 · obtain ⟨b, f, g, c, rfl, _⟩ := h
   rfl
 obtain ⟨b, f, g, c, rfl, hB, q⟩ := h
 refine ⟨_, (pss_one (ps_ret (pe_comp (CompScope.of sc_amount_forms.nd (by rfl)) rfl (pi_tupK (K := K) rfl (pe_slice (sl_tupK (K := K) rfl) (pv 0) po_none (po_some pe_int))) (fun _ _ _ => pif_one (pt_cmpR op_notN (pv 0) pe_non (nomark _))) (fun _ _ _ => (pv 0))))), ?_⟩
 have e0 : cutV [gV f, gV g, V.int c] none (some 2) = [gV f, gV g] := rfl
 refine ⟨_, rfl, (2 : Int), rfl, b, _, rfl, hB, (by rintro ⟨_, h⟩; cases h), fun t ht => ?_⟩
 rw [e0]
 have st := same_new ht (.tup [gV f, gV g])
 refine ⟨t, rfl, ⟨_, SqT.of upd_same⟩, fun p hp => comp_tupN (K := K) (a := t) (xs := [gV f, gV g]) (fun i ys H' => ys = ((match i with | 0 => [] | 1 => optL f | _ => fsO f g).map V.int) /\ H' p = some (.lst ys) /\ Same (upd H t (.tup [gV f, gV g])) H') ⟨rfl, upd_same, same_new hp _⟩ (fun i ys H' _ ⟨_, _, sm⟩ => SqT.of (sm _ _ upd_same)) ?_ ?_⟩
 · rintro i x ys H' hx ⟨rfl, hp', sm⟩
   match i, hx, hp' with
   | 0, hx, hp' =>
    cases hx
    refine ⟨_, rfl, rfl, _, rfl, ?_⟩
    cases f with
    | none =>
     refine iteF ?_
     exact again (by show 0 < 2; decide) ⟨rfl, hp', sm⟩
    | some z =>
     refine iteT ?_
     exact ⟨_, rfl, hp', small1000 (by simp), again (by show 0 < 2; decide) ⟨rfl, upd_same, same_over hp sm⟩⟩
   | 1, hx, hp' =>
    cases hx
    refine ⟨_, rfl, rfl, _, rfl, ?_⟩
    cases g with
    | none =>
     refine iteF ?_
     exact again (by show 1 < 2; decide) ⟨by simp [fsO, optL], hp', sm⟩
    | some z =>
     refine iteT ?_
     exact ⟨_, rfl, hp', small1000 (by cases f <;> simp [optL]), again (by show 1 < 2; decide) ⟨by simp [fsO, optL, gV], upd_same, same_over hp sm⟩⟩
   | i + 2, hx, _ => cases hx
 · rintro ys H' ⟨rfl, hp', sm⟩
   exact q p H' (st.trans sm) hp'
theorem ok_holds {f : Addr} {fd : FuncData} (F : Fun K "holds" "holds" s_holds f fd) (m : mg "holds" = some (.ref f)) (B : Bl mg) (D_total : Def P w K mg base CX0 "total" 2 ["point", "forms"] (sp_total K)) (D_sum_forms : Def P w K mg base CX0 "sum_forms" 1 ["question"] (sp_sum_forms K)) : Def P w K mg base CX0 "holds" 3 ["point", "question"] (sp_holds K) := by
 refine ⟨f, fd, F.ok sc_holds (fun vs H Q E h => ?_) (fun cdv A outer s H vs Q E hr h => ?_), F.binds (ps := ["point", "question"]) fun _ _ _ _ _ _ us hl => (by obtain ⟨b0, b1, rfl⟩ := us2 hl; rfl), F.kp, m⟩
 · obtain ⟨a, b, xs, f, g, w, c, rfl, _⟩ := h
   rfl
 obtain ⟨a, b, xs, f, g, w, c, rfl, hP, hS, hf, hg, q⟩ := h
 refine ⟨_, (@pss_cons _ _ _ _ _ (ps_sz 2 sc_holds.nd (pe_dz D_total hr (pa_Name (pv 0) (pa_Call (pe_dz D_sum_forms hr (pa_Name (pv 1) pa_nil)) pa_nil))))
  (@pss_cons _ _ _ _ _ (ps_sz 3 sc_holds.nd (pe_xT (K := K) (pv 1) pe_int))
  (@pss_cons _ _ _ _ _ (ps_sz 4 sc_holds.nd (pe_xT (K := K) (pv 1) pe_int))
  (@pss_cons _ _ _ _ _ (ps_if (pt_cmpR op_eq (pv 3) pe_str (nomark _)) (pss_one (ps_ret (pe_cmpR op_le (pv 2) (pv 4) (nomark _)))) pss_nil)
  (@pss_cons _ _ _ _ _ (ps_if (pt_cmpR op_eq (pv 3) pe_str (nomark _)) (pss_one (ps_ret (pe_cmpR op_ge (pv 2) (pv 4) (nomark _)))) pss_nil)
  (@pss_cons _ _ _ _ _ (ps_if (pt_cmpR op_eq (pv 3) pe_str (nomark _)) (pss_one (ps_ret (pe_cmpR op_eq (pv 2) (pv 4) (nomark _)))) pss_nil)
  (pss_one (ps_ret (pe_cmpR op_ne (pv 2) (pv 4) (nomark _)))))))))), ?_⟩
 refine seq_step fun U hU => ?_
 refine ⟨_, rfl, _, rfl, b, f, g, w, c, rfl, hS, fun p H1 sm1 e1 => ?_⟩
 refine ⟨a, p, xs, formsI f g, rfl, sm1.sqT hP, SqL.of e1, formsI_in hf hg, by cases g <;> simp [formsI], fun H2 sm2 => ?_⟩
 have sm := sm1.trans sm2
 have hS2 := sm.sqT hS
 have q2 := q H2 sm
 rw [sum_formsI]
 generalize sumI xs f g = tot at *
 subst hU
 simp [tSeq, tNext, tIfS, tRet, tAsg, gName, tTest, tOp, tUn, tVar, tC, rI, rI0, rU, rEq, rNe, scal, L2.start, tCall, tCB, tNil, tCons, tTup, tLst, tNot, tAnd, tOr, tAndV, tOrV, tNotV, tIf, tDrop, CDiv, tB, rIxT, rIxL, tSl, tPart, tNoPart, tYes, CPow]
 refine ⟨_, hS2, _, rfl, _, hS2, _, rfl, ?_⟩
 simp
 unfold holdsI at q2
 by_cases h1 : w = Str.ofString "most"
 · rw [if_pos h1] at q2 ⊢
   exact q2
 by_cases h2 : w = Str.ofString "least"
 · rw [if_neg h1, if_pos h2] at q2 ⊢
   exact q2
 by_cases h3 : w = Str.ofString "same"
 · rw [if_neg h1, if_neg h2, if_pos h3] at q2 ⊢
   exact q2
 · rw [if_neg h1, if_neg h2, if_neg h3] at q2 ⊢
   exact q2
theorem ok_sum_forms {f : Addr} {fd : FuncData} (F : Fun K "sum_forms" "sum_forms" s_sum_forms f fd) (m : mg "sum_forms" = some (.ref f)) (B : Bl mg)  : Def P w K mg base CX0 "sum_forms" 1 ["question"] (sp_sum_forms K) := by
 refine ⟨f, fd, F.ok sc_sum_forms (fun vs H Q E h => ?_) (fun cdv A outer s H vs Q E hr h => ?_), F.binds (ps := ["question"]) fun _ _ _ _ _ _ us hl => (by obtain ⟨b0, rfl⟩ := us1 hl; rfl), F.kp, m⟩
 · obtain ⟨b, f, g, w, c, rfl, _⟩ := h
   rfl
 obtain ⟨b, f, g, w, c, rfl, hS, q⟩ := h
 refine ⟨_, (@pss_cons _ _ _ _ _ (ps_if (pt_cmpR op_isN (pe_xT (K := K) (pv 0) pe_int) pe_non (nomark _)) (pss_one (ps_ret (pe_lst (pa_Subscript (pe_xT (K := K) (pv 0) pe_int) pa_nil)))) pss_nil)
  (pss_one (ps_ret (pe_lst (pa_Subscript (pe_xT (K := K) (pv 0) pe_int) (pa_Subscript (pe_xT (K := K) (pv 0) pe_int) pa_nil)))))), ?_⟩
 cases g with
 | none =>
  simp [tSeq, tNext, tIfS, tRet, tAsg, gName, tTest, tOp, tUn, tVar, tC, rI, rI0, rU, rEq, rNe, scal, L2.start, tCall, tCB, tNil, tCons, tTup, tLst, tNot, tAnd, tOr, tAndV, tOrV, tNotV, tIf, tDrop, CDiv, tB, rIxT, rIxL, tSl, tPart, tNoPart, tYes, CPow]
  refine ⟨_, hS, _, rfl, ?_⟩
  rw [if_pos (by rfl)]
  exact ⟨_, hS, _, rfl, sz 1, fun p hp => q p _ (same_new hp _) upd_same⟩
 | some g =>
  simp [tSeq, tNext, tIfS, tRet, tAsg, gName, tTest, tOp, tUn, tVar, tC, rI, rI0, rU, rEq, rNe, scal, L2.start, tCall, tCB, tNil, tCons, tTup, tLst, tNot, tAnd, tOr, tAndV, tOrV, tNotV, tIf, tDrop, CDiv, tB, rIxT, rIxL, tSl, tPart, tNoPart, tYes, CPow]
  refine ⟨_, hS, _, rfl, ?_⟩
  rw [if_neg (by simp [gV])]
  exact ⟨_, hS, _, rfl, _, hS, _, rfl, sz 2, fun p hp => q p _ (same_new hp _) upd_same⟩
theorem ok_turned {f : Addr} {fd : FuncData} (F : Fun K "turned" "turned" s_turned f fd) (m : mg "turned" = some (.ref f)) (B : Bl mg)  : Def P w K mg base CX0 "turned" 1 ["question"] (sp_turned K) := by
 refine ⟨f, fd, F.ok sc_turned (fun vs H Q E h => ?_) (fun cdv A outer s H vs Q E hr h => ?_), F.binds (ps := ["question"]) fun _ _ _ _ _ _ us hl => (by obtain ⟨b0, rfl⟩ := us1 hl; rfl), F.kp, m⟩
 · obtain ⟨b, f1, g1, w1, c1, rfl, _⟩ := h
   rfl
 obtain ⟨b, f1, g1, w1, c1, rfl, hQ, q⟩ := h
 refine ⟨_, (@pss_cons _ _ _ _ _ (ps_sz 1 sc_turned.nd (pe_xT (K := K) (pv 0) pe_int))
  (@pss_cons _ _ _ _ _ (ps_sz 2 sc_turned.nd (pe_xT (K := K) (pv 0) pe_int))
  (@pss_cons _ _ _ _ _ (ps_sz 3 sc_turned.nd (pe_xT (K := K) (pv 0) pe_int))
  (@pss_cons _ _ _ _ _ (ps_sz 4 sc_turned.nd (pe_xT (K := K) (pv 0) pe_int))
  (@pss_cons _ _ _ _ _ (ps_if (pt_cmpR op_eq (pv 3) pe_str (nomark _)) (pss_one (ps_ret (pe_tup (pa_Name (pv 1) (pa_Name (pv 2) (pa_Constant pe_str (pa_BinOp (pe_op op_add (pv 4) pe_int) pa_nil))))))) pss_nil)
  (@pss_cons _ _ _ _ _ (ps_if (pt_cmpR op_eq (pv 3) pe_str (nomark _)) (pss_one (ps_ret (pe_tup (pa_Name (pv 1) (pa_Name (pv 2) (pa_Constant pe_str (pa_BinOp (pe_op op_sub (pv 4) pe_int) pa_nil))))))) pss_nil)
  (@pss_cons _ _ _ _ _ (ps_if (pt_cmpR op_eq (pv 3) pe_str (nomark _)) (pss_one (ps_ret (pe_tup (pa_Name (pv 1) (pa_Name (pv 2) (pa_Constant pe_str (pa_Name (pv 4) pa_nil))))))) pss_nil)
  (pss_one (ps_ret (pe_tup (pa_Name (pv 1) (pa_Name (pv 2) (pa_Constant pe_str (pa_Name (pv 4) pa_nil)))))))))))))), ?_⟩
 have hB : SqT K H b [.int f1, gV g1, .str w1, .int c1] := SqT.of hQ
 refine seq_step fun U hU => ?_
 refine ⟨_, rfl, b, _, 0, _, rfl, rfl, hB, rfl, ?_⟩
 show U _ _
 subst hU
 refine seq_step fun U hU => ?_
 refine ⟨_, rfl, b, _, 1, _, rfl, rfl, hB, rfl, ?_⟩
 show U _ _
 subst hU
 refine seq_step fun U hU => ?_
 refine ⟨_, rfl, b, _, 2, _, rfl, rfl, hB, rfl, ?_⟩
 show U _ _
 subst hU
 refine seq_step fun U hU => ?_
 refine ⟨_, rfl, b, _, 3, _, rfl, rfl, hB, rfl, ?_⟩
 show U _ _
 subst hU
 refine seq_step fun U hU => ?_
 refine ⟨_, rfl, rfl, _, rfl, ?_⟩
 refine ite2 (fun h1 => ?_) (fun h1 => ?_)
 · have e1 : w1 = wM := V.str.inj (of_decide_eq_true h1)
   refine ⟨_, rfl, _, rfl, _, rfl, _, _, rfl, rfl, sz 4, fun p hp => q p _ (same_new hp _) ?_⟩
   rw [upd_same, turnW, turnC, if_pos e1, if_pos e1]
 have n1 : w1 ≠ wM := fun e => h1 (decide_eq_true (congrArg V.str e))
 show U _ _
 subst hU
 refine seq_step fun U hU => ?_
 refine ⟨_, rfl, rfl, _, rfl, ?_⟩
 refine ite2 (fun h2 => ?_) (fun h2 => ?_)
 · have e2 : w1 = wL := V.str.inj (of_decide_eq_true h2)
   refine ⟨_, rfl, _, rfl, _, rfl, _, _, rfl, rfl, sz 4, fun p hp => q p _ (same_new hp _) ?_⟩
   rw [upd_same, turnW, turnC, if_neg n1, if_neg n1, if_pos e2, if_pos e2]
 have n2 : w1 ≠ wL := fun e => h2 (decide_eq_true (congrArg V.str e))
 show U _ _
 subst hU
 refine seq_step fun U hU => ?_
 refine ⟨_, rfl, rfl, _, rfl, ?_⟩
 refine ite2 (fun h3 => ?_) (fun h3 => ?_)
 · have e3 : w1 = wS := V.str.inj (of_decide_eq_true h3)
   refine ⟨_, rfl, _, rfl, _, rfl, sz 4, fun p hp => q p _ (same_new hp _) ?_⟩
   rw [upd_same, turnW, turnC, if_neg n1, if_neg n1, if_neg n2, if_neg n2, if_pos e3]
 have n3 : w1 ≠ wS := fun e => h3 (decide_eq_true (congrArg V.str e))
 show U _ _
 subst hU
 refine ⟨_, rfl, _, rfl, _, rfl, sz 4, fun p hp => q p _ (same_new hp _) ?_⟩
 rw [upd_same, turnW, turnC, if_neg n1, if_neg n1, if_neg n2, if_neg n2, if_neg n3]
theorem ok_Deed_asks {f : Addr} {fd : FuncData} (F : Fun K "asks" "Deed.asks" s_Deed_asks f fd) (B : Bl mg)  : FDef P w K mg base CX0 1 ["self"] (sp_Deed_asks K) f := by
 refine ⟨fd, F.ok sc_Deed_asks (fun vs H Q E h => ?_) (fun cdv A outer s H vs Q E hr h => ?_), F.binds (ps := ["self"]) fun _ _ _ _ _ _ us hl => (by obtain ⟨b0, rfl⟩ := us1 hl; rfl)⟩
 · obtain ⟨x, rfl, _⟩ := h
   rfl
 obtain ⟨x, rfl, q⟩ := h
 refine ⟨_, (pss_one (ps_ret pe_bl)), ?_⟩
 exact q
theorem ok_Go_done {f : Addr} {fd : FuncData} (F : Fun K "done" "Go.done" s_Go_done f fd) (B : Bl mg)  : FDef P w K mg base CX0 1 ["self", "point", "number"] (sp_Go_done K) f := by
 refine ⟨fd, F.ok sc_Go_done (fun vs H Q E h => ?_) (fun cdv A outer s H vs Q E hr h => ?_), F.binds (ps := ["self", "point", "number"]) fun _ _ _ _ _ _ us hl => (by obtain ⟨b0, b1, b2, rfl⟩ := us3 hl; rfl)⟩
 · obtain ⟨x, p, z, rfl, _⟩ := h
   rfl
 obtain ⟨x, p, z, rfl, q⟩ := h
 refine ⟨_, (pss_one (ps_ret (pv 1))), ?_⟩
 exact ⟨_, rfl, q⟩
theorem ok_Keep_init {f : Addr} {fd : FuncData} (F : Fun K "__init__" "Keep.__init__" s_Keep_init f fd) (B : Bl mg)  : FDef P w K mg base CX0 1 ["self", "question"] (sp_Keep_init K Z_Keep) f := by
 refine ⟨fd, F.ok sc_Keep_init (fun vs H Q E h => ?_) (fun cdv A outer s H vs Q E hr h => ?_), F.binds (ps := ["self", "question"]) fun _ _ _ _ _ _ us hl => (by obtain ⟨b0, b1, rfl⟩ := us2 hl; rfl)⟩
 · obtain ⟨x, dx, v, rfl, _⟩ := h
   rfl
 obtain ⟨x, dx, v, rfl, hx, q⟩ := h
 refine ⟨_, (pss_one (ps_fldK (K := K) rfl (pv 0) (pv 1))), ?_⟩
 exact ⟨_, rfl, _, rfl, x, Z_Keep, dx, [], rfl, hx, T.cl_Keep, T.n_Keep_question, (by decide), q⟩
theorem ok_Keep_done {f : Addr} {fd : FuncData} (F : Fun K "done" "Keep.done" s_Keep_done f fd) (B : Bl mg) (D_holds : Def P w K mg base CX0 "holds" 3 ["point", "question"] (sp_holds K)) : FDef P w K mg base CX0 4 ["self", "point", "number"] (sp_Keep_done K Z_Keep) f := by
 refine ⟨fd, F.ok sc_Keep_done (fun vs H Q E h => ?_) (fun cdv A outer s H vs Q E hr h => ?_), F.binds (ps := ["self", "point", "number"]) fun _ _ _ _ _ _ us hl => (by obtain ⟨b0, b1, b2, rfl⟩ := us3 hl; rfl)⟩
 · obtain ⟨x, dx, qa, pt, xs, f1, g1, w1, c1, z, rfl, _⟩ := h
   rfl
 obtain ⟨x, dx, qa, pt, xs, f1, g1, w1, c1, z, rfl, hx, hqa, hpt, hf, hg, q⟩ := h
 refine ⟨_, (@pss_cons _ _ _ _ _ (ps_if (pt_val (pe_dz D_holds hr (pa_Name (pv 1) (pa_cons (pe_fldK (K := K) rfl (pv 0)) pa_nil)))) (pss_one (ps_ret (pv 1))) pss_nil)
  (pss_one (ps_ret pe_non))), ?_⟩
 refine seq_step fun U hU => ?_
 refine ⟨_, rfl, _, rfl, x, Z_Keep, dx, _, _, rfl, hx, T.cl_Keep, T.n_Keep_question, lkK _, pt, qa, xs, f1, g1, w1, c1, rfl, SqT.of hpt, SqT.of hqa, hf, hg, fun H1 sm1 => ?_⟩
 refine ⟨_, rfl, ?_⟩
 have q1 := q H1 sm1
 cases hh : holdsI w1 (sumI xs f1 g1) c1 with
 | true =>
  rw [hh, if_pos rfl] at q1
  refine iteT ?_
  exact ⟨_, rfl, q1⟩
 | false =>
  rw [hh, if_neg (by decide)] at q1
  refine iteF ?_
  show U _ _
  subst hU
  exact q1
theorem ok_Put_init {f : Addr} {fd : FuncData} (F : Fun K "__init__" "Put.__init__" s_Put_init f fd) (B : Bl mg)  : FDef P w K mg base CX0 1 ["self", "k", "amount"] (sp_Put_init K Z_Put) f := by
 refine ⟨fd, F.ok sc_Put_init (fun vs H Q E h => ?_) (fun cdv A outer s H vs Q E hr h => ?_), F.binds (ps := ["self", "k", "amount"]) fun _ _ _ _ _ _ us hl => (by obtain ⟨b0, b1, b2, rfl⟩ := us3 hl; rfl)⟩
 · obtain ⟨x, dx, v, u, rfl, _⟩ := h
   rfl
 obtain ⟨x, dx, v, u, rfl, hx, q⟩ := h
 refine ⟨_, (@pss_cons _ _ _ _ _ (ps_fldK (K := K) rfl (pv 0) (pv 1))
  (pss_one (ps_fldK (K := K) rfl (pv 0) (pv 2)))), ?_⟩
 exact ⟨_, rfl, _, rfl, x, Z_Put, dx, [], rfl, hx, T.cl_Put, T.n_Put_k, (by decide), _, rfl, _, rfl, x, Z_Put, dx, _, rfl, upd_same, T.cl_Put, T.n_Put_amount, (by show 1 < 1000; decide), q⟩
theorem ok_Put_done {f : Addr} {fd : FuncData} (F : Fun K "done" "Put.done" s_Put_done f fd) (B : Bl mg) (D_with_number : Def P w K mg base CX0 "with_number" 1 ["point", "k", "number"] (sp_with_number K)) (D_amount_at : Def P w K mg base CX0 "amount_at" 3 ["point", "amount"] (sp_amount_at K)) : FDef P w K mg base CX0 4 ["self", "point", "number"] (sp_Put_done K Z_Put) f := by
 refine ⟨fd, F.ok sc_Put_done (fun vs H Q E h => ?_) (fun cdv A outer s H vs Q E hr h => ?_), F.binds (ps := ["self", "point", "number"]) fun _ _ _ _ _ _ us hl => (by obtain ⟨b0, b1, b2, rfl⟩ := us3 hl; rfl)⟩
 · obtain ⟨x, dx, aa, pt, xs, k, f1, g1, c1, z, rfl, _⟩ := h
   rfl
 obtain ⟨x, dx, aa, pt, xs, k, f1, g1, c1, z, rfl, hx, haa, hpt, hk, l100, hf, hg, q⟩ := h
 refine ⟨_, (pss_one (ps_ret (pe_dz D_with_number hr (pa_Name (pv 1) (pa_cons (pe_fldK (K := K) rfl (pv 0)) (pa_Call (pe_dz D_amount_at hr (pa_Name (pv 1) (pa_cons (pe_fldK (K := K) rfl (pv 0)) pa_nil))) pa_nil)))))), ?_⟩
 refine ⟨_, rfl, _, rfl, x, Z_Put, dx, _, _, rfl, hx, T.cl_Put, T.n_Put_k, lkPk _ _, _, rfl, _, rfl, x, Z_Put, dx, _, _, rfl, hx, T.cl_Put, T.n_Put_amount, lkPa _ _, pt, aa, xs, f1, g1, c1, rfl, SqT.of hpt, SqT.of haa, hf, hg, fun H1 sm1 => ?_⟩
 exact ⟨pt, xs, k, _, rfl, SqT.of (sm1 _ _ hpt), hk, l100, fun p H2 sm2 e2 => q p H2 (sm1.trans sm2) e2⟩
theorem ok_Ask_init {f : Addr} {fd : FuncData} (F : Fun K "__init__" "Ask.__init__" s_Ask_init f fd) (B : Bl mg)  : FDef P w K mg base CX0 1 ["self", "k", "low", "high"] (sp_Ask_init K Z_Ask) f := by
 refine ⟨fd, F.ok sc_Ask_init (fun vs H Q E h => ?_) (fun cdv A outer s H vs Q E hr h => ?_), F.binds (ps := ["self", "k", "low", "high"]) fun _ _ _ _ _ _ us hl => (by obtain ⟨b0, b1, b2, b3, rfl⟩ := us4 hl; rfl)⟩
 · obtain ⟨x, dx, v, u, t, rfl, _⟩ := h
   rfl
 obtain ⟨x, dx, v, u, t, rfl, hx, q⟩ := h
 refine ⟨_, (@pss_cons _ _ _ _ _ (ps_fldK (K := K) rfl (pv 0) (pv 1))
  (@pss_cons _ _ _ _ _ (ps_fldK (K := K) rfl (pv 0) (pv 2))
  (pss_one (ps_fldK (K := K) rfl (pv 0) (pv 3))))), ?_⟩
 exact ⟨_, rfl, _, rfl, x, Z_Ask, dx, [], rfl, hx, T.cl_Ask, T.n_Ask_k, (by decide), _, rfl, _, rfl, x, Z_Ask, dx, _, rfl, upd_same, T.cl_Ask, T.n_Ask_low, (by show 1 < 1000; decide), _, rfl, _, rfl, x, Z_Ask, dx, _, rfl, upd_same, T.cl_Ask, T.n_Ask_high, (by rw [two_low]; decide), q⟩
theorem ok_Ask_asks {f : Addr} {fd : FuncData} (F : Fun K "asks" "Ask.asks" s_Ask_asks f fd) (B : Bl mg)  : FDef P w K mg base CX0 1 ["self"] (sp_Ask_asks K) f := by
 refine ⟨fd, F.ok sc_Ask_asks (fun vs H Q E h => ?_) (fun cdv A outer s H vs Q E hr h => ?_), F.binds (ps := ["self"]) fun _ _ _ _ _ _ us hl => (by obtain ⟨b0, rfl⟩ := us1 hl; rfl)⟩
 · obtain ⟨x, rfl, _⟩ := h
   rfl
 obtain ⟨x, rfl, q⟩ := h
 refine ⟨_, (pss_one (ps_ret pe_bl)), ?_⟩
 exact q
theorem ok_Ask_done {f : Addr} {fd : FuncData} (F : Fun K "done" "Ask.done" s_Ask_done f fd) (B : Bl mg) (D_with_number : Def P w K mg base CX0 "with_number" 1 ["point", "k", "number"] (sp_with_number K)) (D_Ask_between_ends : FDef P w K mg base CX0 2 ["self", "number"] (sp_Ask_between_ends K Z_Ask) f_Ask_between_ends) : FDef P w K mg base CX0 3 ["self", "point", "number"] (sp_Ask_done K Z_Ask) f := by
 refine ⟨fd, F.ok sc_Ask_done (fun vs H Q E h => ?_) (fun cdv A outer s H vs Q E hr h => ?_), F.binds (ps := ["self", "point", "number"]) fun _ _ _ _ _ _ us hl => (by obtain ⟨b0, b1, b2, rfl⟩ := us3 hl; rfl)⟩
 · obtain ⟨x, dx, pt, xs, k, lo, hi, z, rfl, _⟩ := h
   rfl
 obtain ⟨x, dx, pt, xs, k, lo, hi, z, rfl, hx, hpt, hk, l100, q⟩ := h
 refine ⟨_, (pss_one (ps_ret (pe_dz D_with_number hr (pa_Name (pv 1) (pa_cons (pe_fldK (K := K) rfl (pv 0)) (pa_Call (pe_mdef D_Ask_between_ends T.cl_Ask T.me_Ask_between_ends (pv 0) (hr.mono (by decide)) pass0 (pa_Name (pv 2) pa_nil)) pa_nil)))))), ?_⟩
 exact ⟨_, rfl, _, rfl, x, Z_Ask, dx, _, _, rfl, hx, T.cl_Ask, T.n_Ask_k, lkAk _ _ _, _, rfl, x, dx, _, rfl, hx, noA off_between _ _ _, _, rfl, x, dx, .int k, lo, hi, z, rfl, hx, pt, xs, k, _, rfl, SqT.of hpt, hk, l100, fun p H2 sm2 e2 => q p H2 sm2 e2⟩
theorem ok_Ask_between_ends {f : Addr} {fd : FuncData} (F : Fun K "between_ends" "Ask.between_ends" s_Ask_between_ends f fd) (B : Bl mg) (D_below : Def P w K mg base CX0 "below" 1 ["entry", "number"] (sp_below K)) : FDef P w K mg base CX0 2 ["self", "number"] (sp_Ask_between_ends K Z_Ask) f := by
 refine ⟨fd, F.ok sc_Ask_between_ends (fun vs H Q E h => ?_) (fun cdv A outer s H vs Q E hr h => ?_), F.binds (ps := ["self", "number"]) fun _ _ _ _ _ _ us hl => (by obtain ⟨b0, b1, rfl⟩ := us2 hl; rfl)⟩
 · obtain ⟨x, dx, k, lo, hi, z, rfl, _⟩ := h
   rfl
 obtain ⟨x, dx, k, lo, hi, z, rfl, hx, q⟩ := h
 refine ⟨_, (@pss_cons _ _ _ _ _ (ps_if (pw_and (pt_cmpR op_notN (pe_fldK (K := K) rfl (pv 0)) pe_non (nomark _)) (pw_and1 (pt_cmpR op_lt (pv 1) (pe_fldK (K := K) rfl (pv 0)) (nomark _)))).pt (pss_one (ps_ret (pe_fldK (K := K) rfl (pv 0)))) pss_nil)
  (@pss_cons _ _ _ _ _ (ps_if (pt_val (pe_dz D_below hr (pa_cons (pe_fldK (K := K) rfl (pv 0)) (pa_Name (pv 1) pa_nil)))) (pss_one (ps_ret (pe_fldK (K := K) rfl (pv 0)))) pss_nil)
  (pss_one (ps_ret (pv 1))))), ?_⟩
 refine seq_step fun U hU => ?_
 have rest : (∀ l, lo = some l -> ¬ z < l) -> U [some (.ref x), some (.int z)] H := by
  intro hno
  have eq1 := clamp_no (hi := hi) hno
  rw [eq1] at q
  subst hU
  refine seq_step fun U hU => ?_
  refine ⟨_, rfl, x, Z_Ask, dx, _, _, rfl, hx, T.cl_Ask, T.n_Ask_high, lkAh _ _ _, _, rfl, hi, z, rfl, _, rfl, ?_⟩
  cases hi with
  | none =>
   refine iteF ?_
   show U _ _
   subst hU
   exact ⟨_, rfl, q⟩
  | some y =>
   by_cases h : y < z
   · have q2 : Q (.int y) H := by rw [cap_hi h] at q; exact q
     rw [show belowE (some y) z = true from decide_eq_true h]
     refine iteT ?_
     exact ⟨_, rfl, x, Z_Ask, dx, _, _, rfl, hx, T.cl_Ask, T.n_Ask_high, lkAh _ _ _, q2⟩
   · have q2 : Q (.int z) H := by rw [cap_no h] at q; exact q
     rw [show belowE (some y) z = false from decide_eq_false h]
     refine iteF ?_
     show U _ _
     subst hU
     exact ⟨_, rfl, q2⟩
 refine ⟨_, rfl, x, Z_Ask, dx, _, _, rfl, hx, T.cl_Ask, T.n_Ask_low, lkAl _ _ _, rfl, _, rfl, ?_⟩
 cases lo with
 | none =>
  refine iteF ?_
  refine iteF ?_
  exact rest (fun l e => by cases e)
 | some l =>
  refine iteT ?_
  refine ⟨_, rfl, _, rfl, x, Z_Ask, dx, _, _, rfl, hx, T.cl_Ask, T.n_Ask_low, lkAl _ _ _, _, _, rfl, rfl, _, rfl, ?_⟩
  by_cases h : z < l
  · rw [clamp_lo h] at q
    rw [decide_eq_true h]
    refine iteT ?_
    exact ⟨_, rfl, x, Z_Ask, dx, _, _, rfl, hx, T.cl_Ask, T.n_Ask_low, lkAl _ _ _, q⟩
  · rw [decide_eq_false h]
    refine iteF ?_
    exact rest (fun l' e => by cases e; exact h)
theorem ok_ways {f : Addr} {fd : FuncData} (F : Fun K "ways" "ways" s_ways f fd) (m : mg "ways" = some (.ref f)) (B : Bl mg) (D_partners : Def P w K mg base CX0 "partners" 2 ["rows"] (sp_partners K)) (D_ways_from : Def P w K mg base CX0 "ways_from" 4 ["rows", "at", "partner"] (sp_ways_from K Z_Go Z_Keep Z_Put Z_Ask)) : Def P w K mg base CX0 "ways" 5 ["rows"] (sp_ways K Z_Go Z_Keep Z_Put Z_Ask) := by
 refine ⟨f, fd, F.ok sc_ways (fun vs H Q E h => ?_) (fun cdv A outer s H vs Q E hr h => ?_), F.binds (ps := ["rows"]) fun _ _ _ _ _ _ us hl => (by obtain ⟨b0, rfl⟩ := us1 hl; rfl), F.kp, m⟩
 · obtain ⟨r, rv, Rs, n, s1, rfl, _⟩ := h
   rfl
 obtain ⟨r, rv, Rs, n, s1, rfl, er, hR, hall, hrun, ho, l100, q⟩ := h
 refine ⟨_, (@pss_cons _ _ _ _ _ (ps_sz 1 sc_ways.nd (pe_lst pa_nil))
  (@pss_cons _ _ _ _ _ (ps_for PassesOwn.never rfl (pi_enumK (K := K) rfl (by rfl) B.enumerate (pa_Call (pe_dz D_partners hr (pa_Name (pv 0) pa_nil)) pa_nil)) (pg_pairK (K := K) rfl rfl (pg_nz 2 sc_ways.nd) (pg_nz 3 sc_ways.nd)) (pss_one (ps_expr (pe_bm PySem.F.plainAttrs_list PySem.F.slot_list_extend PySem.F.type_list_extend mt_extend (pv 1) (pa_Call (pe_dz D_ways_from hr (pa_Name (pv 0) (pa_Name (pv 2) (pa_Name (pv 3) pa_nil)))) pa_nil)))))
  (pss_one (ps_ret (pv 1))))), ?_⟩
 have lr : rv.length = Rs.length := paired_len hR
 have hRow := rows_of hR hall
 have run' : runB ((Rs.map rowOf).map Prod.fst) = some s1 := by rw [rowOf_map]; exact hrun
 obtain ⟨Bk, ewt⟩ := runB_ok _ rfl hrun
 have lf : s1.f.length = Rs.length := by rw [Bk.len, ewt, List.length_map]
 refine seq_step fun U hU => ?_
 refine ⟨sz 0, fun p hp => ?_⟩
 show U _ _
 subst hU
 have s1' := same_new hp (.lst [])
 have ep : upd H p (.lst []) p = some (.lst []) := upd_same
 generalize upd H p (.lst []) = H1 at *
 refine seq_step fun U hU => ?_
 refine ⟨_, rfl, r, rv, Rs.map rowOf, s1, rfl, s1' _ _ er, rows_keep (TKeep.of s1') hRow, run', ho, by rw [List.length_map]; exact l100, fun fp H2 sm2 hfp efp => ?_⟩
 have ep2 := sm2 _ _ ep
 have s02 := s1'.trans sm2
 have nfp : fp ≠ p := Ne.symm (ne_of_none ep hfp)
 refine ⟨fp, rfl, ⟨_, SqL.of efp⟩, for_enum (K := K) (a := fp) (xs := fV s1.f) (fun i σ H' => ∃ (x y : Option V) (ys : List V), σ = [some (.ref r), some (.ref p), x, y] /\ Same H H' /\ H' fp = some (.lst (fV s1.f)) /\ H' p = some (.lst ys) /\ Paired (WayAt Z_Go Z_Keep Z_Put Z_Ask H') ys (allW Rs s1.f i)) ⟨none, none, [], rfl, s02, efp, ep2, .nil⟩ (fun i σ H' _ ⟨_, _, _, _, _, e, _⟩ => SqL.of e) ?_ ?_⟩
 · rintro i v σ H3 H4 hv ⟨x, y, ys, rfl, sm3, ef3, ep3, P3⟩ sm4
   have hi : i < s1.f.length := by have := (List.getElem?_eq_some_iff.mp hv).1; simpa [fV] using this
   have hiR : i < Rs.length := by omega
   have efi : s1.f[i]? = some s1.f[i] := List.getElem?_eq_getElem hi
   have evi : v = gN s1.f[i] := by
    have : (fV s1.f)[i]? = some (gN s1.f[i]) := by unfold fV; rw [List.getElem?_map, efi]; rfl
    rw [this] at hv
    exact (Option.some.inj hv).symm
   subst evi
   have eRi : Rs[i]? = some Rs[i] := List.getElem?_eq_getElem hiR
   have s34 := sm3.trans sm4
   have ep4 := sm4 _ _ ep3
   have lys := paired_len P3
   have la := allW_len Rs s1.f i
   have hb : BlP (Rs.map Rw.word) Rs[i].word s1.f[i] := fun hw => by
    obtain ⟨z, ez, hz⟩ := partner hrun ho (i := i) (w := Rs[i].word) (by rw [List.getElem?_map, eRi]; rfl) hw
    rw [efi] at ez
    exact ⟨z, Option.some.inj ez, hz⟩
   refine ⟨_, rfl, .inl ⟨rfl, _, SqL.of ep4⟩, _, rfl, _, rfl, _, rfl, r, rv, Rs, n, i, s1.f[i], Rs[i], rfl, s34 _ _ er, rw_keep (TKeep.of s34) hR, hall, eRi, hb, fun pl zs H5 sm5 epl P5 => ?_⟩
   have lz := paired_len P5
   rw [wayL_len _ _ (lead_len _ _ _ _)] at lz
   have l2 := lead_len (Rs.map Rw.word) Rs[i].word (s1.f[i].getD 0) i
   have ep5 := sm5 _ _ ep4
   refine ⟨p, pl, ys, zs, rfl, rfl, ep5, epl, Nat.le_of_lt (small1000 (by omega)), ?_⟩
   refine ⟨_, _, ys ++ zs, rfl, same_over hp (s34.trans sm5), by rw [upd_ne nfp]; exact sm5 _ _ (sm4 _ _ ef3), upd_same, ?_⟩
   have gR : Rs.getD i (.bare sEn) = Rs[i] := by simp [List.getD, eRi]
   have gf : s1.f.getD i none = s1.f[i] := by simp [List.getD, efi]
   show Paired _ _ (allW Rs s1.f i ++ _)
   rw [gR, gf]
   exact paired_app (Paired.mapP P3 fun _ _ z => wayX ep5 sameX_upd (z.same (sm4.trans sm5))) (Paired.mapP P5 fun _ _ z => wayX ep5 sameX_upd z)
 · rintro σ H3 ⟨x, y, ys, rfl, sm3, ef3, ep3, P3⟩
   show U _ _
   subst hU
   have : (fV s1.f).length = Rs.length := by unfold fV; rw [List.length_map, lf]
   rw [this] at P3
   exact ⟨_, rfl, q p ys H3 sm3 hp ep3 P3⟩
theorem ok_ways_from {f : Addr} {fd : FuncData} (F : Fun K "ways_from" "ways_from" s_ways_from f fd) (m : mg "ways_from" = some (.ref f)) (B : Bl mg) (D_parted_ways : Def P w K mg base CX0 "parted_ways" 3 ["at", "question", "other"] (sp_parted_ways K Z_Go Z_Keep Z_Put Z_Ask)) (D_row_if_not : Def P w K mg base CX0 "row_if_not" 1 ["rows", "partner"] (sp_row_if_not K)) (D_onward_deed : Def P w K mg base CX0 "onward_deed" 3 ["row"] (sp_onward_deed K Z_Go Z_Keep Z_Put Z_Ask)) : Def P w K mg base CX0 "ways_from" 4 ["rows", "at", "partner"] (sp_ways_from K Z_Go Z_Keep Z_Put Z_Ask) := by
 refine ⟨f, fd, F.ok sc_ways_from (fun vs H Q E h => ?_) (fun cdv A outer s H vs Q E hr h => ?_), F.binds (ps := ["rows", "at", "partner"]) fun _ _ _ _ _ _ us hl => (by obtain ⟨b0, b1, b2, rfl⟩ := us3 hl; rfl), F.kp, m⟩
 · obtain ⟨r, rv, Rs, n, i, o, R, rfl, _⟩ := h
   rfl
 obtain ⟨r, rv, Rs, n, i, o, R, rfl, er, hR, hall, eR, hbl, q⟩ := h
 refine ⟨_, (@pss_cons _ _ _ _ _ (ps_sz 3 sc_ways_from.nd (pe_xT (K := K) (pe_xL (K := K) (pv 0) (pv 1)) pe_int))
  (@pss_cons _ _ _ _ _ (ps_if (pt_cmpR op_eq (pv 3) pe_str (nomark _)) (pss_one (ps_ret (pe_dz D_parted_ways hr (pa_Name (pv 1) (pa_Subscript (pe_xT (K := K) (pe_xL (K := K) (pv 0) (pv 1)) pe_int) (pa_Call (pe_dz D_row_if_not hr (pa_Name (pv 0) (pa_Name (pv 2) pa_nil))) pa_nil)))))) pss_nil)
  (@pss_cons _ _ _ _ _ (ps_if (pt_cmpR op_eq (pv 3) pe_str (nomark _)) (pss_one (ps_ret (pe_dz D_parted_ways hr (pa_Name (pv 1) (pa_Subscript (pe_xT (K := K) (pe_xL (K := K) (pv 0) (pv 1)) pe_int) (pa_BinOp (pe_op op_add (pv 2) pe_int) pa_nil)))))) pss_nil)
  (@pss_cons _ _ _ _ _ (ps_if (pw_or (pt_cmpR op_eq (pv 3) pe_str (nomark _)) (pw_or1 (pw_and (pt_cmpR op_eq (pv 3) pe_str (nomark _)) (pw_and1 (pt_cmpR op_eq (pe_xT (K := K) (pe_xL (K := K) (pv 0) (pv 2)) pe_int) pe_str (nomark _)))).pt)).pt (pss_one (ps_ret (pe_lst (pa_Tuple (pe_tup (pa_Name (pv 1) (pa_Name (pv 2) (pa_Call (pe_odef0 T.mk_Go T.mg_Go (by rfl)) pa_nil)))) pa_nil)))) pss_nil)
  (pss_one (ps_ret (pe_lst (pa_Tuple (pe_tup (pa_Name (pv 1) (pa_BinOp (pe_op op_add (pv 1) pe_int) (pa_Call (pe_dz D_onward_deed hr (pa_Subscript (pe_xL (K := K) (pv 0) (pv 1)) pa_nil)) pa_nil)))) pa_nil)))))))), ?_⟩
 have hin := hall R (List.mem_of_getElem? eR)
 obtain ⟨v0, ev, hv⟩ := paired_get hR eR
 generalize ews : Rs.map Rw.word = ws at *
 have q0 : ∀ a, leadW ws R.word (o.getD 0) i = [a] -> ∀ p ys H', Same H H' -> H' p = some (.lst ys) -> Paired (WayAt Z_Go Z_Keep Z_Put Z_Ask H') ys [(i, a, deedN R 0)] -> Q (.ref p) H' := fun a e p ys H' s h P => q p ys H' s h (by rw [e]; exact P)
 have q2 : ∀ a b, leadW ws R.word (o.getD 0) i = [a, b] -> ∀ p ys H', Same H H' -> H' p = some (.lst ys) -> Paired (WayAt Z_Go Z_Keep Z_Put Z_Ask H') ys [(i, a, deedN R 0), (i, b, deedN R 1)] -> Q (.ref p) H' := fun a b e p ys H' s h P => q p ys H' s h (by rw [e]; exact P)
 clear q
 have hpw : ∀ x, x < ws.length -> ∃ w, ws[x]? = some w := fun x hx => ⟨_, List.getElem?_eq_getElem hx⟩
 cases R with
 | set k f g c =>
  have hv0 := hv
  obtain ⟨ra, rfl, hra⟩ := hv0
  have hT : SqT K H ra [.str sSe, .int k, gV f, gV g, .int c] := SqT.of hra
  refine seq_step fun U hU => ?_
  refine ⟨_, rfl, _, rfl, r, _, _, _, rfl, rfl, SqL.of er, at_nat ev, ra, _, (0 : Int), _, rfl, rfl, hT, at0 _ _, ?_⟩
  show U _ _
  subst hU
  refine seq_step fun U hU => ?_
  refine ⟨_, rfl, rfl, _, rfl, ?_⟩
  rw [strF (a := sSe) (b := sIf) (by decide +kernel)]
  refine iteF ?_
  show U _ _
  subst hU
  refine seq_step fun U hU => ?_
  refine ⟨_, rfl, rfl, _, rfl, ?_⟩
  rw [strF (a := sSe) (b := sWh) (by decide +kernel)]
  refine iteF ?_
  show U _ _
  subst hU
  refine seq_step fun U hU => ?_
  refine ⟨_, rfl, rfl, _, rfl, ?_⟩
  rw [strF (a := sSe) (b := sEl) (by decide +kernel)]
  refine iteF ?_
  refine ⟨_, rfl, rfl, _, rfl, ?_⟩
  rw [strF (a := sSe) (b := sEn) (by decide +kernel)]
  refine iteF ?_
  refine iteF ?_
  show U _ _
  subst hU
  refine ⟨_, rfl, _, rfl, _, _, rfl, rfl, _, rfl, _, rfl, r, _, _, _, rfl, rfl, SqL.of er, at_nat ev, _, n, .set k f g c, rfl, hv, hin, fun u H1 sm1 hu => ?_⟩
  refine ⟨sz 3, fun t ht => ?_⟩
  have s2 := same_new ht (.tup [.int (i : Nat), .int ((i : Int) + 1), u])
  refine ⟨sz 1, fun p hp => ?_⟩
  have s3 := same_new hp (.lst [.ref t])
  rw [onw_deed hin (show sSe ≠ sIf by decide +kernel) (show sSe ≠ sWh by decide +kernel)] at hu
  exact q0 (i + 1) (lead_ot (show sSe ≠ sIf by decide +kernel) (show sSe ≠ sWh by decide +kernel) (show sSe ≠ sEl by decide +kernel) (show sSe ≠ sEn by decide +kernel)) p _ _ ((sm1.trans s2).trans s3) upd_same (.cons ⟨t, u, rfl, s3 _ _ upd_same, hu.same (s2.trans s3)⟩ .nil)
 | ask k lo hi =>
  have hv0 := hv
  obtain ⟨ra, rfl, hra⟩ := hv0
  have hT : SqT K H ra [.str sAs, .int k, eV lo, eV hi] := SqT.of hra
  refine seq_step fun U hU => ?_
  refine ⟨_, rfl, _, rfl, r, _, _, _, rfl, rfl, SqL.of er, at_nat ev, ra, _, (0 : Int), _, rfl, rfl, hT, at0 _ _, ?_⟩
  show U _ _
  subst hU
  refine seq_step fun U hU => ?_
  refine ⟨_, rfl, rfl, _, rfl, ?_⟩
  rw [strF (a := sAs) (b := sIf) (by decide +kernel)]
  refine iteF ?_
  show U _ _
  subst hU
  refine seq_step fun U hU => ?_
  refine ⟨_, rfl, rfl, _, rfl, ?_⟩
  rw [strF (a := sAs) (b := sWh) (by decide +kernel)]
  refine iteF ?_
  show U _ _
  subst hU
  refine seq_step fun U hU => ?_
  refine ⟨_, rfl, rfl, _, rfl, ?_⟩
  rw [strF (a := sAs) (b := sEl) (by decide +kernel)]
  refine iteF ?_
  refine ⟨_, rfl, rfl, _, rfl, ?_⟩
  rw [strF (a := sAs) (b := sEn) (by decide +kernel)]
  refine iteF ?_
  refine iteF ?_
  show U _ _
  subst hU
  refine ⟨_, rfl, _, rfl, _, _, rfl, rfl, _, rfl, _, rfl, r, _, _, _, rfl, rfl, SqL.of er, at_nat ev, _, n, .ask k lo hi, rfl, hv, hin, fun u H1 sm1 hu => ?_⟩
  refine ⟨sz 3, fun t ht => ?_⟩
  have s2 := same_new ht (.tup [.int (i : Nat), .int ((i : Int) + 1), u])
  refine ⟨sz 1, fun p hp => ?_⟩
  have s3 := same_new hp (.lst [.ref t])
  rw [onw_deed hin (show sAs ≠ sIf by decide +kernel) (show sAs ≠ sWh by decide +kernel)] at hu
  exact q0 (i + 1) (lead_ot (show sAs ≠ sIf by decide +kernel) (show sAs ≠ sWh by decide +kernel) (show sAs ≠ sEl by decide +kernel) (show sAs ≠ sEn by decide +kernel)) p _ _ ((sm1.trans s2).trans s3) upd_same (.cons ⟨t, u, rfl, s3 _ _ upd_same, hu.same (s2.trans s3)⟩ .nil)
 | qu w f g qq c =>
  have hv0 := hv
  obtain ⟨ra, qa, rfl, hra, hqa⟩ := hv0
  rcases hin.1 with e | e | e | e
  · subst e
    have hT : SqT K H ra [.str sNe, .ref qa] := SqT.of hra
    refine seq_step fun U hU => ?_
    refine ⟨_, rfl, _, rfl, r, _, _, _, rfl, rfl, SqL.of er, at_nat ev, ra, _, (0 : Int), _, rfl, rfl, hT, at0 _ _, ?_⟩
    show U _ _
    subst hU
    refine seq_step fun U hU => ?_
    refine ⟨_, rfl, rfl, _, rfl, ?_⟩
    rw [strF (a := sNe) (b := sIf) (by decide +kernel)]
    refine iteF ?_
    show U _ _
    subst hU
    refine seq_step fun U hU => ?_
    refine ⟨_, rfl, rfl, _, rfl, ?_⟩
    rw [strF (a := sNe) (b := sWh) (by decide +kernel)]
    refine iteF ?_
    show U _ _
    subst hU
    refine seq_step fun U hU => ?_
    refine ⟨_, rfl, rfl, _, rfl, ?_⟩
    rw [strF (a := sNe) (b := sEl) (by decide +kernel)]
    refine iteF ?_
    refine ⟨_, rfl, rfl, _, rfl, ?_⟩
    rw [strF (a := sNe) (b := sEn) (by decide +kernel)]
    refine iteF ?_
    refine iteF ?_
    show U _ _
    subst hU
    refine ⟨_, rfl, _, rfl, _, _, rfl, rfl, _, rfl, _, rfl, r, _, _, _, rfl, rfl, SqL.of er, at_nat ev, _, n, .qu sNe f g qq c, rfl, hv, hin, fun u H1 sm1 hu => ?_⟩
    refine ⟨sz 3, fun t ht => ?_⟩
    have s2 := same_new ht (.tup [.int (i : Nat), .int ((i : Int) + 1), u])
    refine ⟨sz 1, fun p hp => ?_⟩
    have s3 := same_new hp (.lst [.ref t])
    rw [onw_deed hin (show sNe ≠ sIf by decide +kernel) (show sNe ≠ sWh by decide +kernel)] at hu
    exact q0 (i + 1) (lead_ot (show sNe ≠ sIf by decide +kernel) (show sNe ≠ sWh by decide +kernel) (show sNe ≠ sEl by decide +kernel) (show sNe ≠ sEn by decide +kernel)) p _ _ ((sm1.trans s2).trans s3) upd_same (.cons ⟨t, u, rfl, s3 _ _ upd_same, hu.same (s2.trans s3)⟩ .nil)
  · subst e
    have hT : SqT K H ra [.str sCl, .ref qa] := SqT.of hra
    refine seq_step fun U hU => ?_
    refine ⟨_, rfl, _, rfl, r, _, _, _, rfl, rfl, SqL.of er, at_nat ev, ra, _, (0 : Int), _, rfl, rfl, hT, at0 _ _, ?_⟩
    show U _ _
    subst hU
    refine seq_step fun U hU => ?_
    refine ⟨_, rfl, rfl, _, rfl, ?_⟩
    rw [strF (a := sCl) (b := sIf) (by decide +kernel)]
    refine iteF ?_
    show U _ _
    subst hU
    refine seq_step fun U hU => ?_
    refine ⟨_, rfl, rfl, _, rfl, ?_⟩
    rw [strF (a := sCl) (b := sWh) (by decide +kernel)]
    refine iteF ?_
    show U _ _
    subst hU
    refine seq_step fun U hU => ?_
    refine ⟨_, rfl, rfl, _, rfl, ?_⟩
    rw [strF (a := sCl) (b := sEl) (by decide +kernel)]
    refine iteF ?_
    refine ⟨_, rfl, rfl, _, rfl, ?_⟩
    rw [strF (a := sCl) (b := sEn) (by decide +kernel)]
    refine iteF ?_
    refine iteF ?_
    show U _ _
    subst hU
    refine ⟨_, rfl, _, rfl, _, _, rfl, rfl, _, rfl, _, rfl, r, _, _, _, rfl, rfl, SqL.of er, at_nat ev, _, n, .qu sCl f g qq c, rfl, hv, hin, fun u H1 sm1 hu => ?_⟩
    refine ⟨sz 3, fun t ht => ?_⟩
    have s2 := same_new ht (.tup [.int (i : Nat), .int ((i : Int) + 1), u])
    refine ⟨sz 1, fun p hp => ?_⟩
    have s3 := same_new hp (.lst [.ref t])
    rw [onw_deed hin (show sCl ≠ sIf by decide +kernel) (show sCl ≠ sWh by decide +kernel)] at hu
    exact q0 (i + 1) (lead_ot (show sCl ≠ sIf by decide +kernel) (show sCl ≠ sWh by decide +kernel) (show sCl ≠ sEl by decide +kernel) (show sCl ≠ sEn by decide +kernel)) p _ _ ((sm1.trans s2).trans s3) upd_same (.cons ⟨t, u, rfl, s3 _ _ upd_same, hu.same (s2.trans s3)⟩ .nil)
  · subst e
    obtain ⟨x, rfl, hx⟩ := hbl (.inl rfl)
    obtain ⟨wp, ewp⟩ := hpw x hx
    have hT : SqT K H ra [.str sIf, .ref qa] := SqT.of hra
    refine seq_step fun U hU => ?_
    refine ⟨_, rfl, _, rfl, r, _, _, _, rfl, rfl, SqL.of er, at_nat ev, ra, _, (0 : Int), _, rfl, rfl, hT, at0 _ _, ?_⟩
    show U _ _
    subst hU
    refine seq_step fun U hU => ?_
    refine ⟨_, rfl, rfl, _, rfl, ?_⟩
    rw [strT]
    refine iteT ?_
    refine ⟨_, rfl, _, rfl, _, rfl, r, _, _, _, rfl, rfl, SqL.of er, at_nat ev, ra, _, 1, _, rfl, rfl, hT, rfl, _, rfl, _, rfl, r, rv, Rs, x, wp, rfl, er, hR, by rw [ews]; exact ewp, ?_⟩
    refine ⟨qa, i, _, f, g, qq, c, rfl, hqa, fun p ys H' sm ep P => ?_⟩
    have d0 : deedN (.qu sIf f g qq c) 0 = .keep f g qq c := by unfold deedN; dsimp only; rw [if_neg (by decide +kernel), if_pos rfl]
    have d1 : deedN (.qu sIf f g qq c) 1 = .keep f g (turnW qq) (turnC qq c) := by unfold deedN; dsimp only; rw [if_neg (by decide +kernel), if_neg (by decide)]
    refine q2 (i + 1) (if wp = sEl then x + 1 else x) ?_ p ys H' sm ep (by rw [d0, d1]; exact P)
    show leadW ws sIf x i = _
    rw [lead_if, ewp]
    by_cases h : wp = sEl
    · rw [if_pos (by rw [h]), if_pos h]
    · rw [if_neg (fun z => h (Option.some.inj z)), if_neg h]
  · subst e
    obtain ⟨x, rfl, hx⟩ := hbl (.inr (.inl rfl))
    have hT : SqT K H ra [.str sWh, .ref qa] := SqT.of hra
    refine seq_step fun U hU => ?_
    refine ⟨_, rfl, _, rfl, r, _, _, _, rfl, rfl, SqL.of er, at_nat ev, ra, _, (0 : Int), _, rfl, rfl, hT, at0 _ _, ?_⟩
    show U _ _
    subst hU
    refine seq_step fun U hU => ?_
    refine ⟨_, rfl, rfl, _, rfl, ?_⟩
    rw [strF (a := sWh) (b := sIf) (by decide +kernel)]
    refine iteF ?_
    show U _ _
    subst hU
    refine seq_step fun U hU => ?_
    refine ⟨_, rfl, rfl, _, rfl, ?_⟩
    rw [strT]
    refine iteT ?_
    refine ⟨_, rfl, _, rfl, _, rfl, r, _, _, _, rfl, rfl, SqL.of er, at_nat ev, ra, _, 1, _, rfl, rfl, hT, rfl, _, rfl, _, _, rfl, rfl, qa, i, x + 1, f, g, qq, c, rfl, hqa, fun p ys H' sm ep P => ?_⟩
    have d0 : deedN (.qu sWh f g qq c) 0 = .keep f g qq c := by unfold deedN; dsimp only; rw [if_neg (by decide +kernel), if_pos rfl]
    have d1 : deedN (.qu sWh f g qq c) 1 = .keep f g (turnW qq) (turnC qq c) := by unfold deedN; dsimp only; rw [if_neg (by decide +kernel), if_neg (by decide)]
    exact q2 (i + 1) (x + 1) (lead_wh ws x i) p ys H' sm ep (by rw [d0, d1]; exact P)
 | bare w =>
  have hv0 := hv
  obtain ⟨ra, rfl, hra⟩ := hv0
  rcases hin with e | e
  · subst e
    obtain ⟨x, rfl, hx⟩ := hbl (.inr (.inr (.inl rfl)))
    have hT : SqT K H ra [.str sEl] := SqT.of hra
    refine seq_step fun U hU => ?_
    refine ⟨_, rfl, _, rfl, r, _, _, _, rfl, rfl, SqL.of er, at_nat ev, ra, _, (0 : Int), _, rfl, rfl, hT, at0 _ _, ?_⟩
    show U _ _
    subst hU
    refine seq_step fun U hU => ?_
    refine ⟨_, rfl, rfl, _, rfl, ?_⟩
    rw [strF (a := sEl) (b := sIf) (by decide +kernel)]
    refine iteF ?_
    show U _ _
    subst hU
    refine seq_step fun U hU => ?_
    refine ⟨_, rfl, rfl, _, rfl, ?_⟩
    rw [strF (a := sEl) (b := sWh) (by decide +kernel)]
    refine iteF ?_
    show U _ _
    subst hU
    refine seq_step fun U hU => ?_
    refine ⟨_, rfl, rfl, _, rfl, ?_⟩
    rw [strT]
    refine iteT ?_
    refine iteT ?_
    refine ⟨_, rfl, _, rfl, fun y dy hy hdy ne => ?_⟩
    have s1 := same_over (o := .ins Z_Go dy []) hy (same_new hdy (.own y))
    refine ⟨sz 3, fun t ht => ?_⟩
    have s2 := same_new ht (.tup [.int (i : Nat), .int (x : Nat), .ref y])
    refine ⟨sz 1, fun p hp => ?_⟩
    have s3 := same_new hp (.lst [.ref t])
    exact q0 x (lead_el ws x i) p _ _ ((s1.trans s2).trans s3) upd_same (.cons ⟨t, _, rfl, s3 _ _ upd_same, ⟨y, dy, rfl, (s2.trans s3) _ _ upd_same⟩⟩ .nil)
  · subst e
    have hin : InW n (.bare sEn) := .inr rfl
    obtain ⟨x, rfl, hx⟩ := hbl (.inr (.inr (.inr rfl)))
    obtain ⟨wp, ewp⟩ := hpw x hx
    rw [← ews] at ewp
    obtain ⟨rb, rx, erb, hrb⟩ := rw_word hR ewp
    rw [ews] at ewp
    have hT : SqT K H ra [.str sEn] := SqT.of hra
    refine seq_step fun U hU => ?_
    refine ⟨_, rfl, _, rfl, r, _, _, _, rfl, rfl, SqL.of er, at_nat ev, ra, _, (0 : Int), _, rfl, rfl, hT, at0 _ _, ?_⟩
    show U _ _
    subst hU
    refine seq_step fun U hU => ?_
    refine ⟨_, rfl, rfl, _, rfl, ?_⟩
    rw [strF (a := sEn) (b := sIf) (by decide +kernel)]
    refine iteF ?_
    show U _ _
    subst hU
    refine seq_step fun U hU => ?_
    refine ⟨_, rfl, rfl, _, rfl, ?_⟩
    rw [strF (a := sEn) (b := sWh) (by decide +kernel)]
    refine iteF ?_
    show U _ _
    subst hU
    refine seq_step fun U hU => ?_
    refine ⟨_, rfl, rfl, _, rfl, ?_⟩
    rw [strF (a := sEn) (b := sEl) (by decide +kernel)]
    refine iteF ?_
    refine ⟨_, rfl, rfl, _, rfl, ?_⟩
    rw [strT]
    refine iteT ?_
    refine ⟨_, rfl, _, rfl, r, _, _, _, rfl, rfl, SqL.of er, at_nat erb, rb, _, (0 : Int), _, rfl, rfl, SqT.of hrb, at0 _ _, rfl, _, rfl, ?_⟩
    by_cases h : wp = sWh
    · rw [decide_eq_true (show V.str wp = V.str sWh by rw [h])]
      refine iteT ?_
      refine ⟨_, rfl, _, rfl, fun y dy hy hdy ne => ?_⟩
      have s1 := same_over (o := .ins Z_Go dy []) hy (same_new hdy (.own y))
      refine ⟨sz 3, fun t ht => ?_⟩
      have s2 := same_new ht (.tup [.int (i : Nat), .int (x : Nat), .ref y])
      refine ⟨sz 1, fun p hp => ?_⟩
      have s3 := same_new hp (.lst [.ref t])
      exact q0 x (lead_en ws x i (by rw [ewp, h])) p _ _ ((s1.trans s2).trans s3) upd_same (.cons ⟨t, _, rfl, s3 _ _ upd_same, ⟨y, dy, rfl, (s2.trans s3) _ _ upd_same⟩⟩ .nil)
    · rw [strF h]
      refine iteF ?_
      show U _ _
      subst hU
      refine ⟨_, rfl, _, rfl, _, _, rfl, rfl, _, rfl, _, rfl, r, _, _, _, rfl, rfl, SqL.of er, at_nat ev, _, n, .bare sEn, rfl, hv, hin, fun u H1 sm1 hu => ?_⟩
      refine ⟨sz 3, fun t ht => ?_⟩
      have s2 := same_new ht (.tup [.int (i : Nat), .int ((i : Int) + 1), u])
      refine ⟨sz 1, fun p hp => ?_⟩
      have s3 := same_new hp (.lst [.ref t])
      rw [onw_deed hin (show sEn ≠ sIf by decide +kernel) (show sEn ≠ sWh by decide +kernel)] at hu
      exact q0 (i + 1) (lead_ei ws x i (by rw [ewp]; exact fun z => h (Option.some.inj z))) p _ _ ((sm1.trans s2).trans s3) upd_same (.cons ⟨t, u, rfl, s3 _ _ upd_same, hu.same (s2.trans s3)⟩ .nil)
theorem ok_parted_ways {f : Addr} {fd : FuncData} (F : Fun K "parted_ways" "parted_ways" s_parted_ways f fd) (m : mg "parted_ways" = some (.ref f)) (B : Bl mg) (D_Keep_init : FDef P w K mg base CX0 1 ["self", "question"] (sp_Keep_init K Z_Keep) y8) (D_turned : Def P w K mg base CX0 "turned" 1 ["question"] (sp_turned K)) : Def P w K mg base CX0 "parted_ways" 3 ["at", "question", "other"] (sp_parted_ways K Z_Go Z_Keep Z_Put Z_Ask) := by
 refine ⟨f, fd, F.ok sc_parted_ways (fun vs H Q E h => ?_) (fun cdv A outer s H vs Q E hr h => ?_), F.binds (ps := ["at", "question", "other"]) fun _ _ _ _ _ _ us hl => (by obtain ⟨b0, b1, b2, rfl⟩ := us3 hl; rfl), F.kp, m⟩
 · obtain ⟨b, i, o, f1, g1, w1, c1, rfl, _⟩ := h
   rfl
 obtain ⟨b, i, o, f1, g1, w1, c1, rfl, hb, q⟩ := h
 refine ⟨_, (pss_one (ps_ret (pe_lst (pa_Tuple (pe_tup (pa_Name (pv 0) (pa_BinOp (pe_op op_add (pv 0) pe_int) (pa_Call (pe_cdef D_Keep_init T.mk_Keep T.mg_Keep (hr.mono (by decide)) (by rfl) pass0 (pa_Name (pv 1) pa_nil)) pa_nil)))) (pa_Tuple (pe_tup (pa_Name (pv 0) (pa_Name (pv 2) (pa_Call (pe_cdef D_Keep_init T.mk_Keep T.mg_Keep (hr.mono (by decide)) (by rfl) pass0 (pa_Call (pe_dz D_turned hr (pa_Name (pv 1) pa_nil)) pa_nil)) pa_nil)))) pa_nil))))), ?_⟩
 refine ⟨_, rfl, _, rfl, _, _, rfl, rfl, _, rfl, fun x dx hx hdx ne => ?_⟩
 have s1 := same_over (o := .ins Z_Keep dx (fK (.ref b))) hx (same_over (o := .ins Z_Keep dx []) hx (same_new hdx (.own x)))
 refine ⟨x, dx, .ref b, rfl, upd_same, rfl, ?_⟩
 have ex : upd (upd (upd H dx (.own x)) x (.ins Z_Keep dx [])) x (.ins Z_Keep dx (fK (.ref b))) x = some (.ins Z_Keep dx (fK (.ref b))) := upd_same
 generalize upd (upd (upd H dx (.own x)) x (.ins Z_Keep dx [])) x (.ins Z_Keep dx (fK (.ref b))) = H1 at *
 refine ⟨sz 3, fun t1 ht1 => ?_⟩
 have s2 := same_new ht1 (.tup [.int (i : Nat), .int ((i : Int) + 1), .ref x])
 have e1 : upd H1 t1 (.tup [.int (i : Nat), .int ((i : Int) + 1), .ref x]) t1 = some (.tup [.int (i : Nat), .int ((i : Int) + 1), .ref x]) := upd_same
 generalize upd H1 t1 (.tup [.int (i : Nat), .int ((i : Int) + 1), .ref x]) = H2 at *
 have s12 := s1.trans s2
 refine ⟨_, rfl, _, rfl, _, rfl, b, f1, g1, w1, c1, rfl, s12 _ _ hb, fun qt H3 sm3 hqt => ?_⟩
 refine fun y dy hy hdy ne2 => ?_
 have s4 := same_over (o := .ins Z_Keep dy (fK (.ref qt))) hy (same_over (o := .ins Z_Keep dy []) hy (same_new hdy (.own y)))
 refine ⟨y, dy, .ref qt, rfl, upd_same, rfl, ?_⟩
 have ey : upd (upd (upd H3 dy (.own y)) y (.ins Z_Keep dy [])) y (.ins Z_Keep dy (fK (.ref qt))) y = some (.ins Z_Keep dy (fK (.ref qt))) := upd_same
 generalize upd (upd (upd H3 dy (.own y)) y (.ins Z_Keep dy [])) y (.ins Z_Keep dy (fK (.ref qt))) = H4 at *
 refine ⟨sz 3, fun t2 ht2 => ?_⟩
 have s5 := same_new ht2 (.tup [.int (i : Nat), .int (o : Nat), .ref y])
 have e2 : upd H4 t2 (.tup [.int (i : Nat), .int (o : Nat), .ref y]) t2 = some (.tup [.int (i : Nat), .int (o : Nat), .ref y]) := upd_same
 generalize upd H4 t2 (.tup [.int (i : Nat), .int (o : Nat), .ref y]) = H5 at *
 refine ⟨sz 2, fun p hp => ?_⟩
 have s6 := same_new hp (.lst [.ref t1, .ref t2])
 have s26 := ((sm3.trans s4).trans s5).trans s6
 exact q p _ _ (s12.trans s26) upd_same (.cons ⟨t1, _, rfl, s26 _ _ e1, ⟨x, dx, b, rfl, (s2.trans s26) _ _ ex, (s12.trans s26) _ _ hb⟩⟩ (.cons ⟨t2, _, rfl, s6 _ _ e2, ⟨y, dy, qt, rfl, (s5.trans s6) _ _ ey, ((s4.trans s5).trans s6) _ _ hqt⟩⟩ .nil))
theorem ok_row_if_not {f : Addr} {fd : FuncData} (F : Fun K "row_if_not" "row_if_not" s_row_if_not f fd) (m : mg "row_if_not" = some (.ref f)) (B : Bl mg)  : Def P w K mg base CX0 "row_if_not" 1 ["rows", "partner"] (sp_row_if_not K) := by
 refine ⟨f, fd, F.ok sc_row_if_not (fun vs H Q E h => ?_) (fun cdv A outer s H vs Q E hr h => ?_), F.binds (ps := ["rows", "partner"]) fun _ _ _ _ _ _ us hl => (by obtain ⟨b0, b1, rfl⟩ := us2 hl; rfl), F.kp, m⟩
 · obtain ⟨r, rv, Rs, p, w1, rfl, _⟩ := h
   rfl
 obtain ⟨r, rv, Rs, p, w1, rfl, er, hR, ew, q⟩ := h
 refine ⟨_, (@pss_cons _ _ _ _ _ (ps_if (pt_cmpR op_eq (pe_xT (K := K) (pe_xL (K := K) (pv 0) (pv 1)) pe_int) pe_str (nomark _)) (pss_one (ps_ret (pe_op op_add (pv 1) pe_int))) pss_nil)
  (pss_one (ps_ret (pv 1)))), ?_⟩
 obtain ⟨ra, rx, era, hra⟩ := rw_word hR ew
 refine seq_step fun U hU => ?_
 refine ⟨_, rfl, _, rfl, r, _, _, _, rfl, rfl, SqL.of er, at_nat era, ra, _, (0 : Int), _, rfl, rfl, SqT.of hra, at0 _ _, rfl, _, rfl, ?_⟩
 by_cases h : w1 = sEl
 · rw [if_pos h] at q
   rw [decide_eq_true (show V.str w1 = V.str sEl by rw [h])]
   refine iteT ?_
   exact ⟨_, rfl, _, _, rfl, rfl, q⟩
 · rw [if_neg h] at q
   rw [strF h]
   refine iteF ?_
   show U _ _
   subst hU
   exact ⟨_, rfl, q⟩
theorem ok_onward_deed {f : Addr} {fd : FuncData} (F : Fun K "onward_deed" "onward_deed" s_onward_deed f fd) (m : mg "onward_deed" = some (.ref f)) (B : Bl mg) (D_Put_init : FDef P w K mg base CX0 1 ["self", "k", "amount"] (sp_Put_init K Z_Put) y10) (D_Ask_init : FDef P w K mg base CX0 1 ["self", "k", "low", "high"] (sp_Ask_init K Z_Ask) y2) (D_Keep_init : FDef P w K mg base CX0 1 ["self", "question"] (sp_Keep_init K Z_Keep) y8) : Def P w K mg base CX0 "onward_deed" 3 ["row"] (sp_onward_deed K Z_Go Z_Keep Z_Put Z_Ask) := by
 refine ⟨f, fd, F.ok sc_onward_deed (fun vs H Q E h => ?_) (fun cdv A outer s H vs Q E hr h => ?_), F.binds (ps := ["row"]) fun _ _ _ _ _ _ us hl => (by obtain ⟨b0, rfl⟩ := us1 hl; rfl), F.kp, m⟩
 · obtain ⟨v, n, R, rfl, _⟩ := h
   rfl
 obtain ⟨v, n, R, rfl, hR, hin, q⟩ := h
 refine ⟨_, (@pss_cons _ _ _ _ _ (ps_sz 1 sc_onward_deed.nd (pe_xT (K := K) (pv 0) pe_int))
  (@pss_cons _ _ _ _ _ (ps_if (pt_cmpR op_eq (pv 1) pe_str (nomark _)) (pss_one (ps_ret (pe_cdef D_Put_init T.mk_Put T.mg_Put (hr.mono (by decide)) (by rfl) pass0 (pa_Subscript (pe_xT (K := K) (pv 0) pe_int) (pa_Tuple (pe_tup (pa_Subscript (pe_xT (K := K) (pv 0) pe_int) (pa_Subscript (pe_xT (K := K) (pv 0) pe_int) (pa_Subscript (pe_xT (K := K) (pv 0) pe_int) pa_nil)))) pa_nil))))) pss_nil)
  (@pss_cons _ _ _ _ _ (ps_if (pt_cmpR op_eq (pv 1) pe_str (nomark _)) (pss_one (ps_ret (pe_cdef D_Ask_init T.mk_Ask T.mg_Ask (hr.mono (by decide)) (by rfl) pass0 (pa_Subscript (pe_xT (K := K) (pv 0) pe_int) (pa_Subscript (pe_xT (K := K) (pv 0) pe_int) (pa_Subscript (pe_xT (K := K) (pv 0) pe_int) pa_nil)))))) pss_nil)
  (@pss_cons _ _ _ _ _ (ps_if (pt_cmpR op_eq (pv 1) pe_str (nomark _)) (pss_one (ps_ret (pe_cdef D_Keep_init T.mk_Keep T.mg_Keep (hr.mono (by decide)) (by rfl) pass0 (pa_Subscript (pe_xT (K := K) (pv 0) pe_int) pa_nil)))) pss_nil)
  (pss_one (ps_ret (pe_odef0 T.mk_Go T.mg_Go (by rfl)))))))), ?_⟩
 cases R with
 | set k f g c =>
  obtain ⟨ra, rfl, hra⟩ := hR
  have hT : SqT K H ra [.str sSe, .int k, gV f, gV g, .int c] := SqT.of hra
  refine seq_step fun U hU => ?_
  refine ⟨_, rfl, ra, _, 0, _, rfl, rfl, hT, rfl, ?_⟩
  show U _ _
  subst hU
  refine seq_step fun U hU => ?_
  refine ⟨_, rfl, rfl, _, rfl, ?_⟩
  rw [strT]
  refine iteT ?_
  refine ⟨_, rfl, ra, _, 1, _, rfl, rfl, hT, rfl, _, rfl, ra, _, 2, _, rfl, rfl, hT, rfl, _, rfl, ra, _, 3, _, rfl, rfl, hT, rfl, _, rfl, ra, _, 4, _, rfl, rfl, hT, rfl, sz 3, fun aa haa => ?_⟩
  have s1 := same_new haa (.tup [gV f, gV g, .int c])
  refine fun x dx hx hdx ne => ?_
  have s2 := same_over (o := .ins Z_Put dx (fP (.int k) (.ref aa))) hx (same_over (o := .ins Z_Put dx (putF "k" (.int k) [])) hx (same_over (o := .ins Z_Put dx []) hx (same_new hdx (.own x))))
  exact ⟨x, dx, .int k, .ref aa, rfl, upd_same, rfl, q (.ref x) _ (s1.trans s2) ⟨x, dx, aa, rfl, upd_same, s2 _ _ upd_same⟩⟩
 | ask k lo hi =>
  obtain ⟨ra, rfl, hra⟩ := hR
  have hT : SqT K H ra [.str sAs, .int k, eV lo, eV hi] := SqT.of hra
  refine seq_step fun U hU => ?_
  refine ⟨_, rfl, ra, _, 0, _, rfl, rfl, hT, rfl, ?_⟩
  show U _ _
  subst hU
  refine seq_step fun U hU => ?_
  refine ⟨_, rfl, rfl, _, rfl, ?_⟩
  rw [strF (a := sAs) (b := sSe) (by decide +kernel)]
  refine iteF ?_
  show U _ _
  subst hU
  refine seq_step fun U hU => ?_
  refine ⟨_, rfl, rfl, _, rfl, ?_⟩
  rw [strT]
  refine iteT ?_
  refine ⟨_, rfl, ra, _, 1, _, rfl, rfl, hT, rfl, _, rfl, ra, _, 2, _, rfl, rfl, hT, rfl, _, rfl, ra, _, 3, _, rfl, rfl, hT, rfl, fun x dx hx hdx ne => ?_⟩
  have S := same_over (o := .ins Z_Ask dx (fA (.int k) (eV lo) (eV hi))) hx (same_over (o := .ins Z_Ask dx (putF "low" (eV lo) (putF "k" (.int k) []))) hx (same_over (o := .ins Z_Ask dx (putF "k" (.int k) [])) hx (same_over (o := .ins Z_Ask dx []) hx (same_new hdx (.own x)))))
  exact ⟨x, dx, .int k, eV lo, eV hi, rfl, upd_same, rfl, q (.ref x) _ S ⟨x, dx, rfl, upd_same⟩⟩
 | qu w f g qq c =>
  obtain ⟨ra, qa, rfl, hra, hqa⟩ := hR
  have hT : SqT K H ra [.str w, .ref qa] := SqT.of hra
  refine seq_step fun U hU => ?_
  refine ⟨_, rfl, ra, _, 0, _, rfl, rfl, hT, rfl, ?_⟩
  show U _ _
  subst hU
  have qN : w = sNe -> ∀ u H', Same H H' -> DeedAt Z_Go Z_Keep Z_Put Z_Ask H' u (.keep f g qq c) -> Q u H' := fun e u H' s d => q u H' s (by unfold onwD; dsimp only; rw [if_pos e]; exact d)
  have qG : w ≠ sNe -> ∀ u H', Same H H' -> DeedAt Z_Go Z_Keep Z_Put Z_Ask H' u .go -> Q u H' := fun e u H' s d => q u H' s (by unfold onwD; dsimp only; rw [if_neg e]; exact d)
  clear q
  rcases hin.1 with e | e | e | e
  · subst e
    refine seq_step fun U hU => ?_
    refine ⟨_, rfl, rfl, _, rfl, ?_⟩
    rw [strF (a := sNe) (b := sSe) (by decide +kernel)]
    refine iteF ?_
    show U _ _
    subst hU
    refine seq_step fun U hU => ?_
    refine ⟨_, rfl, rfl, _, rfl, ?_⟩
    rw [strF (a := sNe) (b := sAs) (by decide +kernel)]
    refine iteF ?_
    show U _ _
    subst hU
    refine seq_step fun U hU => ?_
    refine ⟨_, rfl, rfl, _, rfl, ?_⟩
    rw [strT]
    refine iteT ?_
    refine ⟨_, rfl, ra, _, 1, _, rfl, rfl, hT, rfl, fun x dx hx hdx ne => ?_⟩
    have S := same_over (o := .ins Z_Keep dx (fK (.ref qa))) hx (same_over (o := .ins Z_Keep dx []) hx (same_new hdx (.own x)))
    exact ⟨x, dx, .ref qa, rfl, upd_same, rfl, qN rfl (.ref x) _ S ⟨x, dx, qa, rfl, upd_same, S _ _ hqa⟩⟩
  · subst e
    have q := qG (by decide +kernel)
    refine seq_step fun U hU => ?_
    refine ⟨_, rfl, rfl, _, rfl, ?_⟩
    rw [strF (a := sCl) (b := sSe) (by decide +kernel)]
    refine iteF ?_
    show U _ _
    subst hU
    refine seq_step fun U hU => ?_
    refine ⟨_, rfl, rfl, _, rfl, ?_⟩
    rw [strF (a := sCl) (b := sAs) (by decide +kernel)]
    refine iteF ?_
    show U _ _
    subst hU
    refine seq_step fun U hU => ?_
    refine ⟨_, rfl, rfl, _, rfl, ?_⟩
    rw [strF (a := sCl) (b := sNe) (by decide +kernel)]
    refine iteF ?_
    show U _ _
    subst hU
    exact fun x dx hx hdx ne => q (.ref x) _ (same_over hx (same_new hdx _)) ⟨x, dx, rfl, upd_same⟩
  · subst e
    have q := qG (by decide +kernel)
    refine seq_step fun U hU => ?_
    refine ⟨_, rfl, rfl, _, rfl, ?_⟩
    rw [strF (a := sIf) (b := sSe) (by decide +kernel)]
    refine iteF ?_
    show U _ _
    subst hU
    refine seq_step fun U hU => ?_
    refine ⟨_, rfl, rfl, _, rfl, ?_⟩
    rw [strF (a := sIf) (b := sAs) (by decide +kernel)]
    refine iteF ?_
    show U _ _
    subst hU
    refine seq_step fun U hU => ?_
    refine ⟨_, rfl, rfl, _, rfl, ?_⟩
    rw [strF (a := sIf) (b := sNe) (by decide +kernel)]
    refine iteF ?_
    show U _ _
    subst hU
    exact fun x dx hx hdx ne => q (.ref x) _ (same_over hx (same_new hdx _)) ⟨x, dx, rfl, upd_same⟩
  · subst e
    have q := qG (by decide +kernel)
    refine seq_step fun U hU => ?_
    refine ⟨_, rfl, rfl, _, rfl, ?_⟩
    rw [strF (a := sWh) (b := sSe) (by decide +kernel)]
    refine iteF ?_
    show U _ _
    subst hU
    refine seq_step fun U hU => ?_
    refine ⟨_, rfl, rfl, _, rfl, ?_⟩
    rw [strF (a := sWh) (b := sAs) (by decide +kernel)]
    refine iteF ?_
    show U _ _
    subst hU
    refine seq_step fun U hU => ?_
    refine ⟨_, rfl, rfl, _, rfl, ?_⟩
    rw [strF (a := sWh) (b := sNe) (by decide +kernel)]
    refine iteF ?_
    show U _ _
    subst hU
    exact fun x dx hx hdx ne => q (.ref x) _ (same_over hx (same_new hdx _)) ⟨x, dx, rfl, upd_same⟩
 | bare w =>
  obtain ⟨ra, rfl, hra⟩ := hR
  have hT : SqT K H ra [.str w] := SqT.of hra
  refine seq_step fun U hU => ?_
  refine ⟨_, rfl, ra, _, 0, _, rfl, rfl, hT, rfl, ?_⟩
  show U _ _
  subst hU
  rcases hin with e | e
  · subst e
    refine seq_step fun U hU => ?_
    refine ⟨_, rfl, rfl, _, rfl, ?_⟩
    rw [strF (a := sEl) (b := sSe) (by decide +kernel)]
    refine iteF ?_
    show U _ _
    subst hU
    refine seq_step fun U hU => ?_
    refine ⟨_, rfl, rfl, _, rfl, ?_⟩
    rw [strF (a := sEl) (b := sAs) (by decide +kernel)]
    refine iteF ?_
    show U _ _
    subst hU
    refine seq_step fun U hU => ?_
    refine ⟨_, rfl, rfl, _, rfl, ?_⟩
    rw [strF (a := sEl) (b := sNe) (by decide +kernel)]
    refine iteF ?_
    show U _ _
    subst hU
    exact fun x dx hx hdx ne => q (.ref x) _ (same_over hx (same_new hdx _)) ⟨x, dx, rfl, upd_same⟩
  · subst e
    refine seq_step fun U hU => ?_
    refine ⟨_, rfl, rfl, _, rfl, ?_⟩
    rw [strF (a := sEn) (b := sSe) (by decide +kernel)]
    refine iteF ?_
    show U _ _
    subst hU
    refine seq_step fun U hU => ?_
    refine ⟨_, rfl, rfl, _, rfl, ?_⟩
    rw [strF (a := sEn) (b := sAs) (by decide +kernel)]
    refine iteF ?_
    show U _ _
    subst hU
    refine seq_step fun U hU => ?_
    refine ⟨_, rfl, rfl, _, rfl, ?_⟩
    rw [strF (a := sEn) (b := sNe) (by decide +kernel)]
    refine iteF ?_
    show U _ _
    subst hU
    exact fun x dx hx hdx ne => q (.ref x) _ (same_over hx (same_new hdx _)) ⟨x, dx, rfl, upd_same⟩
theorem ok__law_cell {f : Addr} {fd : FuncData} (F : Fun K "_law_cell" "_law_cell" s__law_cell f fd) (m : mg "_law_cell" = some (.ref f)) (B : Bl mg)  : Def P w K mg base CX0 "_law_cell" 1 ["_law_script", "_law_k"] (sp__law_cell K) := by
 refine ⟨f, fd, F.ok sc__law_cell (fun vs H Q E h => ?_) (fun cdv A outer s H vs Q E hr h => ?_), F.binds (ps := ["_law_script", "_law_k"]) fun _ _ _ _ _ _ us hl => (by obtain ⟨b0, b1, rfl⟩ := us2 hl; rfl), F.kp, m⟩
 · obtain ⟨a, ns, k, rfl, _⟩ := h
   rfl
 obtain ⟨a, ns, k, rfl, hS, h0, q⟩ := h
 refine ⟨_, (@pss_cons _ _ _ _ _ (ps_if (pt_cmpR op_lt (pv 1) (pe_callB (call_lenK (K := K) rfl) (by rfl) B.len (by decide +kernel) (pa_Name (pv 0) pa_nil)) (nomark _)) (pss_one (ps_ret (pe_xL (K := K) (pv 0) (pv 1)))) pss_nil)
  (@pss_cons _ _ _ _ _ (ps_sz 2 sc__law_cell.nd (pe_op op_mul (pv 1) pe_int))
  (@pss_cons _ _ _ _ _ (ps_if (pt_cmpR op_gt (pe_callB (call_lenK (K := K) rfl) (by rfl) B.len (by decide +kernel) (pa_Name (pv 0) pa_nil)) pe_int (nomark _)) (pss_one (ps_sz 2 sc__law_cell.nd (pe_op op_add (pv 2) (pe_op op_mod (pe_xL (K := K) (pv 0) (pe_op op_mod (pv 1) (pe_callB (call_lenK (K := K) rfl) (by rfl) B.len (by decide +kernel) (pa_Name (pv 0) pa_nil)))) pe_int)))) pss_nil)
  (@pss_cons _ _ _ _ _ (ps_sz 3 sc__law_cell.nd (pe_op op_mod (pe_op op_mul (pv 2) pe_int) pe_int))
  (pss_one (ps_ret (pe_op op_mod (pe_op op_fdiv (pe_op op_mul (pv 3) (pe_op op_add (pe_op op_add (pv 3) (pe_op op_mul pe_int (pv 1))) pe_int)) pe_int) pe_int))))))), ?_⟩
 have hl : (ns.map V.int).length = ns.length := List.length_map _
 refine seq_step fun U hU => ?_
 refine ⟨_, rfl, _, rfl, a, _, rfl, .inl hS, _, _, rfl, rfl, _, rfl, ?_⟩
 rw [hl]
 unfold cellI at q
 refine ite2 (fun h => ?_) (fun h => ?_)
 · have c := of_decide_eq_true h
   rw [if_pos c] at q
   exact ⟨_, rfl, _, rfl, a, _, k, _, rfl, rfl, hS, atI_int h0 c, q⟩
 have c := fun z => h (decide_eq_true z)
 rw [if_neg c] at q
 show U _ _
 subst hU
 refine seq_step fun U hU => ?_
 refine ⟨_, rfl, _, _, rfl, rfl, .inr ⟨by decide, by decide⟩, ?_⟩
 show U _ _
 subst hU
 refine seq_step fun U hU => ?_
 have last : ∀ sd : Int, Q (.int (hashI k sd)) H -> U [some (V.ref a), some (.int k), some (.int sd), none] H := fun sd q => by
  subst hU
  refine seq_step fun U hU => ?_
  refine ⟨_, rfl, _, _, rfl, rfl, .inr ⟨by decide, by decide⟩, _, _, rfl, rfl, (by show (0 : Int) < 65537; decide), ?_⟩
  show U _ _
  dsimp only
  subst hU
  have m1 := Int.emod_nonneg (sd * 48271) (b := 65537) (by decide)
  have m2 := Int.emod_lt_of_pos (sd * 48271) (b := 65537) (by decide)
  unfold hashI at q
  generalize sd * 48271 % 65537 = t at *
  exact ⟨_, rfl, _, rfl, _, rfl, _, _, rfl, rfl, .inl ⟨by decide, by decide⟩, _, _, rfl, rfl, _, _, rfl, rfl, _, _, rfl, rfl, .inl ⟨by show -(2 ^ 64) < t; omega, by show t < 2 ^ 64; omega⟩, _, _, rfl, rfl, ⟨by decide, by decide⟩, _, _, rfl, rfl, (by show (0 : Int) < 65521; decide), q⟩
 refine ⟨_, rfl, a, _, rfl, .inl hS, _, _, rfl, rfl, _, rfl, ?_⟩
 rw [hl]
 refine ite2 (fun d => ?_) (fun d => ?_)
 · have d' : 0 < ns.length := by have := of_decide_eq_true d; omega
   rw [if_pos d'] at q
   have m1 := Int.emod_nonneg k (b := (ns.length : Int)) (by omega)
   have m2 := Int.emod_lt_of_pos k (b := (ns.length : Int)) (by omega)
   refine ⟨_, rfl, _, rfl, _, rfl, _, rfl, a, _, rfl, .inl hS, _, _, rfl, rfl, (by show (0 : Int) < ((ns.map V.int).length : Int); rw [hl]; omega), a, _, _, _, rfl, rfl, hS, (by show atI _ (k % ((ns.map V.int).length : Int)) = _; rw [hl]; exact atI_int m1 m2), _, _, rfl, rfl, (by show (0 : Int) < 65537; decide), _, _, rfl, rfl, ?_⟩
   exact last _ q
 · have d' : ¬ 0 < ns.length := fun z => d (decide_eq_true (by omega))
   rw [if_neg d'] at q
   exact last _ q
theorem ok__law_spread {f : Addr} {fd : FuncData} (F : Fun K "_law_spread" "_law_spread" s__law_spread f fd) (m : mg "_law_spread" = some (.ref f)) (B : Bl mg)  : Def P w K mg base CX0 "_law_spread" 1 ["_law_cell_here", "_law_k"] (sp__law_spread K) := by
 refine ⟨f, fd, F.ok sc__law_spread (fun vs H Q E h => ?_) (fun cdv A outer s H vs Q E hr h => ?_), F.binds (ps := ["_law_cell_here", "_law_k"]) fun _ _ _ _ _ _ us hl => (by obtain ⟨b0, b1, rfl⟩ := us2 hl; rfl), F.kp, m⟩
 · obtain ⟨c, k, rfl, _⟩ := h
   rfl
 obtain ⟨c, k, rfl, q⟩ := h
 refine ⟨_, (@pss_cons _ _ _ _ _ (ps_if (pt_chain op_lt op_lt (pe_un un_neg pe_int) (pv 0) pe_int) (pss_one (ps_ret (pe_op op_mod (pe_op op_mul (pe_op op_add (pe_op op_mul (pe_op op_add (pv 0) pe_int) (pe_op op_add (pe_op op_add (pv 0) pe_int) (pe_op op_mul pe_int (pv 1)))) (pe_op op_mul pe_int (pv 1))) pe_int) pe_int))) pss_nil)
  (pss_one (ps_ret (pv 0)))), ?_⟩
 refine seq_step fun U hU => ?_
 refine ⟨_, rfl, _, rfl, _, _, rfl, rfl, _, rfl, ?_⟩
 refine ite2 (fun h => ?_) (fun h => ?_)
 · have h1 := of_decide_eq_true h
   refine ⟨_, _, rfl, rfl, _, rfl, ?_⟩
   refine ite2 (fun h => ?_) (fun h => ?_)
   · have h2 := of_decide_eq_true h
     refine ⟨_, rfl, _, _, rfl, rfl, _, rfl, _, _, rfl, rfl, _, rfl, _, _, rfl, rfl, .inl ⟨by decide, by decide⟩, _, _, rfl, rfl, _, _, rfl, rfl, .inl ⟨by show -(2 ^ 64) < c + 1000; omega, by show c + 1000 < 2 ^ 64; omega⟩, _, rfl, _, _, rfl, rfl, .inl ⟨by decide, by decide⟩, _, _, rfl, rfl, _, _, rfl, rfl, .inr ⟨by decide, by decide⟩, _, _, rfl, rfl, (by show (0 : Int) < 1000003; decide), ?_⟩
     exact q _
   · show U _ _
     subst hU
     exact ⟨_, rfl, q _⟩
 · refine ⟨_, rfl, ?_⟩
   refine iteF ?_
   show U _ _
   subst hU
   exact ⟨_, rfl, q _⟩
theorem ok__law_whole {f : Addr} {fd : FuncData} (F : Fun K "_law_whole" "_law_whole" s__law_whole f fd) (m : mg "_law_whole" = some (.ref f)) (B : Bl mg)  : Def P w K mg base CX0 "_law_whole" 1 ["_law_found"] (sp__law_whole K) := by
 refine ⟨f, fd, F.ok sc__law_whole (fun vs H Q E h => ?_) (fun cdv A outer s H vs Q E hr h => ?_), F.binds (ps := ["_law_found"]) fun _ _ _ _ _ _ us hl => (by obtain ⟨b0, rfl⟩ := us1 hl; rfl), F.kp, m⟩
 · obtain ⟨i, rfl, _⟩ := h
   rfl
 obtain ⟨i, rfl, q⟩ := h
 refine ⟨_, (pss_one (ps_ret (pe_and (pe_callB (call_isTyK (K := K) rfl) (by rfl) B.isinstance (by decide +kernel) (pa_Name (pv 0) (pa_Name (pe_bltn (v := .ty "int") (u := .type "int") (by rfl) B.int (by decide +kernel) rfl) pa_nil))) (pe_one (pe_not (pe_callB (call_isTyK (K := K) rfl) (by rfl) B.isinstance (by decide +kernel) (pa_Name (pv 0) (pa_Name (pe_bltn (v := .ty "bool") (u := .type "bool") (by rfl) B.bool (by decide +kernel) rfl) pa_nil)))))))), ?_⟩
 simp [tSeq, tNext, tIfS, tRet, tAsg, gName, tTest, tOp, tUn, tVar, tC, rI, rI0, rU, rEq, rNe, scal, L2.start, tCall, tCB, tNil, tCons, tTup, tLst, tNot, tAnd, tOr, tAndV, tOrV, tNotV, tIf, tDrop, CDiv, tB, rIxT, rIxL, tSl, tPart, tNoPart, tYes, CPow, -Bool.exists_bool]
 exact ⟨_, isT_int_int, by simp; exact .inl ⟨isT_int_bool, q⟩⟩
theorem ok__law_big {f : Addr} {fd : FuncData} (F : Fun K "_law_big" "_law_big" s__law_big f fd) (m : mg "_law_big" = some (.ref f)) (B : Bl mg)  : Def P w K mg base CX0 "_law_big" 1 ["_law_cell_here"] (sp__law_big K) := by
 refine ⟨f, fd, F.ok sc__law_big (fun vs H Q E h => ?_) (fun cdv A outer s H vs Q E hr h => ?_), F.binds (ps := ["_law_cell_here"]) fun _ _ _ _ _ _ us hl => (by obtain ⟨b0, rfl⟩ := us1 hl; rfl), F.kp, m⟩
 · obtain ⟨c, rfl, _⟩ := h
   rfl
 obtain ⟨c, rfl, q⟩ := h
 refine ⟨_, (@pss_cons _ _ _ _ _ (ps_if (pt_cmpR op_eq (pe_op op_mod (pv 0) pe_int) pe_int (nomark _)) (pss_one (ps_ret (pe_op op_sub (pe_op op_mod (pe_op op_fdiv (pv 0) pe_int) (pe_op op_add (pe_op op_mul pe_int (pe_op op_pow pe_int pe_int)) pe_int)) (pe_op op_pow pe_int pe_int)))) pss_nil)
  (pss_one (ps_ret (pe_op op_sub (pe_op op_mod (pe_op op_fdiv (pv 0) pe_int) pe_int) pe_int)))), ?_⟩
 simp [tSeq, tNext, tIfS, tRet, tAsg, gName, tTest, tOp, tUn, tVar, tC, rI, rI0, rU, rEq, rNe, scal, L2.start, tCall, tCB, tNil, tCons, tTup, tLst, tNot, tAnd, tOr, tAndV, tOrV, tNotV, tIf, tDrop, CDiv, tB, rIxT, rIxL, tSl, tPart, tNoPart, tYes, CPow, CMul]
 unfold bigI at q
 split
 · rename_i d
   rw [if_pos d] at q
   exact q
 · rename_i d
   rw [if_neg d] at q
   exact q
theorem ok__law_point {f : Addr} {fd : FuncData} (F : Fun K "_law_point" "_law_point" s__law_point f fd) (m : mg "_law_point" = some (.ref f)) (B : Bl mg) (D__law_big : Def P w K mg base CX0 "_law_big" 1 ["_law_cell_here"] (sp__law_big K)) (D__law_cell : Def P w K mg base CX0 "_law_cell" 1 ["_law_script", "_law_k"] (sp__law_cell K)) : Def P w K mg base CX0 "_law_point" 2 ["_law_script", "_law_at", "_law_count"] (sp__law_point K) := by
 refine ⟨f, fd, F.ok sc__law_point (fun vs H Q E h => ?_) (fun cdv A outer s H vs Q E hr h => ?_), F.binds (ps := ["_law_script", "_law_at", "_law_count"]) fun _ _ _ _ _ _ us hl => (by obtain ⟨b0, b1, b2, rfl⟩ := us3 hl; rfl), F.kp, m⟩
 · obtain ⟨a, ns, k, n, rfl, _⟩ := h
   rfl
 obtain ⟨a, ns, k, n, rfl, hS, h0, hn, q⟩ := h
 refine ⟨_, (pss_one (ps_ret (pe_callTy (call_tuple_ofK (K := K) rfl) (by rfl) B.tuple (by decide +kernel) (pa_cons (pe_comp (CompScope.of sc__law_point.nd (by rfl)) rfl (pi_range1 (by rfl) B.range (pa_Name (pv 2) pa_nil)) (fun _ _ _ => pif_nil) (fun _ _ _ => (pe_dz D__law_big hr (pa_Call (pe_dz D__law_cell hr (pa_Name (pv 1) (pa_BinOp (pe_op op_add (pv 2) (pv 0)) pa_nil))) pa_nil)))) pa_nil)))), ?_⟩
 refine ⟨_, rfl, (n : Int), rfl, by omega, by omega, fun p hp => comp_rangeN (lo := 0) (n := (n : Int).toNat) (fun i ys H' => ys = (pointI ns k i).map V.int /\ H' p = some (.lst ys) /\ Same H H') ⟨rfl, upd_same, same_new hp _⟩ ?_ ?_⟩
 · rintro i ys H' hi ⟨rfl, hp', sm⟩
   simp [tSeq, tNext, tIfS, tRet, tAsg, gName, tTest, tOp, tUn, tVar, tC, rI, rI0, rU, rEq, rNe, scal, L2.start, tCall, tCB, tNil, tCons, tTup, tLst, tNot, tAnd, tOr, tAndV, tOrV, tNotV, tIf, tDrop, CDiv, tB, rIxT, rIxL, tSl, tPart, tNoPart, tYes, CPow, sp__law_big, sp__law_cell]
   refine ⟨_, _, _, ⟨rfl, rfl⟩, sm.seq hS, by omega, hp', ?_, again hi ⟨?_, ?_, fun b o e => ?_⟩⟩
   · rw [pointI_length]; exact Nat.lt_of_le_of_lt (Nat.le_of_lt hi) (small1000 (by omega))
   · rw [pointI_succ]; simp
   · rw [upd_same]
   · rw [upd_ne (fun z => by subst z; rw [hp] at e; cases e)]
     exact sm b o e
 · rintro ys H' ⟨rfl, hp', sm⟩
   have en : (n : Int).toNat = n := Int.toNat_natCast n
   rw [en] at hp'
   refine ⟨p, _, rfl, .inl ⟨SqL.of hp', fun l hl => q l _ (sm.free hl) (sm.trans (same_new hl _)) upd_same⟩⟩
theorem ok__law_sum {f : Addr} {fd : FuncData} (F : Fun K "_law_sum" "_law_sum" s__law_sum f fd) (m : mg "_law_sum" = some (.ref f)) (B : Bl mg)  : Def P w K mg base CX0 "_law_sum" 1 ["_law_point_here", "_law_f", "_law_g"] (sp__law_sum K) := by
 refine ⟨f, fd, F.ok sc__law_sum (fun vs H Q E h => ?_) (fun cdv A outer s H vs Q E hr h => ?_), F.binds (ps := ["_law_point_here", "_law_f", "_law_g"]) fun _ _ _ _ _ _ us hl => (by obtain ⟨b0, b1, b2, rfl⟩ := us3 hl; rfl), F.kp, m⟩
 · obtain ⟨a, xs, f1, g1, rfl, _⟩ := h
   rfl
 obtain ⟨a, xs, f1, g1, rfl, hP, hf, hg, q⟩ := h
 refine ⟨_, (@pss_cons _ _ _ _ _ (ps_sz 3 sc__law_sum.nd pe_int)
  (@pss_cons _ _ _ _ _ (ps_for PassesOwn.never rfl (pi_listK (K := K) rfl (pe_lst (pa_Name (pv 1) (pa_Name (pv 2) pa_nil)))) (pg_nz 4 sc__law_sum.nd) (pss_one (ps_if (pt_cmpR op_notN (pv 4) pe_non (nomark _)) (pss_one (ps_sz 3 sc__law_sum.nd (pe_op op_add (pv 3) (pe_op op_mul (pe_xT (K := K) (pv 0) (pe_op op_fdiv (pv 4) pe_int)) (pe_op op_sub pe_int (pe_op op_mul (pe_op op_mod (pv 4) pe_int) pe_int)))))) pss_nil)))
  (pss_one (ps_ret (pv 3))))), ?_⟩
 refine seq_step fun U hU => ?_
 show U _ _
 subst hU
 refine seq_step fun U hU => ?_
 refine ⟨_, rfl, _, rfl, sz 2, fun l hl => ?_⟩
 have sl := same_new hl (.lst [gV f1, gV g1])
 have hP' := sl.sqT hP
 refine ⟨l, rfl, ⟨_, SqL.of upd_same⟩, for_list (K := K) (a := l) (xs := [gV f1, gV g1]) (fun i σ H' => ∃ x, σ = [some (.ref a), some (gV f1), some (gV g1), some (.int (((match i with | 0 => [] | 1 => optL f1 | _ => fsO f1 g1).map (worthI xs)).sum)), x] /\ H' = upd H l (.lst [gV f1, gV g1])) ⟨none, rfl, rfl⟩ (fun i σ H' _ ⟨_, _, e⟩ => by subst e; exact SqL.of upd_same) ?_ ?_⟩
 · rintro i v σ H' hv ⟨x, rfl, rfl⟩
   match i, hv with
   | 0, hv =>
    cases hv
    refine ⟨_, rfl, rfl, _, rfl, ?_⟩
    cases f1 with
    | none =>
     refine iteF ?_
     exact ⟨_, rfl, rfl⟩
    | some z =>
     have hz : InR xs.length z := hf
     refine iteT ?_
     refine ⟨_, rfl, _, rfl, _, rfl, _, _, rfl, rfl, ⟨by decide, by decide⟩, a, _, _, _, rfl, rfl, hP', atI_int (by have := hz.1; omega) (by have := hz.2; omega), _, rfl, _, _, rfl, rfl, (by show (0 : Int) < 2; decide), _, _, rfl, rfl, .inr ⟨by decide, by decide⟩, _, _, rfl, rfl, _, _, rfl, rfl, .inr ⟨by show -(2 ^ 64) < 1 - z % 2 * 2; omega, by show 1 - z % 2 * 2 < 2 ^ 64; omega⟩, _, _, rfl, rfl, ?_⟩
     refine ⟨some (.int z), ?_, rfl⟩
     have es : (([] : List Int).map (worthI xs)).sum + xs.getD (z / 2).toNat 0 * (1 - z % 2 * 2) = ((optL (some z)).map (worthI xs)).sum := by rw [worthI_eq]; simp [optL]
     exact congrArg (fun t => [some (V.ref a), some (gV (some z)), some (gV g1), some (V.int t), some (V.int z)]) es
   | 1, hv =>
    cases hv
    refine ⟨_, rfl, rfl, _, rfl, ?_⟩
    cases g1 with
    | none =>
     refine iteF ?_
     refine ⟨some .non, ?_, rfl⟩
     have es : ((optL f1).map (worthI xs)).sum = ((fsO f1 none).map (worthI xs)).sum := by simp [fsO, optL]
     exact congrArg (fun t => [some (V.ref a), some (gV f1), some (gV none), some (V.int t), some V.non]) es
    | some z =>
     have hz : InR xs.length z := hg
     refine iteT ?_
     refine ⟨_, rfl, _, rfl, _, rfl, _, _, rfl, rfl, ⟨by decide, by decide⟩, a, _, _, _, rfl, rfl, hP', atI_int (by have := hz.1; omega) (by have := hz.2; omega), _, rfl, _, _, rfl, rfl, (by show (0 : Int) < 2; decide), _, _, rfl, rfl, .inr ⟨by decide, by decide⟩, _, _, rfl, rfl, _, _, rfl, rfl, .inr ⟨by show -(2 ^ 64) < 1 - z % 2 * 2; omega, by show 1 - z % 2 * 2 < 2 ^ 64; omega⟩, _, _, rfl, rfl, ?_⟩
     refine ⟨some (.int z), ?_, rfl⟩
     have es : ((optL f1).map (worthI xs)).sum + xs.getD (z / 2).toNat 0 * (1 - z % 2 * 2) = ((fsO f1 (some z)).map (worthI xs)).sum := by rw [worthI_eq]; simp [fsO, optL]
     exact congrArg (fun t => [some (V.ref a), some (gV f1), some (gV (some z)), some (V.int t), some (V.int z)]) es
   | i + 2, hv => simp at hv
 · rintro σ H' ⟨x, rfl, rfl⟩
   show U _ _
   subst hU
   exact ⟨_, rfl, q _ sl⟩
theorem ok__law_holds {f : Addr} {fd : FuncData} (F : Fun K "_law_holds" "_law_holds" s__law_holds f fd) (m : mg "_law_holds" = some (.ref f)) (B : Bl mg) (D__law_sum : Def P w K mg base CX0 "_law_sum" 1 ["_law_point_here", "_law_f", "_law_g"] (sp__law_sum K)) : Def P w K mg base CX0 "_law_holds" 2 ["_law_point_here", "_law_question"] (sp__law_holds K) := by
 refine ⟨f, fd, F.ok sc__law_holds (fun vs H Q E h => ?_) (fun cdv A outer s H vs Q E hr h => ?_), F.binds (ps := ["_law_point_here", "_law_question"]) fun _ _ _ _ _ _ us hl => (by obtain ⟨b0, b1, rfl⟩ := us2 hl; rfl), F.kp, m⟩
 · obtain ⟨a, b, xs, f1, g1, w1, c1, rfl, _⟩ := h
   rfl
 obtain ⟨a, b, xs, f1, g1, w1, c1, rfl, hP, hS, hf, hg, q⟩ := h
 refine ⟨_, (@pss_cons _ _ _ _ _ (ps_sz 2 sc__law_holds.nd (pe_dz D__law_sum hr (pa_Name (pv 0) (pa_Subscript (pe_xT (K := K) (pv 1) pe_int) (pa_Subscript (pe_xT (K := K) (pv 1) pe_int) pa_nil)))))
  (@pss_cons _ _ _ _ _ (ps_if (pt_cmpR op_eq (pe_xT (K := K) (pv 1) pe_int) pe_str (nomark _)) (pss_one (ps_ret (pe_cmpR op_le (pv 2) (pe_xT (K := K) (pv 1) pe_int) (nomark _)))) pss_nil)
  (@pss_cons _ _ _ _ _ (ps_if (pt_cmpR op_eq (pe_xT (K := K) (pv 1) pe_int) pe_str (nomark _)) (pss_one (ps_ret (pe_cmpR op_ge (pv 2) (pe_xT (K := K) (pv 1) pe_int) (nomark _)))) pss_nil)
  (pss_one (ps_ret (pe_cmpR op_eq (pe_cmpR op_eq (pv 2) (pe_xT (K := K) (pv 1) pe_int) (nomark _)) (pe_cmpR op_eq (pe_xT (K := K) (pv 1) pe_int) pe_str (nomark _)) (nomark _))))))), ?_⟩
 refine seq_step fun U hU => ?_
 refine ⟨_, rfl, _, rfl, b, _, 0, _, rfl, rfl, hS, rfl, _, rfl, b, _, 1, _, rfl, rfl, hS, rfl, a, xs, some f1, g1, rfl, hP, hf, hg, fun H1 sm1 => ?_⟩
 show U _ _
 rw [sumO_eq]
 subst hU
 have hS1 := sm1.sqT hS
 have q := q H1 sm1
 generalize sumI xs f1 g1 = s1 at *
 refine seq_step fun U hU => ?_
 refine ⟨_, rfl, b, _, 2, _, rfl, rfl, hS1, rfl, rfl, _, rfl, ?_⟩
 unfold holdsI at q
 by_cases h1 : w1 = Str.ofString "most"
 · rw [if_pos h1] at q
   rw [show decide (V.str w1 = V.str "most") = true from decide_eq_true (by rw [h1])]
   refine iteT ?_
   exact ⟨_, rfl, _, rfl, b, _, 3, _, rfl, rfl, hS1, rfl, _, _, rfl, rfl, q⟩
 rw [if_neg h1] at q
 rw [show decide (V.str w1 = V.str "most") = false from strF h1]
 refine iteF ?_
 show U _ _
 subst hU
 refine seq_step fun U hU => ?_
 refine ⟨_, rfl, b, _, 2, _, rfl, rfl, hS1, rfl, rfl, _, rfl, ?_⟩
 by_cases h2 : w1 = Str.ofString "least"
 · rw [if_pos h2] at q
   rw [show decide (V.str w1 = V.str "least") = true from decide_eq_true (by rw [h2])]
   refine iteT ?_
   exact ⟨_, rfl, _, rfl, b, _, 3, _, rfl, rfl, hS1, rfl, _, _, rfl, rfl, q⟩
 rw [if_neg h2] at q
 rw [show decide (V.str w1 = V.str "least") = false from strF h2]
 refine iteF ?_
 show U _ _
 subst hU
 refine ⟨_, rfl, _, rfl, b, _, 3, _, rfl, rfl, hS1, rfl, rfl, _, rfl, b, _, 2, _, rfl, rfl, hS1, rfl, rfl, rfl, ?_⟩
 have e1 : decide (V.int s1 = V.int c1) = decide (s1 = c1) := by by_cases h : s1 = c1 <;> simp [h]
 rw [e1]
 by_cases h3 : w1 = Str.ofString "same"
 · rw [if_pos h3] at q
   rw [show decide (V.str w1 = V.str "same") = true from decide_eq_true (by rw [h3])]
   have e2 : decide (V.bl (decide (s1 = c1)) = V.bl true) = decide (s1 = c1) := by by_cases h : s1 = c1 <;> simp [h]
   rw [e2]
   exact q
 · rw [if_neg h3] at q
   rw [show decide (V.str w1 = V.str "same") = false from strF h3]
   have e2 : decide (V.bl (decide (s1 = c1)) = V.bl false) = !decide (s1 = c1) := by by_cases h : s1 = c1 <;> simp [h]
   rw [e2]
   exact q
theorem ok__law_word {f : Addr} {fd : FuncData} (F : Fun K "_law_word" "_law_word" s__law_word f fd) (m : mg "_law_word" = some (.ref f)) (B : Bl mg)  : Def P w K mg base CX0 "_law_word" 1 ["_law_kind_here", "_law_room", "_law_opened", "_law_rows", "_law_found"] (sp__law_word K) := by
 refine ⟨f, fd, F.ok sc__law_word (fun vs H Q E h => ?_) (fun cdv A outer s H vs Q E hr h => ?_), F.binds (ps := ["_law_kind_here", "_law_room", "_law_opened", "_law_rows", "_law_found"]) fun _ _ _ _ _ _ us hl => (by obtain ⟨b0, b1, b2, b3, b4, rfl⟩ := us5 hl; rfl), F.kp, m⟩
 · obtain ⟨kd, z, room, r, op, fo, rv, Rs, s1, rfl, _⟩ := h
   rfl
 obtain ⟨kd, z, room, r, op, fo, rv, Rs, s1, rfl, er, hRw, ews, ef, eo, Bk, k0, erm, lz, lo, q⟩ := h
 refine ⟨_, (@pss_cons _ _ _ _ _ (ps_if (pt_cmpR op_le (pv 1) pe_int (nomark _)) (pss_one (ps_ret pe_str)) pss_nil)
  (@pss_cons _ _ _ _ _ (ps_if (pw_and (pt_cmpR op_lt (pv 0) pe_int (nomark _)) (pw_and1 (pt_cmpR op_gt (pv 1) pe_int (nomark _)))).pt (pss_one (ps_ret (pe_xL (K := K) (pe_lst (pa_Constant pe_str (pa_Constant pe_str pa_nil))) (pe_op op_mod (pv 0) pe_int)))) pss_nil)
  (@pss_cons _ _ _ _ _ (ps_if (pw_and (pt_cmpR op_eq (pv 0) pe_int (nomark _)) (pw_and (pt_cmpR op_gt (pe_callB (call_lenK (K := K) rfl) (by rfl) B.len (by decide +kernel) (pa_Name (pv 2) pa_nil)) pe_int (nomark _)) (pw_and (pt_cmpR op_eq (pe_xT (K := K) (pe_xL (K := K) (pv 3) (pe_xL (K := K) (pv 2) (pe_un un_neg pe_int))) pe_int) pe_str (nomark _)) (pw_and1 (pt_cmpR op_isN (pe_xL (K := K) (pv 4) (pe_xL (K := K) (pv 2) (pe_un un_neg pe_int))) pe_non (nomark _)))))).pt (pss_one (ps_ret pe_str)) pss_nil)
  (@pss_cons _ _ _ _ _ (ps_if (pw_and (pt_chain op_lt op_lt pe_int (pv 0) pe_int) (pw_and1 (pt_cmpR op_gt (pe_callB (call_lenK (K := K) rfl) (by rfl) B.len (by decide +kernel) (pa_Name (pv 2) pa_nil)) pe_int (nomark _)))).pt (pss_one (ps_ret pe_str)) pss_nil)
  (pss_one (ps_ret (pe_xL (K := K) (pe_lst (pa_Constant pe_str (pa_Constant pe_str (pa_Constant pe_str (pa_Constant pe_str (pa_Constant pe_str pa_nil)))))) (pe_op op_mod (pv 0) pe_int)))))))), ?_⟩
 have lo' : (nV s1.o).length = s1.o.length := List.length_map _
 have fin : ∀ H', Same H H' -> 0 < s1.o.length -> Q (.str sEn) H' := fun H' sm hpos => by
  obtain ⟨o, t, eo'⟩ := snoc_of (o := s1.o) hpos
  exact q sEn _ H' sm (.fin rfl o t eo') (by have := congrArg List.length eo'; simp at this ⊢; omega) (.inr (.inr (.inr (.inr (.inr (.inr (.inr rfl)))))))
 refine seq_step fun U hU => ?_
 refine ⟨_, rfl, _, _, rfl, rfl, _, rfl, ?_⟩
 refine ite2 (fun h => ?_) (fun h => ?_)
 · have h' := of_decide_eq_true h
   exact fin H (Same.refl _) (by omega)
 have r1 : 1 <= room := by have hn : ¬ room <= 0 := fun e => h (decide_eq_true e); omega
 show U _ _
 subst hU
 refine seq_step fun U hU => ?_
 have key : U [some (.int kd), some (.int room), some (.ref op), some (.ref r), some (.ref fo)] H := by
  subst hU
  refine seq_step fun U hU => ?_
  have key : U [some (.int kd), some (.int room), some (.ref op), some (.ref r), some (.ref fo)] H := by
   subst hU
   refine seq_step fun U hU => ?_
   have key : U [some (.int kd), some (.int room), some (.ref op), some (.ref r), some (.ref fo)] H := by
    subst hU
    have m1 := Int.emod_nonneg kd (b := 5) (by decide)
    have m2 := Int.emod_lt_of_pos kd (b := 5) (by decide)
    obtain ⟨w, hw, aw⟩ := pickW (l := [sSe, sSe, sAs, sNe, sCl]) m1 (by show kd % 5 < 5; exact m2)
    obtain ⟨w1, w2, w3, w4, w5⟩ := w_five w hw
    refine ⟨sz 5, fun l hl => ⟨_, rfl, _, _, rfl, rfl, (by show (0 : Int) < 5; decide), l, _, _, _, rfl, rfl, SqL.of upd_same, aw, ?_⟩⟩
    exact q w _ _ (same_new hl _) (.oth w1 w2 w3 w4) (by simp; omega) w5
   refine ⟨_, rfl, _, _, rfl, rfl, _, rfl, ?_⟩
   refine ite2 (fun h => ?_) (fun h => ?_)
   · refine ⟨_, _, rfl, rfl, _, rfl, ?_⟩
     refine ite2 (fun h => ?_) (fun h => ?_)
     · refine ⟨_, rfl, op, _, rfl, .inl (SqL.of eo), _, _, rfl, rfl, _, rfl, ?_⟩
       refine ite2 (fun h => ?_) (fun h => ?_)
       · have h' := of_decide_eq_true h
         rw [lo'] at h'
         exact fin H (Same.refl _) (by omega)
       · exact key
     · refine iteF ?_
       exact key
   · refine ⟨_, rfl, ?_⟩
     refine iteF ?_
     refine iteF ?_
     exact key
  refine ⟨_, rfl, rfl, _, rfl, ?_⟩
  refine ite2 (fun h => ?_) (fun h => ?_)
  · refine ⟨_, rfl, op, _, rfl, .inl (SqL.of eo), _, _, rfl, rfl, _, rfl, ?_⟩
    refine ite2 (fun h => ?_) (fun h => ?_)
    · have h' := of_decide_eq_true h
      rw [lo'] at h'
      obtain ⟨o, t, eo'⟩ := snoc_of (o := s1.o) (by omega)
      have ht : t < s1.ws.length := Bk.o_lt t (by rw [eo']; simp)
      have el : nV s1.o = nV o ++ [.int (t : Nat)] := by rw [eo']; simp [nV]
      have at1 : atI (nV s1.o) (-1) = some (.int (t : Nat)) := by rw [el]; exact at_last _ _
      have ewt : (Rs.map Rw.word)[t]? = some s1.ws[t] := by rw [ews]; exact List.getElem?_eq_getElem ht
      obtain ⟨ra, rx, era, hra⟩ := rw_word hRw ewt
      refine ⟨_, rfl, _, rfl, (1 : Int), rfl, op, _, _, _, rfl, rfl, SqL.of eo, at1, r, _, _, _, rfl, rfl, SqL.of er, at_nat era, ra, _, (0 : Int), _, rfl, rfl, SqT.of hra, at0 _ _, rfl, _, rfl, ?_⟩
      refine ite2 (fun h1 => ?_) (fun h1 => ?_)
      · have w1 : s1.ws[t]? = some sIf := by rw [← ews, ewt]; exact congrArg some (V.str.inj (of_decide_eq_true h1))
        have eft : s1.f[t]? = some (s1.f[t]'(by rw [Bk.len]; exact ht)) := List.getElem?_eq_getElem _
        generalize s1.f[t]'(by rw [Bk.len]; exact ht) = fz at eft
        refine ⟨_, rfl, _, rfl, (1 : Int), rfl, op, _, _, _, rfl, rfl, SqL.of eo, at1, fo, _, _, _, rfl, rfl, SqL.of ef, gN_get eft, rfl, _, rfl, ?_⟩
        cases fz with
        | none =>
         refine iteT ?_
         exact q sEl _ H (Same.refl _) (.els rfl o t eo' w1 eft) (by simp; omega) (.inr (.inr (.inr (.inr (.inr (.inr (.inl rfl)))))))
        | some x =>
         refine iteF ?_
         exact key
      · refine iteF ?_
        exact key
    · refine iteF ?_
      exact key
  · refine iteF ?_
    exact key
 refine ⟨_, rfl, _, _, rfl, rfl, _, rfl, ?_⟩
 refine ite2 (fun h => ?_) (fun h => ?_)
 · refine ⟨_, rfl, _, _, rfl, rfl, _, rfl, ?_⟩
   refine ite2 (fun h2 => ?_) (fun h2 => ?_)
   · have h' := of_decide_eq_true h
     have h2' := of_decide_eq_true h2
     have m1 := Int.emod_nonneg kd (b := 2) (by decide)
     have m2 := Int.emod_lt_of_pos kd (b := 2) (by decide)
     obtain ⟨w, hw, aw⟩ := pickW (l := [sIf, sWh]) m1 (by show kd % 2 < 2; exact m2)
     obtain ⟨w1, w2⟩ := w_two w hw
     refine ⟨sz 2, fun l hl => ⟨_, rfl, _, _, rfl, rfl, (by show (0 : Int) < 2; decide), l, _, _, _, rfl, rfl, SqL.of upd_same, aw, ?_⟩⟩
     exact q w _ _ (same_new hl _) (.opn w1) (by simp; omega) w2
   · exact key
 · refine iteF ?_
   exact key
theorem ok__law_row {f : Addr} {fd : FuncData} (F : Fun K "_law_row" "_law_row" s__law_row f fd) (m : mg "_law_row" = some (.ref f)) (B : Bl mg) (D__law_big : Def P w K mg base CX0 "_law_big" 1 ["_law_cell_here"] (sp__law_big K)) (D__law_sum : Def P w K mg base CX0 "_law_sum" 1 ["_law_point_here", "_law_f", "_law_g"] (sp__law_sum K)) : Def P w K mg base CX0 "_law_row" 2 ["_law_word_here", "_law_point_here", "_law_cell_here", "_law_far"] (sp__law_row K) := by
 refine ⟨f, fd, F.ok sc__law_row (fun vs H Q E h => ?_) (fun cdv A outer s H vs Q E hr h => ?_), F.binds (ps := ["_law_word_here", "_law_point_here", "_law_cell_here", "_law_far"]) fun _ _ _ _ _ _ us hl => (by obtain ⟨b0, b1, b2, b3, rfl⟩ := us4 hl; rfl), F.kp, m⟩
 · obtain ⟨w1, c, far, pt, xs, n, rfl, _⟩ := h
   rfl
 obtain ⟨w1, c, far, pt, xs, n, rfl, hP, xl, n1, n6, hw, q⟩ := h
 refine ⟨_, (@pss_cons _ _ _ _ _ (ps_sz 4 sc__law_row.nd (pe_op op_mul pe_int (pe_callB (call_lenK (K := K) rfl) (by rfl) B.len (by decide +kernel) (pa_Name (pv 1) pa_nil))))
  (@pss_cons _ _ _ _ _ (ps_if (pw_or (pt_cmpR op_eq (pv 0) pe_str (nomark _)) (pw_or1 (pt_cmpR op_eq (pv 0) pe_str (nomark _)))).pt (pss_one (ps_ret (pe_tup (pa_Name (pv 0) pa_nil)))) pss_nil)
  (@pss_cons _ _ _ _ _ (ps_sz 5 sc__law_row.nd (pe_op op_mod (pe_op op_fdiv (pv 2) pe_int) (pv 4)))
  (@pss_cons _ _ _ _ _ (ps_sz 6 sc__law_row.nd (pe_op op_mod (pe_op op_fdiv (pv 2) pe_int) (pv 4)))
  (@pss_cons _ _ _ _ _ (ps_if (pt_cmpR op_eq (pv 0) pe_str (nomark _)) (@pss_cons _ _ _ _ _ (ps_sz 7 sc__law_row.nd (pe_xL (K := K) (pe_lst (pa_Constant pe_non (pa_Call (pe_dz D__law_big hr (pa_Name (pv 3) pa_nil)) (pa_Constant pe_non (pa_Call (pe_dz D__law_big hr (pa_Name (pv 3) pa_nil)) pa_nil))))) (pe_op op_mod (pv 2) pe_int)))
  (@pss_cons _ _ _ _ _ (ps_sz 8 sc__law_row.nd (pe_xL (K := K) (pe_lst (pa_Constant pe_non (pa_Constant pe_non (pa_Call (pe_dz D__law_big hr (pa_Name (pv 3) pa_nil)) (pa_BinOp (pe_op op_add (pe_dz D__law_big hr (pa_Name (pv 3) pa_nil)) (pe_op op_mod (pe_op op_fdiv (pv 2) pe_int) pe_int)) pa_nil))))) (pe_op op_mod (pv 2) pe_int)))
  (pss_one (ps_ret (pe_tup (pa_Constant pe_str (pa_BinOp (pe_op op_mod (pe_op op_fdiv (pv 2) pe_int) (pe_callB (call_lenK (K := K) rfl) (by rfl) B.len (by decide +kernel) (pa_Name (pv 1) pa_nil))) (pa_Name (pv 7) (pa_Name (pv 8) pa_nil))))))))) pss_nil)
  (@pss_cons _ _ _ _ _ (ps_if (pt_cmpR op_eq (pv 0) pe_str (nomark _)) (@pss_cons _ _ _ _ _ (ps_if (pt_cmpR op_eq (pe_op op_mod (pv 2) pe_int) pe_int (nomark _)) (pss_one (ps_ret (pe_tup (pa_Constant pe_str (pa_BinOp (pe_op op_mod (pe_op op_fdiv (pv 2) pe_int) (pe_callB (call_lenK (K := K) rfl) (by rfl) B.len (by decide +kernel) (pa_Name (pv 1) pa_nil))) (pa_Constant pe_non (pa_Constant pe_non (pa_Call (pe_dz D__law_big hr (pa_Name (pv 3) pa_nil)) pa_nil)))))))) pss_nil)
  (pss_one (ps_ret (pe_tup (pa_Constant pe_str (pa_BinOp (pe_op op_mod (pe_op op_fdiv (pv 2) pe_int) (pe_callB (call_lenK (K := K) rfl) (by rfl) B.len (by decide +kernel) (pa_Name (pv 1) pa_nil))) (pa_Name (pv 5) (pa_Subscript (pe_xL (K := K) (pe_lst (pa_Name (pv 6) (pa_Constant pe_non pa_nil))) (pe_op op_sub (pe_op op_mod (pv 2) pe_int) pe_int)) (pa_Call (pe_dz D__law_big hr (pa_Name (pv 3) pa_nil)) pa_nil))))))))) pss_nil)
  (@pss_cons _ _ _ _ _ (ps_sz 6 sc__law_row.nd (pe_xL (K := K) (pe_lst (pa_Name (pv 6) (pa_Name (pv 6) (pa_Constant pe_non pa_nil)))) (pe_op op_mod (pv 2) pe_int)))
  (@pss_cons _ _ _ _ _ (ps_sz 9 sc__law_row.nd (pe_op op_sub (pe_op op_add (pe_dz D__law_sum hr (pa_Name (pv 1) (pa_Name (pv 5) (pa_Name (pv 6) pa_nil)))) (pe_op op_mod (pv 3) pe_int)) pe_int))
  (@pss_cons _ _ _ _ _ (ps_if (pt_cmpR op_eq (pe_op op_mod (pe_op op_fdiv (pv 2) pe_int) pe_int) pe_int (nomark _)) (pss_one (ps_sz 9 sc__law_row.nd (pe_dz D__law_big hr (pa_Name (pv 3) pa_nil)))) pss_nil)
  (pss_one (ps_ret (pe_tup (pa_Name (pv 0) (pa_Tuple (pe_tup (pa_Name (pv 5) (pa_Name (pv 6) (pa_Subscript (pe_xL (K := K) (pe_lst (pa_Constant pe_str (pa_Constant pe_str (pa_Constant pe_str (pa_Constant pe_str pa_nil))))) (pe_op op_mod (pe_op op_fdiv (pv 2) pe_int) pe_int)) (pa_Name (pv 9) pa_nil))))) pa_nil)))))))))))))), ?_⟩
 have el : ((xs.map V.int).length : Int) = (n : Int) := by rw [List.length_map, xl]
 refine seq_step fun U hU => ?_
 refine ⟨_, rfl, pt, _, rfl, .inr hP, _, _, rfl, rfl, .inl ⟨by decide, by decide⟩, ?_⟩
 show U _ _
 dsimp only
 rw [el]
 subst hU
 refine seq_step fun U hU => ?_
 refine ⟨_, rfl, rfl, _, rfl, ?_⟩
 refine ite2 (fun h => ?_) (fun h => ?_)
 · have e := V.str.inj (of_decide_eq_true h)
   refine iteT ?_
   exact ⟨_, rfl, sz 1, fun p hp => q (.ref p) (.bare w1) _ (same_new hp _) ⟨p, rfl, upd_same⟩ (.inl e) rfl⟩
 have nel : w1 ≠ sEl := fun e => h (decide_eq_true (by rw [e]))
 refine ⟨_, rfl, rfl, _, rfl, ?_⟩
 refine ite2 (fun h => ?_) (fun h => ?_)
 · have e := V.str.inj (of_decide_eq_true h)
   exact ⟨_, rfl, sz 1, fun p hp => q (.ref p) (.bare w1) _ (same_new hp _) ⟨p, rfl, upd_same⟩ (.inr e) rfl⟩
 have nen : w1 ≠ sEn := fun e => h (decide_eq_true (by rw [e]))
 show U _ _
 subst hU
 refine seq_step fun U hU => ?_
 obtain ⟨f, ef, hf⟩ := modF (c / 3) n1
 obtain ⟨g, eg, hg⟩ := modF (c / 24) n1
 refine ⟨_, rfl, _, _, rfl, rfl, ⟨by decide, by decide⟩, _, rfl, _, _, rfl, rfl, (by show (0 : Int) < 2 * (n : Int); omega), ?_⟩
 show U _ _
 dsimp only
 rw [ef]
 subst hU
 refine seq_step fun U hU => ?_
 refine ⟨_, rfl, _, _, rfl, rfl, ⟨by decide, by decide⟩, _, rfl, _, _, rfl, rfl, (by show (0 : Int) < 2 * (n : Int); omega), ?_⟩
 show U _ _
 dsimp only
 rw [eg]
 subst hU
 refine seq_step fun U hU => ?_
 refine ⟨_, rfl, rfl, _, rfl, ?_⟩
 refine ite2 (fun h => ?_) (fun h => ?_)
 · have e : w1 = sAs := V.str.inj (of_decide_eq_true h)
   subst e
   obtain ⟨lo, hi, alo, ahi, hlh⟩ := pickLo c (bigI far) (c / 4 % 9) (Int.emod_nonneg _ (by decide))
   obtain ⟨k, ek, hk⟩ := mod_ltD (c / 36) n1
   refine seq_step fun U' hU' => ?_
   refine ⟨_, rfl, _, rfl, _, rfl, _, rfl, sz 4, fun l hl => ⟨_, rfl, _, _, rfl, rfl, (by show (0 : Int) < 4; decide), l, _, _, _, rfl, rfl, SqL.of upd_same, alo, ?_⟩⟩
   have s1 := same_new hl (.lst [.non, .int (bigI far), .non, .int (bigI far)])
   show U' _ _
   subst hU'
   refine seq_step fun U' hU' => ?_
   refine ⟨_, rfl, _, rfl, _, rfl, _, rfl, _, rfl, _, _, rfl, rfl, ⟨by decide, by decide⟩, _, _, rfl, rfl, (by show (0 : Int) < 9; decide), _, _, rfl, rfl, sz 4, fun l2 hl2 => ⟨_, rfl, _, _, rfl, rfl, (by show (0 : Int) < 4; decide), l2, _, _, _, rfl, rfl, SqL.of upd_same, ahi, ?_⟩⟩
   have s2 := s1.trans (same_new hl2 (.lst [.non, .non, .int (bigI far), .int (bigI far + c / 4 % 9)]))
   show U' _ _
   subst hU'
   refine ⟨_, rfl, _, _, rfl, rfl, ⟨by decide, by decide⟩, _, rfl, pt, _, rfl, .inr (s2.sqT hP), _, _, rfl, rfl, (by show (0 : Int) < ((xs.map V.int).length : Int); rw [el]; omega), _, rfl, _, rfl, sz 4, fun p hp => ?_⟩
   refine q (.ref p) (.ask k lo hi) _ (s2.trans (same_new hp _)) ⟨p, rfl, ?_⟩ ⟨hk, hlh⟩ rfl
   rw [upd_same]
   show some (HO.tup [.str sAs, .int (c / 36 % ((xs.map V.int).length : Int)), eV lo, eV hi]) = _
   rw [el, ek]
 have nas : w1 ≠ sAs := fun e => h (decide_eq_true (by rw [e]))
 show U _ _
 subst hU
 refine seq_step fun U hU => ?_
 refine ⟨_, rfl, rfl, _, rfl, ?_⟩
 refine ite2 (fun h => ?_) (fun h => ?_)
 · have e : w1 = sSe := V.str.inj (of_decide_eq_true h)
   subst e
   obtain ⟨k, ek, hk⟩ := mod_ltD (c / 192) n1
   refine seq_step fun U' hU' => ?_
   refine ⟨_, rfl, _, _, rfl, rfl, (by show (0 : Int) < 3; decide), rfl, _, rfl, ?_⟩
   refine ite2 (fun h3 => ?_) (fun h3 => ?_)
   · refine ⟨_, rfl, _, _, rfl, rfl, ⟨by decide, by decide⟩, _, rfl, pt, _, rfl, .inr hP, _, _, rfl, rfl, (by show (0 : Int) < ((xs.map V.int).length : Int); rw [el]; omega), _, rfl, _, rfl, sz 5, fun p hp => ?_⟩
     refine q (.ref p) (.set k none none (bigI far)) _ (same_new hp _) ⟨p, rfl, ?_⟩ ⟨hk, trivial, trivial⟩ rfl
     rw [upd_same]
     show some (HO.tup [.str sSe, .int (c / 192 % ((xs.map V.int).length : Int)), .non, .non, .int (bigI far)]) = _
     rw [el, ek]
     rfl
   · have n3 : c % 3 ≠ 0 := fun e => h3 (decide_eq_true (congrArg V.int e))
     obtain ⟨o, ao, ho⟩ := pickG2 c g n3
     show U' _ _
     subst hU'
     refine ⟨_, rfl, _, _, rfl, rfl, ⟨by decide, by decide⟩, _, rfl, pt, _, rfl, .inr hP, _, _, rfl, rfl, (by show (0 : Int) < ((xs.map V.int).length : Int); rw [el]; omega), _, rfl, _, rfl, sz 2, fun l hl => ⟨_, rfl, _, _, rfl, rfl, (by show (0 : Int) < 3; decide), _, _, rfl, rfl, l, _, _, _, rfl, rfl, SqL.of upd_same, ao, _, rfl, _, rfl, sz 5, fun p hp => ?_⟩⟩
     refine q (.ref p) (.set k (some f) o (bigI far)) _ ((same_new hl _).trans (same_new hp _)) ⟨p, rfl, ?_⟩ ⟨hk, hf, inG_of hg ho⟩ rfl
     rw [upd_same]
     show some (HO.tup [.str sSe, .int (c / 192 % ((xs.map V.int).length : Int)), .int f, gV o, .int (bigI far)]) = _
     rw [el, ek]
     rfl
 have nse : w1 ≠ sSe := fun e => h (decide_eq_true (by rw [e]))
 have hwd : w1 = sNe \/ w1 = sCl \/ w1 = sIf \/ w1 = sWh := by
  rcases hw with e | e | e | e | e | e | e | e
  · exact absurd e nse
  · exact absurd e nas
  · exact .inl e
  · exact .inr (.inl e)
  · exact .inr (.inr (.inl e))
  · exact .inr (.inr (.inr e))
  · exact absurd e nel
  · exact absurd e nen
 show U _ _
 subst hU
 obtain ⟨o, ao, ho⟩ := pickG3 c g
 refine seq_step fun U hU => ?_
 refine ⟨_, rfl, _, rfl, sz 3, fun l hl => ⟨_, rfl, _, _, rfl, rfl, (by show (0 : Int) < 3; decide), l, _, _, _, rfl, rfl, SqL.of upd_same, ao, ?_⟩⟩
 show U _ _
 subst hU
 have s1 := same_new hl (.lst [.int g, .int g, .non])
 generalize upd H l (.lst [.int g, .int g, .non]) = H1 at *
 refine seq_step fun U hU => ?_
 refine ⟨_, rfl, _, rfl, _, rfl, pt, xs, some f, o, rfl, s1.sqT hP, by rw [xl]; exact hf, by rw [xl]; exact inG_of hg ho, fun H2 sm2 => ?_⟩
 refine ⟨_, rfl, _, _, rfl, rfl, (by show (0 : Int) < 5; decide), _, _, rfl, rfl, _, _, rfl, rfl, ?_⟩
 show U _ _
 subst hU
 have s2 := s1.trans sm2
 refine seq_step fun U hU => ?_
 have key : ∀ num : Int, U [some (.str w1), some (.ref pt), some (.int c), some (.int far), some (.int (2 * (n : Int))), some (.int f), some (gV o), none, none, some (.int num)] H2 := by
  intro num
  subst hU
  obtain ⟨wq, hwq, aq⟩ := pickQ4 (c / 768)
  refine ⟨_, rfl, _, rfl, _, rfl, sz 4, fun l2 hl2 => ⟨_, rfl, _, _, rfl, rfl, ⟨by decide, by decide⟩, _, _, rfl, rfl, (by show (0 : Int) < 4; decide), l2, _, _, _, rfl, rfl, SqL.of upd_same, aq, _, rfl, sz 4, fun b hb => ⟨sz 2, fun p hp => ?_⟩⟩⟩
  have s3 := same_new hp (.tup [.str w1, .ref b])
  exact q (.ref p) (.qu w1 f o wq num) _ (((s2.trans (same_new hl2 _)).trans (same_new hb _)).trans s3) ⟨p, b, rfl, upd_same, s3 _ _ upd_same⟩ ⟨hwd, hf, inG_of hg ho, hwq⟩ rfl
 refine ⟨_, rfl, _, _, rfl, rfl, ⟨by decide, by decide⟩, _, _, rfl, rfl, (by show (0 : Int) < 4; decide), rfl, _, rfl, ?_⟩
 refine ite2 (fun h => ?_) (fun h => ?_)
 · exact ⟨_, rfl, _, rfl, key _⟩
 · exact key _
theorem ok__law_program {f : Addr} {fd : FuncData} (F : Fun K "_law_program" "_law_program" s__law_program f fd) (m : mg "_law_program" = some (.ref f)) (B : Bl mg) (D__law_spread : Def P w K mg base CX0 "_law_spread" 1 ["_law_cell_here", "_law_k"] (sp__law_spread K)) (D__law_word : Def P w K mg base CX0 "_law_word" 1 ["_law_kind_here", "_law_room", "_law_opened", "_law_rows", "_law_found"] (sp__law_word K)) (D__law_cell : Def P w K mg base CX0 "_law_cell" 1 ["_law_script", "_law_k"] (sp__law_cell K)) (D__law_row : Def P w K mg base CX0 "_law_row" 2 ["_law_word_here", "_law_point_here", "_law_cell_here", "_law_far"] (sp__law_row K)) : Def P w K mg base CX0 "_law_program" 3 ["_law_script", "_law_size", "_law_point_here"] (sp__law_program K) := by
 refine ⟨f, fd, F.ok sc__law_program (fun vs H Q E h => ?_) (fun cdv A outer s H vs Q E hr h => ?_), F.binds (ps := ["_law_script", "_law_size", "_law_point_here"]) fun _ _ _ _ _ _ us hl => (by obtain ⟨b0, b1, b2, rfl⟩ := us3 hl; rfl), F.kp, m⟩
 · obtain ⟨a, pt, ns, xs, z, n, rfl, _⟩ := h
   rfl
 obtain ⟨a, pt, ns, xs, z, n, rfl, hS, hz, ept, xl, ge1, n6, q⟩ := h
 have D__law_cell := D__law_cell.imp (cellAt_of (a := a) (ns := ns))
 refine ⟨_, (@pss_cons _ _ _ _ _ (ps_sz 3 sc__law_program.nd (pe_lst pa_nil))
  (@pss_cons _ _ _ _ _ (ps_sz 4 sc__law_program.nd (pe_lst pa_nil))
  (@pss_cons _ _ _ _ _ (ps_sz 5 sc__law_program.nd (pe_lst pa_nil))
  (@pss_cons _ _ _ _ _ (ps_while PassesOwn.never (pt_cmpR op_lt (pe_callB (call_lenK (K := K) rfl) (by rfl) B.len (by decide +kernel) (pa_Name (pv 3) pa_nil)) (pv 1) (nomark _)) (@pss_cons _ _ _ _ _ (ps_sz 6 sc__law_program.nd (pe_callB (call_lenK (K := K) rfl) (by rfl) B.len (by decide +kernel) (pa_Name (pv 3) pa_nil)))
  (@pss_cons _ _ _ _ _ (ps_sz 7 sc__law_program.nd (pe_dz D__law_spread hr (pa_Call (pe_dz D__law_cell hr (pa_Name (pv 0) (pa_BinOp (pe_op op_add pe_int (pe_op op_mul pe_int (pv 6))) pa_nil))) (pa_Name (pv 6) pa_nil))))
  (@pss_cons _ _ _ _ _ (ps_sz 8 sc__law_program.nd (pe_dz D__law_word hr (pa_BinOp (pe_op op_mod (pv 7) pe_int) (pa_BinOp (pe_op op_sub (pe_op op_sub (pv 1) (pv 6)) (pe_callB (call_lenK (K := K) rfl) (by rfl) B.len (by decide +kernel) (pa_Name (pv 5) pa_nil))) (pa_Name (pv 5) (pa_Name (pv 3) (pa_Name (pv 4) pa_nil)))))))
  (@pss_cons _ _ _ _ _ (ps_expr (pe_bm PySem.F.plainAttrs_list PySem.F.slot_list_append PySem.F.type_list_append mt_append (pv 4) (pa_Constant pe_non pa_nil)))
  (@pss_cons _ _ _ _ _ (ps_if (pw_or (pt_cmpR op_eq (pv 8) pe_str (nomark _)) (pw_or1 (pt_cmpR op_eq (pv 8) pe_str (nomark _)))).pt (pss_one (ps_expr (pe_bm PySem.F.plainAttrs_list PySem.F.slot_list_append PySem.F.type_list_append mt_append (pv 5) (pa_Name (pv 6) pa_nil)))) pss_nil)
  (@pss_cons _ _ _ _ _ (ps_if (pt_cmpR op_eq (pv 8) pe_str (nomark _)) (pss_one (ps_asg (pv 6) (pg_sub (pv 4) (pe_xL (K := K) (pv 5) (pe_un un_neg pe_int)) set_list))) pss_nil)
  (@pss_cons _ _ _ _ _ (ps_if (pt_cmpR op_eq (pv 8) pe_str (nomark _)) (@pss_cons _ _ _ _ _ (ps_sz 9 sc__law_program.nd (pe_bm0 PySem.F.plainAttrs_list PySem.F.slot_list_pop PySem.F.type_list_pop mt_pop (pv 5)))
  (@pss_cons _ _ _ _ _ (ps_asg (pv 9) (pg_sub (pv 4) (pv 6) set_list))
  (pss_one (ps_if (pt_cmpR op_isN (pe_xL (K := K) (pv 4) (pv 9)) pe_non (nomark _)) (pss_one (ps_asg (pv 6) (pg_sub (pv 4) (pv 9) set_list))) (pss_one (ps_asg (pv 6) (pg_sub (pv 4) (pe_xL (K := K) (pv 4) (pv 9)) set_list))))))) pss_nil)
  (pss_one (ps_expr (pe_bm PySem.F.plainAttrs_list PySem.F.slot_list_append PySem.F.type_list_append mt_append (pv 3) (pa_Call (pe_dz D__law_row hr (pa_Name (pv 8) (pa_Name (pv 2) (pa_BinOp (pe_op op_fdiv (pv 7) pe_int) (pa_Call (pe_dz D__law_cell hr (pa_Name (pv 0) (pa_BinOp (pe_op op_add pe_int (pe_op op_mul pe_int (pv 6))) pa_nil))) pa_nil))))) pa_nil))))))))))))
  (pss_one (ps_ret (pe_tup (pa_Name (pv 3) (pa_Name (pv 4) pa_nil))))))))), ?_⟩
 refine seq_step fun U hU => ?_
 refine ⟨sz 0, fun r hr => ?_⟩
 show U _ _
 subst hU
 have s1 := same_new hr (.lst [])
 have er1 : upd H r (.lst []) r = some (.lst []) := upd_same
 generalize upd H r (.lst []) = H1 at *
 refine seq_step fun U hU => ?_
 refine ⟨sz 0, fun fo hfo => ?_⟩
 show U _ _
 subst hU
 have nrf : r ≠ fo := ne_of_none er1 hfo
 have s2 := same_new hfo (.lst [])
 have er2 := s2 _ _ er1
 have ef2 : upd H1 fo (.lst []) fo = some (.lst []) := upd_same
 generalize upd H1 fo (.lst []) = H2 at *
 refine seq_step fun U hU => ?_
 refine ⟨sz 0, fun op hop => ?_⟩
 show U _ _
 subst hU
 have nro : r ≠ op := ne_of_none er2 hop
 have nfo : fo ≠ op := ne_of_none ef2 hop
 have s3 := same_new hop (.lst [])
 have er3 := s3 _ _ er2
 have ef3 := s3 _ _ ef2
 have eo3 : upd H2 op (.lst []) op = some (.lst []) := upd_same
 generalize upd H2 op (.lst []) = H3 at *
 have n1 : H fo = none := s1.free hfo
 have n2 : H op = none := (s1.trans s2).free hop
 have sA := (s1.trans s2).trans s3
 refine seq_step fun U hU => ?_
 refine ⟨fun m σ H' => ∃ (x1 x2 x3 x4 : Option V) (rv : List V) (rs : List Rw) (s : Bs), m = z - rs.length /\ σ = [some (.ref a), some (.int z), some (.ref pt), some (.ref r), some (.ref fo), some (.ref op), x1, x2, x3, x4] /\ Same H H' /\ H' r = some (.lst rv) /\ Paired (RwAt H') rv rs /\ (rs.map Rw.word = s.ws /\ ∀ R ∈ rs, InW n R) /\ H' fo = some (.lst (fV s.f)) /\ H' op = some (.lst (nV s.o)) /\ runB s.ws = some s /\ s.ws.length + s.o.length <= z, ⟨z, none, none, none, none, [], [], b0, by simp, rfl, sA, er3, .nil, ⟨rfl, fun R hR => (by cases hR)⟩, ef3, eo3, rfl, by simp [b0]⟩, ?_⟩
 rintro m σ H4 ⟨x1, x2, x3, x4, rv, rs, s, rfl, rfl, sm, er, hR, ⟨ews, hall⟩, ef, eo, run, lz⟩
 have lr : rv.length = rs.length := paired_len hR
 have lrw : rs.length = s.ws.length := by rw [← ews, List.length_map]
 obtain ⟨Bk, _⟩ := runB_ok _ rfl run
 refine ⟨_, rfl, r, _, rfl, .inl (SqL.of er), _, rfl, _, _, rfl, rfl, _, rfl, ?_⟩
 rw [lr]
 refine ite2 (fun h => ?_) (fun h => ?_)
 · have hlt : rs.length < z := by have := of_decide_eq_true h; omega
   refine ⟨fun σ' H' => ∃ m', m' < z - rs.length /\ ∃ (x1 x2 x3 x4 : Option V) (rv : List V) (rs : List Rw) (s : Bs), m' = z - rs.length /\ σ' = [some (.ref a), some (.int z), some (.ref pt), some (.ref r), some (.ref fo), some (.ref op), x1, x2, x3, x4] /\ Same H H' /\ H' r = some (.lst rv) /\ Paired (RwAt H') rv rs /\ (rs.map Rw.word = s.ws /\ ∀ R ∈ rs, InW n R) /\ H' fo = some (.lst (fV s.f)) /\ H' op = some (.lst (nV s.o)) /\ runB s.ws = some s /\ s.ws.length + s.o.length <= z, fun _ _ h => h, ?_⟩
   refine seq_step fun U hU => ?_
   refine ⟨_, rfl, r, _, rfl, .inl (SqL.of er), ?_⟩
   show U _ _
   subst hU
   rw [lr]
   refine seq_step fun U hU => ?_
   refine ⟨_, rfl, _, rfl, _, _, rfl, rfl, .inl ⟨by decide, by decide⟩, _, _, rfl, rfl, (10 + 2 * (rs.length : Int)), rfl, by omega, sm.seq hS, _, rfl, _, _, rfl, fun cc => ?_⟩
   show U _ _
   subst hU
   refine seq_step fun U hU => ?_
   refine ⟨_, rfl, _, _, rfl, rfl, (by show (0 : Int) < 13; decide), _, rfl, _, rfl, _, _, rfl, rfl, _, rfl, op, _, rfl, .inl (SqL.of eo), _, _, rfl, rfl, _, rfl, _, rfl, _, rfl, _, z, _, r, op, fo, rv, rs, s, rfl, er, hR, ews, ef, eo, Bk, Int.emod_nonneg _ (by decide), ?_, by omega, lz, fun w s' H5 sm5 st lz' ok => ?_⟩
   · show (z : Int) - (rs.length : Int) - ((nV s.o).length : Int) = _
     rw [show (nV s.o).length = s.o.length from List.length_map _, lrw]
   show U _ _
   subst hU
   have er5 := sm5 _ _ er
   have ef5 := sm5 _ _ ef
   have eo5 := sm5 _ _ eo
   have hR5 := rw_keep (TKeep.of sm5) hR
   have s5 := sm.trans sm5
   have lo5 : (nV s.o).length < sizeLine := by unfold nV; rw [List.length_map]; exact small1000 (by have := Bk.o_len; omega)
   have lf5 : (fV s.f).length = s.ws.length := by unfold fV; rw [List.length_map, Bk.len]
   refine seq_step fun U hU => ?_
   refine ⟨_, rfl, .inl ⟨rfl, _, SqL.of ef5⟩, fo, _, _, rfl, rfl, ef5, by rw [lf5]; exact small1000 (by omega), ?_⟩
   show U _ _
   subst hU
   have ef6 : upd H5 fo (.lst (fV s.f ++ [.non])) fo = some (.lst (fV (s.f ++ [none]))) := by rw [upd_same]; simp [fV, gN]
   have er6 : upd H5 fo (.lst (fV s.f ++ [.non])) r = some (.lst rv) := by rw [upd_ne nrf]; exact er5
   have eo6 : upd H5 fo (.lst (fV s.f ++ [.non])) op = some (.lst (nV s.o)) := by rw [upd_ne (Ne.symm nfo)]; exact eo5
   have s6 : Same H (upd H5 fo (.lst (fV s.f ++ [.non]))) := same_over n1 s5
   have k6 : TKeep H5 (upd H5 fo (.lst (fV s.f ++ [.non]))) := TKeep.put ef5
   have hR6 := rw_keep k6 hR5
   generalize upd H5 fo (.lst (fV s.f ++ [.non])) = H6 at *
   have run' := runB_step run st
   obtain ⟨Bk', ewt⟩ := step_ok Bk st
   cases st with
   | opn h =>
    have nel : w ≠ sEl := fun e => h.elim (fun z => el_if (e.symm.trans z)) (fun z => el_wh (e.symm.trans z))
    have nen : w ≠ sEn := fun e => h.elim (fun z => en_if (e.symm.trans z)) (fun z => en_wh (e.symm.trans z))
    refine seq_step fun U hU => ?_
    have rest : U [some (.ref a), some (.int z), some (.ref pt), some (.ref r), some (.ref fo), some (.ref op), some (.int (rs.length : Nat)), some (.int cc), some (.str w), x4] (upd H6 op (.lst (nV s.o ++ [.int (rs.length : Nat)]))) := by
     subst hU
     have er7 : upd H6 op (.lst (nV s.o ++ [.int (rs.length : Nat)])) r = some (.lst rv) := by rw [upd_ne nro]; exact er6
     have ef7 : upd H6 op (.lst (nV s.o ++ [.int (rs.length : Nat)])) fo = some (.lst (fV (s.f ++ [none]))) := by rw [upd_ne nfo]; exact ef6
     have eo7 : upd H6 op (.lst (nV s.o ++ [.int (rs.length : Nat)])) op = some (.lst (nV (s.o ++ [s.ws.length]))) := by rw [upd_same, lrw]; simp [nV]
     have s7 := same_over (o := .lst (nV s.o ++ [.int (rs.length : Nat)])) n2 s6
     have hR7 := rw_keep (TKeep.put (ws := nV s.o ++ [.int (rs.length : Nat)]) eo6) hR6
     generalize upd H6 op (.lst (nV s.o ++ [.int (rs.length : Nat)])) = H7 at *
     refine seq_step fun U hU => ?_
     refine ⟨_, rfl, rfl, _, rfl, ?_⟩
     rw [decide_eq_false (show ¬ V.str w = V.str sEl from fun e => nel (V.str.inj e))]
     refine iteF ?_
     show U _ _
     subst hU
     refine seq_step fun U hU => ?_
     refine ⟨_, rfl, rfl, _, rfl, ?_⟩
     rw [decide_eq_false (show ¬ V.str w = V.str sEn from fun e => nen (V.str.inj e))]
     refine iteF ?_
     show U _ _
     subst hU
     refine ⟨_, rfl, .inl ⟨rfl, _, SqL.of er7⟩, _, rfl, _, rfl, _, rfl, _, _, rfl, rfl, ⟨by decide, by decide⟩, _, rfl, _, rfl, _, _, rfl, rfl, .inl ⟨by decide, by decide⟩, _, _, rfl, rfl, (11 + 2 * (rs.length : Int)), rfl, by omega, s7.seq hS, w, _, _, pt, xs, n, rfl, SqT.of (s7 _ _ ept), xl, ge1, n6, ok, fun v R H8 sm8 hv hRi hRw => ?_⟩
     have k8 : TKeep H8 (upd H8 r (.lst (rv ++ [v]))) := TKeep.put (sm8 _ _ er7)
     refine ⟨r, _, _, rfl, rfl, sm8 _ _ er7, small1000 (by omega), z - (rs.length + 1), by omega, _, _, _, _, rv ++ [v], rs ++ [R], _, by simp, rfl, same_over hr (s7.trans sm8), upd_same, paired_snoc (rw_keep ((TKeep.of sm8).trans k8) hR7) (hv.keep k8), ⟨by rw [List.map_append, ews]; show _ ++ [R.word] = _; rw [hRw], all_snoc hall hRi⟩, by rw [upd_ne (Ne.symm nrf)]; exact sm8 _ _ ef7, by rw [upd_ne (Ne.symm nro)]; exact sm8 _ _ eo7, run', lz'⟩
    refine ⟨_, rfl, rfl, _, rfl, ?_⟩
    rcases h with h | h
    · rw [decide_eq_true (show V.str w = V.str sIf by rw [h])]
      refine iteT ?_
      refine iteT ?_
      exact ⟨_, rfl, .inl ⟨rfl, _, SqL.of eo6⟩, _, rfl, op, _, _, rfl, rfl, eo6, lo5, rest⟩
    · rw [decide_eq_false (show ¬ V.str w = V.str sIf from fun e => (show sWh ≠ sIf by decide +kernel) (h.symm.trans (V.str.inj e)))]
      refine iteF ?_
      refine ⟨_, rfl, rfl, _, rfl, ?_⟩
      rw [decide_eq_true (show V.str w = V.str sWh by rw [h])]
      refine iteT ?_
      exact ⟨_, rfl, .inl ⟨rfl, _, SqL.of eo6⟩, _, rfl, op, _, _, rfl, rfl, eo6, lo5, rest⟩
   | els h o t eo' h1 h2 =>
    subst h
    have ht : t < s.ws.length := Bk.o_lt t (by rw [eo']; simp)
    have el : nV s.o = nV o ++ [.int (t : Nat)] := by rw [eo']; simp [nV]
    have at1 : atI (nV s.o) (-1) = some (.int (t : Nat)) := by rw [el]; exact at_last _ _
    have lf6 : (fV (s.f ++ [none])).length = s.ws.length + 1 := by simp [fV, Bk.len]
    refine seq_step fun U hU => ?_
    refine ⟨_, rfl, rfl, _, rfl, ?_⟩
    rw [decide_eq_false (show ¬ V.str sEl = V.str sIf from fun e => el_if (V.str.inj e))]
    refine iteF ?_
    refine ⟨_, rfl, rfl, _, rfl, ?_⟩
    rw [decide_eq_false (show ¬ V.str sEl = V.str sWh from fun e => el_wh (V.str.inj e))]
    refine iteF ?_
    show U _ _
    subst hU
    refine seq_step fun U hU => ?_
    refine ⟨_, rfl, rfl, _, rfl, ?_⟩
    rw [decide_eq_true (show V.str sEl = V.str sEl from rfl)]
    refine iteT ?_
    refine ⟨_, rfl, _, rfl, _, rfl, (1 : Int), rfl, op, _, _, _, rfl, rfl, SqL.of eo6, at1, fo, _, _, t, rfl, rfl, ef6, ix_nat (by omega), ?_⟩
    show U _ _
    subst hU
    have er7 : upd H6 fo (.lst ((fV (s.f ++ [none])).set t (.int (rs.length : Nat)))) r = some (.lst rv) := by rw [upd_ne nrf]; exact er6
    have ef7 : upd H6 fo (.lst ((fV (s.f ++ [none])).set t (.int (rs.length : Nat)))) fo = some (.lst (fV ((s.f ++ [none]).set t (some s.ws.length)))) := by
     rw [upd_same, lrw]
     show some (HO.lst ((List.map gN _).set t (gN (some s.ws.length)))) = _
     rw [map_set]
     rfl
    have eo7 : upd H6 fo (.lst ((fV (s.f ++ [none])).set t (.int (rs.length : Nat)))) op = some (.lst (nV s.o)) := by rw [upd_ne (Ne.symm nfo)]; exact eo6
    have s7 := same_over (o := .lst ((fV (s.f ++ [none])).set t (.int (rs.length : Nat)))) n1 s6
    have hR7 := rw_keep (TKeep.put (ws := (fV (s.f ++ [none])).set t (.int (rs.length : Nat))) ef6) hR6
    generalize upd H6 fo (.lst ((fV (s.f ++ [none])).set t (.int (rs.length : Nat)))) = H7 at *
    refine seq_step fun U hU => ?_
    refine ⟨_, rfl, rfl, _, rfl, ?_⟩
    rw [decide_eq_false (show ¬ V.str sEl = V.str sEn from fun e => en_el (V.str.inj e).symm)]
    refine iteF ?_
    show U _ _
    subst hU
    refine ⟨_, rfl, .inl ⟨rfl, _, SqL.of er7⟩, _, rfl, _, rfl, _, rfl, _, _, rfl, rfl, ⟨by decide, by decide⟩, _, rfl, _, rfl, _, _, rfl, rfl, .inl ⟨by decide, by decide⟩, _, _, rfl, rfl, (11 + 2 * (rs.length : Int)), rfl, by omega, s7.seq hS, sEl, _, _, pt, xs, n, rfl, SqT.of (s7 _ _ ept), xl, ge1, n6, ok, fun v R H8 sm8 hv hRi hRw => ?_⟩
    have k8 : TKeep H8 (upd H8 r (.lst (rv ++ [v]))) := TKeep.put (sm8 _ _ er7)
    refine ⟨r, _, _, rfl, rfl, sm8 _ _ er7, small1000 (by omega), z - (rs.length + 1), by omega, _, _, _, _, rv ++ [v], rs ++ [R], _, by simp, rfl, same_over hr (s7.trans sm8), upd_same, paired_snoc (rw_keep ((TKeep.of sm8).trans k8) hR7) (hv.keep k8), ⟨by rw [List.map_append, ews]; show _ ++ [R.word] = _; rw [hRw], all_snoc hall hRi⟩, by rw [upd_ne (Ne.symm nrf)]; exact sm8 _ _ ef7, by rw [upd_ne (Ne.symm nro)]; exact sm8 _ _ eo7, run', lz'⟩
   | fin h o t eo' =>
    subst h
    have ht : t < s.ws.length := Bk.o_lt t (by rw [eo']; simp)
    have el : nV s.o = nV o ++ [.int (t : Nat)] := by rw [eo']; simp [nV]
    have at1 : atI (nV s.o) (-1) = some (.int (t : Nat)) := by rw [el]; exact at_last _ _
    have lf6 : (fV (s.f ++ [none])).length = s.ws.length + 1 := by simp [fV, Bk.len]
    refine seq_step fun U hU => ?_
    refine ⟨_, rfl, rfl, _, rfl, ?_⟩
    rw [decide_eq_false (show ¬ V.str sEn = V.str sIf from fun e => en_if (V.str.inj e))]
    refine iteF ?_
    refine ⟨_, rfl, rfl, _, rfl, ?_⟩
    rw [decide_eq_false (show ¬ V.str sEn = V.str sWh from fun e => en_wh (V.str.inj e))]
    refine iteF ?_
    show U _ _
    subst hU
    refine seq_step fun U hU => ?_
    refine ⟨_, rfl, rfl, _, rfl, ?_⟩
    rw [decide_eq_false (show ¬ V.str sEn = V.str sEl from fun e => en_el (V.str.inj e))]
    refine iteF ?_
    show U _ _
    subst hU
    refine seq_step fun U hU => ?_
    refine ⟨_, rfl, rfl, _, rfl, ?_⟩
    rw [decide_eq_true (show V.str sEn = V.str sEn from rfl)]
    refine iteT ?_
    rw [el] at eo6
    refine seq_step fun U' hU' => ?_
    refine ⟨_, rfl, .inl ⟨rfl, _, SqL.of eo6⟩, op, _, _, rfl, rfl, eo6, (by simp : (nV o ++ [V.int (t : Nat)])[(nV o ++ [V.int (t : Nat)]).length - 1]? = some (.int (t : Nat))), ?_⟩
    rw [List.dropLast_concat]
    show U' _ _
    subst hU'
    have er7 : upd H6 op (.lst (nV o)) r = some (.lst rv) := by rw [upd_ne nro]; exact er6
    have ef7 : upd H6 op (.lst (nV o)) fo = some (.lst (fV (s.f ++ [none]))) := by rw [upd_ne nfo]; exact ef6
    have eo7 : upd H6 op (.lst (nV o)) op = some (.lst (nV o)) := upd_same
    have s7 := same_over (o := .lst (nV o)) n2 s6
    have hR7 := rw_keep (TKeep.put (ws := nV o) eo6) hR6
    generalize upd H6 op (.lst (nV o)) = H7 at *
    have hf7 : ∀ (i x : Nat), (s.f ++ [none])[i]? = some (some x) -> x < s.ws.length + 1 := snoc_lt Bk.f_lt
    refine seq_step fun U' hU' => ?_
    refine ⟨_, rfl, _, rfl, _, rfl, fo, _, _, s.ws.length, rfl, rfl, ef7, by rw [lf6, lrw]; exact ix_nat (by omega), ?_⟩
    show U' _ _
    subst hU'
    have eg : (fV (s.f ++ [none])).set s.ws.length (.int (t : Nat)) = fV ((s.f ++ [none]).set s.ws.length (some t)) := by
     show (List.map gN _).set s.ws.length (gN (some t)) = _
     rw [map_set]
     rfl
    rw [eg]
    have er8 : upd H7 fo (.lst (fV ((s.f ++ [none]).set s.ws.length (some t)))) r = some (.lst rv) := by rw [upd_ne nrf]; exact er7
    have ef8 : upd H7 fo (.lst (fV ((s.f ++ [none]).set s.ws.length (some t)))) fo = some (.lst (fV ((s.f ++ [none]).set s.ws.length (some t)))) := upd_same
    have eo8 : upd H7 fo (.lst (fV ((s.f ++ [none]).set s.ws.length (some t)))) op = some (.lst (nV o)) := by rw [upd_ne (Ne.symm nfo)]; exact eo7
    have s8 := same_over (o := .lst (fV ((s.f ++ [none]).set s.ws.length (some t)))) n1 s7
    have hR8 := rw_keep (TKeep.put (ws := fV ((s.f ++ [none]).set s.ws.length (some t))) ef7) hR7
    generalize upd H7 fo (.lst (fV ((s.f ++ [none]).set s.ws.length (some t)))) = Hx at *
    have hf8 := set_lt (j := s.ws.length) hf7 (show t < s.ws.length + 1 by omega)
    have lg : ((s.f ++ [none]).set s.ws.length (some t)).length = s.ws.length + 1 := by simp [Bk.len]
    have ecl : clo (s.f ++ [none]) t s.ws.length = clo (s.f ++ [none]) t s.ws.length := rfl
    have rest : ∀ Hy, Only fo Hx Hy -> Hy fo = some (.lst (fV (clo (s.f ++ [none]) t s.ws.length))) -> U [some (.ref a), some (.int z), some (.ref pt), some (.ref r), some (.ref fo), some (.ref op), some (.int (rs.length : Nat)), some (.int cc), some (.str sEn), some (.int (t : Nat))] Hy := by
     intro Hy oy efy
     subst hU
     have ery := (oy r nrf).trans er8
     have eoy := (oy op (Ne.symm nfo)).trans eo8
     have sy := oy.same n1 s8
     have hRy := rw_keep (oy.keep ef8) hR8
     refine ⟨_, rfl, .inl ⟨rfl, _, SqL.of ery⟩, _, rfl, _, rfl, _, rfl, _, _, rfl, rfl, ⟨by decide, by decide⟩, _, rfl, _, rfl, _, _, rfl, rfl, .inl ⟨by decide, by decide⟩, _, _, rfl, rfl, (11 + 2 * (rs.length : Int)), rfl, by omega, sy.seq hS, sEn, _, _, pt, xs, n, rfl, SqT.of (sy _ _ ept), xl, ge1, n6, ok, fun v R H8 sm8 hv hRi hRw => ?_⟩
     have k8 : TKeep H8 (upd H8 r (.lst (rv ++ [v]))) := TKeep.put (sm8 _ _ ery)
     refine ⟨r, _, _, rfl, rfl, sm8 _ _ ery, small1000 (by omega), z - (rs.length + 1), by omega, _, _, _, _, rv ++ [v], rs ++ [R], _, by simp, rfl, same_over hr (sy.trans sm8), upd_same, paired_snoc (rw_keep ((TKeep.of sm8).trans k8) hRy) (hv.keep k8), ⟨by rw [List.map_append, ews]; show _ ++ [R.word] = _; rw [hRw], all_snoc hall hRi⟩, by rw [upd_ne (Ne.symm nrf)]; exact sm8 _ _ efy, by rw [upd_ne (Ne.symm nro)]; exact sm8 _ _ eoy, run', lz'⟩
    unfold clo at rest
    generalize (s.f ++ [none]).set s.ws.length (some t) = g at *
    have lfg : (fV g).length = s.ws.length + 1 := by unfold fV; rw [List.length_map, lg]
    have et : g[t]? = some (g[t]'(by omega)) := List.getElem?_eq_getElem _
    generalize g[t]'(by omega) = zz at et
    rw [et] at rest
    refine ⟨_, rfl, _, rfl, fo, _, _, _, rfl, rfl, SqL.of ef8, gN_get et, rfl, _, rfl, ?_⟩
    cases zz with
    | none =>
     refine iteT ?_
     refine ⟨_, rfl, _, rfl, _, rfl, fo, _, _, t, rfl, rfl, ef8, by rw [lfg]; exact ix_nat (by omega), rest _ Only.put ?_⟩
     rw [upd_same, lrw]
     show some (HO.lst ((List.map gN _).set t (gN (some s.ws.length)))) = _
     rw [map_set]
     rfl
    | some x =>
     refine iteF ?_
     have hx := hf8 t x et
     refine ⟨_, rfl, _, rfl, _, rfl, _, rfl, fo, _, _, _, rfl, rfl, SqL.of ef8, gN_get et, fo, _, _, x, rfl, rfl, ef8, by rw [lfg]; exact ix_nat (by omega), rest _ Only.put ?_⟩
     rw [upd_same, lrw]
     show some (HO.lst ((List.map gN _).set x (gN (some s.ws.length)))) = _
     rw [map_set]
     rfl
   | oth h1 h2 h3 h4 =>
    refine seq_step fun U hU => ?_
    refine ⟨_, rfl, rfl, _, rfl, ?_⟩
    rw [decide_eq_false (show ¬ V.str w = V.str sIf from fun e => h1 (V.str.inj e))]
    refine iteF ?_
    refine ⟨_, rfl, rfl, _, rfl, ?_⟩
    rw [decide_eq_false (show ¬ V.str w = V.str sWh from fun e => h2 (V.str.inj e))]
    refine iteF ?_
    show U _ _
    subst hU
    refine seq_step fun U hU => ?_
    refine ⟨_, rfl, rfl, _, rfl, ?_⟩
    rw [decide_eq_false (show ¬ V.str w = V.str sEl from fun e => h3 (V.str.inj e))]
    refine iteF ?_
    show U _ _
    subst hU
    refine seq_step fun U hU => ?_
    refine ⟨_, rfl, rfl, _, rfl, ?_⟩
    rw [decide_eq_false (show ¬ V.str w = V.str sEn from fun e => h4 (V.str.inj e))]
    refine iteF ?_
    show U _ _
    subst hU
    refine ⟨_, rfl, .inl ⟨rfl, _, SqL.of er6⟩, _, rfl, _, rfl, _, rfl, _, _, rfl, rfl, ⟨by decide, by decide⟩, _, rfl, _, rfl, _, _, rfl, rfl, .inl ⟨by decide, by decide⟩, _, _, rfl, rfl, (11 + 2 * (rs.length : Int)), rfl, by omega, s6.seq hS, w, _, _, pt, xs, n, rfl, SqT.of (s6 _ _ ept), xl, ge1, n6, ok, fun v R H8 sm8 hv hRi hRw => ?_⟩
    have k8 : TKeep H8 (upd H8 r (.lst (rv ++ [v]))) := TKeep.put (sm8 _ _ er6)
    refine ⟨r, _, _, rfl, rfl, sm8 _ _ er6, small1000 (by omega), z - (rs.length + 1), by omega, _, _, _, _, rv ++ [v], rs ++ [R], _, by simp, rfl, same_over hr (s6.trans sm8), upd_same, paired_snoc (rw_keep ((TKeep.of sm8).trans k8) hR6) (hv.keep k8), ⟨by rw [List.map_append, ews]; show _ ++ [R.word] = _; rw [hRw], all_snoc hall hRi⟩, by rw [upd_ne (Ne.symm nrf)]; exact sm8 _ _ ef6, by rw [upd_ne (Ne.symm nro)]; exact sm8 _ _ eo6, run', lz'⟩
 · show U _ _
   subst hU
   have hge : z <= rs.length := by have hn : ¬ ((rs.length : Int) < (z : Int)) := fun e => h (decide_eq_true e); omega
   have ho : s.o = [] := List.length_eq_zero_iff.mp (by omega)
   refine ⟨_, rfl, _, rfl, sz 2, fun p hp => ?_⟩
   have sp := same_new hp (.tup [.ref r, .ref fo])
   exact q p r fo _ rv rs s (sm.trans sp) upd_same (sp _ _ er) (rw_keep (TKeep.of sp) hR) hall (sp _ _ ef) (by rw [ews]; exact run) ho (by omega)
theorem ok__law_leads {f : Addr} {fd : FuncData} (F : Fun K "_law_leads" "_law_leads" s__law_leads f fd) (m : mg "_law_leads" = some (.ref f)) (B : Bl mg)  : Def P w K mg base CX0 "_law_leads" 1 ["_law_rows", "_law_found", "_law_at"] (sp__law_leads K) := by
 refine ⟨f, fd, F.ok sc__law_leads (fun vs H Q E h => ?_) (fun cdv A outer s H vs Q E hr h => ?_), F.binds (ps := ["_law_rows", "_law_found", "_law_at"]) fun _ _ _ _ _ _ us hl => (by obtain ⟨b0, b1, b2, rfl⟩ := us3 hl; rfl), F.kp, m⟩
 · obtain ⟨r, fo, rv, Rs, f1, i, w1, o, rfl, _⟩ := h
   rfl
 obtain ⟨r, fo, rv, Rs, f1, i, w1, o, rfl, er, hR, ef, ew, efi, hbl, q⟩ := h
 refine ⟨_, (@pss_cons _ _ _ _ _ (ps_sz 3 sc__law_leads.nd (pe_xT (K := K) (pe_xL (K := K) (pv 0) (pv 2)) pe_int))
  (@pss_cons _ _ _ _ _ (ps_if (pw_or (pt_cmpR op_eq (pv 3) pe_str (nomark _)) (pw_or1 (pw_and (pt_cmpR op_eq (pv 3) pe_str (nomark _)) (pw_and1 (pt_cmpR op_eq (pe_xT (K := K) (pe_xL (K := K) (pv 0) (pe_xL (K := K) (pv 1) (pv 2))) pe_int) pe_str (nomark _)))).pt)).pt (pss_one (ps_ret (pe_lst (pa_Subscript (pe_xL (K := K) (pv 1) (pv 2)) pa_nil)))) pss_nil)
  (@pss_cons _ _ _ _ _ (ps_if (pt_cmpR op_eq (pv 3) pe_str (nomark _)) (pss_one (ps_ret (pe_lst (pa_BinOp (pe_op op_add (pv 2) pe_int) (pa_BinOp (pe_op op_add (pe_xL (K := K) (pv 1) (pv 2)) pe_int) pa_nil))))) pss_nil)
  (@pss_cons _ _ _ _ _ (ps_if (pw_and (pt_cmpR op_eq (pv 3) pe_str (nomark _)) (pw_and1 (pt_cmpR op_eq (pe_xT (K := K) (pe_xL (K := K) (pv 0) (pe_xL (K := K) (pv 1) (pv 2))) pe_int) pe_str (nomark _)))).pt (pss_one (ps_ret (pe_lst (pa_BinOp (pe_op op_add (pv 2) pe_int) (pa_BinOp (pe_op op_add (pe_xL (K := K) (pv 1) (pv 2)) pe_int) pa_nil))))) pss_nil)
  (@pss_cons _ _ _ _ _ (ps_if (pt_cmpR op_eq (pv 3) pe_str (nomark _)) (pss_one (ps_ret (pe_lst (pa_BinOp (pe_op op_add (pv 2) pe_int) (pa_Subscript (pe_xL (K := K) (pv 1) (pv 2)) pa_nil))))) pss_nil)
  (pss_one (ps_ret (pe_lst (pa_BinOp (pe_op op_add (pv 2) pe_int) pa_nil))))))))), ?_⟩
 obtain ⟨ra, rx, era, hra⟩ := rw_word hR ew
 refine seq_step fun U hU => ?_
 refine ⟨_, rfl, _, rfl, r, _, _, _, rfl, rfl, SqL.of er, at_nat era, ra, _, (0 : Int), _, rfl, rfl, SqT.of hra, at0 _ _, ?_⟩
 show U _ _
 subst hU
 generalize ews : Rs.map Rw.word = ws at *
 have pw : ∀ x, x < ws.length -> ∃ w rb rx, ws[x]? = some w /\ rv[x]? = some (.ref rb) /\ H rb = some (.tup (.str w :: rx)) := fun x hx => by
  have e : ws[x]? = some ws[x] := List.getElem?_eq_getElem hx
  obtain ⟨rb, rx, e1, e2⟩ := rw_word hR (by rw [ews]; exact e)
  exact ⟨_, rb, rx, e, e1, e2⟩
 refine seq_step fun U hU => ?_
 refine ⟨_, rfl, rfl, _, rfl, ?_⟩
 by_cases h1 : w1 = sEl
 · subst h1
   obtain ⟨x, rfl, hx⟩ := hbl (.inr (.inr (.inl rfl)))
   rw [strT]
   refine iteT ?_
   refine iteT ?_
   refine ⟨_, rfl, _, rfl, fo, _, _, _, rfl, rfl, SqL.of ef, gN_get efi, sz 1, fun p hp => ?_⟩
   exact q p _ (same_new hp _) hp (by rw [upd_same, lead_el]; rfl)
 rw [strF h1]
 refine iteF ?_
 refine ⟨_, rfl, rfl, _, rfl, ?_⟩
 by_cases h2 : w1 = sEn
 · subst h2
   obtain ⟨x, rfl, hx⟩ := hbl (.inr (.inr (.inr rfl)))
   obtain ⟨wp, rb, rx2, ewp, erb, hrb⟩ := pw x hx
   rw [strT]
   refine iteT ?_
   refine ⟨_, rfl, _, rfl, _, rfl, fo, _, _, _, rfl, rfl, SqL.of ef, gN_get efi, r, _, _, _, rfl, rfl, SqL.of er, at_nat erb, rb, _, (0 : Int), _, rfl, rfl, SqT.of hrb, at0 _ _, rfl, _, rfl, ?_⟩
   by_cases h : wp = sWh
   · rw [decide_eq_true (show V.str wp = V.str sWh by rw [h])]
     refine iteT ?_
     refine ⟨_, rfl, _, rfl, fo, _, _, _, rfl, rfl, SqL.of ef, gN_get efi, sz 1, fun p hp => ?_⟩
     exact q p _ (same_new hp _) hp (by rw [upd_same, lead_en ws _ i (by show ws[x]? = _; rw [ewp, h])]; rfl)
   · rw [strF h]
     refine iteF ?_
     show U _ _
     subst hU
     refine seq_step fun U hU => ?_
     refine ⟨_, rfl, rfl, _, rfl, ?_⟩
     rw [strF (a := sEn) (b := sWh) (by decide +kernel)]
     refine iteF ?_
     show U _ _
     subst hU
     refine seq_step fun U hU => ?_
     refine ⟨_, rfl, rfl, _, rfl, ?_⟩
     rw [strF (a := sEn) (b := sIf) (by decide +kernel)]
     refine iteF ?_
     refine iteF ?_
     show U _ _
     subst hU
     refine seq_step fun U hU => ?_
     refine ⟨_, rfl, rfl, _, rfl, ?_⟩
     rw [strF (a := sEn) (b := sIf) (by decide +kernel)]
     refine iteF ?_
     show U _ _
     subst hU
     refine ⟨_, rfl, _, _, rfl, rfl, sz 1, fun p hp => ?_⟩
     exact q p _ (same_new hp _) hp (by rw [upd_same, lead_ei ws _ i (by show ¬ ws[x]? = _; rw [ewp]; exact fun z => h (Option.some.inj z))]; rfl)
 rw [strF h2]
 refine iteF ?_
 refine iteF ?_
 show U _ _
 subst hU
 refine seq_step fun U hU => ?_
 refine ⟨_, rfl, rfl, _, rfl, ?_⟩
 by_cases h3 : w1 = sWh
 · subst h3
   obtain ⟨x, rfl, hx⟩ := hbl (.inr (.inl rfl))
   rw [strT]
   refine iteT ?_
   refine ⟨_, rfl, _, _, rfl, rfl, _, rfl, _, rfl, fo, _, _, _, rfl, rfl, SqL.of ef, gN_get efi, _, _, rfl, rfl, sz 2, fun p hp => ?_⟩
   exact q p _ (same_new hp _) hp (by rw [upd_same, lead_wh]; rfl)
 rw [strF h3]
 refine iteF ?_
 show U _ _
 subst hU
 refine seq_step fun U hU => ?_
 refine ⟨_, rfl, rfl, _, rfl, ?_⟩
 by_cases h4 : w1 = sIf
 · subst h4
   obtain ⟨x, rfl, hx⟩ := hbl (.inl rfl)
   obtain ⟨wp, rb, rx2, ewp, erb, hrb⟩ := pw x hx
   rw [strT]
   refine iteT ?_
   refine ⟨_, rfl, _, rfl, _, rfl, fo, _, _, _, rfl, rfl, SqL.of ef, gN_get efi, r, _, _, _, rfl, rfl, SqL.of er, at_nat erb, rb, _, (0 : Int), _, rfl, rfl, SqT.of hrb, at0 _ _, rfl, _, rfl, ?_⟩
   by_cases h : wp = sEl
   · rw [decide_eq_true (show V.str wp = V.str sEl by rw [h])]
     refine iteT ?_
     refine ⟨_, rfl, _, _, rfl, rfl, _, rfl, _, rfl, fo, _, _, _, rfl, rfl, SqL.of ef, gN_get efi, _, _, rfl, rfl, sz 2, fun p hp => ?_⟩
     exact q p _ (same_new hp _) hp (by rw [upd_same, lead_if, if_pos (show ws[(some x).getD 0]? = some sEl by show ws[x]? = _; rw [ewp, h])]; rfl)
   · rw [strF h]
     refine iteF ?_
     show U _ _
     subst hU
     refine seq_step fun U hU => ?_
     refine ⟨_, rfl, rfl, _, rfl, ?_⟩
     rw [strT]
     refine iteT ?_
     refine ⟨_, rfl, _, _, rfl, rfl, _, rfl, _, rfl, fo, _, _, _, rfl, rfl, SqL.of ef, gN_get efi, sz 2, fun p hp => ?_⟩
     exact q p _ (same_new hp _) hp (by rw [upd_same, lead_if, if_neg (show ¬ ws[(some x).getD 0]? = some sEl by show ¬ ws[x]? = _; rw [ewp]; exact fun z => h (Option.some.inj z))]; rfl)
 rw [strF h4]
 refine iteF ?_
 refine iteF ?_
 show U _ _
 subst hU
 refine seq_step fun U hU => ?_
 refine ⟨_, rfl, rfl, _, rfl, ?_⟩
 rw [strF h4]
 refine iteF ?_
 show U _ _
 subst hU
 refine ⟨_, rfl, _, _, rfl, rfl, sz 1, fun p hp => ?_⟩
 exact q p _ (same_new hp _) hp (by rw [upd_same, lead_ot h4 h3 h1 h2]; rfl)
theorem ok__law_made {f : Addr} {fd : FuncData} (F : Fun K "_law_made" "_law_made" s__law_made f fd) (m : mg "_law_made" = some (.ref f)) (B : Bl mg) (D__law_sum : Def P w K mg base CX0 "_law_sum" 1 ["_law_point_here", "_law_f", "_law_g"] (sp__law_sum K)) (D__law_holds : Def P w K mg base CX0 "_law_holds" 2 ["_law_point_here", "_law_question"] (sp__law_holds K)) : Def P w K mg base CX0 "_law_made" 3 ["_law_row_here", "_law_turn", "_law_point_here", "_law_number"] (sp__law_made K) := by
 refine ⟨f, fd, F.ok sc__law_made (fun vs H Q E h => ?_) (fun cdv A outer s H vs Q E hr h => ?_), F.binds (ps := ["_law_row_here", "_law_turn", "_law_point_here", "_law_number"]) fun _ _ _ _ _ _ us hl => (by obtain ⟨b0, b1, b2, b3, rfl⟩ := us4 hl; rfl), F.kp, m⟩
 · obtain ⟨v, pt, xs, num, t, n, R, rfl, _⟩ := h
   rfl
 obtain ⟨v, pt, xs, num, t, n, R, rfl, hR, hin, hpt, xl, n6, q⟩ := h
 refine ⟨_, (@pss_cons _ _ _ _ _ (ps_if (pt_cmpR op_eq (pe_xT (K := K) (pv 0) pe_int) pe_str (nomark _)) (@pss_cons _ _ _ _ _ (ps_sz 4 sc__law_made.nd (pe_op op_add (pe_dz D__law_sum hr (pa_Name (pv 2) (pa_Subscript (pe_xT (K := K) (pv 0) pe_int) (pa_Subscript (pe_xT (K := K) (pv 0) pe_int) pa_nil)))) (pe_xT (K := K) (pv 0) pe_int)))
  (pss_one (ps_ret (pe_op (op_catTA (K := K) rfl) (pe_op (op_catTA (K := K) rfl) (pe_slice (sl_tupK (K := K) rfl) (pv 2) po_none (po_some (pe_xT (K := K) (pv 0) pe_int))) (pe_tup (pa_Name (pv 4) pa_nil))) (pe_slice (sl_tupK (K := K) rfl) (pv 2) (po_some (pe_op op_add (pe_xT (K := K) (pv 0) pe_int) pe_int)) po_none))))) pss_nil)
  (@pss_cons _ _ _ _ _ (ps_if (pt_cmpR op_eq (pe_xT (K := K) (pv 0) pe_int) pe_str (nomark _)) (@pss_cons _ _ _ _ _ (ps_if (pt_cmpR op_notN (pe_xT (K := K) (pv 0) pe_int) pe_non (nomark _)) (pss_one (ps_sz 3 sc__law_made.nd (pe_callB (call_max2 rfl) (by rfl) B.max (by decide +kernel) (pa_Name (pv 3) (pa_Subscript (pe_xT (K := K) (pv 0) pe_int) pa_nil))))) pss_nil)
  (@pss_cons _ _ _ _ _ (ps_if (pt_cmpR op_notN (pe_xT (K := K) (pv 0) pe_int) pe_non (nomark _)) (pss_one (ps_sz 3 sc__law_made.nd (pe_callB (call_min2 rfl) (by rfl) B.min (by decide +kernel) (pa_Name (pv 3) (pa_Subscript (pe_xT (K := K) (pv 0) pe_int) pa_nil))))) pss_nil)
  (pss_one (ps_ret (pe_op (op_catTA (K := K) rfl) (pe_op (op_catTA (K := K) rfl) (pe_slice (sl_tupK (K := K) rfl) (pv 2) po_none (po_some (pe_xT (K := K) (pv 0) pe_int))) (pe_tup (pa_Name (pv 3) pa_nil))) (pe_slice (sl_tupK (K := K) rfl) (pv 2) (po_some (pe_op op_add (pe_xT (K := K) (pv 0) pe_int) pe_int)) po_none)))))) pss_nil)
  (@pss_cons _ _ _ _ _ (ps_if (pw_or (pt_cmpR op_eq (pe_xT (K := K) (pv 0) pe_int) pe_str (nomark _)) (pw_or (pt_cmpR op_eq (pe_xT (K := K) (pv 0) pe_int) pe_str (nomark _)) (pw_or1 (pt_cmpR op_eq (pe_xT (K := K) (pv 0) pe_int) pe_str (nomark _))))).pt (pss_one (ps_if (pt_cmpR op_ne (pe_dz D__law_holds hr (pa_Name (pv 2) (pa_Subscript (pe_xT (K := K) (pv 0) pe_int) pa_nil))) (pe_cmpR op_eq (pv 1) pe_int (nomark _)) (nomark _)) (pss_one (ps_ret pe_non)) pss_nil)) pss_nil)
  (pss_one (ps_ret (pv 2)))))), ?_⟩
 cases R with
 | set k f g c =>
  obtain ⟨ra, rfl, hra⟩ := hR
  have hT : SqT K H ra [.str sSe, .int k, gV f, gV g, .int c] := SqT.of hra
  refine seq_step fun U hU => ?_
  refine ⟨_, rfl, ra, _, 0, _, rfl, rfl, hT, rfl, rfl, _, rfl, ?_⟩
  rw [strT]
  refine iteT ?_
  refine seq_step fun U' hU' => ?_
  refine ⟨_, rfl, _, rfl, ra, _, 2, _, rfl, rfl, hT, rfl, _, rfl, ra, _, 3, _, rfl, rfl, hT, rfl, pt, xs, f, g, rfl, SqT.of hpt, by rw [xl]; exact hin.2.1, by rw [xl]; exact hin.2.2, fun H1 sm1 => ?_⟩
  refine ⟨_, rfl, ra, _, 4, _, rfl, rfl, sm1.sqT hT, rfl, _, _, rfl, rfl, ?_⟩
  show U' _ _
  subst hU'
  refine cat_with2 (K := K) (ia := 2) (a := pt) (xs := xs) (k := k) (z := amtI xs f g c) rfl (fun H2 s2 G hG => ⟨_, rfl, ra, _, 1, _, rfl, rfl, s2.sqT (sm1.sqT hT), rfl, hG⟩) (SqT.of (sm1 _ _ hpt)) (by rw [xl]; exact hin.1) (by omega) (fun H2 s2 G hG => ⟨_, rfl, hG H2 (Same.refl _)⟩) (fun p H3 sm3 e3 => ?_)
  exact q (.ref p) H3 (sm1.trans sm3) ⟨p, rfl, e3⟩
 | ask k lo hi =>
  obtain ⟨ra, rfl, hra⟩ := hR
  have hT : SqT K H ra [.str sAs, .int k, eV lo, eV hi] := SqT.of hra
  refine seq_step fun U hU => ?_
  refine ⟨_, rfl, ra, _, 0, _, rfl, rfl, hT, rfl, rfl, _, rfl, ?_⟩
  rw [strF (a := sAs) (b := sSe) (by decide +kernel)]
  refine iteF ?_
  show U _ _
  subst hU
  refine seq_step fun U hU => ?_
  refine ⟨_, rfl, ra, _, 0, _, rfl, rfl, hT, rfl, rfl, _, rfl, ?_⟩
  rw [strT]
  refine iteT ?_
  have q' : ∀ p H', Same H H' -> H' p = some (.tup ((xs.set k (clampI lo hi num)).map V.int)) -> Q (.ref p) H' := fun p H' s e => q (.ref p) H' s ⟨p, rfl, e⟩
  rw [clampMM hin.2] at q'
  refine seq_step fun U' hU' => ?_
  have fin : ∀ m : Int, (∀ p H', Same H H' -> H' p = some (.tup ((xs.set k m).map V.int)) -> Q (.ref p) H') -> tOp (rCatA K) (tOp (rCatA K) (tSl (rSlT K) (tVar 2) tNoPart (tPart (tOp (rIxT K) (tVar 0) (tC (.int 1))))) (tTup (tCons (tVar 3) tNil))) (tSl (rSlT K) (tVar 2) (tPart (tOp (rI0 fun i j => .int (i + j)) (tOp (rIxT K) (tVar 0) (tC (.int 1))) (tC (.int 1)))) tNoPart) [some (.ref ra), some (.int t), some (.ref pt), some (.int m), none] H Q := fun m hq =>
   cat_with2 (K := K) (ia := 2) (a := pt) (xs := xs) (k := k) (z := m) rfl (fun H2 s2 G hG => ⟨_, rfl, ra, _, 1, _, rfl, rfl, s2.sqT hT, rfl, hG⟩) (SqT.of hpt) (by rw [xl]; exact hin.1) (by omega) (fun H2 s2 G hG => ⟨_, rfl, hG H2 (Same.refl _)⟩) hq
  have key : ∀ m : Int, (∀ p H', Same H H' -> H' p = some (.tup ((xs.set k (hiM hi m)).map V.int)) -> Q (.ref p) H') -> U' [some (.ref ra), some (.int t), some (.ref pt), some (.int m), none] H := by
   intro m hq
   subst hU'
   refine seq_step fun U' hU' => ?_
   refine ⟨_, rfl, ra, _, 3, _, rfl, rfl, hT, rfl, rfl, _, rfl, ?_⟩
   cases hi with
   | none =>
    refine iteF ?_
    show U' _ _
    subst hU'
    exact fin m hq
   | some y =>
    refine iteT ?_
    refine ⟨_, rfl, _, rfl, ra, _, 3, _, rfl, rfl, hT, rfl, _, _, rfl, ?_⟩
    show U' _ _
    subst hU'
    exact fin _ hq
  refine ⟨_, rfl, ra, _, 2, _, rfl, rfl, hT, rfl, rfl, _, rfl, ?_⟩
  cases lo with
  | none =>
   refine iteF ?_
   exact key num q'
  | some l =>
   refine iteT ?_
   exact ⟨_, rfl, _, rfl, ra, _, 2, _, rfl, rfl, hT, rfl, _, _, rfl, key _ q'⟩
 | qu w f g qq c =>
  obtain ⟨ra, qa, rfl, hra, hqa⟩ := hR
  rcases hin.1 with e | e | e | e
  · subst e
    have hT : SqT K H ra [.str sNe, .ref qa] := SqT.of hra
    refine seq_step fun U hU => ?_
    refine ⟨_, rfl, ra, _, 0, _, rfl, rfl, hT, rfl, rfl, _, rfl, ?_⟩
    rw [strF (a := sNe) (b := sSe) (by decide +kernel)]
    refine iteF ?_
    show U _ _
    subst hU
    refine seq_step fun U hU => ?_
    refine ⟨_, rfl, ra, _, 0, _, rfl, rfl, hT, rfl, rfl, _, rfl, ?_⟩
    rw [strF (a := sNe) (b := sAs) (by decide +kernel)]
    refine iteF ?_
    show U _ _
    subst hU
    refine seq_step fun U hU => ?_
    refine ⟨_, rfl, ra, _, 0, _, rfl, rfl, hT, rfl, rfl, _, rfl, ?_⟩
    rw [strT]
    refine iteT ?_
    refine iteT ?_
    refine ⟨_, rfl, _, rfl, ra, _, 1, _, rfl, rfl, hT, rfl, pt, qa, xs, f, g, qq, c, rfl, SqT.of hpt, SqT.of hqa, by rw [xl]; exact hin.2.1, by rw [xl]; exact hin.2.2.1, fun H1 sm1 => ?_⟩
    refine ⟨_, rfl, rfl, rfl, _, rfl, ?_⟩
    have hst : stepI xs num (deedN (.qu sNe f g qq c) t) = if (holdsI qq (sumI xs f g) c == decide (t = 0)) = true then some xs else none := by
     unfold deedN
     dsimp only
     rw [if_neg (by decide +kernel)]
     by_cases h : t = 0
     · rw [if_pos h, decide_eq_true h]
       show (if holdsI qq (sumI xs f g) c = true then some xs else none) = _
       cases holdsI qq (sumI xs f g) c <;> rfl
     · rw [if_neg h, decide_eq_false h]
       show (if holdsI (turnW qq) (sumI xs f g) (turnC qq c) = true then some xs else none) = _
       rw [turn_holds hin.2.2.2]
       cases holdsI qq (sumI xs f g) c <;> rfl
    rw [hst] at q
    have ed : decide (V.int (t : Int) = V.int 0) = decide (t = 0) := by
     by_cases h : t = 0
     · subst h; simp
     · rw [decide_eq_false h, decide_eq_false (fun e => h (by have := V.int.inj e; omega))]
    rw [ed]
    generalize holdsI qq (sumI xs f g) c = b1 at *
    generalize decide (t = 0) = b2 at *
    have one : Q (.ref pt) H1 \/ True := .inr trivial
    clear one ed hst
    cases b1 <;> cases b2
    · refine iteF ?_
      show U _ _
      subst hU
      exact ⟨_, rfl, q (.ref pt) H1 sm1 ⟨pt, rfl, sm1 _ _ hpt⟩⟩
    · refine iteT ?_
      exact q .non H1 sm1 rfl
    · refine iteT ?_
      exact q .non H1 sm1 rfl
    · refine iteF ?_
      show U _ _
      subst hU
      exact ⟨_, rfl, q (.ref pt) H1 sm1 ⟨pt, rfl, sm1 _ _ hpt⟩⟩
  · subst e
    have hT : SqT K H ra [.str sCl, .ref qa] := SqT.of hra
    refine seq_step fun U hU => ?_
    refine ⟨_, rfl, ra, _, 0, _, rfl, rfl, hT, rfl, rfl, _, rfl, ?_⟩
    rw [strF (a := sCl) (b := sSe) (by decide +kernel)]
    refine iteF ?_
    show U _ _
    subst hU
    refine seq_step fun U hU => ?_
    refine ⟨_, rfl, ra, _, 0, _, rfl, rfl, hT, rfl, rfl, _, rfl, ?_⟩
    rw [strF (a := sCl) (b := sAs) (by decide +kernel)]
    refine iteF ?_
    show U _ _
    subst hU
    refine seq_step fun U hU => ?_
    refine ⟨_, rfl, ra, _, 0, _, rfl, rfl, hT, rfl, rfl, _, rfl, ?_⟩
    rw [strF (a := sCl) (b := sNe) (by decide +kernel)]
    refine iteF ?_
    refine ⟨_, rfl, ra, _, 0, _, rfl, rfl, hT, rfl, rfl, _, rfl, ?_⟩
    rw [strF (a := sCl) (b := sIf) (by decide +kernel)]
    refine iteF ?_
    refine ⟨_, rfl, ra, _, 0, _, rfl, rfl, hT, rfl, rfl, _, rfl, ?_⟩
    rw [strF (a := sCl) (b := sWh) (by decide +kernel)]
    refine iteF ?_
    show U _ _
    subst hU
    have q : ∀ r H', Same H H' -> PtO H' r (some xs) -> Q r H' := fun r H' s h => q r H' s (by unfold deedN; dsimp only; rw [if_pos rfl]; exact h)
    exact ⟨_, rfl, q (.ref pt) H (Same.refl _) ⟨pt, rfl, hpt⟩⟩
  · subst e
    have hT : SqT K H ra [.str sIf, .ref qa] := SqT.of hra
    refine seq_step fun U hU => ?_
    refine ⟨_, rfl, ra, _, 0, _, rfl, rfl, hT, rfl, rfl, _, rfl, ?_⟩
    rw [strF (a := sIf) (b := sSe) (by decide +kernel)]
    refine iteF ?_
    show U _ _
    subst hU
    refine seq_step fun U hU => ?_
    refine ⟨_, rfl, ra, _, 0, _, rfl, rfl, hT, rfl, rfl, _, rfl, ?_⟩
    rw [strF (a := sIf) (b := sAs) (by decide +kernel)]
    refine iteF ?_
    show U _ _
    subst hU
    refine seq_step fun U hU => ?_
    refine ⟨_, rfl, ra, _, 0, _, rfl, rfl, hT, rfl, rfl, _, rfl, ?_⟩
    rw [strF (a := sIf) (b := sNe) (by decide +kernel)]
    refine iteF ?_
    refine ⟨_, rfl, ra, _, 0, _, rfl, rfl, hT, rfl, rfl, _, rfl, ?_⟩
    rw [strT]
    refine iteT ?_
    refine iteT ?_
    refine ⟨_, rfl, _, rfl, ra, _, 1, _, rfl, rfl, hT, rfl, pt, qa, xs, f, g, qq, c, rfl, SqT.of hpt, SqT.of hqa, by rw [xl]; exact hin.2.1, by rw [xl]; exact hin.2.2.1, fun H1 sm1 => ?_⟩
    refine ⟨_, rfl, rfl, rfl, _, rfl, ?_⟩
    have hst : stepI xs num (deedN (.qu sIf f g qq c) t) = if (holdsI qq (sumI xs f g) c == decide (t = 0)) = true then some xs else none := by
     unfold deedN
     dsimp only
     rw [if_neg (by decide +kernel)]
     by_cases h : t = 0
     · rw [if_pos h, decide_eq_true h]
       show (if holdsI qq (sumI xs f g) c = true then some xs else none) = _
       cases holdsI qq (sumI xs f g) c <;> rfl
     · rw [if_neg h, decide_eq_false h]
       show (if holdsI (turnW qq) (sumI xs f g) (turnC qq c) = true then some xs else none) = _
       rw [turn_holds hin.2.2.2]
       cases holdsI qq (sumI xs f g) c <;> rfl
    rw [hst] at q
    have ed : decide (V.int (t : Int) = V.int 0) = decide (t = 0) := by
     by_cases h : t = 0
     · subst h; simp
     · rw [decide_eq_false h, decide_eq_false (fun e => h (by have := V.int.inj e; omega))]
    rw [ed]
    generalize holdsI qq (sumI xs f g) c = b1 at *
    generalize decide (t = 0) = b2 at *
    have one : Q (.ref pt) H1 \/ True := .inr trivial
    clear one ed hst
    cases b1 <;> cases b2
    · refine iteF ?_
      show U _ _
      subst hU
      exact ⟨_, rfl, q (.ref pt) H1 sm1 ⟨pt, rfl, sm1 _ _ hpt⟩⟩
    · refine iteT ?_
      exact q .non H1 sm1 rfl
    · refine iteT ?_
      exact q .non H1 sm1 rfl
    · refine iteF ?_
      show U _ _
      subst hU
      exact ⟨_, rfl, q (.ref pt) H1 sm1 ⟨pt, rfl, sm1 _ _ hpt⟩⟩
  · subst e
    have hT : SqT K H ra [.str sWh, .ref qa] := SqT.of hra
    refine seq_step fun U hU => ?_
    refine ⟨_, rfl, ra, _, 0, _, rfl, rfl, hT, rfl, rfl, _, rfl, ?_⟩
    rw [strF (a := sWh) (b := sSe) (by decide +kernel)]
    refine iteF ?_
    show U _ _
    subst hU
    refine seq_step fun U hU => ?_
    refine ⟨_, rfl, ra, _, 0, _, rfl, rfl, hT, rfl, rfl, _, rfl, ?_⟩
    rw [strF (a := sWh) (b := sAs) (by decide +kernel)]
    refine iteF ?_
    show U _ _
    subst hU
    refine seq_step fun U hU => ?_
    refine ⟨_, rfl, ra, _, 0, _, rfl, rfl, hT, rfl, rfl, _, rfl, ?_⟩
    rw [strF (a := sWh) (b := sNe) (by decide +kernel)]
    refine iteF ?_
    refine ⟨_, rfl, ra, _, 0, _, rfl, rfl, hT, rfl, rfl, _, rfl, ?_⟩
    rw [strF (a := sWh) (b := sIf) (by decide +kernel)]
    refine iteF ?_
    refine ⟨_, rfl, ra, _, 0, _, rfl, rfl, hT, rfl, rfl, _, rfl, ?_⟩
    rw [strT]
    refine iteT ?_
    refine ⟨_, rfl, _, rfl, ra, _, 1, _, rfl, rfl, hT, rfl, pt, qa, xs, f, g, qq, c, rfl, SqT.of hpt, SqT.of hqa, by rw [xl]; exact hin.2.1, by rw [xl]; exact hin.2.2.1, fun H1 sm1 => ?_⟩
    refine ⟨_, rfl, rfl, rfl, _, rfl, ?_⟩
    have hst : stepI xs num (deedN (.qu sWh f g qq c) t) = if (holdsI qq (sumI xs f g) c == decide (t = 0)) = true then some xs else none := by
     unfold deedN
     dsimp only
     rw [if_neg (by decide +kernel)]
     by_cases h : t = 0
     · rw [if_pos h, decide_eq_true h]
       show (if holdsI qq (sumI xs f g) c = true then some xs else none) = _
       cases holdsI qq (sumI xs f g) c <;> rfl
     · rw [if_neg h, decide_eq_false h]
       show (if holdsI (turnW qq) (sumI xs f g) (turnC qq c) = true then some xs else none) = _
       rw [turn_holds hin.2.2.2]
       cases holdsI qq (sumI xs f g) c <;> rfl
    rw [hst] at q
    have ed : decide (V.int (t : Int) = V.int 0) = decide (t = 0) := by
     by_cases h : t = 0
     · subst h; simp
     · rw [decide_eq_false h, decide_eq_false (fun e => h (by have := V.int.inj e; omega))]
    rw [ed]
    generalize holdsI qq (sumI xs f g) c = b1 at *
    generalize decide (t = 0) = b2 at *
    have one : Q (.ref pt) H1 \/ True := .inr trivial
    clear one ed hst
    cases b1 <;> cases b2
    · refine iteF ?_
      show U _ _
      subst hU
      exact ⟨_, rfl, q (.ref pt) H1 sm1 ⟨pt, rfl, sm1 _ _ hpt⟩⟩
    · refine iteT ?_
      exact q .non H1 sm1 rfl
    · refine iteT ?_
      exact q .non H1 sm1 rfl
    · refine iteF ?_
      show U _ _
      subst hU
      exact ⟨_, rfl, q (.ref pt) H1 sm1 ⟨pt, rfl, sm1 _ _ hpt⟩⟩
 | bare w =>
  obtain ⟨ra, rfl, hra⟩ := hR
  have hT : SqT K H ra [.str w] := SqT.of hra
  rcases hin with e | e
  · subst e
    refine seq_step fun U hU => ?_
    refine ⟨_, rfl, ra, _, 0, _, rfl, rfl, hT, rfl, rfl, _, rfl, ?_⟩
    rw [strF (a := sEl) (b := sSe) (by decide +kernel)]
    refine iteF ?_
    show U _ _
    subst hU
    refine seq_step fun U hU => ?_
    refine ⟨_, rfl, ra, _, 0, _, rfl, rfl, hT, rfl, rfl, _, rfl, ?_⟩
    rw [strF (a := sEl) (b := sAs) (by decide +kernel)]
    refine iteF ?_
    show U _ _
    subst hU
    refine seq_step fun U hU => ?_
    refine ⟨_, rfl, ra, _, 0, _, rfl, rfl, hT, rfl, rfl, _, rfl, ?_⟩
    rw [strF (a := sEl) (b := sNe) (by decide +kernel)]
    refine iteF ?_
    refine ⟨_, rfl, ra, _, 0, _, rfl, rfl, hT, rfl, rfl, _, rfl, ?_⟩
    rw [strF (a := sEl) (b := sIf) (by decide +kernel)]
    refine iteF ?_
    refine ⟨_, rfl, ra, _, 0, _, rfl, rfl, hT, rfl, rfl, _, rfl, ?_⟩
    rw [strF (a := sEl) (b := sWh) (by decide +kernel)]
    refine iteF ?_
    show U _ _
    subst hU
    exact ⟨_, rfl, q (.ref pt) H (Same.refl _) ⟨pt, rfl, hpt⟩⟩
  · subst e
    refine seq_step fun U hU => ?_
    refine ⟨_, rfl, ra, _, 0, _, rfl, rfl, hT, rfl, rfl, _, rfl, ?_⟩
    rw [strF (a := sEn) (b := sSe) (by decide +kernel)]
    refine iteF ?_
    show U _ _
    subst hU
    refine seq_step fun U hU => ?_
    refine ⟨_, rfl, ra, _, 0, _, rfl, rfl, hT, rfl, rfl, _, rfl, ?_⟩
    rw [strF (a := sEn) (b := sAs) (by decide +kernel)]
    refine iteF ?_
    show U _ _
    subst hU
    refine seq_step fun U hU => ?_
    refine ⟨_, rfl, ra, _, 0, _, rfl, rfl, hT, rfl, rfl, _, rfl, ?_⟩
    rw [strF (a := sEn) (b := sNe) (by decide +kernel)]
    refine iteF ?_
    refine ⟨_, rfl, ra, _, 0, _, rfl, rfl, hT, rfl, rfl, _, rfl, ?_⟩
    rw [strF (a := sEn) (b := sIf) (by decide +kernel)]
    refine iteF ?_
    refine ⟨_, rfl, ra, _, 0, _, rfl, rfl, hT, rfl, rfl, _, rfl, ?_⟩
    rw [strF (a := sEn) (b := sWh) (by decide +kernel)]
    refine iteF ?_
    show U _ _
    subst hU
    exact ⟨_, rfl, q (.ref pt) H (Same.refl _) ⟨pt, rfl, hpt⟩⟩
theorem ok__law_point_like {f : Addr} {fd : FuncData} (F : Fun K "_law_point_like" "_law_point_like" s__law_point_like f fd) (m : mg "_law_point_like" = some (.ref f)) (B : Bl mg) (D__law_whole : Def P w K mg base CX0 "_law_whole" 1 ["_law_found"] (sp__law_whole K)) : Def P w K mg base CX0 "_law_point_like" 2 ["_law_made_here", "_law_due"] (sp__law_point_like K) := by
 refine ⟨f, fd, F.ok sc__law_point_like (fun vs H Q E h => ?_) (fun cdv A outer s H vs Q E hr h => ?_), F.binds (ps := ["_law_made_here", "_law_due"]) fun _ _ _ _ _ _ us hl => (by obtain ⟨b0, b1, rfl⟩ := us2 hl; rfl), F.kp, m⟩
 · obtain ⟨r1, u1, o, rfl, _⟩ := h
   rfl
 obtain ⟨r1, u1, o, rfl, hr1, hu1, q⟩ := h
 refine ⟨_, (@pss_cons _ _ _ _ _ (ps_if (pw_or (pt_cmpR op_isN (pv 1) pe_non (nomark _)) (pw_or (pt_not (pt_val (pe_callB (call_isTyK (K := K) rfl) (by rfl) B.isinstance (by decide +kernel) (pa_Name (pv 0) (pa_Name (pe_bltn (v := .ty "tuple") (u := .type "tuple") (by rfl) B.tuple (by decide +kernel) rfl) pa_nil))))) (pw_or1 (pt_cmpR op_ne (pe_callB (call_lenK (K := K) rfl) (by rfl) B.len (by decide +kernel) (pa_Name (pv 0) pa_nil)) (pe_callB (call_lenK (K := K) rfl) (by rfl) B.len (by decide +kernel) (pa_Name (pv 1) pa_nil)) (nomark _))))).pt (pss_one (ps_ret (pe_and (pe_cmpR op_isN (pv 1) pe_non (nomark _)) (pe_one (pe_cmpR op_isN (pv 0) pe_non (nomark _)))))) pss_nil)
  (@pss_cons _ _ _ _ _ (ps_for PassesOwn.never rfl (pi_tupK (K := K) rfl (pv 0)) (pg_nz 2 sc__law_point_like.nd) (pss_one (ps_if (pt_not (pt_val (pe_dz D__law_whole hr (pa_Name (pv 2) pa_nil)))) (pss_one (ps_ret pe_bl)) pss_nil)))
  (pss_one (ps_ret (pe_cmpR (op_eqDK (K := K) hr rfl) (pv 0) (pv 1) (nomark _)))))), ?_⟩
 refine seq_step fun U hU => ?_
 cases o with
 | none =>
  cases hr1
  cases hu1
  refine ⟨_, rfl, rfl, _, rfl, ?_⟩
  refine iteT ?_
  refine iteT ?_
  refine ⟨_, rfl, rfl, _, rfl, ?_⟩
  refine iteT ?_
  exact ⟨_, rfl, rfl, q⟩
 | some ys =>
  obtain ⟨p1, rfl, h1⟩ := hr1
  obtain ⟨p2, rfl, h2⟩ := hu1
  refine ⟨_, rfl, rfl, _, rfl, ?_⟩
  refine iteF ?_
  refine ⟨_, rfl, true, isT_tup h1, true, rfl, ?_⟩
  refine iteF ?_
  refine ⟨_, rfl, p1, _, rfl, .inr (SqT.of h1), _, rfl, p2, _, rfl, .inr (SqT.of h2), rfl, _, rfl, ?_⟩
  refine iteNS rfl ?_
  show U _ _
  subst hU
  refine seq_step fun U hU => ?_
  refine ⟨_, rfl, p1, rfl, ⟨_, SqT.of h1⟩, for_tup (K := K) (a := p1) (xs := ys.map V.int) (fun i σ H' => ∃ x, σ = [some (.ref p1), some (.ref p2), x] /\ H' = H) ⟨none, rfl, rfl⟩ (fun i σ H' _ ⟨_, _, e⟩ => by subst e; exact SqT.of h1) ?_ ?_⟩
  · rintro i v σ H' hv ⟨x, rfl, rfl⟩
    obtain ⟨hi, rfl⟩ := at_of hv
    refine ⟨_, rfl, _, rfl, true, rfl, ?_⟩
    refine iteF ?_
    exact ⟨_, rfl, rfl⟩
  · rintro σ H' ⟨x, rfl, rfl⟩
    show U _ _
    subst hU
    refine ⟨_, rfl, _, rfl, .tuple (ys.map .int), .tuple (ys.map .int), .tup (SqT.of h1) (.ints ys), .tup (SqT.of h2) (.ints ys), ?_, ?_⟩
    · have := depth_ints ys
      simp only [PyData.depth]
      omega
    · rw [PyData.eqv, eqvAll_ints, decide_eq_true rfl]
      exact q
theorem ok__law_kind {f : Addr} {fd : FuncData} (F : Fun K "_law_kind" "_law_kind" s__law_kind f fd) (m : mg "_law_kind" = some (.ref f)) (B : Bl mg)  : Def P w K mg base CX0 "_law_kind" 1 ["_law_deed", "_law_word_here"] (sp__law_kind K Z_Go Z_Keep Z_Put Z_Ask) := by
 refine ⟨f, fd, F.ok sc__law_kind (fun vs H Q E h => ?_) (fun cdv A outer s H vs Q E hr h => ?_), F.binds (ps := ["_law_deed", "_law_word_here"]) fun _ _ _ _ _ _ us hl => (by obtain ⟨b0, b1, rfl⟩ := us2 hl; rfl), F.kp, m⟩
 · obtain ⟨v, t, n, R, rfl, _⟩ := h
   rfl
 obtain ⟨v, t, n, R, rfl, hin, hD, q⟩ := h
 refine ⟨_, (@pss_cons _ _ _ _ _ (ps_if (pt_not (pt_val (pe_callB (call_isIK (K := K) rfl) (by rfl) B.isinstance (by decide +kernel) (pa_Name (pv 0) (pa_Name (pe_glob (v := .ref Z_Deed) (by rfl) T.mg_Deed rfl) pa_nil))))) (pss_one (ps_ret pe_bl)) pss_nil)
  (@pss_cons _ _ _ _ _ (ps_sz 2 sc__law_kind.nd (pe_lst (pa_Call (pe_callB (call_isIK (K := K) rfl) (by rfl) B.isinstance (by decide +kernel) (pa_Name (pv 0) (pa_Name (pe_glob (v := .ref Z_Put) (by rfl) T.mg_Put rfl) pa_nil))) (pa_Call (pe_callB (call_isIK (K := K) rfl) (by rfl) B.isinstance (by decide +kernel) (pa_Name (pv 0) (pa_Name (pe_glob (v := .ref Z_Ask) (by rfl) T.mg_Ask rfl) pa_nil))) (pa_Call (pe_callB (call_isIK (K := K) rfl) (by rfl) B.isinstance (by decide +kernel) (pa_Name (pv 0) (pa_Name (pe_glob (v := .ref Z_Keep) (by rfl) T.mg_Keep rfl) pa_nil))) (pa_Call (pe_callB (call_isIK (K := K) rfl) (by rfl) B.isinstance (by decide +kernel) (pa_Name (pv 0) (pa_Name (pe_glob (v := .ref Z_Go) (by rfl) T.mg_Go rfl) pa_nil))) pa_nil))))))
  (pss_one (ps_ret (pe_cmpR (op_eqDK (K := K) hr rfl) (pv 2) (pe_lst (pa_cons (pe_cmpR op_eq (pv 1) pe_str (nomark _)) (pa_cons (pe_cmpR op_eq (pv 1) pe_str (nomark _)) (pa_cons (pe_cmpR (op_in_seqK (K := K) rfl) (pv 1) (pe_lst (pa_Constant pe_str (pa_Constant pe_str (pa_Constant pe_str pa_nil)))) (by rfl)) (pa_cons (pe_cmpR (op_in_seqK (K := K) rfl) (pv 1) (pe_lst (pa_Constant pe_str (pa_Constant pe_str (pa_Constant pe_str pa_nil)))) (by rfl)) pa_nil))))) (nomark _)))))), ?_⟩
 cases R with
 | set k f g c =>
  obtain ⟨x, dx, aa, rfl, hx, haa⟩ := hD
  refine seq_step fun U hU => ?_
  refine ⟨_, rfl, true, ⟨x, _, dx, _, Z_Deed, rfl, hx, T.ic_Put, T.ko_Put_Deed⟩, true, rfl, ?_⟩
  refine iteF ?_
  show U _ _
  subst hU
  refine seq_step fun U hU => ?_
  refine ⟨_, rfl, true, ⟨x, _, dx, _, Z_Put, rfl, hx, T.ic_Put, T.ko_Put_Put⟩, _, rfl, false, ⟨x, _, dx, _, Z_Ask, rfl, hx, T.ic_Put, T.ko_Put_Ask⟩, _, rfl, false, ⟨x, _, dx, _, Z_Keep, rfl, hx, T.ic_Put, T.ko_Put_Keep⟩, _, rfl, false, ⟨x, _, dx, _, Z_Go, rfl, hx, T.ic_Put, T.ko_Put_Go⟩, sz 4, fun l hl => ?_⟩
  show U _ _
  subst hU
  have sl := same_new hl (.lst [.bl true, .bl false, .bl false, .bl false])
  have el : upd H l (.lst [.bl true, .bl false, .bl false, .bl false]) l = some (.lst [.bl true, .bl false, .bl false, .bl false]) := upd_same
  generalize upd H l (.lst [.bl true, .bl false, .bl false, .bl false]) = H1 at *
  refine ⟨_, rfl, _, rfl, rfl, _, rfl, rfl, _, rfl, sz 3, fun l2 hl2 => ⟨l2, _, rfl, .inl (SqL.of upd_same), rfl, rfl, _, rfl, sz 3, fun l3 hl3 => ⟨l3, _, rfl, .inl (SqL.of upd_same), rfl, rfl, sz 4, fun l4 hl4 => ?_⟩⟩⟩
  have s2 := fun o : HO => ((same_new hl2 (.lst [.str sNe, .str sIf, .str sWh])).trans (same_new hl3 (.lst [.str sCl, .str sEl, .str sEn]))).trans (same_new hl4 o)
  refine ⟨.list [.bool true, .bool false, .bool false, .bool false], .list [.bool true, .bool false, .bool false, .bool false], .lst (SqL.of (s2 _ _ _ el)) (.cons (dt_bl rfl) (.cons (dt_bl rfl) (.cons (dt_bl rfl) (.cons (dt_bl rfl) .nil)))), .lst (SqL.of upd_same) (.cons (dt_bl (strT sSe)) (.cons (dt_bl (strF (a := sSe) (b := sAs) (by decide +kernel))) (.cons (dt_bl ((by decide +kernel : inV (.str sSe) [.str sNe, .str sIf, .str sWh] = false))) (.cons (dt_bl ((by decide +kernel : inV (.str sSe) [.str sCl, .str sEl, .str sEn] = false))) (.nil))))), by simp [PyData.depth, PyData.depthAll], ?_⟩
  rw [show PyData.eqv (.list [.bool true, .bool false, .bool false, .bool false]) (.list [.bool true, .bool false, .bool false, .bool false]) = true by simp [PyData.eqv, PyData.eqvAll]]
  exact q _ (sl.trans (s2 _))
 | ask k lo hi =>
  obtain ⟨x, dx, rfl, hx⟩ := hD
  refine seq_step fun U hU => ?_
  refine ⟨_, rfl, true, ⟨x, _, dx, _, Z_Deed, rfl, hx, T.ic_Ask, T.ko_Ask_Deed⟩, true, rfl, ?_⟩
  refine iteF ?_
  show U _ _
  subst hU
  refine seq_step fun U hU => ?_
  refine ⟨_, rfl, false, ⟨x, _, dx, _, Z_Put, rfl, hx, T.ic_Ask, T.ko_Ask_Put⟩, _, rfl, true, ⟨x, _, dx, _, Z_Ask, rfl, hx, T.ic_Ask, T.ko_Ask_Ask⟩, _, rfl, false, ⟨x, _, dx, _, Z_Keep, rfl, hx, T.ic_Ask, T.ko_Ask_Keep⟩, _, rfl, false, ⟨x, _, dx, _, Z_Go, rfl, hx, T.ic_Ask, T.ko_Ask_Go⟩, sz 4, fun l hl => ?_⟩
  show U _ _
  subst hU
  have sl := same_new hl (.lst [.bl false, .bl true, .bl false, .bl false])
  have el : upd H l (.lst [.bl false, .bl true, .bl false, .bl false]) l = some (.lst [.bl false, .bl true, .bl false, .bl false]) := upd_same
  generalize upd H l (.lst [.bl false, .bl true, .bl false, .bl false]) = H1 at *
  refine ⟨_, rfl, _, rfl, rfl, _, rfl, rfl, _, rfl, sz 3, fun l2 hl2 => ⟨l2, _, rfl, .inl (SqL.of upd_same), rfl, rfl, _, rfl, sz 3, fun l3 hl3 => ⟨l3, _, rfl, .inl (SqL.of upd_same), rfl, rfl, sz 4, fun l4 hl4 => ?_⟩⟩⟩
  have s2 := fun o : HO => ((same_new hl2 (.lst [.str sNe, .str sIf, .str sWh])).trans (same_new hl3 (.lst [.str sCl, .str sEl, .str sEn]))).trans (same_new hl4 o)
  refine ⟨.list [.bool false, .bool true, .bool false, .bool false], .list [.bool false, .bool true, .bool false, .bool false], .lst (SqL.of (s2 _ _ _ el)) (.cons (dt_bl rfl) (.cons (dt_bl rfl) (.cons (dt_bl rfl) (.cons (dt_bl rfl) .nil)))), .lst (SqL.of upd_same) (.cons (dt_bl (strF (a := sAs) (b := sSe) (by decide +kernel))) (.cons (dt_bl (strT sAs)) (.cons (dt_bl ((by decide +kernel : inV (.str sAs) [.str sNe, .str sIf, .str sWh] = false))) (.cons (dt_bl ((by decide +kernel : inV (.str sAs) [.str sCl, .str sEl, .str sEn] = false))) (.nil))))), by simp [PyData.depth, PyData.depthAll], ?_⟩
  rw [show PyData.eqv (.list [.bool false, .bool true, .bool false, .bool false]) (.list [.bool false, .bool true, .bool false, .bool false]) = true by simp [PyData.eqv, PyData.eqvAll]]
  exact q _ (sl.trans (s2 _))
 | bare w =>
  obtain ⟨x, dx, rfl, hx⟩ := hD
  rcases hin with rfl | rfl
  · skip
    refine seq_step fun U hU => ?_
    refine ⟨_, rfl, true, ⟨x, _, dx, _, Z_Deed, rfl, hx, T.ic_Go, T.ko_Go_Deed⟩, true, rfl, ?_⟩
    refine iteF ?_
    show U _ _
    subst hU
    refine seq_step fun U hU => ?_
    refine ⟨_, rfl, false, ⟨x, _, dx, _, Z_Put, rfl, hx, T.ic_Go, T.ko_Go_Put⟩, _, rfl, false, ⟨x, _, dx, _, Z_Ask, rfl, hx, T.ic_Go, T.ko_Go_Ask⟩, _, rfl, false, ⟨x, _, dx, _, Z_Keep, rfl, hx, T.ic_Go, T.ko_Go_Keep⟩, _, rfl, true, ⟨x, _, dx, _, Z_Go, rfl, hx, T.ic_Go, T.ko_Go_Go⟩, sz 4, fun l hl => ?_⟩
    show U _ _
    subst hU
    have sl := same_new hl (.lst [.bl false, .bl false, .bl false, .bl true])
    have el : upd H l (.lst [.bl false, .bl false, .bl false, .bl true]) l = some (.lst [.bl false, .bl false, .bl false, .bl true]) := upd_same
    generalize upd H l (.lst [.bl false, .bl false, .bl false, .bl true]) = H1 at *
    refine ⟨_, rfl, _, rfl, rfl, _, rfl, rfl, _, rfl, sz 3, fun l2 hl2 => ⟨l2, _, rfl, .inl (SqL.of upd_same), rfl, rfl, _, rfl, sz 3, fun l3 hl3 => ⟨l3, _, rfl, .inl (SqL.of upd_same), rfl, rfl, sz 4, fun l4 hl4 => ?_⟩⟩⟩
    have s2 := fun o : HO => ((same_new hl2 (.lst [.str sNe, .str sIf, .str sWh])).trans (same_new hl3 (.lst [.str sCl, .str sEl, .str sEn]))).trans (same_new hl4 o)
    refine ⟨.list [.bool false, .bool false, .bool false, .bool true], .list [.bool false, .bool false, .bool false, .bool true], .lst (SqL.of (s2 _ _ _ el)) (.cons (dt_bl rfl) (.cons (dt_bl rfl) (.cons (dt_bl rfl) (.cons (dt_bl rfl) .nil)))), .lst (SqL.of upd_same) (.cons (dt_bl (strF (a := sEl) (b := sSe) (by decide +kernel))) (.cons (dt_bl (strF (a := sEl) (b := sAs) (by decide +kernel))) (.cons (dt_bl ((by decide +kernel : inV (.str sEl) [.str sNe, .str sIf, .str sWh] = false))) (.cons (dt_bl ((by decide +kernel : inV (.str sEl) [.str sCl, .str sEl, .str sEn] = true))) (.nil))))), by simp [PyData.depth, PyData.depthAll], ?_⟩
    rw [show PyData.eqv (.list [.bool false, .bool false, .bool false, .bool true]) (.list [.bool false, .bool false, .bool false, .bool true]) = true by simp [PyData.eqv, PyData.eqvAll]]
    exact q _ (sl.trans (s2 _))
  · skip
    refine seq_step fun U hU => ?_
    refine ⟨_, rfl, true, ⟨x, _, dx, _, Z_Deed, rfl, hx, T.ic_Go, T.ko_Go_Deed⟩, true, rfl, ?_⟩
    refine iteF ?_
    show U _ _
    subst hU
    refine seq_step fun U hU => ?_
    refine ⟨_, rfl, false, ⟨x, _, dx, _, Z_Put, rfl, hx, T.ic_Go, T.ko_Go_Put⟩, _, rfl, false, ⟨x, _, dx, _, Z_Ask, rfl, hx, T.ic_Go, T.ko_Go_Ask⟩, _, rfl, false, ⟨x, _, dx, _, Z_Keep, rfl, hx, T.ic_Go, T.ko_Go_Keep⟩, _, rfl, true, ⟨x, _, dx, _, Z_Go, rfl, hx, T.ic_Go, T.ko_Go_Go⟩, sz 4, fun l hl => ?_⟩
    show U _ _
    subst hU
    have sl := same_new hl (.lst [.bl false, .bl false, .bl false, .bl true])
    have el : upd H l (.lst [.bl false, .bl false, .bl false, .bl true]) l = some (.lst [.bl false, .bl false, .bl false, .bl true]) := upd_same
    generalize upd H l (.lst [.bl false, .bl false, .bl false, .bl true]) = H1 at *
    refine ⟨_, rfl, _, rfl, rfl, _, rfl, rfl, _, rfl, sz 3, fun l2 hl2 => ⟨l2, _, rfl, .inl (SqL.of upd_same), rfl, rfl, _, rfl, sz 3, fun l3 hl3 => ⟨l3, _, rfl, .inl (SqL.of upd_same), rfl, rfl, sz 4, fun l4 hl4 => ?_⟩⟩⟩
    have s2 := fun o : HO => ((same_new hl2 (.lst [.str sNe, .str sIf, .str sWh])).trans (same_new hl3 (.lst [.str sCl, .str sEl, .str sEn]))).trans (same_new hl4 o)
    refine ⟨.list [.bool false, .bool false, .bool false, .bool true], .list [.bool false, .bool false, .bool false, .bool true], .lst (SqL.of (s2 _ _ _ el)) (.cons (dt_bl rfl) (.cons (dt_bl rfl) (.cons (dt_bl rfl) (.cons (dt_bl rfl) .nil)))), .lst (SqL.of upd_same) (.cons (dt_bl (strF (a := sEn) (b := sSe) (by decide +kernel))) (.cons (dt_bl (strF (a := sEn) (b := sAs) (by decide +kernel))) (.cons (dt_bl ((by decide +kernel : inV (.str sEn) [.str sNe, .str sIf, .str sWh] = false))) (.cons (dt_bl ((by decide +kernel : inV (.str sEn) [.str sCl, .str sEl, .str sEn] = true))) (.nil))))), by simp [PyData.depth, PyData.depthAll], ?_⟩
    rw [show PyData.eqv (.list [.bool false, .bool false, .bool false, .bool true]) (.list [.bool false, .bool false, .bool false, .bool true]) = true by simp [PyData.eqv, PyData.eqvAll]]
    exact q _ (sl.trans (s2 _))
 | qu w f g qq c =>
  have keep : w ≠ sCl -> ∃ q2 c2, deedN (.qu w f g qq c) t = .keep f g q2 c2 := fun h => by
   unfold deedN
   dsimp only
   rw [if_neg h]
   by_cases h0 : t = 0
   · rw [if_pos h0]; exact ⟨_, _, rfl⟩
   · rw [if_neg h0]; exact ⟨_, _, rfl⟩
  rcases hin.1 with rfl | rfl | rfl | rfl
  · obtain ⟨q2, c2, ed⟩ := keep (by decide +kernel)
    rw [ed] at hD
    obtain ⟨x, dx, qa, rfl, hx, hqa⟩ := hD
    refine seq_step fun U hU => ?_
    refine ⟨_, rfl, true, ⟨x, _, dx, _, Z_Deed, rfl, hx, T.ic_Keep, T.ko_Keep_Deed⟩, true, rfl, ?_⟩
    refine iteF ?_
    show U _ _
    subst hU
    refine seq_step fun U hU => ?_
    refine ⟨_, rfl, false, ⟨x, _, dx, _, Z_Put, rfl, hx, T.ic_Keep, T.ko_Keep_Put⟩, _, rfl, false, ⟨x, _, dx, _, Z_Ask, rfl, hx, T.ic_Keep, T.ko_Keep_Ask⟩, _, rfl, true, ⟨x, _, dx, _, Z_Keep, rfl, hx, T.ic_Keep, T.ko_Keep_Keep⟩, _, rfl, false, ⟨x, _, dx, _, Z_Go, rfl, hx, T.ic_Keep, T.ko_Keep_Go⟩, sz 4, fun l hl => ?_⟩
    show U _ _
    subst hU
    have sl := same_new hl (.lst [.bl false, .bl false, .bl true, .bl false])
    have el : upd H l (.lst [.bl false, .bl false, .bl true, .bl false]) l = some (.lst [.bl false, .bl false, .bl true, .bl false]) := upd_same
    generalize upd H l (.lst [.bl false, .bl false, .bl true, .bl false]) = H1 at *
    refine ⟨_, rfl, _, rfl, rfl, _, rfl, rfl, _, rfl, sz 3, fun l2 hl2 => ⟨l2, _, rfl, .inl (SqL.of upd_same), rfl, rfl, _, rfl, sz 3, fun l3 hl3 => ⟨l3, _, rfl, .inl (SqL.of upd_same), rfl, rfl, sz 4, fun l4 hl4 => ?_⟩⟩⟩
    have s2 := fun o : HO => ((same_new hl2 (.lst [.str sNe, .str sIf, .str sWh])).trans (same_new hl3 (.lst [.str sCl, .str sEl, .str sEn]))).trans (same_new hl4 o)
    refine ⟨.list [.bool false, .bool false, .bool true, .bool false], .list [.bool false, .bool false, .bool true, .bool false], .lst (SqL.of (s2 _ _ _ el)) (.cons (dt_bl rfl) (.cons (dt_bl rfl) (.cons (dt_bl rfl) (.cons (dt_bl rfl) .nil)))), .lst (SqL.of upd_same) (.cons (dt_bl (strF (a := sNe) (b := sSe) (by decide +kernel))) (.cons (dt_bl (strF (a := sNe) (b := sAs) (by decide +kernel))) (.cons (dt_bl ((by decide +kernel : inV (.str sNe) [.str sNe, .str sIf, .str sWh] = true))) (.cons (dt_bl ((by decide +kernel : inV (.str sNe) [.str sCl, .str sEl, .str sEn] = false))) (.nil))))), by simp [PyData.depth, PyData.depthAll], ?_⟩
    rw [show PyData.eqv (.list [.bool false, .bool false, .bool true, .bool false]) (.list [.bool false, .bool false, .bool true, .bool false]) = true by simp [PyData.eqv, PyData.eqvAll]]
    exact q _ (sl.trans (s2 _))
  · have ed : deedN (.qu sCl f g qq c) t = .go := by unfold deedN; dsimp only; rw [if_pos rfl]
    rw [ed] at hD
    obtain ⟨x, dx, rfl, hx⟩ := hD
    refine seq_step fun U hU => ?_
    refine ⟨_, rfl, true, ⟨x, _, dx, _, Z_Deed, rfl, hx, T.ic_Go, T.ko_Go_Deed⟩, true, rfl, ?_⟩
    refine iteF ?_
    show U _ _
    subst hU
    refine seq_step fun U hU => ?_
    refine ⟨_, rfl, false, ⟨x, _, dx, _, Z_Put, rfl, hx, T.ic_Go, T.ko_Go_Put⟩, _, rfl, false, ⟨x, _, dx, _, Z_Ask, rfl, hx, T.ic_Go, T.ko_Go_Ask⟩, _, rfl, false, ⟨x, _, dx, _, Z_Keep, rfl, hx, T.ic_Go, T.ko_Go_Keep⟩, _, rfl, true, ⟨x, _, dx, _, Z_Go, rfl, hx, T.ic_Go, T.ko_Go_Go⟩, sz 4, fun l hl => ?_⟩
    show U _ _
    subst hU
    have sl := same_new hl (.lst [.bl false, .bl false, .bl false, .bl true])
    have el : upd H l (.lst [.bl false, .bl false, .bl false, .bl true]) l = some (.lst [.bl false, .bl false, .bl false, .bl true]) := upd_same
    generalize upd H l (.lst [.bl false, .bl false, .bl false, .bl true]) = H1 at *
    refine ⟨_, rfl, _, rfl, rfl, _, rfl, rfl, _, rfl, sz 3, fun l2 hl2 => ⟨l2, _, rfl, .inl (SqL.of upd_same), rfl, rfl, _, rfl, sz 3, fun l3 hl3 => ⟨l3, _, rfl, .inl (SqL.of upd_same), rfl, rfl, sz 4, fun l4 hl4 => ?_⟩⟩⟩
    have s2 := fun o : HO => ((same_new hl2 (.lst [.str sNe, .str sIf, .str sWh])).trans (same_new hl3 (.lst [.str sCl, .str sEl, .str sEn]))).trans (same_new hl4 o)
    refine ⟨.list [.bool false, .bool false, .bool false, .bool true], .list [.bool false, .bool false, .bool false, .bool true], .lst (SqL.of (s2 _ _ _ el)) (.cons (dt_bl rfl) (.cons (dt_bl rfl) (.cons (dt_bl rfl) (.cons (dt_bl rfl) .nil)))), .lst (SqL.of upd_same) (.cons (dt_bl (strF (a := sCl) (b := sSe) (by decide +kernel))) (.cons (dt_bl (strF (a := sCl) (b := sAs) (by decide +kernel))) (.cons (dt_bl ((by decide +kernel : inV (.str sCl) [.str sNe, .str sIf, .str sWh] = false))) (.cons (dt_bl ((by decide +kernel : inV (.str sCl) [.str sCl, .str sEl, .str sEn] = true))) (.nil))))), by simp [PyData.depth, PyData.depthAll], ?_⟩
    rw [show PyData.eqv (.list [.bool false, .bool false, .bool false, .bool true]) (.list [.bool false, .bool false, .bool false, .bool true]) = true by simp [PyData.eqv, PyData.eqvAll]]
    exact q _ (sl.trans (s2 _))
  · obtain ⟨q2, c2, ed⟩ := keep (by decide +kernel)
    rw [ed] at hD
    obtain ⟨x, dx, qa, rfl, hx, hqa⟩ := hD
    refine seq_step fun U hU => ?_
    refine ⟨_, rfl, true, ⟨x, _, dx, _, Z_Deed, rfl, hx, T.ic_Keep, T.ko_Keep_Deed⟩, true, rfl, ?_⟩
    refine iteF ?_
    show U _ _
    subst hU
    refine seq_step fun U hU => ?_
    refine ⟨_, rfl, false, ⟨x, _, dx, _, Z_Put, rfl, hx, T.ic_Keep, T.ko_Keep_Put⟩, _, rfl, false, ⟨x, _, dx, _, Z_Ask, rfl, hx, T.ic_Keep, T.ko_Keep_Ask⟩, _, rfl, true, ⟨x, _, dx, _, Z_Keep, rfl, hx, T.ic_Keep, T.ko_Keep_Keep⟩, _, rfl, false, ⟨x, _, dx, _, Z_Go, rfl, hx, T.ic_Keep, T.ko_Keep_Go⟩, sz 4, fun l hl => ?_⟩
    show U _ _
    subst hU
    have sl := same_new hl (.lst [.bl false, .bl false, .bl true, .bl false])
    have el : upd H l (.lst [.bl false, .bl false, .bl true, .bl false]) l = some (.lst [.bl false, .bl false, .bl true, .bl false]) := upd_same
    generalize upd H l (.lst [.bl false, .bl false, .bl true, .bl false]) = H1 at *
    refine ⟨_, rfl, _, rfl, rfl, _, rfl, rfl, _, rfl, sz 3, fun l2 hl2 => ⟨l2, _, rfl, .inl (SqL.of upd_same), rfl, rfl, _, rfl, sz 3, fun l3 hl3 => ⟨l3, _, rfl, .inl (SqL.of upd_same), rfl, rfl, sz 4, fun l4 hl4 => ?_⟩⟩⟩
    have s2 := fun o : HO => ((same_new hl2 (.lst [.str sNe, .str sIf, .str sWh])).trans (same_new hl3 (.lst [.str sCl, .str sEl, .str sEn]))).trans (same_new hl4 o)
    refine ⟨.list [.bool false, .bool false, .bool true, .bool false], .list [.bool false, .bool false, .bool true, .bool false], .lst (SqL.of (s2 _ _ _ el)) (.cons (dt_bl rfl) (.cons (dt_bl rfl) (.cons (dt_bl rfl) (.cons (dt_bl rfl) .nil)))), .lst (SqL.of upd_same) (.cons (dt_bl (strF (a := sIf) (b := sSe) (by decide +kernel))) (.cons (dt_bl (strF (a := sIf) (b := sAs) (by decide +kernel))) (.cons (dt_bl ((by decide +kernel : inV (.str sIf) [.str sNe, .str sIf, .str sWh] = true))) (.cons (dt_bl ((by decide +kernel : inV (.str sIf) [.str sCl, .str sEl, .str sEn] = false))) (.nil))))), by simp [PyData.depth, PyData.depthAll], ?_⟩
    rw [show PyData.eqv (.list [.bool false, .bool false, .bool true, .bool false]) (.list [.bool false, .bool false, .bool true, .bool false]) = true by simp [PyData.eqv, PyData.eqvAll]]
    exact q _ (sl.trans (s2 _))
  · obtain ⟨q2, c2, ed⟩ := keep (by decide +kernel)
    rw [ed] at hD
    obtain ⟨x, dx, qa, rfl, hx, hqa⟩ := hD
    refine seq_step fun U hU => ?_
    refine ⟨_, rfl, true, ⟨x, _, dx, _, Z_Deed, rfl, hx, T.ic_Keep, T.ko_Keep_Deed⟩, true, rfl, ?_⟩
    refine iteF ?_
    show U _ _
    subst hU
    refine seq_step fun U hU => ?_
    refine ⟨_, rfl, false, ⟨x, _, dx, _, Z_Put, rfl, hx, T.ic_Keep, T.ko_Keep_Put⟩, _, rfl, false, ⟨x, _, dx, _, Z_Ask, rfl, hx, T.ic_Keep, T.ko_Keep_Ask⟩, _, rfl, true, ⟨x, _, dx, _, Z_Keep, rfl, hx, T.ic_Keep, T.ko_Keep_Keep⟩, _, rfl, false, ⟨x, _, dx, _, Z_Go, rfl, hx, T.ic_Keep, T.ko_Keep_Go⟩, sz 4, fun l hl => ?_⟩
    show U _ _
    subst hU
    have sl := same_new hl (.lst [.bl false, .bl false, .bl true, .bl false])
    have el : upd H l (.lst [.bl false, .bl false, .bl true, .bl false]) l = some (.lst [.bl false, .bl false, .bl true, .bl false]) := upd_same
    generalize upd H l (.lst [.bl false, .bl false, .bl true, .bl false]) = H1 at *
    refine ⟨_, rfl, _, rfl, rfl, _, rfl, rfl, _, rfl, sz 3, fun l2 hl2 => ⟨l2, _, rfl, .inl (SqL.of upd_same), rfl, rfl, _, rfl, sz 3, fun l3 hl3 => ⟨l3, _, rfl, .inl (SqL.of upd_same), rfl, rfl, sz 4, fun l4 hl4 => ?_⟩⟩⟩
    have s2 := fun o : HO => ((same_new hl2 (.lst [.str sNe, .str sIf, .str sWh])).trans (same_new hl3 (.lst [.str sCl, .str sEl, .str sEn]))).trans (same_new hl4 o)
    refine ⟨.list [.bool false, .bool false, .bool true, .bool false], .list [.bool false, .bool false, .bool true, .bool false], .lst (SqL.of (s2 _ _ _ el)) (.cons (dt_bl rfl) (.cons (dt_bl rfl) (.cons (dt_bl rfl) (.cons (dt_bl rfl) .nil)))), .lst (SqL.of upd_same) (.cons (dt_bl (strF (a := sWh) (b := sSe) (by decide +kernel))) (.cons (dt_bl (strF (a := sWh) (b := sAs) (by decide +kernel))) (.cons (dt_bl ((by decide +kernel : inV (.str sWh) [.str sNe, .str sIf, .str sWh] = true))) (.cons (dt_bl ((by decide +kernel : inV (.str sWh) [.str sCl, .str sEl, .str sEn] = false))) (.nil))))), by simp [PyData.depth, PyData.depthAll], ?_⟩
    rw [show PyData.eqv (.list [.bool false, .bool false, .bool true, .bool false]) (.list [.bool false, .bool false, .bool true, .bool false]) = true by simp [PyData.eqv, PyData.eqvAll]]
    exact q _ (sl.trans (s2 _))
theorem ok__law_way_good {f : Addr} {fd : FuncData} (F : Fun K "_law_way_good" "_law_way_good" s__law_way_good f fd) (m : mg "_law_way_good" = some (.ref f)) (B : Bl mg) (D_Deed_asks : FDef P w K mg base CX0 1 ["self"] (sp_Deed_asks K) y3) (D_Ask_asks : FDef P w K mg base CX0 1 ["self"] (sp_Ask_asks K) y0) (D__law_whole : Def P w K mg base CX0 "_law_whole" 1 ["_law_found"] (sp__law_whole K)) (D__law_kind : Def P w K mg base CX0 "_law_kind" 1 ["_law_deed", "_law_word_here"] (sp__law_kind K Z_Go Z_Keep Z_Put Z_Ask)) (D__law_point_like : Def P w K mg base CX0 "_law_point_like" 2 ["_law_made_here", "_law_due"] (sp__law_point_like K)) (D_Go_done : FDef P w K mg base CX0 1 ["self", "point", "number"] (sp_Go_done K) y4) (D_Keep_done : FDef P w K mg base CX0 4 ["self", "point", "number"] (sp_Keep_done K Z_Keep) y7) (D_Put_done : FDef P w K mg base CX0 4 ["self", "point", "number"] (sp_Put_done K Z_Put) y9) (D_Ask_done : FDef P w K mg base CX0 3 ["self", "point", "number"] (sp_Ask_done K Z_Ask) y1) (D__law_made : Def P w K mg base CX0 "_law_made" 3 ["_law_row_here", "_law_turn", "_law_point_here", "_law_number"] (sp__law_made K)) : Def P w K mg base CX0 "_law_way_good" 5 ["_law_way", "_law_rows", "_law_at", "_law_to", "_law_turn", "_law_tries"] (sp__law_way_good K Z_Go Z_Keep Z_Put Z_Ask) := by
 refine ⟨f, fd, F.ok sc__law_way_good (fun vs H Q E h => ?_) (fun cdv A outer s H vs Q E hr h => ?_), F.binds (ps := ["_law_way", "_law_rows", "_law_at", "_law_to", "_law_turn", "_law_tries"]) fun _ _ _ _ _ _ us hl => (by obtain ⟨b0, b1, b2, b3, b4, b5, rfl⟩ := us6 hl; rfl), F.kp, m⟩
 · obtain ⟨p, r, tr, d, rv, tv, Rs, tts, n, i, to, t, R, rfl, _⟩ := h
   rfl
 obtain ⟨p, r, tr, d, rv, tv, Rs, tts, n, i, to, t, R, rfl, ep, hD, er, hR, eR, hin, n6, etr, hT, hlen, q⟩ := h
 refine ⟨_, (@pss_cons _ _ _ _ _ (ps_if (pw_or (pt_not (pt_val (pe_callB (call_isTyK (K := K) rfl) (by rfl) B.isinstance (by decide +kernel) (pa_Name (pv 0) (pa_Name (pe_bltn (v := .ty "tuple") (u := .type "tuple") (by rfl) B.tuple (by decide +kernel) rfl) pa_nil))))) (pw_or (pt_cmpR op_ne (pe_callB (call_lenK (K := K) rfl) (by rfl) B.len (by decide +kernel) (pa_Name (pv 0) pa_nil)) pe_int (nomark _)) (pw_or (pt_not (pt_val (pe_dz D__law_whole hr (pa_Subscript (pe_xT (K := K) (pv 0) pe_int) pa_nil)))) (pw_or1 (pt_not (pt_val (pe_dz D__law_whole hr (pa_Subscript (pe_xT (K := K) (pv 0) pe_int) pa_nil)))))))).pt (pss_one (ps_ret pe_bl)) pss_nil)
  (@pss_cons _ _ _ _ _ (ps_sz 6 sc__law_way_good.nd (pe_xT (K := K) (pv 0) pe_int))
  (@pss_cons _ _ _ _ _ (ps_if (pw_or (pt_cmpR op_ne (pe_xT (K := K) (pv 0) pe_int) (pv 2) (nomark _)) (pw_or (pt_cmpR op_ne (pe_xT (K := K) (pv 0) pe_int) (pv 3) (nomark _)) (pw_or1 (pt_not (pt_val (pe_dz D__law_kind hr (pa_Name (pv 6) (pa_Subscript (pe_xT (K := K) (pe_xL (K := K) (pv 1) (pv 2)) pe_int) pa_nil)))))))).pt (pss_one (ps_ret pe_bl)) pss_nil)
  (@pss_cons _ _ _ _ _ (ps_for PassesOwn.never rfl (pi_listK (K := K) rfl (pv 5)) (pg_pairK (K := K) rfl rfl (pg_nz 7 sc__law_way_good.nd) (pg_nz 8 sc__law_way_good.nd)) (@pss_cons _ _ _ _ _ (ps_sz 9 sc__law_way_good.nd (pe_either (pe_mdef0 D_Deed_asks T.cl_Go T.me_Go_asks (pv 6) (hr.mono (by decide)) pass0) (pe_either (pe_mdef0 D_Deed_asks T.cl_Keep T.me_Keep_asks (pv 6) (hr.mono (by decide)) pass0) (pe_either (pe_mdef0 D_Deed_asks T.cl_Put T.me_Put_asks (pv 6) (hr.mono (by decide)) pass0) (pe_mdef0 D_Ask_asks T.cl_Ask T.me_Ask_asks (pv 6) (hr.mono (by decide)) pass0)))))
  (@pss_cons _ _ _ _ _ (ps_if (pw_or (pt_not (pt_val (pe_callB (call_isTyK (K := K) rfl) (by rfl) B.isinstance (by decide +kernel) (pa_Name (pv 9) (pa_Name (pe_bltn (v := .ty "bool") (u := .type "bool") (by rfl) B.bool (by decide +kernel) rfl) pa_nil))))) (pw_or1 (pt_cmpR op_ne (pv 9) (pe_cmpR op_eq (pe_xT (K := K) (pe_xL (K := K) (pv 1) (pv 2)) pe_int) pe_str (nomark _)) (nomark _)))).pt (pss_one (ps_ret pe_bl)) pss_nil)
  (pss_one (ps_if (pt_not (pt_val (pe_dz D__law_point_like hr (pa_Call (pe_either (pe_mdef D_Go_done T.cl_Go T.me_Go_done (pv 6) (hr.mono (by decide)) pass0 (pa_Name (pv 7) (pa_Name (pv 8) pa_nil))) (pe_either (pe_mdef D_Keep_done T.cl_Keep T.me_Keep_done (pv 6) (hr.mono (by decide)) pass0 (pa_Name (pv 7) (pa_Name (pv 8) pa_nil))) (pe_either (pe_mdef D_Put_done T.cl_Put T.me_Put_done (pv 6) (hr.mono (by decide)) pass0 (pa_Name (pv 7) (pa_Name (pv 8) pa_nil))) (pe_mdef D_Ask_done T.cl_Ask T.me_Ask_done (pv 6) (hr.mono (by decide)) pass0 (pa_Name (pv 7) (pa_Name (pv 8) pa_nil)))))) (pa_Call (pe_dz D__law_made hr (pa_Subscript (pe_xL (K := K) (pv 1) (pv 2)) (pa_Name (pv 4) (pa_Name (pv 7) (pa_Name (pv 8) pa_nil))))) pa_nil))))) (pss_one (ps_ret pe_bl)) pss_nil)))))
  (pss_one (ps_ret pe_bl)))))), ?_⟩
 obtain ⟨v0, ev, hv⟩ := paired_get hR eR
 have hv0 := hv
 obtain ⟨ra, rx, rfl, hra⟩ := hv0.word
 have hW : SqT K H p [.int (i : Nat), .int (to : Nat), d] := SqT.of ep
 refine seq_step fun U hU => ?_
 refine ⟨_, rfl, true, isT_tup ep, true, rfl, ?_⟩
 refine iteF ?_
 refine ⟨_, rfl, p, _, rfl, .inr hW, rfl, _, rfl, ?_⟩
 refine iteNS rfl ?_
 refine ⟨_, rfl, p, _, 0, _, rfl, rfl, hW, rfl, _, rfl, true, rfl, ?_⟩
 refine iteF ?_
 refine ⟨_, rfl, p, _, 1, _, rfl, rfl, hW, rfl, _, rfl, true, rfl, ?_⟩
 refine iteF ?_
 show U _ _
 subst hU
 refine seq_step fun U hU => ?_
 refine ⟨_, rfl, p, _, 2, _, rfl, rfl, hW, rfl, ?_⟩
 show U _ _
 subst hU
 refine seq_step fun U hU => ?_
 refine ⟨_, rfl, p, _, 0, _, rfl, rfl, hW, rfl, _, rfl, rfl, _, rfl, ?_⟩
 refine iteNS rfl ?_
 refine ⟨_, rfl, p, _, 1, _, rfl, rfl, hW, rfl, _, rfl, rfl, _, rfl, ?_⟩
 refine iteNS rfl ?_
 refine ⟨_, rfl, _, rfl, _, rfl, r, _, _, _, rfl, rfl, SqL.of er, at_nat ev, ra, _, (0 : Int), _, rfl, rfl, SqT.of hra, at0 _ _, d, t, n, R, rfl, hin, hD, fun H1 sm1 => ?_⟩
 refine ⟨true, rfl, ?_⟩
 refine iteF ?_
 show U _ _
 subst hU
 refine seq_step fun U hU => ?_
 refine ⟨_, rfl, tr, rfl, ⟨_, SqL.of (sm1 _ _ etr)⟩, for_list (K := K) (a := tr) (xs := tv) (fun j σ H' => ∃ x y z, σ = [some (.ref p), some (.ref r), some (.int i), some (.int to), some (.int t), some (.ref tr), some d, x, y, z] /\ Same H H') ⟨none, none, none, rfl, sm1⟩ (fun j σ H' _ ⟨_, _, _, _, sm⟩ => SqL.of (sm _ _ etr)) ?_ ?_⟩
 · rintro j v σ H2 hvj ⟨x, y, z, rfl, sm2⟩
   obtain ⟨yy, ey, b, pt, rfl, hb, hpt⟩ := paired_get' hT hvj
   have xl := hlen yy (List.mem_of_getElem? ey)
   have hpt2 := sm2 _ _ hpt
   have hD2 := hD.same sm2
   refine ⟨b, _, rfl, SqT.of (sm2 _ _ hb), rfl, _, _, rfl, _, _, rfl, rfl, ?_⟩
   refine seq_step fun U hU => ?_
   refine asks_call (K := K) (i := 6) rfl hD2 ?_
   show U _ _
   subst hU
   rw [askB_deed hin]
   refine seq_step fun U hU => ?_
   refine ⟨_, rfl, true, isT_bl_bool, true, rfl, ?_⟩
   refine iteF ?_
   refine ⟨_, rfl, _, rfl, _, rfl, r, _, _, _, rfl, rfl, SqL.of (sm2 _ _ er), at_nat ev, ra, _, (0 : Int), _, rfl, rfl, SqT.of (sm2 _ _ hra), at0 _ _, rfl, rfl, _, rfl, ?_⟩
   refine iteNS rfl ?_
   show U _ _
   subst hU
   refine done_call (K := K) (i := 6) (pt := pt) (num := yy.2) (xs := yy.1) rfl (fun G h => ⟨_, rfl, _, rfl, h⟩) hD2 (deedN_in hin) hpt2 xl n6 fun r1 H3 sm3 h3 => ?_
   have s3 := sm2.trans sm3
   refine ⟨_, rfl, _, rfl, r, _, _, _, rfl, rfl, SqL.of (s3 _ _ er), at_nat ev, _, rfl, _, rfl, _, rfl, _, pt, yy.1, yy.2, t, n, R, rfl, hv.keep (TKeep.of s3), hin, s3 _ _ hpt, xl, n6, fun r2 H4 sm4 h4 => ?_⟩
   refine ⟨r1, r2, _, rfl, h3.same sm4, h4, true, rfl, ?_⟩
   refine iteF ?_
   exact ⟨_, _, _, rfl, s3.trans sm4⟩
 · rintro σ H2 ⟨x, y, z, rfl, sm2⟩
   show U _ _
   subst hU
   exact q H2 sm2
theorem ok__law_ways_good {f : Addr} {fd : FuncData} (F : Fun K "_law_ways_good" "_law_ways_good" s__law_ways_good f fd) (m : mg "_law_ways_good" = some (.ref f)) (B : Bl mg) (D__law_leads : Def P w K mg base CX0 "_law_leads" 1 ["_law_rows", "_law_found", "_law_at"] (sp__law_leads K)) (D__law_way_good : Def P w K mg base CX0 "_law_way_good" 5 ["_law_way", "_law_rows", "_law_at", "_law_to", "_law_turn", "_law_tries"] (sp__law_way_good K Z_Go Z_Keep Z_Put Z_Ask)) : Def P w K mg base CX0 "_law_ways_good" 6 ["_law_told", "_law_rows", "_law_found", "_law_tries"] (sp__law_ways_good K Z_Go Z_Keep Z_Put Z_Ask) := by
 refine ⟨f, fd, F.ok sc__law_ways_good (fun vs H Q E h => ?_) (fun cdv A outer s H vs Q E hr h => ?_), F.binds (ps := ["_law_told", "_law_rows", "_law_found", "_law_tries"]) fun _ _ _ _ _ _ us hl => (by obtain ⟨b0, b1, b2, b3, rfl⟩ := us4 hl; rfl), F.kp, m⟩
 · obtain ⟨to, r, fo, tr, ys, rv, tv, Rs, tts, n, s1, rfl, _⟩ := h
   rfl
 obtain ⟨to, r, fo, tr, ys, rv, tv, Rs, tts, n, s1, rfl, eto, hW, er, hR, hall, ef, run, ho, l60, n6, etr, hT, hlen, q⟩ := h
 refine ⟨_, (@pss_cons _ _ _ _ _ (ps_if (pt_not (pt_val (pe_callB (call_isTyK (K := K) rfl) (by rfl) B.isinstance (by decide +kernel) (pa_Name (pv 0) (pa_Name (pe_bltn (v := .ty "list") (u := .type "list") (by rfl) B.list (by decide +kernel) rfl) pa_nil))))) (pss_one (ps_ret pe_bl)) pss_nil)
  (@pss_cons _ _ _ _ _ (ps_sz 4 sc__law_ways_good.nd (pe_callTy (call_list_ofK (K := K) rfl) (by rfl) B.list (by decide +kernel) (pa_Name (pv 0) pa_nil)))
  (@pss_cons _ _ _ _ _ (ps_expr (pe_bm0 PySem.F.plainAttrs_list PySem.F.slot_list_reverse PySem.F.type_list_reverse mt_reverse (pv 4)))
  (@pss_cons _ _ _ _ _ (ps_for PassesOwn.never rfl (pi_range1 (by rfl) B.range (pa_Call (pe_callB (call_lenK (K := K) rfl) (by rfl) B.len (by decide +kernel) (pa_Name (pv 1) pa_nil)) pa_nil)) (pg_nz 5 sc__law_ways_good.nd) (pss_one (ps_for PassesOwn.never rfl (pi_enumK (K := K) rfl (by rfl) B.enumerate (pa_Call (pe_dz D__law_leads hr (pa_Name (pv 1) (pa_Name (pv 2) (pa_Name (pv 5) pa_nil)))) pa_nil)) (pg_pairK (K := K) rfl rfl (pg_nz 6 sc__law_ways_good.nd) (pg_nz 7 sc__law_ways_good.nd)) (pss_one (ps_if (pw_or (pt_cmpR op_eq (pe_callB (call_lenK (K := K) rfl) (by rfl) B.len (by decide +kernel) (pa_Name (pv 4) pa_nil)) pe_int (nomark _)) (pw_or1 (pt_not (pt_val (pe_dz D__law_way_good hr (pa_Call (pe_bm0 PySem.F.plainAttrs_list PySem.F.slot_list_pop PySem.F.type_list_pop mt_pop (pv 4)) (pa_Name (pv 1) (pa_Name (pv 5) (pa_Name (pv 7) (pa_Name (pv 6) (pa_Name (pv 3) pa_nil))))))))))).pt (pss_one (ps_ret pe_bl)) pss_nil)))))
  (pss_one (ps_ret (pe_cmpR op_eq (pe_callB (call_lenK (K := K) rfl) (by rfl) B.len (by decide +kernel) (pa_Name (pv 4) pa_nil)) pe_int (nomark _)))))))), ?_⟩
 have lr : rv.length = Rs.length := paired_len hR
 have lw := paired_len hW
 have la := allW_len Rs s1.f Rs.length
 obtain ⟨Bk, ewt⟩ := runB_ok _ rfl run
 have lf1 : s1.f.length = Rs.length := by rw [Bk.len, ewt, List.length_map]
 refine seq_step fun U hU => ?_
 refine ⟨_, rfl, true, isT_lst eto, true, rfl, ?_⟩
 refine iteF ?_
 show U _ _
 subst hU
 refine seq_step fun U hU => ?_
 refine ⟨_, rfl, to, _, rfl, .inl (SqL.of eto), fun lf hlf => ?_⟩
 show U _ _
 subst hU
 have s1' := same_new hlf (.lst ys)
 have elf : upd H lf (.lst ys) lf = some (.lst ys) := upd_same
 generalize upd H lf (.lst ys) = H1 at *
 refine seq_step fun U hU => ?_
 refine ⟨_, rfl, .inl ⟨rfl, _, SqL.of elf⟩, lf, _, rfl, rfl, elf, ?_⟩
 show U _ _
 subst hU
 have s2 := same_over (o := .lst ys.reverse) hlf s1'
 have elf2 : upd H1 lf (.lst ys.reverse) lf = some (.lst (ys.drop (allW Rs s1.f 0).length).reverse) := upd_same
 generalize upd H1 lf (.lst ys.reverse) = H2 at *
 refine seq_step fun U hU => ?_
 refine ⟨_, rfl, r, _, rfl, .inl (SqL.of (s2 _ _ er)), (rv.length : Int), rfl, by omega, by omega, for_range (lo := 0) (n := (rv.length : Int).toNat) (fun i σ H' => ∃ x y z, σ = [some (.ref to), some (.ref r), some (.ref fo), some (.ref tr), some (.ref lf), x, y, z] /\ Same H H' /\ H' lf = some (.lst (ys.drop (allW Rs s1.f i).length).reverse)) ⟨none, none, none, rfl, s2, elf2⟩ ?_ ?_⟩
 · rintro i σ H3 hi0 ⟨x, y, z, rfl, sm3, elf3⟩
   have hi : i < Rs.length := by omega
   rw [Int.zero_add]
   have eRi : Rs[i]? = some Rs[i] := List.getElem?_eq_getElem hi
   have efi : s1.f[i]? = some (s1.f[i]'(by omega)) := List.getElem?_eq_getElem _
   have gR : Rs.getD i (.bare sEn) = Rs[i] := by simp [List.getD, eRi]
   have gf : s1.f.getD i none = s1.f[i]'(by omega) := by simp [List.getD, efi]
   have hb : BlP (Rs.map Rw.word) Rs[i].word (s1.f[i]'(by omega)) := fun hw => by
    obtain ⟨z, ez, hz⟩ := partner run ho (i := i) (w := Rs[i].word) (by rw [List.getElem?_map, eRi]; rfl) hw
    rw [efi] at ez
    exact ⟨z, Option.some.inj ez, hz⟩
   have hget := fun (t a : Nat) => allW_get Rs s1.f (k := Rs.length) (t := t) (a := a) hi
   have hsuc := allW_succ Rs s1.f i
   rw [gR, gf] at hget hsuc
   have hL2 := lead_len (Rs.map Rw.word) Rs[i].word ((s1.f[i]'(by omega)).getD 0) i
   refine ⟨_, rfl, _, rfl, _, rfl, r, fo, rv, Rs, s1.f, i, Rs[i].word, s1.f[i]'(by omega), rfl, sm3 _ _ er, rw_keep (TKeep.of sm3) hR, sm3 _ _ ef, by rw [List.getElem?_map, eRi]; rfl, efi, hb, fun lp H4 sm4 hlp elp => ?_⟩
   have nlp : lp ≠ lf := Ne.symm (ne_of_none elf3 hlp)
   have hlpH : H lp = none := sm3.free hlp
   generalize leadW (Rs.map Rw.word) Rs[i].word ((s1.f[i]'(by omega)).getD 0) i = L at *
   have elf4 := sm4 _ _ elf3
   refine ⟨lp, rfl, ⟨_, SqL.of elp⟩, for_enum (K := K) (a := lp) (xs := nV L) (fun t σ H' => ∃ y z, σ = [some (.ref to), some (.ref r), some (.ref fo), some (.ref tr), some (.ref lf), some (.int (i : Nat)), y, z] /\ Same H H' /\ H' lp = some (.lst (nV L)) /\ H' lf = some (.lst (ys.drop ((allW Rs s1.f i).length + t)).reverse)) ⟨y, z, rfl, sm3.trans sm4, elp, elf4⟩ (fun t σ H' _ ⟨_, _, _, _, e, _⟩ => SqL.of e) ?_ ?_⟩
   · rintro t v σ H5 H6 hv ⟨y, z, rfl, sm5, elp5, elf5⟩ sm6
     have s6 := sm5.trans sm6
     have ht : t < L.length := by have := (List.getElem?_eq_some_iff.mp hv).1; simpa [nV] using this
     have eLt : L[t]? = some L[t] := List.getElem?_eq_getElem ht
     have evt : v = .int (L[t] : Nat) := by
      have : (nV L)[t]? = some (.int (L[t] : Nat)) := by unfold nV; rw [List.getElem?_map, eLt]; rfl
      rw [this] at hv
      exact (Option.some.inj hv).symm
     subst evt
     obtain ⟨yv, eyv, hyv⟩ := paired_get hW (hget t L[t] eLt)
     obtain ⟨wp, d, rfl, hwp, hd⟩ := hyv
     have elf6 := sm6 _ _ elf5
     rw [drop_rev eyv] at elf6
     generalize (ys.drop ((allW Rs s1.f i).length + t + 1)).reverse = A at *
     refine ⟨_, rfl, lf, _, rfl, .inl (SqL.of elf6), rfl, _, rfl, ?_⟩
     rw [decide_eq_false (show ¬ V.int ((A ++ [V.ref wp]).length : Nat) = V.int 0 from fun e => (by have := V.int.inj e; simp at this; omega))]
     refine iteF ?_
     refine ⟨_, rfl, .inl ⟨rfl, _, SqL.of elf6⟩, lf, _, _, rfl, rfl, elf6, (by simp : (A ++ [V.ref wp])[(A ++ [V.ref wp]).length - 1]? = some (.ref wp)), ?_⟩
     rw [List.dropLast_concat]
     have s7 := same_over (o := .lst A) hlf s6
     have elf7 : upd H6 lf (.lst A) lf = some (.lst A) := upd_same
     have elp7 : upd H6 lf (.lst A) lp = some (.lst (nV L)) := by rw [upd_ne nlp]; exact sm6 _ _ elp5
     generalize upd H6 lf (.lst A) = H7 at *
     refine ⟨_, rfl, _, rfl, _, rfl, _, rfl, _, rfl, wp, r, tr, d, rv, tv, Rs, tts, n, i, L[t], t, Rs[i], rfl, s7 _ _ hwp, hd.same s7, s7 _ _ er, rw_keep (TKeep.of s7) hR, eRi, hall _ (List.getElem_mem hi), n6, s7 _ _ etr, Paired.mapP hT fun _ _ z => z.same s7, hlen, fun H8 sm8 => ?_⟩
     refine ⟨true, rfl, ?_⟩
     refine iteF ?_
     exact ⟨_, _, rfl, s7.trans sm8, sm8 _ _ elp7, sm8 _ _ elf7⟩
   · rintro σ H5 ⟨y, z, rfl, sm5, elp5, elf5⟩
     have lL : (nV L).length = L.length := List.length_map _
     rw [lL, ← hsuc] at elf5
     exact ⟨_, _, _, rfl, sm5, elf5⟩
 · rintro σ H3 ⟨x, y, z, rfl, sm3, elf3⟩
   show U _ _
   subst hU
   have e1 : (rv.length : Int).toNat = Rs.length := by omega
   rw [e1, List.drop_eq_nil_of_le (by omega)] at elf3
   refine ⟨_, rfl, lf, _, rfl, .inl (SqL.of elf3), rfl, ?_⟩
   rw [decide_eq_true (show V.int (([] : List V).reverse.length : Nat) = V.int 0 from rfl)]
   exact q H3 sm3
omit T in
theorem sc_law : FnScope ["_law_script", "_law_count", "_law_point_here", "_law_size", "_law_rows", "_law_found", "_law_tries", "_law_k", "_law_handed", "_law_told"] ["_law_script"] (defScope s_law) := ⟨rfl, rfl, rfl, by decide +kernel, rfl, by decide +kernel, by decide +kernel⟩
theorem ok_law_fn {f : Addr} {fd : FuncData} (F : Fun K "law" "law" s_law f fd) (m : mg "law" = some (.ref f)) (B : Bl mg) (D__law_point : Def P w K mg base CX0 "_law_point" 2 ["_law_script", "_law_at", "_law_count"] (sp__law_point K)) (D__law_program : Def P w K mg base CX0 "_law_program" 3 ["_law_script", "_law_size", "_law_point_here"] (sp__law_program K)) (D_ways : Def P w K mg base CX0 "ways" 5 ["rows"] (sp_ways K Z_Go Z_Keep Z_Put Z_Ask)) (D__law_cell : Def P w K mg base CX0 "_law_cell" 1 ["_law_script", "_law_k"] (sp__law_cell K)) (D__law_big : Def P w K mg base CX0 "_law_big" 1 ["_law_cell_here"] (sp__law_big K)) (D__law_ways_good : Def P w K mg base CX0 "_law_ways_good" 6 ["_law_told", "_law_rows", "_law_found", "_law_tries"] (sp__law_ways_good K Z_Go Z_Keep Z_Put Z_Ask)) : FnOk P w K mg base CX0 7 f fd ["_law_script"] (sp_law K) := by
 refine F.ok sc_law (fun vs H Q E h => ?_) (fun cdv A outer s H vs Q E hr h => ?_)
 · obtain ⟨a, ns, rfl, _⟩ := h
   rfl
 obtain ⟨a, ns, rfl, hS, hlen, q⟩ := h
 have D__law_cell := D__law_cell.imp (cellAt_of (a := a) (ns := ns))
 refine ⟨_, (@pss_cons _ _ _ _ _ (ps_sz 1 sc_law.nd (pe_op op_add pe_int (pe_op op_mod (pe_dz D__law_cell hr (pa_Name (pv 0) (pa_Constant pe_int pa_nil))) pe_int)))
  (@pss_cons _ _ _ _ _ (ps_sz 2 sc_law.nd (pe_dz D__law_point hr (pa_Name (pv 0) (pa_Constant pe_int (pa_Name (pv 1) pa_nil)))))
  (@pss_cons _ _ _ _ _ (ps_sz 3 sc_law.nd (pe_op op_mod (pe_op op_fdiv (pe_dz D__law_cell hr (pa_Name (pv 0) (pa_Constant pe_int pa_nil))) pe_int) pe_int))
  (@pss_cons _ _ _ _ _ (ps_if (pt_cmpR op_eq (pe_op op_mod (pe_dz D__law_cell hr (pa_Name (pv 0) (pa_Constant pe_int pa_nil))) pe_int) pe_int (nomark _)) (pss_one (ps_sz 3 sc_law.nd (pe_op op_mod (pe_op op_fdiv (pe_dz D__law_cell hr (pa_Name (pv 0) (pa_Constant pe_int pa_nil))) pe_int) pe_int))) pss_nil)
  (@pss_cons _ _ _ _ _ (ps_asg (pe_dz D__law_program hr (pa_Name (pv 0) (pa_Name (pv 3) (pa_Name (pv 2) pa_nil)))) (pg_pairK (K := K) rfl rfl (pg_nz 4 sc_law.nd) (pg_nz 5 sc_law.nd)))
  (@pss_cons _ _ _ _ _ (ps_sz 6 sc_law.nd (pe_lst (pa_Tuple (pe_tup (pa_Name (pv 2) (pa_Call (pe_dz D__law_big hr (pa_Call (pe_dz D__law_cell hr (pa_Name (pv 0) (pa_Constant pe_int pa_nil))) pa_nil)) pa_nil))) (pa_Tuple (pe_tup (pa_Call (pe_callTy (call_tuple_ofK (K := K) rfl) (by rfl) B.tuple (by decide +kernel) (pa_cons (pe_comp1 (CompScope1.of (M := ["_law_script", "_law_count", "_law_point_here", "_law_size", "_law_rows", "_law_found", "_law_tries", "?_law_k", "_law_handed", "_law_told"]) (by decide +kernel) (by rfl)) rfl (pi_range1 (by rfl) B.range (pa_Name (pv 1) pa_nil)) (fun _ _ _ => pe_int)) pa_nil)) (pa_Constant pe_int pa_nil))) pa_nil))))
  (@pss_cons _ _ _ _ _ (ps_expr (pe_bm PySem.F.plainAttrs_list PySem.F.slot_list_append PySem.F.type_list_append mt_append (pv 6) (pa_Tuple (pe_tup (pa_Call (pe_dz D__law_point hr (pa_Name (pv 0) (pa_Constant pe_int (pa_Name (pv 1) pa_nil)))) (pa_Call (pe_dz D__law_big hr (pa_Call (pe_dz D__law_cell hr (pa_Name (pv 0) (pa_Constant pe_int pa_nil))) pa_nil)) pa_nil))) pa_nil)))
  (@pss_cons _ _ _ _ _ (ps_for PassesOwn.never rfl (pi_range1 (by rfl) B.range (pa_Constant pe_int pa_nil)) (pg_nz 7 sc_law.nd) (@pss_cons _ _ _ _ _ (ps_sz 8 sc_law.nd (pe_callTy (call_list_ofK (K := K) rfl) (by rfl) B.list (by decide +kernel) (pa_Name (pv 4) pa_nil)))
  (@pss_cons _ _ _ _ _ (ps_sz 9 sc_law.nd (pe_dz D_ways hr (pa_Name (pv 8) pa_nil)))
  (@pss_cons _ _ _ _ _ (ps_if (pw_or (pt_not (pt_val (pe_dz D__law_ways_good hr (pa_Name (pv 9) (pa_Name (pv 4) (pa_Name (pv 5) (pa_Name (pv 6) pa_nil))))))) (pw_or1 (pt_cmpR (op_neDK (K := K) hr rfl) (pv 8) (pv 4) (nomark _)))).pt (pss_one (ps_ret pe_bl)) pss_nil)
  (pss_one (ps_expr (pe_bm PySem.F.plainAttrs_list PySem.F.slot_list_append PySem.F.type_list_append mt_append (pv 9) (pa_Subscript (pe_slice (sl_listK (K := K) rfl) (pv 9) po_none (po_some pe_int)) pa_nil))))))))
  (pss_one (ps_ret pe_bl)))))))))), ?_⟩
 refine seq_step fun U hU => ?_
 refine ⟨_, rfl, (0 : Int), rfl, by decide, hS, _, _, rfl, rfl, (by show (0 : Int) < 4; decide), _, _, rfl, rfl, ?_⟩
 show U _ _
 dsimp only
 subst hU
 have d1 := Int.emod_nonneg (cellI ns 0) (b := 4) (by decide)
 have d2 := Int.emod_lt_of_pos (cellI ns 0) (b := 4) (by decide)
 obtain ⟨n, en⟩ : ∃ n : Nat, 1 + cellI ns 0 % 4 = (n : Int) := ⟨(1 + cellI ns 0 % 4).toNat, by omega⟩
 rw [en]
 have n1 : 1 <= n := by omega
 have n4 : n <= 4 := by omega
 clear d1 d2 en
 refine seq_step fun U hU => ?_
 refine ⟨_, rfl, _, rfl, a, ns, 2, n, rfl, hS, by decide, by omega, fun pt H1 hpt sm1 e1 => ?_⟩
 obtain ⟨xs, ex, xl⟩ := pt_of ns 2 n
 rw [ex] at e1
 have hS1 := sm1.seq hS
 show U _ _
 subst hU
 refine seq_step fun U hU => ?_
 refine ⟨_, rfl, (1 : Int), rfl, by decide, hS1, _, _, rfl, rfl, ⟨by decide, by decide⟩, _, _, rfl, rfl, (by show (0 : Int) < 13; decide), ?_⟩
 show U _ _
 dsimp only
 have a1 := Int.emod_nonneg (cellI ns 1 / 3) (b := 61) (by decide)
 have a2 := Int.emod_lt_of_pos (cellI ns 1 / 3) (b := 61) (by decide)
 have b1 := Int.emod_nonneg (cellI ns 1 / 3) (b := 13) (by decide)
 have b2 := Int.emod_lt_of_pos (cellI ns 1 / 3) (b := 13) (by decide)
 obtain ⟨z1, ez1, hz1⟩ : ∃ z : Nat, cellI ns 1 / 3 % 13 = (z : Int) /\ z <= 60 := ⟨(cellI ns 1 / 3 % 13).toNat, by omega, by omega⟩
 obtain ⟨z2, ez2, hz2⟩ : ∃ z : Nat, cellI ns 1 / 3 % 61 = (z : Int) /\ z <= 60 := ⟨(cellI ns 1 / 3 % 61).toNat, by omega, by omega⟩
 clear a1 a2 b1 b2
 rw [ez1]
 subst hU
 refine seq_step fun U hU => ?_
 have key : ∀ z : Nat, z <= 60 -> U [some (.ref a), some (.int n), some (.ref pt), some (.int z), none, none, none, none, none, none] H1 := by
  intro z hz
  subst hU
  refine seq_step fun U hU => ?_
  refine ⟨_, rfl, _, rfl, _, rfl, a, pt, ns, xs, z, n, rfl, hS1, hz, e1, xl, n1, by omega, fun p r fo H2 rv Rs s sm2 ep er hR hall ef run ho l60 => ?_⟩
  refine ⟨p, _, rfl, SqT.of ep, rfl, _, _, rfl, _, _, rfl, rfl, ?_⟩
  show U _ _
  subst hU
  have s12 := sm2
  have hS2 := sm2.seq hS1
  have e2 := sm2 _ _ e1
  refine seq_step fun U hU => ?_
  refine ⟨_, rfl, _, rfl, (6 : Int), rfl, by decide, hS2, _, rfl, sz 2, fun t1 ht1 => ?_⟩
  have s3 := same_new ht1 (.tup [.ref pt, .int (bigI (cellI ns 6))])
  have et1 : upd H2 t1 (.tup [.ref pt, .int (bigI (cellI ns 6))]) t1 = some (.tup [.ref pt, .int (bigI (cellI ns 6))]) := upd_same
  generalize upd H2 t1 (.tup [.ref pt, .int (bigI (cellI ns 6))]) = H3 at *
  refine ⟨_, rfl, (n : Int), rfl, by omega, by omega, fun c hc => comp_range1 (lo := 0) (n := (n : Int).toNat) (fun i ws H' => ws = (List.replicate i (0 : Int)).map V.int /\ H' c = some (.lst ws) /\ Same H3 H') ⟨rfl, upd_same, same_new hc _⟩ ?_ ?_⟩
  · rintro i ws H' hi ⟨rfl, hc', sm⟩
    exact ⟨hc', by rw [List.length_map, List.length_replicate]; exact small1000 (by omega), again hi ⟨by rw [List.replicate_succ']; simp, upd_same, same_over hc sm⟩⟩
  rintro ws H4 ⟨rfl, hc', sm4⟩
  rw [Int.toNat_natCast] at hc'
  refine ⟨c, _, rfl, .inl ⟨SqL.of hc', fun q0 hq0 => ?_⟩⟩
  have s5 := sm4.trans (same_new hq0 (.tup ((List.replicate n (0 : Int)).map V.int)))
  have eq0 : upd H4 q0 (.tup ((List.replicate n (0 : Int)).map V.int)) q0 = some (.tup ((List.replicate n (0 : Int)).map V.int)) := upd_same
  generalize upd H4 q0 (.tup ((List.replicate n (0 : Int)).map V.int)) = H5 at *
  refine ⟨sz 2, fun t2 ht2 => ?_⟩
  have s6 := same_new ht2 (.tup [.ref q0, .int 0])
  have et2 : upd H5 t2 (.tup [.ref q0, .int 0]) t2 = some (.tup [.ref q0, .int 0]) := upd_same
  generalize upd H5 t2 (.tup [.ref q0, .int 0]) = H6 at *
  refine ⟨sz 2, fun tr htr => ?_⟩
  show U _ _
  subst hU
  have s7 := same_new htr (.lst [.ref t1, .ref t2])
  have etr : upd H6 tr (.lst [.ref t1, .ref t2]) tr = some (.lst [.ref t1, .ref t2]) := upd_same
  generalize upd H6 tr (.lst [.ref t1, .ref t2]) = H7 at *
  have s37 := (s5.trans s6).trans s7
  have s27 := s3.trans s37
  have htr2 : H2 tr = none := (s3.trans (s5.trans s6)).free htr
  have hS7 := s27.seq hS2
  refine seq_step fun U hU => ?_
  refine ⟨_, rfl, .inl ⟨rfl, _, SqL.of etr⟩, _, rfl, _, rfl, a, ns, 11, n, rfl, hS7, by decide, by omega, fun p3 H8 hp3 sm8 e8 => ?_⟩
  obtain ⟨xs3, ex3, xl3⟩ := pt_of ns 11 n
  rw [ex3] at e8
  refine ⟨_, rfl, (7 : Int), rfl, by decide, sm8.seq hS7, _, rfl, sz 2, fun t3 ht3 => ?_⟩
  have s9 := same_new ht3 (.tup [.ref p3, .int (bigI (cellI ns 7))])
  have et3 : upd H8 t3 (.tup [.ref p3, .int (bigI (cellI ns 7))]) t3 = some (.tup [.ref p3, .int (bigI (cellI ns 7))]) := upd_same
  have e9 := s9 _ _ e8
  generalize upd H8 t3 (.tup [.ref p3, .int (bigI (cellI ns 7))]) = H9 at *
  have s79 := sm8.trans s9
  refine ⟨tr, _, _, rfl, rfl, s79 _ _ etr, small1000 (by simp), ?_⟩
  show U _ _
  subst hU
  have k10 : TKeep H9 (upd H9 tr (.lst ([.ref t1, .ref t2] ++ [.ref t3]))) := TKeep.put (s79 _ _ etr)
  have sA : Same H2 (upd H9 tr (.lst ([.ref t1, .ref t2] ++ [.ref t3]))) := same_over htr2 (s27.trans s79)
  have etrA : upd H9 tr (.lst ([.ref t1, .ref t2] ++ [.ref t3])) tr = some (.lst [.ref t1, .ref t2, .ref t3]) := upd_same
  have hTA : Paired (TryAt (upd H9 tr (.lst ([.ref t1, .ref t2] ++ [.ref t3])))) [.ref t1, .ref t2, .ref t3] [(xs, bigI (cellI ns 6)), (List.replicate n 0, 0), (xs3, bigI (cellI ns 7))] :=
   .cons ⟨t1, pt, rfl, k10 _ _ ((s37.trans s79) _ _ et1), k10 _ _ ((s27.trans s79) _ _ e2)⟩ (.cons ⟨t2, q0, rfl, k10 _ _ ((s7.trans s79) _ _ et2), k10 _ _ (((s6.trans s7).trans s79) _ _ eq0)⟩ (.cons ⟨t3, p3, rfl, k10 _ _ et3, k10 _ _ e9⟩ .nil))
  have hlenA : ∀ y ∈ [(xs, bigI (cellI ns 6)), (List.replicate n 0, 0), (xs3, bigI (cellI ns 7))], y.1.length = n := by
   intro y hy
   have : y = (xs, bigI (cellI ns 6)) \/ y = (List.replicate n 0, 0) \/ y = (xs3, bigI (cellI ns 7)) := by simpa using hy
   rcases this with e | e | e <;> rw [e]
   · exact xl
   · exact List.length_replicate
   · exact xl3
  generalize upd H9 tr (.lst ([.ref t1, .ref t2] ++ [.ref t3])) = HA at *
  generalize [(xs, bigI (cellI ns 6)), (List.replicate n 0, 0), (xs3, bigI (cellI ns 7))] = tts at *
  have erA := sA _ _ er
  have hRA := rw_keep (TKeep.of sA) hR
  have efA := sA _ _ ef
  refine seq_step fun U hU => ?_
  refine ⟨(2 : Int), rfl, by decide, by decide, for_range (lo := 0) (n := (2 : Int).toNat) (fun i σ H' => ∃ x y w, σ = [some (.ref a), some (.int n), some (.ref pt), some (.int z), some (.ref r), some (.ref fo), some (.ref tr), x, y, w] /\ Same HA H') ⟨none, none, none, rfl, Same.refl _⟩ ?_ ?_⟩
  · rintro i σ HB hi ⟨x, y, w, rfl, smB⟩
    have hRB := rw_keep (TKeep.of smB) hRA
    refine seq_step fun U hU => ?_
    refine ⟨_, rfl, r, _, rfl, .inl (SqL.of (smB _ _ erA)), fun hd hhd => ?_⟩
    show U _ _
    subst hU
    have sC := same_new hhd (.lst rv)
    have ehd : upd HB hd (.lst rv) hd = some (.lst rv) := upd_same
    generalize upd HB hd (.lst rv) = HC at *
    have sAC := smB.trans sC
    refine seq_step fun U hU => ?_
    refine ⟨_, rfl, hd, rv, Rs, n, s, rfl, ehd, rw_keep (TKeep.of sC) hRB, hall, run, ho, by omega, fun to ys HD smD hto eto hW => ?_⟩
    show U _ _
    subst hU
    have sAD := sAC.trans smD
    have htoA : HA to = none := sAC.free hto
    have lys := paired_len hW
    have lal := allW_len Rs s.f Rs.length
    refine seq_step fun U hU => ?_
    refine ⟨_, rfl, _, rfl, _, rfl, _, rfl, to, r, fo, tr, ys, rv, _, Rs, tts, n, s, rfl, eto, hW, sAD _ _ erA, rw_keep (TKeep.of sAD) hRA, hall, sAD _ _ efA, run, ho, l60, by omega, sAD _ _ etrA, Paired.mapP hTA fun _ _ z => z.same sAD, hlenA, fun HE smE => ?_⟩
    refine ⟨true, rfl, ?_⟩
    refine iteF ?_
    have sAE := sAD.trans smE
    have hRow := rows_of (rw_keep (TKeep.of sAE) hRA) hall
    refine ⟨_, rfl, _, rfl, _, _, dt_rowsL ((smD.trans smE) _ _ ehd) hRow, dt_rowsL (sAE _ _ erA) hRow, depth_rowsL hRow, ?_⟩
    rw [SeqAt.eqv_refl _ (Dt.lay (dt_rowsL (K := K) (sAE _ _ erA) hRow))]
    refine ⟨_, rfl, ?_⟩
    refine iteF ?_
    show U _ _
    subst hU
    have eto2 := smE _ _ eto
    refine ⟨_, rfl, .inl ⟨rfl, _, SqL.of eto2⟩, _, rfl, (1 : Int), rfl, to, _, rfl, SqL.of eto2, fun cu hcu => ?_⟩
    have sF := same_new hcu (.lst (cutV ys none (some 1)))
    refine ⟨to, _, _, rfl, rfl, sF _ _ eto2, small1000 (by omega), ?_⟩
    exact ⟨_, _, _, rfl, same_over htoA (sAE.trans sF)⟩
  · rintro σ HB ⟨x, y, w, rfl, smB⟩
    show U _ _
    subst hU
    exact q _
 refine ⟨_, rfl, (1 : Int), rfl, by decide, hS1, _, _, rfl, rfl, (by show (0 : Int) < 3; decide), rfl, _, rfl, ?_⟩
 refine ite2 (fun h => ?_) (fun h => ?_)
 · refine ⟨_, rfl, (1 : Int), rfl, by decide, hS1, _, _, rfl, rfl, ⟨by decide, by decide⟩, _, _, rfl, rfl, (by show (0 : Int) < 61; decide), ?_⟩
   dsimp only
   rw [ez2]
   exact key z2 hz2
 · exact key z1 hz1
end
set_option autoImplicit true in
set_option relaxedAutoImplicit true in
theorem all_mk {l : PySem.W.OpenLaw} {w : World} {K : PySem.W.Frag} {h : Heap} {mg : Str -> Option Value} {fa : Addr} (X : K.In h) (G : h.Ns mainGlobals mg) (hfa : mg "law" = some (.ref fa))
  (a_Deed : Ha K "Deed" Z_Deed)
  (a_Go : Ha K "Go" Z_Go)
  (a_Keep : Ha K "Keep" Z_Keep)
  (a_Put : Ha K "Put" Z_Put)
  (a_Ask : Ha K "Ask" Z_Ask)
  (a0 : Ha K "partners" f0) (l0 : Hl K f0 "partners" "partners" s_partners oc0 od0 kV0 dc0 pm0 an0 cd0 ct0 sl0) (c0 : Hc K cd0 "partners") (k0 : Hk K f0)
  (a1 : Ha K "may_have_else" f1) (l1 : Hl K f1 "may_have_else" "may_have_else" s_may_have_else oc1 od1 kV1 dc1 pm1 an1 cd1 ct1 sl1) (c1 : Hc K cd1 "may_have_else") (k1 : Hk K f1)
  (a2 : Ha K "close" f2) (l2 : Hl K f2 "close" "close" s_close oc2 od2 kV2 dc2 pm2 an2 cd2 ct2 sl2) (c2 : Hc K cd2 "close") (k2 : Hk K f2)
  (a3 : Ha K "below" f3) (l3 : Hl K f3 "below" "below" s_below oc3 od3 kV3 dc3 pm3 an3 cd3 ct3 sl3) (c3 : Hc K cd3 "below") (k3 : Hk K f3)
  (a4 : Ha K "worth" f4) (l4 : Hl K f4 "worth" "worth" s_worth oc4 od4 kV4 dc4 pm4 an4 cd4 ct4 sl4) (c4 : Hc K cd4 "worth") (k4 : Hk K f4)
  (a5 : Ha K "total" f5) (l5 : Hl K f5 "total" "total" s_total oc5 od5 kV5 dc5 pm5 an5 cd5 ct5 sl5) (c5 : Hc K cd5 "total") (k5 : Hk K f5)
  (a6 : Ha K "with_number" f6) (l6 : Hl K f6 "with_number" "with_number" s_with_number oc6 od6 kV6 dc6 pm6 an6 cd6 ct6 sl6) (c6 : Hc K cd6 "with_number") (k6 : Hk K f6)
  (a7 : Ha K "amount_at" f7) (l7 : Hl K f7 "amount_at" "amount_at" s_amount_at oc7 od7 kV7 dc7 pm7 an7 cd7 ct7 sl7) (c7 : Hc K cd7 "amount_at") (k7 : Hk K f7)
  (a8 : Ha K "amount_forms" f8) (l8 : Hl K f8 "amount_forms" "amount_forms" s_amount_forms oc8 od8 kV8 dc8 pm8 an8 cd8 ct8 sl8) (c8 : Hc K cd8 "amount_forms") (k8 : Hk K f8)
  (a9 : Ha K "holds" f9) (l9 : Hl K f9 "holds" "holds" s_holds oc9 od9 kV9 dc9 pm9 an9 cd9 ct9 sl9) (c9 : Hc K cd9 "holds") (k9 : Hk K f9)
  (a10 : Ha K "sum_forms" f10) (l10 : Hl K f10 "sum_forms" "sum_forms" s_sum_forms oc10 od10 kV10 dc10 pm10 an10 cd10 ct10 sl10) (c10 : Hc K cd10 "sum_forms") (k10 : Hk K f10)
  (a11 : Ha K "turned" f11) (l11 : Hl K f11 "turned" "turned" s_turned oc11 od11 kV11 dc11 pm11 an11 cd11 ct11 sl11) (c11 : Hc K cd11 "turned") (k11 : Hk K f11)
  (a12 : Hm K Z_Deed "asks" f12) (i12 : Hi K f12) (l12 : Hl K f12 "asks" "Deed.asks" s_Deed_asks oc12 od12 kV12 dc12 pm12 an12 cd12 ct12 sl12) (c12 : Hc K cd12 "Deed.asks") (k12 : Hk K f12)
  (a13 : Hm K Z_Go "done" f13) (i13 : Hi K f13) (l13 : Hl K f13 "done" "Go.done" s_Go_done oc13 od13 kV13 dc13 pm13 an13 cd13 ct13 sl13) (c13 : Hc K cd13 "Go.done") (k13 : Hk K f13)
  (a14 : Hm K Z_Keep "__init__" f14) (i14 : Hi K f14) (l14 : Hl K f14 "__init__" "Keep.__init__" s_Keep_init oc14 od14 kV14 dc14 pm14 an14 cd14 ct14 sl14) (c14 : Hc K cd14 "Keep.__init__") (k14 : Hk K f14)
  (a15 : Hm K Z_Keep "done" f15) (i15 : Hi K f15) (l15 : Hl K f15 "done" "Keep.done" s_Keep_done oc15 od15 kV15 dc15 pm15 an15 cd15 ct15 sl15) (c15 : Hc K cd15 "Keep.done") (k15 : Hk K f15)
  (a16 : Hm K Z_Put "__init__" f16) (i16 : Hi K f16) (l16 : Hl K f16 "__init__" "Put.__init__" s_Put_init oc16 od16 kV16 dc16 pm16 an16 cd16 ct16 sl16) (c16 : Hc K cd16 "Put.__init__") (k16 : Hk K f16)
  (a17 : Hm K Z_Put "done" f17) (i17 : Hi K f17) (l17 : Hl K f17 "done" "Put.done" s_Put_done oc17 od17 kV17 dc17 pm17 an17 cd17 ct17 sl17) (c17 : Hc K cd17 "Put.done") (k17 : Hk K f17)
  (a18 : Hm K Z_Ask "__init__" f18) (i18 : Hi K f18) (l18 : Hl K f18 "__init__" "Ask.__init__" s_Ask_init oc18 od18 kV18 dc18 pm18 an18 cd18 ct18 sl18) (c18 : Hc K cd18 "Ask.__init__") (k18 : Hk K f18)
  (a19 : Hm K Z_Ask "asks" f19) (i19 : Hi K f19) (l19 : Hl K f19 "asks" "Ask.asks" s_Ask_asks oc19 od19 kV19 dc19 pm19 an19 cd19 ct19 sl19) (c19 : Hc K cd19 "Ask.asks") (k19 : Hk K f19)
  (a20 : Hm K Z_Ask "done" f20) (i20 : Hi K f20) (l20 : Hl K f20 "done" "Ask.done" s_Ask_done oc20 od20 kV20 dc20 pm20 an20 cd20 ct20 sl20) (c20 : Hc K cd20 "Ask.done") (k20 : Hk K f20)
  (a21 : Hm K Z_Ask "between_ends" f21) (i21 : Hi K f21) (l21 : Hl K f21 "between_ends" "Ask.between_ends" s_Ask_between_ends oc21 od21 kV21 dc21 pm21 an21 cd21 ct21 sl21) (c21 : Hc K cd21 "Ask.between_ends") (k21 : Hk K f21)
  (a22 : Ha K "ways" f22) (l22 : Hl K f22 "ways" "ways" s_ways oc22 od22 kV22 dc22 pm22 an22 cd22 ct22 sl22) (c22 : Hc K cd22 "ways") (k22 : Hk K f22)
  (a23 : Ha K "ways_from" f23) (l23 : Hl K f23 "ways_from" "ways_from" s_ways_from oc23 od23 kV23 dc23 pm23 an23 cd23 ct23 sl23) (c23 : Hc K cd23 "ways_from") (k23 : Hk K f23)
  (a24 : Ha K "parted_ways" f24) (l24 : Hl K f24 "parted_ways" "parted_ways" s_parted_ways oc24 od24 kV24 dc24 pm24 an24 cd24 ct24 sl24) (c24 : Hc K cd24 "parted_ways") (k24 : Hk K f24)
  (a25 : Ha K "row_if_not" f25) (l25 : Hl K f25 "row_if_not" "row_if_not" s_row_if_not oc25 od25 kV25 dc25 pm25 an25 cd25 ct25 sl25) (c25 : Hc K cd25 "row_if_not") (k25 : Hk K f25)
  (a26 : Ha K "onward_deed" f26) (l26 : Hl K f26 "onward_deed" "onward_deed" s_onward_deed oc26 od26 kV26 dc26 pm26 an26 cd26 ct26 sl26) (c26 : Hc K cd26 "onward_deed") (k26 : Hk K f26)
  (a27 : Ha K "_law_cell" f27) (l27 : Hl K f27 "_law_cell" "_law_cell" s__law_cell oc27 od27 kV27 dc27 pm27 an27 cd27 ct27 sl27) (c27 : Hc K cd27 "_law_cell") (k27 : Hk K f27)
  (a28 : Ha K "_law_spread" f28) (l28 : Hl K f28 "_law_spread" "_law_spread" s__law_spread oc28 od28 kV28 dc28 pm28 an28 cd28 ct28 sl28) (c28 : Hc K cd28 "_law_spread") (k28 : Hk K f28)
  (a29 : Ha K "_law_whole" f29) (l29 : Hl K f29 "_law_whole" "_law_whole" s__law_whole oc29 od29 kV29 dc29 pm29 an29 cd29 ct29 sl29) (c29 : Hc K cd29 "_law_whole") (k29 : Hk K f29)
  (a30 : Ha K "_law_big" f30) (l30 : Hl K f30 "_law_big" "_law_big" s__law_big oc30 od30 kV30 dc30 pm30 an30 cd30 ct30 sl30) (c30 : Hc K cd30 "_law_big") (k30 : Hk K f30)
  (a31 : Ha K "_law_point" f31) (l31 : Hl K f31 "_law_point" "_law_point" s__law_point oc31 od31 kV31 dc31 pm31 an31 cd31 ct31 sl31) (c31 : Hc K cd31 "_law_point") (k31 : Hk K f31)
  (a32 : Ha K "_law_sum" f32) (l32 : Hl K f32 "_law_sum" "_law_sum" s__law_sum oc32 od32 kV32 dc32 pm32 an32 cd32 ct32 sl32) (c32 : Hc K cd32 "_law_sum") (k32 : Hk K f32)
  (a33 : Ha K "_law_holds" f33) (l33 : Hl K f33 "_law_holds" "_law_holds" s__law_holds oc33 od33 kV33 dc33 pm33 an33 cd33 ct33 sl33) (c33 : Hc K cd33 "_law_holds") (k33 : Hk K f33)
  (a34 : Ha K "_law_word" f34) (l34 : Hl K f34 "_law_word" "_law_word" s__law_word oc34 od34 kV34 dc34 pm34 an34 cd34 ct34 sl34) (c34 : Hc K cd34 "_law_word") (k34 : Hk K f34)
  (a35 : Ha K "_law_row" f35) (l35 : Hl K f35 "_law_row" "_law_row" s__law_row oc35 od35 kV35 dc35 pm35 an35 cd35 ct35 sl35) (c35 : Hc K cd35 "_law_row") (k35 : Hk K f35)
  (a36 : Ha K "_law_program" f36) (l36 : Hl K f36 "_law_program" "_law_program" s__law_program oc36 od36 kV36 dc36 pm36 an36 cd36 ct36 sl36) (c36 : Hc K cd36 "_law_program") (k36 : Hk K f36)
  (a37 : Ha K "_law_leads" f37) (l37 : Hl K f37 "_law_leads" "_law_leads" s__law_leads oc37 od37 kV37 dc37 pm37 an37 cd37 ct37 sl37) (c37 : Hc K cd37 "_law_leads") (k37 : Hk K f37)
  (a38 : Ha K "_law_made" f38) (l38 : Hl K f38 "_law_made" "_law_made" s__law_made oc38 od38 kV38 dc38 pm38 an38 cd38 ct38 sl38) (c38 : Hc K cd38 "_law_made") (k38 : Hk K f38)
  (a39 : Ha K "_law_point_like" f39) (l39 : Hl K f39 "_law_point_like" "_law_point_like" s__law_point_like oc39 od39 kV39 dc39 pm39 an39 cd39 ct39 sl39) (c39 : Hc K cd39 "_law_point_like") (k39 : Hk K f39)
  (a40 : Ha K "_law_kind" f40) (l40 : Hl K f40 "_law_kind" "_law_kind" s__law_kind oc40 od40 kV40 dc40 pm40 an40 cd40 ct40 sl40) (c40 : Hc K cd40 "_law_kind") (k40 : Hk K f40)
  (a41 : Ha K "_law_way_good" f41) (l41 : Hl K f41 "_law_way_good" "_law_way_good" s__law_way_good oc41 od41 kV41 dc41 pm41 an41 cd41 ct41 sl41) (c41 : Hc K cd41 "_law_way_good") (k41 : Hk K f41)
  (a42 : Ha K "_law_ways_good" f42) (l42 : Hl K f42 "_law_ways_good" "_law_ways_good" s__law_ways_good oc42 od42 kV42 dc42 pm42 an42 cd42 ct42 sl42) (c42 : Hc K cd42 "_law_ways_good") (k42 : Hk K f42)
  (a43 : Ha K "law" f43) (l43 : Hl K f43 "law" "law" s_law oc43 od43 kV43 dc43 pm43 an43 cd43 ct43 sl43) (c43 : Hc K cd43 "law") (k43 : Hk K f43)
  (pg_Go : PySem.W.plainGet K Z_Go Str.empty = true)
  (hd_Go : PySem.W.hasDictIn K Z_Go = true)
  (po_Go : PySem.W.plainOver K Z_Go = true)
  (sa_Go : PySem.W.findIn K (.ref Z_Go) "__setattr__" = some (some (.builtin "object.__setattr__")))
  (mk_Go : PySem.W.makesIn K Z_Go = true)
  (kc_Go : PySem.W.keepIn K (.ref Z_Go) = true)
  (pg_Keep : PySem.W.plainGet K Z_Keep Str.empty = true)
  (hd_Keep : PySem.W.hasDictIn K Z_Keep = true)
  (po_Keep : PySem.W.plainOver K Z_Keep = true)
  (sa_Keep : PySem.W.findIn K (.ref Z_Keep) "__setattr__" = some (some (.builtin "object.__setattr__")))
  (mk_Keep : PySem.W.makesIn K Z_Keep = true)
  (kc_Keep : PySem.W.keepIn K (.ref Z_Keep) = true)
  (pg_Put : PySem.W.plainGet K Z_Put Str.empty = true)
  (hd_Put : PySem.W.hasDictIn K Z_Put = true)
  (po_Put : PySem.W.plainOver K Z_Put = true)
  (sa_Put : PySem.W.findIn K (.ref Z_Put) "__setattr__" = some (some (.builtin "object.__setattr__")))
  (mk_Put : PySem.W.makesIn K Z_Put = true)
  (kc_Put : PySem.W.keepIn K (.ref Z_Put) = true)
  (pg_Ask : PySem.W.plainGet K Z_Ask Str.empty = true)
  (hd_Ask : PySem.W.hasDictIn K Z_Ask = true)
  (po_Ask : PySem.W.plainOver K Z_Ask = true)
  (sa_Ask : PySem.W.findIn K (.ref Z_Ask) "__setattr__" = some (some (.builtin "object.__setattr__")))
  (mk_Ask : PySem.W.makesIn K Z_Ask = true)
  (kc_Ask : PySem.W.keepIn K (.ref Z_Ask) = true)
  (io_Go : PySem.W.findIn K (.ref Z_Go) "__init__" = some (some (.builtin "object.__init__")))
  (as_Go : PySem.W.findIn K (.ref Z_Go) "asks" = some (some (.ref f12)))
  (as_Keep : PySem.W.findIn K (.ref Z_Keep) "asks" = some (some (.ref f12)))
  (as_Put : PySem.W.findIn K (.ref Z_Put) "asks" = some (some (.ref f12)))
  (nf_Keep_question : PySem.W.findIn K (.ref Z_Keep) "question" = some none)
  (nf_Put_k : PySem.W.findIn K (.ref Z_Put) "k" = some none)
  (nf_Put_amount : PySem.W.findIn K (.ref Z_Put) "amount" = some none)
  (nf_Ask_k : PySem.W.findIn K (.ref Z_Ask) "k" = some none)
  (nf_Ask_low : PySem.W.findIn K (.ref Z_Ask) "low" = some none)
  (nf_Ask_high : PySem.W.findIn K (.ref Z_Ask) "high" = some none)
  (gc_Go : PySem.W.plainGet K Z_Go "__class__" = true)
  (ca_Go : PySem.W.findIn K (.ref Z_Go) "__class__" = some (some (.builtin "object.__class__")))
  (ob_Go : PySem.W.mroIn K Z_Go (.type "object") = some true)
  (ss_Go : PySem.W.subIn K (.ref Z_Go) (.ref Z_Go) = some true)
  (sb_Go_Deed : PySem.W.subIn K (.ref Z_Go) (.ref Z_Deed) = some true)
  (sb_Go_Go : PySem.W.subIn K (.ref Z_Go) (.ref Z_Go) = some true)
  (sb_Go_Keep : PySem.W.subIn K (.ref Z_Go) (.ref Z_Keep) = some false)
  (sb_Go_Put : PySem.W.subIn K (.ref Z_Go) (.ref Z_Put) = some false)
  (sb_Go_Ask : PySem.W.subIn K (.ref Z_Go) (.ref Z_Ask) = some false)
  (gc_Keep : PySem.W.plainGet K Z_Keep "__class__" = true)
  (ca_Keep : PySem.W.findIn K (.ref Z_Keep) "__class__" = some (some (.builtin "object.__class__")))
  (ob_Keep : PySem.W.mroIn K Z_Keep (.type "object") = some true)
  (ss_Keep : PySem.W.subIn K (.ref Z_Keep) (.ref Z_Keep) = some true)
  (sb_Keep_Deed : PySem.W.subIn K (.ref Z_Keep) (.ref Z_Deed) = some true)
  (sb_Keep_Go : PySem.W.subIn K (.ref Z_Keep) (.ref Z_Go) = some false)
  (sb_Keep_Keep : PySem.W.subIn K (.ref Z_Keep) (.ref Z_Keep) = some true)
  (sb_Keep_Put : PySem.W.subIn K (.ref Z_Keep) (.ref Z_Put) = some false)
  (sb_Keep_Ask : PySem.W.subIn K (.ref Z_Keep) (.ref Z_Ask) = some false)
  (gc_Put : PySem.W.plainGet K Z_Put "__class__" = true)
  (ca_Put : PySem.W.findIn K (.ref Z_Put) "__class__" = some (some (.builtin "object.__class__")))
  (ob_Put : PySem.W.mroIn K Z_Put (.type "object") = some true)
  (ss_Put : PySem.W.subIn K (.ref Z_Put) (.ref Z_Put) = some true)
  (sb_Put_Deed : PySem.W.subIn K (.ref Z_Put) (.ref Z_Deed) = some true)
  (sb_Put_Go : PySem.W.subIn K (.ref Z_Put) (.ref Z_Go) = some false)
  (sb_Put_Keep : PySem.W.subIn K (.ref Z_Put) (.ref Z_Keep) = some false)
  (sb_Put_Put : PySem.W.subIn K (.ref Z_Put) (.ref Z_Put) = some true)
  (sb_Put_Ask : PySem.W.subIn K (.ref Z_Put) (.ref Z_Ask) = some false)
  (gc_Ask : PySem.W.plainGet K Z_Ask "__class__" = true)
  (ca_Ask : PySem.W.findIn K (.ref Z_Ask) "__class__" = some (some (.builtin "object.__class__")))
  (ob_Ask : PySem.W.mroIn K Z_Ask (.type "object") = some true)
  (ss_Ask : PySem.W.subIn K (.ref Z_Ask) (.ref Z_Ask) = some true)
  (sb_Ask_Deed : PySem.W.subIn K (.ref Z_Ask) (.ref Z_Deed) = some true)
  (sb_Ask_Go : PySem.W.subIn K (.ref Z_Ask) (.ref Z_Go) = some false)
  (sb_Ask_Keep : PySem.W.subIn K (.ref Z_Ask) (.ref Z_Keep) = some false)
  (sb_Ask_Put : PySem.W.subIn K (.ref Z_Ask) (.ref Z_Put) = some false)
  (sb_Ask_Ask : PySem.W.subIn K (.ref Z_Ask) (.ref Z_Ask) = some true)
  (gt0 : PySem.W.specialIn K (.builtin "object.__class__") "__get__" = some (some (.builtin "getset_descriptor.__get__")))
  (tk0 : PySem.W.takesIn K (.builtin "object.__class__") = some true)
  (cd1_Deed : PySem.W.clsIn K Z_Deed = some cd_Deed)
  (ty1_Deed : PySem.W.typeIn K (.ref Z_Deed) = some (.type "type"))
  (cd1_Go : PySem.W.clsIn K Z_Go = some cd_Go)
  (ty1_Go : PySem.W.typeIn K (.ref Z_Go) = some (.type "type"))
  (cd1_Keep : PySem.W.clsIn K Z_Keep = some cd_Keep)
  (ty1_Keep : PySem.W.typeIn K (.ref Z_Keep) = some (.type "type"))
  (cd1_Put : PySem.W.clsIn K Z_Put = some cd_Put)
  (ty1_Put : PySem.W.typeIn K (.ref Z_Put) = some (.type "type"))
  (cd1_Ask : PySem.W.clsIn K Z_Ask = some cd_Ask)
  (ty1_Ask : PySem.W.typeIn K (.ref Z_Ask) = some (.type "type"))
  (z_len : Hz K "len")
  (z_isinstance : Hz K "isinstance")
  (z_int : Hz K "int")
  (z_bool : Hz K "bool")
  (z_tuple : Hz K "tuple")
  (z_range : Hz K "range")
  (z_list : Hz K "list")
  (z_sum : Hz K "sum")
  (z_str : Hz K "str")
  (z_enumerate : Hz K "enumerate")
  (z_zip : Hz K "zip")
  (z_min : Hz K "min")
  (z_max : Hz K "max")
  : ∃ fd : FuncData, (∀ (s : Shared) (v : Value), BindsTo s fd ⟨[v], []⟩ [("_law_script", v)]) /\ ∀ base : Heap, K.In base -> base.Ns mainGlobals mg -> FnOk l.prog w K mg base CX0 7 fa fd ["_law_script"] (sp_law K) := by
 have e := hfa.symm.trans (PySem.W.mg_of X G a43)
 cases e
 have B : Bl mg := ⟨PySem.W.mg_none_of X G z_len, PySem.W.mg_none_of X G z_isinstance, PySem.W.mg_none_of X G z_int, PySem.W.mg_none_of X G z_bool, PySem.W.mg_none_of X G z_tuple, PySem.W.mg_none_of X G z_range, PySem.W.mg_none_of X G z_list, PySem.W.mg_none_of X G z_sum, PySem.W.mg_none_of X G z_str, PySem.W.mg_none_of X G z_enumerate, PySem.W.mg_none_of X G z_zip, PySem.W.mg_none_of X G z_min, PySem.W.mg_none_of X G z_max⟩
 have T := (⟨⟨pg_Go, hd_Go, po_Go, sa_Go⟩, ⟨gc_Go, hd_Go, ca_Go, gt0, tk0, ob_Go⟩, ⟨pg_Keep, hd_Keep, po_Keep, sa_Keep⟩, ⟨gc_Keep, hd_Keep, ca_Keep, gt0, tk0, ob_Keep⟩, ⟨pg_Put, hd_Put, po_Put, sa_Put⟩, ⟨gc_Put, hd_Put, ca_Put, gt0, tk0, ob_Put⟩, ⟨pg_Ask, hd_Ask, po_Ask, sa_Ask⟩, ⟨gc_Ask, hd_Ask, ca_Ask, gt0, tk0, ob_Ask⟩, ⟨a13, i13, k13⟩, ⟨as_Go, i12, k12⟩, ⟨a15, i15, k15⟩, ⟨as_Keep, i12, k12⟩, ⟨a17, i17, k17⟩, ⟨as_Put, i12, k12⟩, ⟨a20, i20, k20⟩, ⟨a19, i19, k19⟩, ⟨a21, i21, k21⟩, ⟨mk_Go, io_Go, kc_Go⟩, ⟨mk_Keep, a14, i14, kc_Keep⟩, ⟨mk_Put, a16, i16, kc_Put⟩, ⟨mk_Ask, a18, i18, kc_Ask⟩, PySem.W.mg_of X G a_Deed, PySem.W.mg_of X G a_Go, PySem.W.mg_of X G a_Keep, PySem.W.mg_of X G a_Put, PySem.W.mg_of X G a_Ask, nf_Keep_question, nf_Put_k, nf_Put_amount, nf_Ask_k, nf_Ask_low, nf_Ask_high, kit_of ss_Go cd1_Deed ty1_Deed sb_Go_Deed, kit_of ss_Go cd1_Go ty1_Go sb_Go_Go, kit_of ss_Go cd1_Keep ty1_Keep sb_Go_Keep, kit_of ss_Go cd1_Put ty1_Put sb_Go_Put, kit_of ss_Go cd1_Ask ty1_Ask sb_Go_Ask, kit_of ss_Keep cd1_Deed ty1_Deed sb_Keep_Deed, kit_of ss_Keep cd1_Go ty1_Go sb_Keep_Go, kit_of ss_Keep cd1_Keep ty1_Keep sb_Keep_Keep, kit_of ss_Keep cd1_Put ty1_Put sb_Keep_Put, kit_of ss_Keep cd1_Ask ty1_Ask sb_Keep_Ask, kit_of ss_Put cd1_Deed ty1_Deed sb_Put_Deed, kit_of ss_Put cd1_Go ty1_Go sb_Put_Go, kit_of ss_Put cd1_Keep ty1_Keep sb_Put_Keep, kit_of ss_Put cd1_Put ty1_Put sb_Put_Put, kit_of ss_Put cd1_Ask ty1_Ask sb_Put_Ask, kit_of ss_Ask cd1_Deed ty1_Deed sb_Ask_Deed, kit_of ss_Ask cd1_Go ty1_Go sb_Ask_Go, kit_of ss_Ask cd1_Keep ty1_Keep sb_Ask_Keep, kit_of ss_Ask cd1_Put ty1_Put sb_Ask_Put, kit_of ss_Ask cd1_Ask ty1_Ask sb_Ask_Ask⟩ : Kl K mg Z_Deed Z_Go Z_Keep Z_Put Z_Ask f12 f13 f14 f15 f16 f17 f18 f19 f20 f21)
 refine ⟨PySem.W.fnOf "law" "law" (defArgs s_law) (defBody s_law) (defScope s_law) .none kV43 dc43 pm43 an43 cd43 ct43, fun s v => .of_eq rfl, fun base _ _ => ?_⟩
 have E_may_have_else := ok_may_have_else (P := l.prog) (w := w) (base := base) T (fun_mk (st := s_may_have_else) l1 c1 k1) (PySem.W.mg_of X G a1) B
 have E_close := ok_close (P := l.prog) (w := w) (base := base) T (fun_mk (st := s_close) l2 c2 k2) (PySem.W.mg_of X G a2) B
 have E_below := ok_below (P := l.prog) (w := w) (base := base) T (fun_mk (st := s_below) l3 c3 k3) (PySem.W.mg_of X G a3) B
 have E_worth := ok_worth (P := l.prog) (w := w) (base := base) T (fun_mk (st := s_worth) l4 c4 k4) (PySem.W.mg_of X G a4) B
 have E_with_number := ok_with_number (P := l.prog) (w := w) (base := base) T (fun_mk (st := s_with_number) l6 c6 k6) (PySem.W.mg_of X G a6) B
 have E_amount_forms := ok_amount_forms (P := l.prog) (w := w) (base := base) T (fun_mk (st := s_amount_forms) l8 c8 k8) (PySem.W.mg_of X G a8) B
 have E_sum_forms := ok_sum_forms (P := l.prog) (w := w) (base := base) T (fun_mk (st := s_sum_forms) l10 c10 k10) (PySem.W.mg_of X G a10) B
 have E_turned := ok_turned (P := l.prog) (w := w) (base := base) T (fun_mk (st := s_turned) l11 c11 k11) (PySem.W.mg_of X G a11) B
 have E_Deed_asks := ok_Deed_asks (P := l.prog) (w := w) (base := base) T (fun_mk (st := s_Deed_asks) l12 c12 k12) B
 have E_Go_done := ok_Go_done (P := l.prog) (w := w) (base := base) T (fun_mk (st := s_Go_done) l13 c13 k13) B
 have E_Keep_init := ok_Keep_init (P := l.prog) (w := w) (base := base) T (fun_mk (st := s_Keep_init) l14 c14 k14) B
 have E_Put_init := ok_Put_init (P := l.prog) (w := w) (base := base) T (fun_mk (st := s_Put_init) l16 c16 k16) B
 have E_Ask_init := ok_Ask_init (P := l.prog) (w := w) (base := base) T (fun_mk (st := s_Ask_init) l18 c18 k18) B
 have E_Ask_asks := ok_Ask_asks (P := l.prog) (w := w) (base := base) T (fun_mk (st := s_Ask_asks) l19 c19 k19) B
 have E_row_if_not := ok_row_if_not (P := l.prog) (w := w) (base := base) T (fun_mk (st := s_row_if_not) l25 c25 k25) (PySem.W.mg_of X G a25) B
 have E__law_cell := ok__law_cell (P := l.prog) (w := w) (base := base) T (fun_mk (st := s__law_cell) l27 c27 k27) (PySem.W.mg_of X G a27) B
 have E__law_spread := ok__law_spread (P := l.prog) (w := w) (base := base) T (fun_mk (st := s__law_spread) l28 c28 k28) (PySem.W.mg_of X G a28) B
 have E__law_whole := ok__law_whole (P := l.prog) (w := w) (base := base) T (fun_mk (st := s__law_whole) l29 c29 k29) (PySem.W.mg_of X G a29) B
 have E__law_big := ok__law_big (P := l.prog) (w := w) (base := base) T (fun_mk (st := s__law_big) l30 c30 k30) (PySem.W.mg_of X G a30) B
 have E__law_sum := ok__law_sum (P := l.prog) (w := w) (base := base) T (fun_mk (st := s__law_sum) l32 c32 k32) (PySem.W.mg_of X G a32) B
 have E__law_word := ok__law_word (P := l.prog) (w := w) (base := base) T (fun_mk (st := s__law_word) l34 c34 k34) (PySem.W.mg_of X G a34) B
 have E__law_leads := ok__law_leads (P := l.prog) (w := w) (base := base) T (fun_mk (st := s__law_leads) l37 c37 k37) (PySem.W.mg_of X G a37) B
 have E__law_kind := ok__law_kind (P := l.prog) (w := w) (base := base) T (fun_mk (st := s__law_kind) l40 c40 k40) (PySem.W.mg_of X G a40) B
 have E_partners := ok_partners (P := l.prog) (w := w) (base := base) T (fun_mk (st := s_partners) l0 c0 k0) (PySem.W.mg_of X G a0) B E_may_have_else E_close
 have E_total := ok_total (P := l.prog) (w := w) (base := base) T (fun_mk (st := s_total) l5 c5 k5) (PySem.W.mg_of X G a5) B E_worth
 have E_Ask_between_ends := ok_Ask_between_ends (P := l.prog) (w := w) (base := base) T (fun_mk (st := s_Ask_between_ends) l21 c21 k21) B E_below
 have E__law_point := ok__law_point (P := l.prog) (w := w) (base := base) T (fun_mk (st := s__law_point) l31 c31 k31) (PySem.W.mg_of X G a31) B E__law_big E__law_cell
 have E__law_holds := ok__law_holds (P := l.prog) (w := w) (base := base) T (fun_mk (st := s__law_holds) l33 c33 k33) (PySem.W.mg_of X G a33) B E__law_sum
 have E__law_row := ok__law_row (P := l.prog) (w := w) (base := base) T (fun_mk (st := s__law_row) l35 c35 k35) (PySem.W.mg_of X G a35) B E__law_big E__law_sum
 have E__law_point_like := ok__law_point_like (P := l.prog) (w := w) (base := base) T (fun_mk (st := s__law_point_like) l39 c39 k39) (PySem.W.mg_of X G a39) B E__law_whole
 have E_amount_at := ok_amount_at (P := l.prog) (w := w) (base := base) T (fun_mk (st := s_amount_at) l7 c7 k7) (PySem.W.mg_of X G a7) B E_total E_amount_forms
 have E_holds := ok_holds (P := l.prog) (w := w) (base := base) T (fun_mk (st := s_holds) l9 c9 k9) (PySem.W.mg_of X G a9) B E_total E_sum_forms
 have E_Ask_done := ok_Ask_done (P := l.prog) (w := w) (base := base) T (fun_mk (st := s_Ask_done) l20 c20 k20) B E_with_number E_Ask_between_ends
 have E_parted_ways := ok_parted_ways (P := l.prog) (w := w) (base := base) T (fun_mk (st := s_parted_ways) l24 c24 k24) (PySem.W.mg_of X G a24) B E_Keep_init E_turned
 have E_onward_deed := ok_onward_deed (P := l.prog) (w := w) (base := base) T (fun_mk (st := s_onward_deed) l26 c26 k26) (PySem.W.mg_of X G a26) B E_Put_init E_Ask_init E_Keep_init
 have E__law_program := ok__law_program (P := l.prog) (w := w) (base := base) T (fun_mk (st := s__law_program) l36 c36 k36) (PySem.W.mg_of X G a36) B E__law_spread E__law_word E__law_cell E__law_row
 have E__law_made := ok__law_made (P := l.prog) (w := w) (base := base) T (fun_mk (st := s__law_made) l38 c38 k38) (PySem.W.mg_of X G a38) B E__law_sum E__law_holds
 have E_Keep_done := ok_Keep_done (P := l.prog) (w := w) (base := base) T (fun_mk (st := s_Keep_done) l15 c15 k15) B E_holds
 have E_Put_done := ok_Put_done (P := l.prog) (w := w) (base := base) T (fun_mk (st := s_Put_done) l17 c17 k17) B E_with_number E_amount_at
 have E_ways_from := ok_ways_from (P := l.prog) (w := w) (base := base) T (fun_mk (st := s_ways_from) l23 c23 k23) (PySem.W.mg_of X G a23) B E_parted_ways E_row_if_not E_onward_deed
 have E_ways := ok_ways (P := l.prog) (w := w) (base := base) T (fun_mk (st := s_ways) l22 c22 k22) (PySem.W.mg_of X G a22) B E_partners E_ways_from
 have E__law_way_good := ok__law_way_good (P := l.prog) (w := w) (base := base) T (fun_mk (st := s__law_way_good) l41 c41 k41) (PySem.W.mg_of X G a41) B E_Deed_asks E_Ask_asks E__law_whole E__law_kind E__law_point_like E_Go_done E_Keep_done E_Put_done E_Ask_done E__law_made
 have E__law_ways_good := ok__law_ways_good (P := l.prog) (w := w) (base := base) T (fun_mk (st := s__law_ways_good) l42 c42 k42) (PySem.W.mg_of X G a42) B E__law_leads E__law_way_good
 exact ok_law_fn (P := l.prog) (w := w) (base := base) T (fun_mk (st := s_law) l43 c43 k43) (PySem.W.mg_of X G a43) B E__law_point E__law_program E_ways E__law_cell E__law_big E__law_ways_good
theorem walk {l : PySem.W.OpenLaw} {q : Program} {loose : List Str} {XP : (Str -> Option Value) -> Heap -> Prop} {YP : World -> Heap -> Prop} {d : DefRec} {K : Params -> PySem.W.Frag} (hn : l.most = some 63) (hdf : d.params.defaults = [])
  (hY : ∀ (w : World) (h : Heap), YP w h -> (K w.params).In h)
  (F : ∀ (w : World) (mg : Str -> Option Value) (fa : Addr) (h : Heap), (K w.params).In h -> h.Ns mainGlobals mg -> mg d.name = some (.ref fa) ->
   ∃ fd : FuncData, (∀ (s : Shared) (u : Value), BindsTo s fd ⟨[u], []⟩ [("_law_script", u)]) /\ ∀ base : Heap, (K w.params).In base -> base.Ns mainGlobals mg -> FnOk l.prog w (K w.params) mg base CX0 7 fa fd ["_law_script"] (sp_law (K w.params))) :
  PySem.W.WalkO q loose XP YP l.row.toRowW d [] (fun f vs => PySem.call f vs) :=
 L2.walk_of (n := 63) (k := 7) (x := "_law_script") (CX := fun _ => CX0) (sp := fun w => sp_law (K w.params)) hn (by decide) hdf ⟨rfl, by decide, by decide⟩ hY F (fun _ _ a ns hl _ hS => ⟨a, ns, rfl, hS, hl, fun _ => rfl⟩) fun _ _ _ _ _ z => z
end T
/- the names below stand so that the twins of these terms are not made: they are not needed, and they are big -/
def PySem.W.Fast.tw4489129882263824050 : Unit := ()
def PySem.W.Fast.tw16367186531041533595 : Unit := ()
def PySem.W.Fast.tw10750191716657915126 : Unit := ()
def PySem.W.Fast.tw12688220291591381991 : Unit := ()
def PySem.W.Fast.tw8738614050426303996 : PySem.Program := PySem.Challenge.pw_eightsides_k36_one_way
theorem PySem.W.Fast.te8738614050426303996 : PySem.Challenge.pw_eightsides_k36_one_way = PySem.W.Fast.tw8738614050426303996 := rfl
def PySem.W.Fast.tw6952928315659571382 : Unit := ()
def PySem.W.Fast.tw17744640774033489911 : Unit := ()
def PySem.W.Fast.tw7710893163733676699 : Unit := ()
def PySem.W.Fast.tw8664949971203069488 : Unit := ()
def PySem.W.Fast.tw3811995402081856432 : Unit := ()
def PySem.W.Fast.tw12084712119681845760 : Unit := ()
def PySem.W.Fast.tw9720967180746199972 : Unit := ()
def PySem.W.Fast.tw10171921936660790458 : Unit := ()
def PySem.W.Fast.tw4819724502180297724 : Unit := ()
def PySem.W.Fast.tw8815495991434102271 : Unit := ()
def PySem.W.Fast.tw12244189701782727582 : Unit := ()
def PySem.W.Fast.tw13712748407713684314 : Unit := ()
def PySem.W.Fast.tw7950641738110885302 : Unit := ()
def PySem.W.Fast.tw12676334273083113665 : Unit := ()
def PySem.W.Fast.tw6500405713408441987 : Unit := ()
def PySem.W.Fast.tw8550949478627322208 : Unit := ()
def PySem.W.Fast.tw16086071162995133825 : Unit := ()
def PySem.W.Fast.tw17868405818278265280 : Unit := ()
def PySem.W.Fast.tw13470837433343349599 : Unit := ()
def PySem.W.Fast.tw10164830112056452429 : Unit := ()
def PySem.W.Fast.tw13463717205099807496 : Unit := ()
def PySem.W.Fast.tw8077848748220055783 : Unit := ()
def PySem.W.Fast.tw9891758720182485614 : Unit := ()
def PySem.W.Fast.tw12844574954917951163 : Unit := ()
def PySem.W.Fast.tw8927622911563302104 : Unit := ()
def PySem.W.Fast.tw7853248758586293689 : Unit := ()
def PySem.W.Fast.tw5174406922211165053 : Unit := ()
def PySem.W.Fast.tw4574602987337936889 : Unit := ()
def PySem.W.Fast.tw14029326242521473663 : Unit := ()
def PySem.W.Fast.tw6490875096623555117 : Unit := ()
def PySem.W.Fast.tw6373408688602312891 : Unit := ()
def PySem.W.Fast.tw1952318224906720535 : Unit := ()
def PySem.W.Fast.tw11400686188544760552 : Unit := ()
def PySem.W.Fast.tw15234394360205298407 : Unit := ()
def PySem.W.Fast.tw14993545895321703616 : Unit := ()
def PySem.W.Fast.tw1699978567826830384 : Unit := ()
def PySem.W.Fast.tw15021443243567509016 : Unit := ()
def PySem.W.Fast.tw6374222046460636350 : Unit := ()
def PySem.W.Fast.tw2731571712751688750 : Unit := ()
def PySem.W.Fast.tw15980470360723756584 : Unit := ()
def PySem.W.Fast.tw8415877323271101510 : Unit := ()
def PySem.W.Fast.tw15552244481730244232 : Unit := ()
def PySem.W.Fast.tw6248130445538432047 : Unit := ()
def PySem.W.Fast.tw17458272748372930994 : Unit := ()
def PySem.W.Fast.tw16110194332740795264 : Unit := ()
def PySem.W.Fast.tw6168128307740528501 : Unit := ()
def PySem.W.Fast.tw18385463582128851437 : Unit := ()
def PySem.W.Fast.tw4588304166877824889 : Unit := ()
def PySem.W.Fast.tw11387826930687891621 : Unit := ()
def PySem.W.Fast.tw4742128511029132189 : Unit := ()
def PySem.W.Fast.tw5427308304813033230 : Unit := ()
def PySem.W.Fast.tw14436976108152583174 : Unit := ()
def PySem.W.Fast.tw12829701049651272383 : Unit := ()
def PySem.W.Fast.tw2865533427627531963 : Unit := ()
def PySem.W.Fast.tw11607879547339654715 : Unit := ()
def PySem.W.Fast.tw2640209759383893654 : Unit := ()
def PySem.W.Fast.tw1200978272287292881 : Unit := ()
def PySem.W.Fast.tw11711221209511225670 : Unit := ()
def PySem.W.Fast.tw2021564578584121086 : Unit := ()
def PySem.W.Fast.tw17849970503842911795 : Unit := ()
def PySem.W.Fast.tw446486760138684923 : Unit := ()
def PySem.W.Fast.tw15912030313234691398 : Unit := ()
def PySem.W.Fast.tw17305769721196053225 : Unit := ()
def PySem.W.Fast.tw14681509443090393244 : Unit := ()
def PySem.W.Fast.tw16509631592978020401 : Unit := ()
def PySem.W.Fast.tw3748161136160541656 : Unit := ()
def PySem.W.Fast.tw1193628193275611998 : Unit := ()
def PySem.W.Fast.tw13037500717309477099 : Unit := ()
def PySem.W.Fast.tw35659913323575929 : Unit := ()
def PySem.W.Fast.tw9267245758896163607 : Unit := ()
def PySem.W.Fast.tw9344373728353998660 : Unit := ()
def PySem.W.Fast.tw18112077333068401831 : Unit := ()
def PySem.W.Fast.tw10473423662949542672 : Unit := ()
def PySem.W.Fast.tw10713957896976511688 : Unit := ()
def PySem.W.Fast.tw13457373941573120934 : Unit := ()
def PySem.W.Fast.tw6674373148103035660 : Unit := ()
def PySem.W.Fast.tw15958223359073784142 : Unit := ()
def PySem.W.Fast.tw12143425356187396336 : Unit := ()
def PySem.W.Fast.tw4138200812565419311 : Unit := ()
def PySem.W.Fast.tw14990047863741102455 : Unit := ()
def PySem.W.Fast.tw11386381760902018674 : Unit := ()
def PySem.W.Fast.tw11406454081975108479 : Unit := ()
def PySem.W.Fast.tw12207408916402713842 : Unit := ()
def PySem.W.Fast.tw8879401362084329574 : Unit := ()
def PySem.W.Fast.tw10105307501157496919 : Unit := ()
def PySem.W.Fast.tw8322150835547938959 : Unit := ()
def PySem.W.Fast.tw15548399317127624989 : Unit := ()
def PySem.W.Fast.tw4829029718428629757 : Unit := ()
def PySem.W.Fast.tw4368708266916562681 : Unit := ()
def PySem.W.Fast.tw6152172262077287529 : Unit := ()
def PySem.W.Fast.tw10355094161886309203 : Unit := ()
def PySem.W.Fast.tw592546958154627478 : Unit := ()
def PySem.W.Fast.tw1891801932680451846 : Unit := ()
def PySem.W.Fast.tw2207892180356167332 : Unit := ()
def PySem.W.Fast.tw16577950328911956199 : Unit := ()
def PySem.W.Fast.tw12939588702782005762 : Unit := ()
def PySem.W.Fast.tw942088380273509469 : Unit := ()
def PySem.W.Fast.tw1590084991547394847 : Unit := ()
def PySem.W.Fast.tw7969350369288201961 : Unit := ()
def PySem.W.Fast.tw4163412385746201782 : Unit := ()
def PySem.W.Fast.tw12835201864883431966 : Unit := ()
def PySem.W.Fast.tw10614316532271881262 : Unit := ()
def PySem.W.Fast.tw12229269223288210586 : Unit := ()
open PySem PySem.W PyProof.Rows
set_option maxRecDepth 100000 in
set_option maxHeartbeats 0 in
theorem PySem.Challenge.cw_eightsides_k36_one_way_holds : PySem.Challenge.rw_eightsides_k36_one_way.Holds := by
 w_on; o_law; k_head; (case hw => w_witness2)
 k_fill
 refine T.walk (l := PySem.Challenge.rw_eightsides_k36_one_way) rfl rfl (fun w h Y => PySem.W.kIn_of Y) ?F
 case F =>
  intro w mg fa h KX G hmg
  refine' T.all_mk KX G hmg ?a_Deed ?a_Go ?a_Keep ?a_Put ?a_Ask ?a0 ?l0 ?c0 ?k0 ?a1 ?l1 ?c1 ?k1 ?a2 ?l2 ?c2 ?k2 ?a3 ?l3 ?c3 ?k3 ?a4 ?l4 ?c4 ?k4 ?a5 ?l5 ?c5 ?k5 ?a6 ?l6 ?c6 ?k6 ?a7 ?l7 ?c7 ?k7 ?a8 ?l8 ?c8 ?k8 ?a9 ?l9 ?c9 ?k9 ?a10 ?l10 ?c10 ?k10 ?a11 ?l11 ?c11 ?k11 ?a12 ?i12 ?l12 ?c12 ?k12 ?a13 ?i13 ?l13 ?c13 ?k13 ?a14 ?i14 ?l14 ?c14 ?k14 ?a15 ?i15 ?l15 ?c15 ?k15 ?a16 ?i16 ?l16 ?c16 ?k16 ?a17 ?i17 ?l17 ?c17 ?k17 ?a18 ?i18 ?l18 ?c18 ?k18 ?a19 ?i19 ?l19 ?c19 ?k19 ?a20 ?i20 ?l20 ?c20 ?k20 ?a21 ?i21 ?l21 ?c21 ?k21 ?a22 ?l22 ?c22 ?k22 ?a23 ?l23 ?c23 ?k23 ?a24 ?l24 ?c24 ?k24 ?a25 ?l25 ?c25 ?k25 ?a26 ?l26 ?c26 ?k26 ?a27 ?l27 ?c27 ?k27 ?a28 ?l28 ?c28 ?k28 ?a29 ?l29 ?c29 ?k29 ?a30 ?l30 ?c30 ?k30 ?a31 ?l31 ?c31 ?k31 ?a32 ?l32 ?c32 ?k32 ?a33 ?l33 ?c33 ?k33 ?a34 ?l34 ?c34 ?k34 ?a35 ?l35 ?c35 ?k35 ?a36 ?l36 ?c36 ?k36 ?a37 ?l37 ?c37 ?k37 ?a38 ?l38 ?c38 ?k38 ?a39 ?l39 ?c39 ?k39 ?a40 ?l40 ?c40 ?k40 ?a41 ?l41 ?c41 ?k41 ?a42 ?l42 ?c42 ?k42 ?a43 ?l43 ?c43 ?k43 ?pg_Go ?hd_Go ?po_Go ?sa_Go ?mk_Go ?kc_Go ?pg_Keep ?hd_Keep ?po_Keep ?sa_Keep ?mk_Keep ?kc_Keep ?pg_Put ?hd_Put ?po_Put ?sa_Put ?mk_Put ?kc_Put ?pg_Ask ?hd_Ask ?po_Ask ?sa_Ask ?mk_Ask ?kc_Ask ?io_Go ?as_Go ?as_Keep ?as_Put ?nf_Keep_question ?nf_Put_k ?nf_Put_amount ?nf_Ask_k ?nf_Ask_low ?nf_Ask_high ?gc_Go ?ca_Go ?ob_Go ?ss_Go ?sb_Go_Deed ?sb_Go_Go ?sb_Go_Keep ?sb_Go_Put ?sb_Go_Ask ?gc_Keep ?ca_Keep ?ob_Keep ?ss_Keep ?sb_Keep_Deed ?sb_Keep_Go ?sb_Keep_Keep ?sb_Keep_Put ?sb_Keep_Ask ?gc_Put ?ca_Put ?ob_Put ?ss_Put ?sb_Put_Deed ?sb_Put_Go ?sb_Put_Keep ?sb_Put_Put ?sb_Put_Ask ?gc_Ask ?ca_Ask ?ob_Ask ?ss_Ask ?sb_Ask_Deed ?sb_Ask_Go ?sb_Ask_Keep ?sb_Ask_Put ?sb_Ask_Ask ?gt0 ?tk0 ?cd1_Deed ?ty1_Deed ?cd1_Go ?ty1_Go ?cd1_Keep ?ty1_Keep ?cd1_Put ?ty1_Put ?cd1_Ask ?ty1_Ask ?z_len ?z_isinstance ?z_int ?z_bool ?z_tuple ?z_range ?z_list ?z_sum ?z_str ?z_enumerate ?z_zip ?z_min ?z_max
  all_goals (try first | delta L2.Ha | delta L2.Hl | delta L2.Hc | delta L2.Hk | delta L2.Hm | delta L2.Hi | delta L2.Hz)
  (case a_Deed => k_is)
  (case a_Go => k_is)
  (case a_Keep => k_is)
  (case a_Put => k_is)
  (case a_Ask => k_is)
  (case a0 => k_is); (case l0 => k_is); (case c0 => k_is); (case k0 => k_is)
  (case a1 => k_is); (case l1 => k_is); (case c1 => k_is); (case k1 => k_is)
  (case a2 => k_is); (case l2 => k_is); (case c2 => k_is); (case k2 => k_is)
  (case a3 => k_is); (case l3 => k_is); (case c3 => k_is); (case k3 => k_is)
  (case a4 => k_is); (case l4 => k_is); (case c4 => k_is); (case k4 => k_is)
  (case a5 => k_is); (case l5 => k_is); (case c5 => k_is); (case k5 => k_is)
  (case a6 => k_is); (case l6 => k_is); (case c6 => k_is); (case k6 => k_is)
  (case a7 => k_is); (case l7 => k_is); (case c7 => k_is); (case k7 => k_is)
  (case a8 => k_is); (case l8 => k_is); (case c8 => k_is); (case k8 => k_is)
  (case a9 => k_is); (case l9 => k_is); (case c9 => k_is); (case k9 => k_is)
  (case a10 => k_is); (case l10 => k_is); (case c10 => k_is); (case k10 => k_is)
  (case a11 => k_is); (case l11 => k_is); (case c11 => k_is); (case k11 => k_is)
  (case a12 => k_is); (case i12 => k_is); (case l12 => k_is); (case c12 => k_is); (case k12 => k_is)
  (case a13 => k_is); (case i13 => k_is); (case l13 => k_is); (case c13 => k_is); (case k13 => k_is)
  (case a14 => k_is); (case i14 => k_is); (case l14 => k_is); (case c14 => k_is); (case k14 => k_is)
  (case a15 => k_is); (case i15 => k_is); (case l15 => k_is); (case c15 => k_is); (case k15 => k_is)
  (case a16 => k_is); (case i16 => k_is); (case l16 => k_is); (case c16 => k_is); (case k16 => k_is)
  (case a17 => k_is); (case i17 => k_is); (case l17 => k_is); (case c17 => k_is); (case k17 => k_is)
  (case a18 => k_is); (case i18 => k_is); (case l18 => k_is); (case c18 => k_is); (case k18 => k_is)
  (case a19 => k_is); (case i19 => k_is); (case l19 => k_is); (case c19 => k_is); (case k19 => k_is)
  (case a20 => k_is); (case i20 => k_is); (case l20 => k_is); (case c20 => k_is); (case k20 => k_is)
  (case a21 => k_is); (case i21 => k_is); (case l21 => k_is); (case c21 => k_is); (case k21 => k_is)
  (case a22 => k_is); (case l22 => k_is); (case c22 => k_is); (case k22 => k_is)
  (case a23 => k_is); (case l23 => k_is); (case c23 => k_is); (case k23 => k_is)
  (case a24 => k_is); (case l24 => k_is); (case c24 => k_is); (case k24 => k_is)
  (case a25 => k_is); (case l25 => k_is); (case c25 => k_is); (case k25 => k_is)
  (case a26 => k_is); (case l26 => k_is); (case c26 => k_is); (case k26 => k_is)
  (case a27 => k_is); (case l27 => k_is); (case c27 => k_is); (case k27 => k_is)
  (case a28 => k_is); (case l28 => k_is); (case c28 => k_is); (case k28 => k_is)
  (case a29 => k_is); (case l29 => k_is); (case c29 => k_is); (case k29 => k_is)
  (case a30 => k_is); (case l30 => k_is); (case c30 => k_is); (case k30 => k_is)
  (case a31 => k_is); (case l31 => k_is); (case c31 => k_is); (case k31 => k_is)
  (case a32 => k_is); (case l32 => k_is); (case c32 => k_is); (case k32 => k_is)
  (case a33 => k_is); (case l33 => k_is); (case c33 => k_is); (case k33 => k_is)
  (case a34 => k_is); (case l34 => k_is); (case c34 => k_is); (case k34 => k_is)
  (case a35 => k_is); (case l35 => k_is); (case c35 => k_is); (case k35 => k_is)
  (case a36 => k_is); (case l36 => k_is); (case c36 => k_is); (case k36 => k_is)
  (case a37 => k_is); (case l37 => k_is); (case c37 => k_is); (case k37 => k_is)
  (case a38 => k_is); (case l38 => k_is); (case c38 => k_is); (case k38 => k_is)
  (case a39 => k_is); (case l39 => k_is); (case c39 => k_is); (case k39 => k_is)
  (case a40 => k_is); (case l40 => k_is); (case c40 => k_is); (case k40 => k_is)
  (case a41 => k_is); (case l41 => k_is); (case c41 => k_is); (case k41 => k_is)
  (case a42 => k_is); (case l42 => k_is); (case c42 => k_is); (case k42 => k_is)
  (case a43 => k_is); (case l43 => k_is); (case c43 => k_is); (case k43 => k_is)
  (case pg_Go => k_is)
  (case hd_Go => k_is)
  (case po_Go => k_is)
  (case sa_Go => k_is)
  (case mk_Go => k_is)
  (case kc_Go => k_is)
  (case pg_Keep => k_is)
  (case hd_Keep => k_is)
  (case po_Keep => k_is)
  (case sa_Keep => k_is)
  (case mk_Keep => k_is)
  (case kc_Keep => k_is)
  (case pg_Put => k_is)
  (case hd_Put => k_is)
  (case po_Put => k_is)
  (case sa_Put => k_is)
  (case mk_Put => k_is)
  (case kc_Put => k_is)
  (case pg_Ask => k_is)
  (case hd_Ask => k_is)
  (case po_Ask => k_is)
  (case sa_Ask => k_is)
  (case mk_Ask => k_is)
  (case kc_Ask => k_is)
  (case io_Go => k_is)
  (case as_Go => k_is)
  (case as_Keep => k_is)
  (case as_Put => k_is)
  (case nf_Keep_question => k_is)
  (case nf_Put_k => k_is)
  (case nf_Put_amount => k_is)
  (case nf_Ask_k => k_is)
  (case nf_Ask_low => k_is)
  (case nf_Ask_high => k_is)
  (case gc_Go => k_is)
  (case ca_Go => k_is)
  (case ob_Go => k_is)
  (case ss_Go => k_is)
  (case sb_Go_Deed => k_is)
  (case sb_Go_Go => k_is)
  (case sb_Go_Keep => k_is)
  (case sb_Go_Put => k_is)
  (case sb_Go_Ask => k_is)
  (case gc_Keep => k_is)
  (case ca_Keep => k_is)
  (case ob_Keep => k_is)
  (case ss_Keep => k_is)
  (case sb_Keep_Deed => k_is)
  (case sb_Keep_Go => k_is)
  (case sb_Keep_Keep => k_is)
  (case sb_Keep_Put => k_is)
  (case sb_Keep_Ask => k_is)
  (case gc_Put => k_is)
  (case ca_Put => k_is)
  (case ob_Put => k_is)
  (case ss_Put => k_is)
  (case sb_Put_Deed => k_is)
  (case sb_Put_Go => k_is)
  (case sb_Put_Keep => k_is)
  (case sb_Put_Put => k_is)
  (case sb_Put_Ask => k_is)
  (case gc_Ask => k_is)
  (case ca_Ask => k_is)
  (case ob_Ask => k_is)
  (case ss_Ask => k_is)
  (case sb_Ask_Deed => k_is)
  (case sb_Ask_Go => k_is)
  (case sb_Ask_Keep => k_is)
  (case sb_Ask_Put => k_is)
  (case sb_Ask_Ask => k_is)
  (case gt0 => k_is)
  (case tk0 => k_is)
  (case cd1_Deed => k_is)
  (case ty1_Deed => k_is)
  (case cd1_Go => k_is)
  (case ty1_Go => k_is)
  (case cd1_Keep => k_is)
  (case ty1_Keep => k_is)
  (case cd1_Put => k_is)
  (case ty1_Put => k_is)
  (case cd1_Ask => k_is)
  (case ty1_Ask => k_is)
  (case z_len => k_is); (case z_isinstance => k_is); (case z_int => k_is); (case z_bool => k_is); (case z_tuple => k_is); (case z_range => k_is); (case z_list => k_is); (case z_sum => k_is); (case z_str => k_is); (case z_enumerate => k_is); (case z_zip => k_is); (case z_min => k_is); (case z_max => k_is)
