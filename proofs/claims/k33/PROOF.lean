import PyProof.Rows.All
import Wide.All
import OpenK.AllK
import Wide.FinOn
import Lean
import PyProof.EqAt
import PyProof.EqKinds
import PyProof.TupleCall
import PyProof.NeData
import PyProof.Rows.SumAny
import PyProof.ListRange
import PyProof.Rows.Range3
import OpenK.KOwn
import KE.KTryMore
import PyProof.RulesAs
import PyProof.MinMaxWalk
import PyProof.WalkInts
import PyProof.Rows.CallKwBuiltin
import KE.KMinKey
import PyProof.Draws
import OpenK.KMake
import PyProof.Rows.TupIter
import KE.KIsAll
import PyProof.SetScanFacts
import PyProof.Rows.SetFrom
import PyProof.CollectWalk
import PyProof.SetRoads
import PyProof.FactsAll.set
import PyProof.TupleIter
import PyProof.FactsAll.dict_keyiterator
import PyProof.DictWalks
import PyProof.Rows.SortShell
import PyProof.Rows.SortWalk
import PySem.Challenge.RW_eightsides_k33_climbs_end
set_option Elab.async false
set_option linter.all false
set_option maxRecDepth 100000
namespace L2
open PySem PySem.Spec PyProof.Rows
abbrev Key := Sum Int Str
def keyIs : Key -> Value -> Bool
 | .inl k, v => Value.isInt k v
 | .inr x, v => Value.isStrOf x v
def keyH (w : World) : Key -> Int
 | .inl k => hashInt k
 | .inr x => hashStr w x
theorem keyIs_shape : ∀ {k : Key} {v : Value}, keyIs k v = true -> (∃ i t, k = Sum.inl i /\ v = Value.int i t) \/ (∃ x t, k = Sum.inr x /\ v = Value.str x t)
 | .inl i, v, h => by
  obtain ⟨t, e⟩ := Value.isInt_shape (k := i) (v := v) h
  exact .inl ⟨i, t, rfl, e⟩
 | .inr x, v, h => by
  obtain ⟨t, e⟩ := Value.isStrOf_shape (x := x) (v := v) h
  exact .inr ⟨x, t, rfl, e⟩
theorem key_ll (a b : Int) : decide ((Sum.inl a : Key) = Sum.inl b) = (a == b) := by
 by_cases e : a = b
 · subst e; simp
 · have h : ¬ (Sum.inl a : Key) = Sum.inl b := fun q => e (Sum.inl.inj q)
   rw [decide_eq_false h]
   exact (beq_eq_false_iff_ne.mpr e).symm
theorem key_rr (a b : Str) : decide ((Sum.inr a : Key) = Sum.inr b) = decide (a = b) := by
 by_cases e : a = b
 · subst e; simp
 · have h : ¬ (Sum.inr a : Key) = Sum.inr b := fun q => e (Sum.inr.inj q)
   rw [decide_eq_false h, decide_eq_false e]
theorem key_lr (a : Int) (b : Str) : decide ((Sum.inl a : Key) = Sum.inr b) = false := decide_eq_false (fun q => nomatch q)
theorem key_rl (a : Str) (b : Int) : decide ((Sum.inr a : Key) = Sum.inl b) = false := decide_eq_false (fun q => nomatch q)
def mixKind (prog : Program) (w : World) : PySem.KeyKind prog w Key where
 is := keyIs
 hash := keyH w
 inj := fun v a b ha hb => by
  rcases keyIs_shape ha with ⟨i, t, rfl, rfl⟩ | ⟨x, t, rfl, rfl⟩
  · rcases keyIs_shape hb with ⟨j, u, rfl, e⟩ | ⟨y, u, rfl, e⟩
    · injection e with e1 _; rw [e1]
    · exact nomatch e
  · rcases keyIs_shape hb with ⟨j, u, rfl, e⟩ | ⟨y, u, rfl, e⟩
    · exact nomatch e
    · injection e with e1 _; rw [e1]
 byValue := fun k v h => by
  rcases keyIs_shape h with ⟨i, t, rfl, rfl⟩ | ⟨x, t, rfl, rfl⟩ <;> rfl
 pyHash := fun hv h => by
  rcases keyIs_shape hv with ⟨i, t, rfl, rfl⟩ | ⟨x, t, rfl, rfl⟩
  · exact wpAny_pyHash_int h
  · exact wpAny_pyHash_str h
 eqBool := fun hu hv h => by
  rcases keyIs_shape hu with ⟨i, t, rfl, rfl⟩ | ⟨x, t, rfl, rfl⟩
  · rcases keyIs_shape hv with ⟨j, u, rfl, rfl⟩ | ⟨y, u, rfl, rfl⟩
    · rw [key_ll] at h; exact wpAny_eqBool_int h
    · rw [key_lr] at h; exact SeqAt.EqAt.int_str i t y u _ _ _ _ h
  · rcases keyIs_shape hv with ⟨j, u, rfl, rfl⟩ | ⟨y, u, rfl, rfl⟩
    · rw [key_rl] at h; exact SeqAt.EqAt.str_int x t j u _ _ _ _ h
    · rw [key_rr] at h; exact wpAny_eqBool_str h
 «strs» := fun k x t v h => by
  rcases keyIs_shape h with ⟨i, u, rfl, e⟩ | ⟨y, u, rfl, e⟩
  · exact nomatch e
  · injection e with e1 _
    subst e1
    cases v <;> rfl
end L2
namespace L2
open PySem PySem.Spec PyProof.Rows
inductive V where
 | non | bl (b : Bool) | int (i : Int) | str (x : Str) | byt (b : Array UInt8) | flt (b : UInt64) | ref (a : Addr) | ty (n : String)
 deriving DecidableEq
def RelV : V -> Value -> Prop
 | .non, u => u = Value.none
 | .bl b, u => u = Value.bool b
 | .int i, u => ∃ t, u = Value.int i t
 | .str x, u => ∃ t, u = Value.str x t
 | .byt b, u => ∃ t, u = Value.bytes b t
 | .flt b, u => ∃ t, u = Value.float b t
 | .ref a, u => u = Value.ref a
 | .ty n, u => u = Value.type n
abbrev Vals : List V -> List Value -> Prop := Paired RelV
theorem Vals.length {xs : List V} {us : List Value} (r : Vals xs us) : xs.length = us.length := Paired.length r
theorem Vals.get : ∀ {xs : List V} {us : List Value} {i : Nat} {x : V}, Vals xs us -> xs[i]? = some x -> ∃ u, us[i]? = some u /\ RelV x u
 | _, _, _, _, .nil, e => by simp at e
 | _, _, 0, _, .cons r _, e => by simp at e; subst e; exact ⟨_, rfl, r⟩
 | _, _, i + 1, x, .cons _ t, e => by
  obtain ⟨u, h1, h2⟩ := Vals.get (i := i) (x := x) t (by simpa using e)
  exact ⟨u, by simpa using h1, h2⟩
theorem Vals.set {x : V} {u : Value} (r : RelV x u) : ∀ {xs : List V} {us : List Value} (i : Nat), Vals xs us -> Vals (xs.set i x) (us.set i u)
 | _, _, _, .nil => .nil
 | _, _, 0, .cons _ t => .cons r t
 | _, _, i + 1, .cons q t => .cons q (Vals.set r i t)
theorem Vals.append : ∀ {xs ys : List V} {us ws : List Value}, Vals xs us -> Vals ys ws -> Vals (xs ++ ys) (us ++ ws)
 | _, _, _, _, .nil, s => s
 | _, _, _, _, .cons r t, s => .cons r (Vals.append t s)
theorem Vals.take : ∀ {xs : List V} {us : List Value} (n : Nat), Vals xs us -> Vals (xs.take n) (us.take n)
 | _, _, 0, _ => .nil
 | _, _, _ + 1, .nil => .nil
 | _, _, n + 1, .cons r t => .cons r (Vals.take n t)
theorem Vals.drop : ∀ {xs : List V} {us : List Value} (n : Nat), Vals xs us -> Vals (xs.drop n) (us.drop n)
 | _, _, 0, r => r
 | _, _, _ + 1, .nil => .nil
 | _, _, n + 1, .cons _ t => Vals.drop n t
def RelO : Option V -> Option Value -> Prop
 | some v, some u => RelV v u
 | none, none => True
 | _, _ => False
def KV {κ : Type} : List (κ × V) -> List (κ × Value) -> Prop := Paired fun (p : κ × V) (q : κ × Value) => p.1 = q.1 /\ RelV p.2 q.2
def kV : Key -> V
 | .inl i => .int i
 | .inr x => .str x
inductive HO where
 | lst (xs : List V)
 | tup (xs : List V)
 | dK (kvs : List (Key × V)) | dT (kvs : List (List Key × V))
 | set (S : Int -> Bool) (n : Nat)
 | ins (C dx : Addr) (fs : List (Str × V))
 | own (x : Addr)
 | xd (fs : List (Str × V))
 | met (f x : Addr)
 | rng (lo hi : Int)
 | frz (o : Obj) (u : HO)
 | tbl (ps : Array Value)
 | ext (φ : Heap -> Prop)
abbrev Hp := Addr -> Option HO
def upd (H : Hp) (a : Addr) (o : HO) : Hp := fun b => if b = a then some o else H b
theorem upd_same {H : Hp} {a : Addr} {o : HO} : upd H a o a = some o := by unfold upd; rw [if_pos rfl]
theorem upd_ne {H : Hp} {a b : Addr} {o : HO} (h : b ≠ a) : upd H a o b = H b := by unfold upd; rw [if_neg h]
theorem ne_of {H : Hp} {a b : Addr} {o u : HO} (h : H a = some o) (h' : H b = some u) (d : o ≠ u) : a ≠ b := by
 intro e; subst e; rw [h] at h'; exact d (Option.some.inj h')
theorem ne_of_none {H : Hp} {a b : Addr} {o : HO} (h : H a = some o) (h' : H b = none) : a ≠ b := by
 intro e; subst e; rw [h] at h'; cases h'
section
variable (P : Program) (w : World)
def ObjOk (H : Hp) (h : Heap) (a : Addr) : HO -> Prop
 | .lst xs => xs.length <= sizeLine /\ ∃ (its : List Value) (n : Nat), Vals xs its /\ h.get? a = some { cls := .type "list", data := .seq its.toArray n }
 | .tup xs => xs.length <= sizeLine /\ ∃ its : List Value, Vals xs its /\ IsTup h a its.toArray
 | .dK kvs => kvs.length <= sizeLine /\ (a == sysModules) = false /\ ∃ vs, KV kvs vs /\ h.DictOf (mixKind P w) a vs
 | .dT kvs => kvs.length <= sizeLine /\ (a == sysModules) = false /\ ∃ xs : List (List Key × Addr × Value),
   Paired (fun (p : List Key × V) (q : List Key × Addr × Value) => p.1 = q.1 /\ H q.2.1 = some (.tup (p.1.map kV)) /\ RelV p.2 q.2.2) kvs xs /\
   ∃ o es ep, h.get? a = some o /\ o.ExactDict /\ o.data = .dict es ep /\ es.toList = xs.map (entryOfKey (tupleKind (mixKind P w))) /\ (xs.map (·.1)).Nodup
 | .set S n => h.SetOf (intKind P w) a S n
 | .ins C dx fs => H dx = some (.own a) /\ fs.length <= 1000 /\ dx ≠ a /\ h.get? a = some (PySem.W.instObj C dx) /\
   ∃ mA, h.Ns1 dx mA /\ (∀ f, RelO (fs.lookup f) (mA f)) /\ PySem.Within mA (fs.map (·.1))
 | .own _ => ∃ o, h.get? a = some o
 | .xd fs => ∃ mA, h.Ns1 a mA /\ ∀ f, RelO (fs.lookup f) (mA f)
 | .rng lo hi => ∃ t u v, h.get? a = some { cls := .type "range", data := .fields #[.int lo t, .int hi u, .int 1 v] }
 | .frz o u => h.get? a = some o /\ ObjOk H h a u
 | .tbl ps => h.get? a = some { cls := .none, data := .fields ps }
 | .met f x => h.get? a = some (PySem.W.methodObj (.ref f) (.ref x))
 | .ext φ => φ h /\ (∃ o, h.get? a = some o) /\ ∀ h1 h2 : Heap, φ h1 -> (∀ o, h1.get? a = some o -> h2.get? a = some o) -> φ h2
def HOk (H : Hp) (h : Heap) : Prop := ∀ a o, H a = some o -> ObjOk P w H h a o
end
section
variable {P : Program} {w : World} {H H' : Hp} {h h' : Heap} {a : Addr} {o : HO}
theorem ObjOk.lt (x : ObjOk P w H h a o) : a < h.objs.size := by
 cases o with
 | lst xs => obtain ⟨_, _, _, _, e⟩ := x; exact Heap.lt_size e
 | tup xs => obtain ⟨_, _, _, p⟩ := x; exact p.lt
 | dK kvs => obtain ⟨_, _, _, _, o, _, _, e, _⟩ := x; exact Heap.lt_size e
 | dT kvs => obtain ⟨_, _, _, _, o, _, _, e, _⟩ := x; exact Heap.lt_size e
 | set S n => obtain ⟨o, _, _, _, e, _⟩ := x; exact Heap.lt_size e
 | ins C dx fs => obtain ⟨_, _, _, e, _⟩ := x; exact Heap.lt_size e
 | own y => obtain ⟨_, e⟩ := x; exact Heap.lt_size e
 | xd fs => obtain ⟨_, ⟨_, _, _, e, _⟩, _⟩ := x; exact Heap.lt_size e
 | rng lo hi => obtain ⟨_, _, _, e⟩ := x; exact Heap.lt_size e
 | frz ob u => obtain ⟨e, _⟩ := x; exact Heap.lt_size e
 | tbl ps => exact Heap.lt_size (show h.get? a = some _ from x)
 | met f y => exact Heap.lt_size (show h.get? a = some _ from x)
 | ext φ => obtain ⟨_, ⟨_, e⟩, _⟩ := x; exact Heap.lt_size e
theorem Paired.mapP {α β : Type} {F G : α -> β -> Prop} : ∀ {l₁ : List α} {l₂ : List β}, Paired F l₁ l₂ -> (∀ a b, F a b -> G a b) -> Paired G l₁ l₂
 | _, _, .nil, _ => .nil
 | _, _, .cons r t, f => .cons (f _ _ r) (Paired.mapP t f)
theorem ObjOk.stay (x : ObjOk P w H h a o) (k : ∀ b u, (b = a \/ H b = some (.own a)) -> h.get? b = some u -> h'.get? b = some u)
  (ho : ∀ b, H b = some (.own a) -> H' b = some (.own a)) (ht : ∀ b xs, H b = some (.tup xs) -> H' b = some (.tup xs)) : ObjOk P w H' h' a o := by
 induction o with
 | lst xs => obtain ⟨z, its, n, r, e⟩ := x; exact ⟨z, its, n, r, k _ _ (.inl rfl) e⟩
 | tup xs => obtain ⟨z, its, r, ob, e, c⟩ := x; exact ⟨z, its, r, ob, k _ _ (.inl rfl) e, c⟩
 | dK kvs => obtain ⟨z, y, vs, r, ob, es, ep, e, c⟩ := x; exact ⟨z, y, vs, r, ob, es, ep, k _ _ (.inl rfl) e, c⟩
 | dT kvs =>
  obtain ⟨z, y, xs, r, ob, es, ep, e, c⟩ := x
  exact ⟨z, y, xs, Paired.mapP r fun p q z => ⟨z.1, ht _ _ z.2.1, z.2.2⟩, ob, es, ep, k _ _ (.inl rfl) e, c⟩
 | set S n => obtain ⟨ob, es, ep, t, e, c⟩ := x; exact ⟨ob, es, ep, t, k _ _ (.inl rfl) e, c⟩
 | ins C dx fs =>
  obtain ⟨d, z, ne, e, mA, ⟨od, es, ep, e2, c⟩, r⟩ := x
  exact ⟨ho _ d, z, ne, k _ _ (.inl rfl) e, mA, ⟨od, es, ep, k _ _ (.inr d) e2, c⟩, r⟩
 | own y => obtain ⟨ob, e⟩ := x; exact ⟨ob, k _ _ (.inl rfl) e⟩
 | xd fs => obtain ⟨mA, ⟨od, es, ep, e, c⟩, r⟩ := x; exact ⟨mA, ⟨od, es, ep, k _ _ (.inl rfl) e, c⟩, r⟩
 | rng lo hi => obtain ⟨t, u, v, e⟩ := x; exact ⟨t, u, v, k _ _ (.inl rfl) e⟩
 | frz ob u ih => obtain ⟨e, q⟩ := x; exact ⟨k _ _ (.inl rfl) e, ih q⟩
 | tbl ps =>
  have e : h.get? a = some { cls := .none, data := .fields ps } := x
  show h'.get? a = some { cls := .none, data := .fields ps }
  exact k a _ (.inl rfl) e
 | met f y =>
  have e : h.get? a = some (PySem.W.methodObj (.ref f) (.ref y)) := x
  show h'.get? a = some (PySem.W.methodObj (.ref f) (.ref y))
  exact k a _ (.inl rfl) e
 | ext φ => obtain ⟨p, ⟨o, e⟩, st⟩ := x; exact ⟨st _ _ p fun o q => k _ _ (.inl rfl) q, ⟨o, k _ _ (.inl rfl) e⟩, st⟩
theorem HOk.lt (x : HOk P w H h) (e : H a = some o) : a < h.objs.size := (x a o e).lt
theorem HOk.fresh (x : HOk P w H h) (e : h.objs.size <= a) : H a = none := by
 cases q : H a with
 | none => rfl
 | some u => exact absurd (Nat.lt_of_lt_of_le (x.lt q) e) (Nat.lt_irrefl _)
theorem HOk.kept (x : HOk P w H h) (k : ∀ b u, h.get? b = some u -> h'.get? b = some u) : HOk P w H h' := fun a o e =>
 (x a o e).stay (fun b u _ q => k b u q) (fun _ q => q) fun _ _ q => q
theorem HOk.laid (x : HOk P w H h) (k : ∀ b u, h.get? b = some u -> h'.get? b = some u) (hp : h.objs.size <= a) (new : ObjOk P w (upd H a o) h' a o) : HOk P w (upd H a o) h' := fun b u e => by
 have hn := x.fresh hp
 by_cases hb : b = a
 · subst hb; rw [upd_same] at e; cases e; exact new
 · rw [upd_ne hb] at e
   exact (x b u e).stay (fun c v _ q => k c v q) (fun c q => by rw [upd_ne (ne_of_none q hn)]; exact q) fun c xs q => by rw [upd_ne (ne_of_none q hn)]; exact q
end
def Rd (H : Hp) (a : Addr) (u : HO) : Prop := H a = some u \/ ∃ o, H a = some (.frz o u)
theorem Rd.ok {P : Program} {w : World} {H : Hp} {h : Heap} {a : Addr} {u : HO} (r : Rd H a u) (x : HOk P w H h) : ObjOk P w H h a u := by
 rcases r with r | ⟨o, r⟩
 · exact x a u r
 · obtain ⟨_, q⟩ := x a _ r
   exact q
def Mut : Option HO -> Prop
 | some (.lst _) => True
 | some (.dK _) => True
 | some (.dT _) => True
 | some (.set _ _) => True
 | some (.ins _ _ _) => True
 | some (.ext _) => True
 | _ => False
section
variable {P : Program} {w : World} {H : Hp} {h h' : Heap} {x e : Addr} {o' : HO}
theorem HOk.write (ok : HOk P w H h) (mu : Mut (H x)) (he : e = x \/ H e = some (.own x)) (k : ∀ b u, b ≠ e -> h.get? b = some u -> h'.get? b = some u) (heo : ∃ u, h'.get? e = some u)
  (new : ObjOk P w (upd H x o') h' x o') : HOk P w (upd H x o') h' := fun b u q => by
 have nown : ∀ c y, H c = some (.own y) -> c ≠ x := fun c y r z => by subst z; rw [r] at mu; exact mu
 have ntup : ∀ c xs, H c = some (.tup xs) -> c ≠ x := fun c xs r z => by subst z; rw [r] at mu; exact mu
 by_cases hb : b = x
 · subst hb; rw [upd_same] at q; cases q; exact new
 · rw [upd_ne hb] at q
   by_cases hbe : b = e
   · have q' : H b = some (.own x) := by
      rcases he with z | z
      · exact absurd (hbe.trans z) hb
      · rw [hbe]; exact z
     rw [q] at q'; cases q'
     obtain ⟨v, hv⟩ := heo
     exact ⟨v, by rw [hbe]; exact hv⟩
   · refine (ok b u q).stay (fun c v hc r => k c v ?_ r) (fun c r => by rw [upd_ne (nown c b r)]; exact r) fun c xs r => by rw [upd_ne (ntup c xs r)]; exact r
     rcases hc with rfl | hc
     · exact hbe
     · rintro rfl
       rcases he with z | z
       · exact nown c b hc z
       · rw [hc] at z; cases z; exact hb rfl
end
structure Un (fs ex : List Addr) (H H' : Hp) (h h' : Heap) : Prop where
 keep : ∀ b o, h.get? b = some o -> H b = none -> b ∉ fs -> b ∉ ex -> h'.get? b = some o
 slot : ∀ b o, h.get? b = some o -> H b = none -> b ∈ fs -> b ∉ ex -> ∃ sl, h'.get? b = some { o with slots := sl }
 free : ∀ b o, h.get? b = some o -> H b = none -> b ∉ ex -> H' b = none
 there : ∀ b o, h.get? b = some o -> b ∉ ex -> ∃ o', h'.get? b = some o'
 tups : ∀ b xs, H b = some (.tup xs) -> H' b = some (.tup xs)
 frzs : ∀ b o u, H b = some (.frz o u) -> H' b = some (.frz o u)
 tbls : ∀ b ps, H b = some (.tbl ps) -> ∃ more, H' b = some (.tbl (ps ++ more))
section
variable {fs fs' ex ex' : List Addr} {H H1 H2 : Hp} {h h1 h2 h' : Heap} {a x e : Addr} {o : HO}
theorem Un.any (u : Un fs ex H H1 h h1) {b : Addr} {ob : Obj} (q : h.get? b = some ob) (n : H b = none) (hx : b ∉ ex) : ∃ sl, h1.get? b = some { ob with slots := sl } := by
 by_cases hb : b ∈ fs
 · exact u.slot b ob q n hb hx
 · exact ⟨ob.slots, u.keep b ob q n hb hx⟩
theorem Un.trans (a : Un fs ex H H1 h h1) (b : Un fs ex H1 H2 h1 h2) : Un fs ex H H2 h h2 where
 keep := fun c ob q n hc hx => b.keep c ob (a.keep c ob q n hc hx) (a.free c ob q n hx) hc hx
 slot := fun c ob q n hc hx => by
  obtain ⟨sl, e1⟩ := a.slot c ob q n hc hx
  obtain ⟨sl', e2⟩ := b.slot c _ e1 (a.free c ob q n hx) hc hx
  exact ⟨sl', e2⟩
 free := fun c ob q n hx => by
  obtain ⟨o', e1⟩ := a.there c ob q hx
  exact b.free c o' e1 (a.free c ob q n hx) hx
 there := fun c ob q hx => by
  obtain ⟨o', e1⟩ := a.there c ob q hx
  exact b.there c o' e1 hx
 tups := fun c xs q => b.tups c xs (a.tups c xs q)
 frzs := fun c ob xs q => b.frzs c ob xs (a.frzs c ob xs q)
 tbls := fun c ps q => by
  obtain ⟨m1, e1⟩ := a.tbls c ps q
  obtain ⟨m2, e2⟩ := b.tbls c _ e1
  exact ⟨m1 ++ m2, by rw [e2, Array.append_assoc]⟩
theorem Un.kept (k : ∀ b u, h.get? b = some u -> h'.get? b = some u) : Un fs ex H H h h' :=
 ⟨fun b ob q _ _ _ => k b ob q, fun b ob q _ _ _ => ⟨ob.slots, k b ob q⟩, fun _ _ _ n _ => n, fun b ob q _ => ⟨ob, k b ob q⟩, fun _ _ q => q, fun _ _ _ q => q, fun _ ps q => ⟨#[], by rw [q]; simp⟩⟩
theorem Un.refl : Un fs ex H H h h := Un.kept fun _ _ q => q
theorem Un.laid (k : ∀ b u, h.get? b = some u -> h'.get? b = some u) (hp : h.objs.size <= a) (hn : H a = none) : Un fs ex H (upd H a o) h h' where
 keep := fun b u q _ _ _ => k b u q
 slot := fun b u q _ _ _ => ⟨u.slots, k b u q⟩
 free := fun b u q n _ => by rw [upd_ne (Nat.ne_of_lt (Nat.lt_of_lt_of_le (Heap.lt_size q) hp))]; exact n
 there := fun b u q _ => ⟨u, k b u q⟩
 tups := fun b xs q => by rw [upd_ne (ne_of_none q hn)]; exact q
 frzs := fun b u xs q => by rw [upd_ne (ne_of_none q hn)]; exact q
 tbls := fun b ps q => ⟨#[], by rw [upd_ne (ne_of_none q hn), q]; simp⟩
theorem Un.write (mu : Mut (H x)) (he : e = x \/ H e = some (.own x)) (k : ∀ b u, b ≠ e -> h.get? b = some u -> h'.get? b = some u) (heo : ∃ u, h'.get? e = some u) : Un fs ex H (upd H x o) h h' := by
 have hx : ∀ b, H b = none -> b ≠ x := fun b n z => by subst z; rw [n] at mu; exact mu
 have hb : ∀ b, H b = none -> b ≠ e := fun b n z => by
  subst z
  rcases he with r | r
  · exact hx b n r
  · rw [n] at r; cases r
 have hm : ∀ b u, H b = some u -> ¬ Mut (some u) -> b ≠ x := fun b u q nm z => by subst z; rw [q] at mu; exact nm mu
 refine ⟨fun b u q n _ _ => k b u (hb b n) q, fun b u q n _ _ => ⟨u.slots, k b u (hb b n) q⟩, fun b u q n _ => by rw [upd_ne (hx b n)]; exact n, fun b u q _ => ?_,
  fun b xs q => by rw [upd_ne (hm b _ q fun z => z)]; exact q, fun b u xs q => by rw [upd_ne (hm b _ q fun z => z)]; exact q, fun b ps q => ⟨#[], by rw [upd_ne (hm b _ q fun z => z), q]; simp⟩⟩
 by_cases hbe : b = e
 · subst hbe; exact heo
 · exact ⟨u, k b u hbe q⟩
end
def trk (h : Heap) (H : Hp) : List Addr := (List.range h.objs.size).filter fun a => (H a).isSome
def hidT (h : Heap) (H : Hp) : Heap := PySem.W.hideAll h (trk h H)
theorem hidT_size (h : Heap) (H : Hp) : (hidT h H).objs.size = h.objs.size := PySem.W.hideAll_size _ _
theorem hidT_get {h : Heap} {H : Hp} {b : Addr} {o : Obj} (e : h.get? b = some o) (n : H b = none) : (hidT h H).get? b = some o :=
 PySem.W.hideAll_get _ e fun hm => by
  have q : (H b).isSome = true := (List.mem_filter.mp hm).2
  rw [n] at q; simp at q
theorem of_hidT {h : Heap} {H : Hp} {b : Addr} {o : Obj} (e : (hidT h H).get? b = some o) : h.get? b = some o /\ H b = none := by
 have e' : h.get? b = some o := PySem.W.of_hideAll (trk h H) e
 refine ⟨e', ?_⟩
 cases q : H b with
 | none => rfl
 | some x =>
  have hm : b ∈ trk h H := List.mem_filter.mpr ⟨List.mem_range.mpr (Heap.lt_size e'), by simp [q]⟩
  have z : (hidT h H).get? b = none := PySem.W.hideAll_none (trk h H) hm
  rw [z] at e; cases e
end L2
namespace L2
open PySem PySem.Spec PyProof.Rows
structure Mod (K : PySem.W.Frag) (mg : Str -> Option Value) (base : Heap) : Prop where
 kin : K.In base
 glob : base.Ns mainGlobals mg
 blt : ∃ mb, base.Ns builtinsNs mb /\ ∀ x : Str, x ≠ "__name__" -> mb x = bootBuiltins x
 nolimit : base.NoLimit
structure Cx where
 prog : Program
 w : World
 K : PySem.W.Frag
 mg : Str -> Option Value
 base : Heap
 A : Around
 N : List Str
 s₀ : Shared
 H₀ : Hp
 env : Env
 outer : List Env
 stack : List Env
 ex : List Addr
 fn : Str -> Bool
 calm : Bool
 pn : List (Addr × Obj)
 xe : Value -> Shared -> Prop
def frs (l : List Env) : List Addr := l.filterMap (·.frame)
abbrev Cx.fs (X : Cx) : List Addr := frs X.outer
def Vis (sc : Scope) (x : Str) : Prop := sc.names.lookup x = some .local \/ sc.names.lookup x = some .cell \/ sc.names.lookup x = some .free
def Loc (sc : Scope) (x : Str) : Prop := sc.names.lookup x = some .local \/ sc.names.lookup x = some .cell
def Look (env : Env) (h : Heap) (m : Str -> Option Value) (x : Str) (u : Value) : Prop :=
 (env.kindOf x = some .local /\ m x = some u) \/ ((env.kindOf x = some .cell \/ env.kindOf x = some .free) /\ ∃ c, env.cells.lookup x = some c /\ h.IsCell c (some u))
structure Cx.Ok (X : Cx) : Prop where
 mod : Mod X.K X.mg X.base
 kind : X.env.scope.kind = .function
 glob : X.env.globals = mainGlobals
 blt : X.env.builtins = builtinsNs
 above : X.s₀.heap.objs.size <= X.env.locals
 inj : ∀ x y c, X.env.cells.lookup x = some c -> X.env.cells.lookup y = some c -> x = y
 has : ∀ x, (X.env.kindOf x = some .cell \/ X.env.kindOf x = some .free) -> ∃ c, X.env.cells.lookup x = some c
 cab : ∀ x c, X.fn x = true -> X.env.cells.lookup x = some c -> X.s₀.heap.objs.size <= c
 hd : X.calm = true -> X.A.handled = none
 frames : X.A.frames = some X.stack
 stk : X.stack = X.outer \/ (X.stack = X.env :: X.outer /\ X.env.frame = some X.env.locals)
 exf : ∀ b ∈ X.ex, b ≠ X.env.locals /\ ∀ x c, X.env.cells.lookup x = some c -> c ≠ b
 bs : ∀ b o, X.base.get? b = some o -> X.s₀.heap.get? b = some o /\ X.H₀ b = none
 bsz : X.base.objs.size <= X.s₀.heap.objs.size
 noex : ∀ b o, X.base.get? b = some o -> b ∉ X.ex
 exfs : ∀ b ∈ X.ex, b ∉ X.fs
 funs : X.s₀.heap.FunFrames X.base X.outer
 frf : ∀ b ∈ X.fs, X.H₀ b = none
structure Inv (X : Cx) (pins : List (Addr × Obj)) (σ : List (Option V)) (H : Hp) (s : Shared) : Prop where
 ok : X.Ok
 os : s.os = X.s₀.os
 bare : AllBare s.gens
 base : Un X.fs X.ex X.H₀ H X.s₀.heap s.heap
 loc : ∃ m, s.heap.Ns X.env.locals m /\ ∀ (i : Nat) (x : Str) (v : V), X.N[i]? = some x -> σ[i]? = some (some v) -> Vis X.env.scope x -> ∃ u, RelV v u /\ Look X.env s.heap m x u
 cell : ∀ x c, X.env.cells.lookup x = some c -> ∃ v, s.heap.IsCell c v
 free : H X.env.locals = none
 freeC : ∀ x c, X.env.cells.lookup x = some c -> H c = none
 pin : ∀ p ∈ X.pn ++ pins, s.heap.get? p.1 = some p.2 /\ H p.1 = none /\ p.1 ≠ X.env.locals /\ p.1 ∉ X.fs /\ ∀ v, p.2.data ≠ .cell v
 hok : HOk X.prog X.w H s.heap
 len : σ.length = X.N.length
section
variable {X : Cx} {pins : List (Addr × Obj)} {σ : List (Option V)} {H H' : Hp} {s : Shared} {h' : Heap}
theorem Cx.Ok.nofr (ok : X.Ok) {b : Addr} {o : Obj} (e : X.base.get? b = some o) : b ∉ X.fs := fun hb => by
 have := (ok.funs.mem hb).1
 rw [e] at this; cases this
theorem Inv.bs (I : Inv X pins σ H s) : ∀ b o, X.base.get? b = some o -> s.heap.get? b = some o /\ H b = none := fun b o e =>
 ⟨I.base.keep b o (I.ok.bs b o e).1 (I.ok.bs b o e).2 (I.ok.nofr e) (I.ok.noex b o e), I.base.free b o (I.ok.bs b o e).1 (I.ok.bs b o e).2 (I.ok.noex b o e)⟩
theorem Inv.bk (I : Inv X pins σ H s) : ∀ b o, X.base.get? b = some o -> s.heap.get? b = some o := fun b o e => (I.bs b o e).1
theorem Inv.mod (I : Inv X pins σ H s) : Mod X.K X.mg X.base := I.ok.mod
theorem Inv.kIn (I : Inv X pins σ H s) : X.K.In s.heap := I.ok.mod.kin.keeps I.bk
theorem Inv.lt (I : Inv X pins σ H s) : X.env.locals < s.heap.objs.size := let ⟨_, hn, _⟩ := I.loc; hn.lt
theorem Inv.sz (I : Inv X pins σ H s) : X.s₀.heap.objs.size <= s.heap.objs.size := Nat.le_trans I.ok.above (Nat.le_of_lt I.lt)
theorem Inv.nofs (I : Inv X pins σ H s) {a : Addr} (h : s.heap.objs.size <= a) : a ∉ X.fs := fun hb => by
 obtain ⟨_, o, ho, _⟩ := I.ok.funs.mem hb
 exact absurd (Nat.lt_of_lt_of_le (Heap.lt_size ho) (Nat.le_trans I.sz h)) (Nat.lt_irrefl _)
theorem Inv.cne (I : Inv X pins σ H s) : ∀ x c, X.env.cells.lookup x = some c -> c ≠ X.env.locals := fun x c e z => by
 obtain ⟨v, o, ho, hd⟩ := I.cell x c e
 obtain ⟨m, ⟨o', es, ep, ho', hd', _⟩, _⟩ := I.loc
 rw [z, ho'] at ho; cases ho; rw [hd'] at hd; cases hd
theorem Inv.funs (I : Inv X pins σ H s) : s.heap.FunFrames X.base X.outer := by
 have all : ∀ (l : List Env), (∀ b ∈ frs l, b ∈ X.fs) -> X.s₀.heap.FunFrames X.base l -> s.heap.FunFrames X.base l := by
  intro l
  induction l with
  | nil => intro _ _; trivial
  | cons env r ih =>
   intro hs hl
   obtain ⟨hk, ⟨L, o, hf, hn, ho, hd⟩, hr⟩ := hl
   have hL : L ∈ X.fs := hs L (by unfold frs; rw [List.filterMap_cons, hf]; exact List.mem_cons_self)
   obtain ⟨sl, e⟩ := I.base.slot L o ho (I.ok.frf L hL) hL fun z => I.ok.exfs L z hL
   exact ⟨hk, ⟨L, _, hf, hn, e, hd⟩, ih (fun b hb => hs b (by unfold frs; rw [List.filterMap_cons, hf]; exact List.mem_cons_of_mem _ hb)) hr⟩
 exact all X.outer (fun _ hb => hb) I.ok.funs
theorem Inv.stack (I : Inv X pins σ H s) : s.heap.FunFrames X.base X.stack := by
 rcases I.ok.stk with e | ⟨e, hf⟩
 · rw [e]; exact I.funs
 · rw [e]
   obtain ⟨m, hn, _⟩ := I.loc
   refine .cons (by rw [I.ok.kind]; decide) hf hn ?_ I.funs
   exact Heap.get?_none_of_le (Nat.le_trans I.ok.bsz I.ok.above)
theorem Inv.stkSub (I : Inv X pins σ H s) : ∀ b ∈ frs X.stack, b ∈ X.env.locals :: X.fs := fun b hb => by
 rcases I.ok.stk with e | ⟨e, hf⟩
 · rw [e] at hb; exact List.mem_cons_of_mem _ hb
 · rw [e] at hb
   unfold frs at hb
   rw [List.filterMap_cons, hf] at hb
   exact hb
theorem Inv.stkFree (I : Inv X pins σ H s) : ∀ b ∈ frs X.stack, H b = none := fun b hb => by
 rcases List.mem_cons.mp (I.stkSub b hb) with e | hb
 · rw [e]; exact I.free
 · obtain ⟨_, o, ho, _⟩ := I.ok.funs.mem hb
   exact I.base.free b o ho (I.ok.frf b hb) fun z => I.ok.exfs b z hb
theorem Inv.step {g' : Array GenState} {t' : Nat} {d' : Drawn} {ch : List Addr} (I : Inv X pins σ H s)
  (hch : ∀ b ∈ ch, (b ∈ X.ex \/ X.s₀.heap.objs.size <= b) /\ b ≠ X.env.locals /\ (∀ x c, X.env.cells.lookup x = some c -> c ≠ b) /\ ∀ p ∈ X.pn ++ pins, p.1 ≠ b)
  (keep : ∀ b o, b ≠ X.env.locals -> b ∉ X.fs -> b ∉ ch -> s.heap.get? b = some o -> H b = none -> h'.get? b = some o)
  (slot : ∀ b o, b ≠ X.env.locals -> b ∈ X.fs -> b ∉ ch -> s.heap.get? b = some o -> H b = none -> ∃ sl, h'.get? b = some { o with slots := sl }) (free : ∀ b o, b ∉ ch -> s.heap.get? b = some o -> H b = none -> H' b = none)
  (there : ∀ b o, b ∉ ch -> s.heap.get? b = some o -> ∃ o', h'.get? b = some o')
  (tups : ∀ b xs, H b = some (.tup xs) -> H' b = some (.tup xs)) (frzs : ∀ b o u, H b = some (.frz o u) -> H' b = some (.frz o u)) (tbls : ∀ b ps, H b = some (.tbl ps) -> ∃ more, H' b = some (.tbl (ps ++ more)))
  (ns : ∀ m, s.heap.Ns X.env.locals m -> h'.Ns X.env.locals m) (hok : HOk X.prog X.w H' h') (hg : AllBare g') :
  Inv X pins σ H' { s with heap := h', gens := g', drawn := d', toks := t' } := by
 have neL : ∀ b o, X.s₀.heap.get? b = some o -> b ≠ X.env.locals := fun b o e => Nat.ne_of_lt (Nat.lt_of_lt_of_le (Heap.lt_size e) I.ok.above)
 have neC : ∀ b o, X.s₀.heap.get? b = some o -> b ∉ X.ex -> b ∉ ch := fun b o e hx hb => by
  rcases (hch b hb).1 with z | z
  · exact hx z
  · exact absurd (Nat.lt_of_lt_of_le (Heap.lt_size e) z) (Nat.lt_irrefl _)
 have cellK : ∀ x c, X.env.cells.lookup x = some c -> ∀ v, s.heap.IsCell c v -> h'.IsCell c v := fun x c e v ⟨o, ho, hd⟩ => by
  have nch : c ∉ ch := fun z => (hch c z).2.2.1 x c e rfl
  by_cases hc : c ∈ X.fs
  · obtain ⟨sl, q⟩ := slot c o (I.cne x c e) hc nch ho (I.freeC x c e)
    exact ⟨_, q, hd⟩
  · exact ⟨o, keep c o (I.cne x c e) hc nch ho (I.freeC x c e), hd⟩
 refine ⟨I.ok, I.os, hg, ⟨fun b o e n hb hx => ?_, fun b o e n hb hx => ?_, fun b o e n hx => ?_, fun b o e hx => ?_, fun b xs e => tups b xs (I.base.tups b xs e), fun b o xs e => frzs b o xs (I.base.frzs b o xs e), fun b ps e => ?_⟩, ?_, fun x c e => ?_, ?_, fun x c e => ?_, fun p hp => ?_, hok, I.len⟩
 · exact keep b o (neL b o e) hb (neC b o e hx) (I.base.keep b o e n hb hx) (I.base.free b o e n hx)
 · obtain ⟨sl, e1⟩ := I.base.slot b o e n hb hx
   obtain ⟨sl', e2⟩ := slot b _ (neL b o e) hb (neC b o e hx) e1 (I.base.free b o e n hx)
   exact ⟨sl', e2⟩
 · obtain ⟨o', e1⟩ := I.base.there b o e hx
   exact free b o' (neC b o e hx) e1 (I.base.free b o e n hx)
 · obtain ⟨o', e1⟩ := I.base.there b o e hx
   exact there b o' (neC b o e hx) e1
 · obtain ⟨m1, e1⟩ := I.base.tbls b ps e
   obtain ⟨m2, e2⟩ := tbls b _ e1
   exact ⟨m1 ++ m2, by rw [e2, Array.append_assoc]⟩
 · obtain ⟨m, hn, hl⟩ := I.loc
   refine ⟨m, ns m hn, fun i x v e1 e2 e3 => ?_⟩
   obtain ⟨u, r, l⟩ := hl i x v e1 e2 e3
   refine ⟨u, r, ?_⟩
   rcases l with l | ⟨k, c, e, z⟩
   · exact .inl l
   · exact .inr ⟨k, c, e, cellK x c e _ z⟩
 · obtain ⟨v, z⟩ := I.cell x c e
   exact ⟨v, cellK x c e v z⟩
 · obtain ⟨m, ⟨o, _, _, ho, _⟩, _⟩ := I.loc
   exact free _ o (fun z => (hch _ z).2.1 rfl) ho I.free
 · obtain ⟨v, o, ho, hd⟩ := I.cell x c e
   exact free c o (fun z => (hch c z).2.2.1 x c e rfl) ho (I.freeC x c e)
 · obtain ⟨e, n, ne, nf, d⟩ := I.pin p hp
   have nch : p.1 ∉ ch := fun z => (hch p.1 z).2.2.2 p hp rfl
   exact ⟨keep p.1 p.2 ne nf nch e n, free p.1 p.2 nch e n, ne, nf, d⟩
theorem Inv.un {t' : Nat} (I : Inv X pins σ H s) (u : Un X.fs [] H H' s.heap h') (hok : HOk X.prog X.w H' h') : Inv X pins σ H' { s with heap := h', toks := t' } := by
 obtain ⟨m, ⟨o, es, ep, ho, r⟩, _⟩ := id I.loc
 obtain ⟨sl, hL⟩ := u.any ho I.free (by simp)
 exact I.step (g' := s.gens) (d' := s.drawn) (ch := []) (fun _ z => nomatch z) (fun b o _ hb _ e n => u.keep b o e n hb (by simp)) (fun b o _ hb _ e n => u.slot b o e n hb (by simp)) (fun b o _ e n => u.free b o e n (by simp)) (fun b o _ e => u.there b o e (by simp)) u.tups u.frzs u.tbls (fun m' hm => by
  obtain ⟨o', es', ep', ho', r'⟩ := hm
  rw [ho] at ho'; cases ho'
  exact ⟨_, es', ep', hL, r'⟩) hok I.bare
theorem Inv.call {g' : Array GenState} {t' : Nat} {d' : Drawn} {ch : List Addr} (I : Inv X pins σ H s) (u : Un (frs X.stack) ch H H' s.heap h') (hok : HOk X.prog X.w H' h') (hg : AllBare g')
  (hch : ∀ b ∈ ch, (b ∈ X.ex \/ X.s₀.heap.objs.size <= b) /\ b ≠ X.env.locals /\ (∀ x c, X.env.cells.lookup x = some c -> c ≠ b) /\ ∀ p ∈ X.pn ++ pins, p.1 ≠ b) :
  Inv X pins σ H' { s with heap := h', gens := g', drawn := d', toks := t' } := by
 obtain ⟨m, ⟨o, es, ep, ho, r⟩, _⟩ := id I.loc
 obtain ⟨sl, hL⟩ := u.any ho I.free fun z => (hch _ z).2.1 rfl
 exact I.step (ch := ch) hch (fun b o hL hb hc e n => u.keep b o e n (fun z => (List.mem_cons.mp (I.stkSub b z)).elim hL hb) hc) (fun b o _ _ hc e n => u.any e n hc) (fun b o hc e n => u.free b o e n hc) (fun b o hc e => u.there b o e hc) u.tups u.frzs u.tbls (fun m' hm => by
  obtain ⟨o', es', ep', ho', r'⟩ := hm
  rw [ho] at ho'; cases ho'
  exact ⟨_, es', ep', hL, r'⟩) hok hg
theorem Inv.turned {t' : Nat} {it : Addr} (I : Inv X pins σ H s) (k : ∀ b o, b ≠ it -> s.heap.get? b = some o -> h'.get? b = some o) (hn : H it = none) (hL : it ≠ X.env.locals)
  (h1 : it ∈ X.ex \/ X.s₀.heap.objs.size <= it) (h2 : ∀ x c, X.env.cells.lookup x = some c -> c ≠ it) (h3 : ∀ p ∈ X.pn ++ pins, p.1 ≠ it) : Inv X pins σ H { s with heap := h', toks := t' } := by
 have nit : ∀ b u, H b = some u -> b ≠ it := fun b u e z => by rw [z, hn] at e; cases e
 refine I.step (g' := s.gens) (d' := s.drawn) (ch := [it]) (fun b hb => ?_) (fun b o _ _ hc e _ => k b o (fun z => hc (by simp [z])) e) (fun b o _ _ hc e _ => ⟨o.slots, k b o (fun z => hc (by simp [z])) e⟩) (fun _ _ _ _ n => n)
  (fun b o hc e => ⟨o, k b o (fun z => hc (by simp [z])) e⟩) (fun _ _ e => e) (fun _ _ _ e => e) (fun b ps e => ⟨#[], by rw [e]; simp⟩) (fun m hm => ?_) (fun b u e => ?_) I.bare
 · have e : b = it := by simpa using hb
   subst e
   exact ⟨h1, hL, h2, h3⟩
 · obtain ⟨o, es, ep, ho, r⟩ := hm
   exact ⟨o, es, ep, k _ o (Ne.symm hL) ho, r⟩
 · refine (I.hok b u e).stay (fun c v hc q => k c v ?_ q) (fun _ q => q) fun _ _ q => q
   rcases hc with z | z
   · rw [z]; exact nit b u e
   · exact nit c _ z
theorem Inv.tok (I : Inv X pins σ H s) (t : Nat) : Inv X pins σ H { s with toks := t } := I.un (h' := s.heap) (t' := t) Un.refl I.hok
theorem Inv.kept {t' : Nat} (I : Inv X pins σ H s) (k : ∀ b u, s.heap.get? b = some u -> h'.get? b = some u) : Inv X pins σ H { s with heap := h', toks := t' } := I.un (Un.kept k) (I.hok.kept k)
theorem Inv.laid {a : Addr} {o : HO} {t' : Nat} (I : Inv X pins σ H s) (k : ∀ b u, s.heap.get? b = some u -> h'.get? b = some u) (hp : s.heap.objs.size <= a) (new : ObjOk X.prog X.w (upd H a o) h' a o) :
  Inv X pins σ (upd H a o) { s with heap := h', toks := t' } := I.un (Un.laid k hp (I.hok.fresh hp)) (I.hok.laid k hp new)
theorem Inv.write {x e : Addr} {o : HO} {t' : Nat} (I : Inv X pins σ H s) (mu : Mut (H x)) (he : e = x \/ H e = some (.own x)) (k : ∀ b u, b ≠ e -> s.heap.get? b = some u -> h'.get? b = some u) (heo : ∃ u, h'.get? e = some u)
  (new : ObjOk X.prog X.w (upd H x o) h' x o) : Inv X pins σ (upd H x o) { s with heap := h', toks := t' } := I.un (Un.write mu he k heo) (I.hok.write mu he k heo new)
theorem Inv.pins_of {pins' : List (Addr × Obj)} (I : Inv X pins σ H s) (h : ∀ p ∈ pins', s.heap.get? p.1 = some p.2 /\ H p.1 = none /\ p.1 ≠ X.env.locals /\ p.1 ∉ X.fs /\ ∀ v, p.2.data ≠ .cell v) : Inv X pins' σ H s :=
 ⟨I.ok, I.os, I.bare, I.base, I.loc, I.cell, I.free, I.freeC, fun p hp => (List.mem_append.mp hp).elim (fun z => I.pin p (List.mem_append_left _ z)) (h p), I.hok, I.len⟩
theorem nodup_ix {N : List Str} (hN : N.Nodup) {i j : Nat} {x : Str} (a : N[i]? = some x) (b : N[j]? = some x) : i = j := by
 obtain ⟨h1, e1⟩ := List.getElem?_eq_some_iff.mp a
 obtain ⟨h2, e2⟩ := List.getElem?_eq_some_iff.mp b
 exact (List.getElem_inj hN).mp (e1.trans e2.symm)
theorem store_ok2 {M : Model} {A : Around} {E : Value -> Shared -> Prop} {i : Nat} {x : Str} {v : V} {u : Value} {Q : Unit -> Shared -> Prop} (I : Inv X pins σ H s) (hN : X.N.Nodup) (hi : X.N[i]? = some x) (hx : Loc X.env.scope x) (r : RelV v u)
  (h : ∀ s', Inv X pins (σ.set i (some v)) H s' -> (∃ a, Heap.SameBut a s.heap s'.heap /\ (a = X.env.locals \/ X.env.cells.lookup x = some a)) -> Q () s') (hf : X.fn x = true \/ X.env.scope.names.lookup x = some .local := by first | exact .inl rfl | exact .inr rfl | assumption) : wpAny M A (storeName X.env x u) Q E s := by
 obtain ⟨m, hn, hl⟩ := id I.loc
 have hcls : (X.env.scope.kind == .class || (X.env.scope.kind == .module && X.env.locals != X.env.globals)) = false := by rw [I.ok.kind]; rfl
 have hiσ : i < σ.length := by rw [I.len]; exact (List.getElem?_eq_some_iff.mp hi).1
 have cne := I.cne
 have tracked : ∀ {a : Addr} {h' : Heap}, (∃ o, s.heap.get? a = some o /\ H a = none) -> Heap.SameBut a s.heap h' -> HOk X.prog X.w H h' := fun {a h'} ha hs b ob e => by
  obtain ⟨_, _, hfree⟩ := ha
  refine (I.hok b ob e).stay (fun c w' hc q => (hs.2 c ?_).trans q) (fun _ q => q) fun _ _ q => q
  rintro rfl
  rcases hc with rfl | hc
  · rw [hfree] at e; cases e
  · rw [hfree] at hc; cases hc
 rcases hx with hk | hk
 · refine wpAny_storeName_local hk hn (fun h' hn' hs => ?_) hcls
   obtain ⟨oL, _, _, hoL, _⟩ := id hn
   refine h _ ⟨I.ok, I.os, I.bare, ⟨fun b o e n hb hx => ?_, fun b o e n hb hx => ?_, I.base.free, fun b o e hx => ?_, I.base.tups, I.base.frzs, I.base.tbls⟩, ⟨_, hn', fun j y v' e1 e2 e3 => ?_⟩, fun y c e => ?_, I.free, I.freeC, fun p hp => ?_, tracked ⟨oL, hoL, I.free⟩ hs, by simpa using I.len⟩ ⟨_, hs, .inl rfl⟩
   · exact (hs.2 b (Nat.ne_of_lt (Nat.lt_of_lt_of_le (Heap.lt_size e) I.ok.above))).trans (I.base.keep b o e n hb hx)
   · obtain ⟨sl, e1⟩ := I.base.slot b o e n hb hx
     exact ⟨sl, (hs.2 b (Nat.ne_of_lt (Nat.lt_of_lt_of_le (Heap.lt_size e) I.ok.above))).trans e1⟩
   · obtain ⟨o', e1⟩ := I.base.there b o e hx
     exact ⟨o', (hs.2 b (Nat.ne_of_lt (Nat.lt_of_lt_of_le (Heap.lt_size e) I.ok.above))).trans e1⟩
   · by_cases hj : j = i
     · subst hj
       rw [hi] at e1; cases e1
       rw [List.getElem?_set_self hiσ] at e2
       cases e2
       exact ⟨u, r, .inl ⟨hk, by simp⟩⟩
     · rw [List.getElem?_set_ne (Ne.symm hj)] at e2
       obtain ⟨u', r', q⟩ := hl j y v' e1 e2 e3
       refine ⟨u', r', ?_⟩
       rcases q with ⟨k, e⟩ | ⟨k, c, e, z⟩
       · refine .inl ⟨k, ?_⟩
         have : y ≠ x := fun e => hj (nodup_ix hN e1 (e ▸ hi))
         simp [this, e]
       · exact .inr ⟨k, c, e, z.sameBut hs (cne y c e)⟩
   · obtain ⟨w', z⟩ := I.cell y c e
     exact ⟨w', z.sameBut hs (cne y c e)⟩
   · obtain ⟨e, n, ne, nf, d⟩ := I.pin p hp
     exact ⟨(hs.2 p.1 ne).trans e, n, ne, nf, d⟩
 · have hfn : X.fn x = true := by
    rcases hf with z | z
    · exact z
    · rw [z] at hk; cases hk
   obtain ⟨c, hc⟩ := I.ok.has x (.inl hk)
   obtain ⟨w', z⟩ := I.cell x c hc
   refine wpAny_storeName_cell I.ok.kind hk hc z (fun h' hc' hs => ?_)
   obtain ⟨oc, hoc, hocd⟩ := id z
   refine h { s with heap := h' } ⟨I.ok, I.os, I.bare, ⟨fun b o e n hb hx => ?_, fun b o e n hb hx => ?_, I.base.free, fun b o e hx => ?_, I.base.tups, I.base.frzs, I.base.tbls⟩, ⟨m, hn.sameBut hs (Ne.symm (cne x c hc)), fun j y v' e1 e2 e3 => ?_⟩, fun y c' e => ?_, I.free, I.freeC, fun p hp => ?_, tracked ⟨oc, hoc, I.freeC x c hc⟩ hs, by simpa using I.len⟩ ⟨c, hs, .inr hc⟩
   · exact (hs.2 b (Nat.ne_of_lt (Nat.lt_of_lt_of_le (Heap.lt_size e) (I.ok.cab x c hfn hc)))).trans (I.base.keep b o e n hb hx)
   · obtain ⟨sl, e1⟩ := I.base.slot b o e n hb hx
     exact ⟨sl, (hs.2 b (Nat.ne_of_lt (Nat.lt_of_lt_of_le (Heap.lt_size e) (I.ok.cab x c hfn hc)))).trans e1⟩
   · obtain ⟨o', e1⟩ := I.base.there b o e hx
     exact ⟨o', (hs.2 b (Nat.ne_of_lt (Nat.lt_of_lt_of_le (Heap.lt_size e) (I.ok.cab x c hfn hc)))).trans e1⟩
   · by_cases hj : j = i
     · subst hj
       rw [hi] at e1; cases e1
       rw [List.getElem?_set_self hiσ] at e2
       cases e2
       exact ⟨u, r, .inr ⟨.inl hk, c, hc, hc'⟩⟩
     · rw [List.getElem?_set_ne (Ne.symm hj)] at e2
       obtain ⟨u', r', q⟩ := hl j y v' e1 e2 e3
       refine ⟨u', r', ?_⟩
       rcases q with q | ⟨k, c', e, z'⟩
       · exact .inl q
       · refine .inr ⟨k, c', e, z'.sameBut hs ?_⟩
         rintro rfl
         exact hj (nodup_ix hN e1 (I.ok.inj _ _ _ e hc ▸ hi))
   · by_cases hcc : c' = c
     · subst hcc; exact ⟨_, hc'⟩
     · obtain ⟨w2, z2⟩ := I.cell y c' e
       exact ⟨w2, z2.sameBut hs hcc⟩
   · obtain ⟨e, n, ne, nf, d⟩ := I.pin p hp
     refine ⟨(hs.2 p.1 ?_).trans e, n, ne, nf, d⟩
     intro q
     rw [q, hoc] at e
     have q' : oc = p.2 := Option.some.inj e
     exact d w' (by rw [← q']; exact hocd)
theorem store_ok {M : Model} {A : Around} {E : Value -> Shared -> Prop} {i : Nat} {x : Str} {v : V} {u : Value} {Q : Unit -> Shared -> Prop} (I : Inv X pins σ H s) (hN : X.N.Nodup) (hi : X.N[i]? = some x) (hx : Loc X.env.scope x) (r : RelV v u)
  (h : ∀ s', Inv X pins (σ.set i (some v)) H s' -> Q () s') (hf : X.fn x = true \/ X.env.scope.names.lookup x = some .local := by first | exact .inl rfl | exact .inr rfl | assumption) : wpAny M A (storeName X.env x u) Q E s :=
 store_ok2 I hN hi hx r (fun s' I' _ => h s' I') hf
theorem Inv.call' {s' : Shared} {ch : List Addr} (I : Inv X pins σ H s) (ho : s'.os = s.os) (u : Un (frs X.stack) ch H H' s.heap s'.heap) (hok : HOk X.prog X.w H' s'.heap) (hg : AllBare s'.gens)
  (hch : ∀ b ∈ ch, (b ∈ X.ex \/ X.s₀.heap.objs.size <= b) /\ b ≠ X.env.locals /\ (∀ x c, X.env.cells.lookup x = some c -> c ≠ b) /\ ∀ p ∈ X.pn ++ pins, p.1 ≠ b) : Inv X pins σ H' s' := by
 obtain ⟨h', g', d', t', o'⟩ := s'
 have e : o' = s.os := ho
 subst e
 exact I.call (g' := g') (t' := t') (d' := d') u hok hg hch
end
abbrev XK := Value -> Option Addr -> Hp -> Prop
abbrev St := List (Option V)
abbrev VK := V -> Hp -> Prop
abbrev TE := St -> Hp -> VK -> Prop
abbrev TT := St -> Hp -> (Bool -> Hp -> Prop) -> Prop
abbrev TA := St -> Hp -> (List V -> Hp -> Prop) -> Prop
structure Ends where
 nx : St -> Hp -> Prop
 rt : VK
 bk : St -> Hp -> Prop := fun _ _ => False
 ct : St -> Hp -> Prop := fun _ _ => False
abbrev TS := Ends -> St -> Hp -> Prop
def EP (X : Cx) (pins : List (Addr × Obj)) (σ : St) (Q : VK) (u : Value) (s' : Shared) : Prop := ∃ v H', Inv X pins σ H' s' /\ RelV v u /\ Q v H'
def TP (X : Cx) (pins : List (Addr × Obj)) (σ : St) (Q : Bool -> Hp -> Prop) (b : Bool) (s' : Shared) : Prop := ∃ H', Inv X pins σ H' s' /\ Q b H'
def AP (X : Cx) (pins : List (Addr × Obj)) (σ : St) (Q : List V -> Hp -> Prop) (us : List Value) (s' : Shared) : Prop := ∃ vs H', Inv X pins σ H' s' /\ Vals vs us /\ Q vs H'
def SP (X : Cx) (pins : List (Addr × Obj)) (D : Ends) (f : Flow) (s' : Shared) : Prop :=
 match f with
 | .next => ∃ σ' H', Inv X pins σ' H' s' /\ D.nx σ' H'
 | .brk => ∃ σ' H', Inv X pins σ' H' s' /\ D.bk σ' H'
 | .cont => ∃ σ' H', Inv X pins σ' H' s' /\ D.ct σ' H'
 | .ret u => ∃ v σ' H', Inv X pins σ' H' s' /\ RelV v u /\ D.rt v H'
def PE (X : Cx) (e : Expr) (t : TE) : Prop :=
 ∀ (pins : List (Addr × Obj)) (s : Shared) (σ : St) (H : Hp) (Q : VK), Inv X pins σ H s -> t σ H Q -> wpAny (model X.prog X.w) X.A (eval e X.env) (EP X pins σ Q) X.xe s
def PT (X : Cx) (e : Expr) (t : TT) : Prop :=
 ∀ (pins : List (Addr × Obj)) (s : Shared) (σ : St) (H : Hp) (Q : Bool -> Hp -> Prop), Inv X pins σ H s -> t σ H Q -> wpAny (model X.prog X.w) X.A (isTrue e X.env (eval e X.env)) (TP X pins σ Q) X.xe s
def PW (X : Cx) (e : Expr) (t : TT) : Prop :=
 ∀ (whole : Sem Value) (pins : List (Addr × Obj)) (s : Shared) (σ : St) (H : Hp) (Q : Bool -> Hp -> Prop), Inv X pins σ H s -> t σ H Q -> wpAny (model X.prog X.w) X.A (isTrue e X.env whole) (TP X pins σ Q) X.xe s
theorem PW.pt {X : Cx} {e : Expr} {t : TT} (h : PW X e t) : PT X e t := h _
def PA (X : Cx) (es : List Expr) (t : TA) : Prop :=
 ∀ (pos : Pos) (pins : List (Addr × Obj)) (s : Shared) (σ : St) (H : Hp) (Q : List V -> Hp -> Prop), Inv X pins σ H s -> t σ H Q -> wpAny (model X.prog X.w) X.A (spliced (backTo pos (starEach es X.env))) (AP X pins σ Q) X.xe s
def PS (X : Cx) (st : Stmt) (t : TS) : Prop :=
 ∀ (pins : List (Addr × Obj)) (s : Shared) (σ : St) (H : Hp) (D : Ends), Inv X pins σ H s -> t D σ H -> wpAny (model X.prog X.w) X.A (exec st X.env) (SP X pins D) X.xe s
def PSs (X : Cx) (st : List Stmt) (t : TS) : Prop :=
 ∀ (pins : List (Addr × Obj)) (s : Shared) (σ : St) (H : Hp) (D : Ends), Inv X pins σ H s -> t D σ H -> wpAny (model X.prog X.w) X.A (execs st X.env) (SP X pins D) X.xe s
theorem thn {α : Type} {t : Sem α} {Q Q' : α -> Shared -> Prop} {M : Model} {A : Around} {E : Value -> Shared -> Prop} {s : Shared} (h : wpAny M A t Q E s) (hQ : ∀ a s, Q a s -> Q' a s) : wpAny M A t Q' E s := wpAny_mono h hQ fun _ _ x => x
end L2
namespace L2
open PySem PySem.Spec PyProof.Rows
section
variable {X : Cx}
def tVar (i : Nat) : TE := fun σ H Q => ∃ v, σ[i]? = some (some v) /\ Q v H
def tC (v : V) : TE := fun _ H Q => Q v H
theorem pe_var {i : Nat} {x : Str} {pos : Pos} (hN : X.N[i]? = some x) (hv : Vis X.env.scope x) (hd : (x == ("__debug__" : Str)) = false := by decide) (hcd : (x == ("__classdict__" : Str)) = false := by decide) : PE X (.Name x pos) (tVar i) := by
 intro pins s σ H Q I h
 obtain ⟨v, e, h⟩ := h
 obtain ⟨m, hn, hl⟩ := I.loc
 obtain ⟨u, r, l⟩ := hl i x v hN e hv
 have fin : EP X pins σ Q u s := ⟨v, H, I, r, h⟩
 rcases l with ⟨hk, hm⟩ | ⟨hk, c, hc, hcell⟩
 · exact wpAny_Name (wpAny_loadName_local I.ok.kind hk hn hm fin) hd
 · rcases hk with hk | hk
   · exact wpAny_Name (wpAny_loadName_cell I.ok.kind hk hc hcell fin) hd
   · exact wpAny_Name (wpAny_loadName_free I.ok.kind hk hc hcell fin hcd) hd
theorem pe_int {i j pos} : PE X (.Constant (.int i) j pos) (tC (.int i)) := fun _ _ _ H _ I h => wpAny_Constant_int ⟨.int i, H, I.tok _, ⟨_, rfl⟩, h⟩
theorem pe_bl {b j pos} : PE X (.Constant (.bool b) j pos) (tC (.bl b)) := fun _ _ _ H _ I h => Constant_bool ⟨.bl b, H, I, rfl, h⟩
theorem pe_non {j pos} : PE X (.Constant .none j pos) (tC .non) := fun _ _ _ H _ I h => Constant_none ⟨.non, H, I, rfl, h⟩
def Gl (X : Cx) (x : Str) : Prop := X.env.kindOf x = some .globalImplicit
theorem ld_glob {E : Value -> Shared -> Prop} {pins : List (Addr × Obj)} {s : Shared} {σ : St} {H : Hp} {x : Str} {u : Value} {pos : Pos} {Q : Value -> Shared -> Prop} (I : Inv X pins σ H s) (hg : Gl X x) (hm : X.mg x = some u) (h : Q u s)
  (hd : (x == ("__debug__" : Str)) = false := by decide) : wpAny (model X.prog X.w) X.A (eval (.Name x pos) X.env) Q E s :=
 Calls.Name_function_global I.ok.kind hg (Calls.loadGlobal_global (by rw [I.ok.glob]; exact I.mod.glob.keeps I.bk) hm h) hd
theorem ld_blt {E : Value -> Shared -> Prop} {pins : List (Addr × Obj)} {s : Shared} {σ : St} {H : Hp} {x : Str} {u : Value} {pos : Pos} {Q : Value -> Shared -> Prop} (I : Inv X pins σ H s) (hg : Gl X x) (hm : X.mg x = none) (hv : bootBuiltins x = some u) (h : Q u s)
  (hn : x ≠ "__name__" := by decide) (hd : (x == ("__debug__" : Str)) = false := by decide) : wpAny (model X.prog X.w) X.A (eval (.Name x pos) X.env) Q E s := by
 obtain ⟨mb, h1, h2⟩ := I.mod.blt
 exact Calls.Name_function_global I.ok.kind hg (Calls.loadGlobal_builtin (by rw [I.ok.glob]; exact I.mod.glob.keeps I.bk) hm (by rw [I.ok.blt]; exact h1.keeps I.bk) ((h2 x hn).trans hv) h) hd
theorem pe_bltn {x : Str} {v : V} {u : Value} {pos : Pos} (hg : Gl X x) (hm : X.mg x = none) (hv : bootBuiltins x = some u) (r : RelV v u) (hn : x ≠ "__name__" := by decide) (hd : (x == ("__debug__" : Str)) = false := by decide) : PE X (.Name x pos) (tC v) :=
 fun _ _ _ H _ I h => ld_blt I hg hm hv ⟨v, H, I, r, h⟩ hn hd
variable {a b : Expr} {ta tb : TE} {pos : Pos}
def tB (t : TE) : TT := fun σ H Q => t σ H fun x H1 => ∃ c, x = .bl c /\ Q c H1
theorem pt_val {e : Expr} {t : TE} (h : PE X e t) (he : ∀ whole, isTrue e X.env whole = (do let v ← whole; standAt e.pos; holding [v] (truthy v)) := by intro _; rfl) : PT X e (tB t) := by
 intro pins s σ H Q I hw
 refine isTrue_plain (thn (h pins s σ H _ I hw) fun v s1 ⟨x, H1, I1, r1, q1⟩ => ?_) (he _)
 obtain ⟨d, rfl, q⟩ := q1
 cases r1
 exact wpAny_truthy_bool ⟨H1, I1, q⟩
variable {tA tB' : TT} {rest : List Expr}
def tAnd (t u : TT) : TT := fun σ H Q => t σ H fun c H1 => if c = true then u σ H1 Q else Q false H1
def tOr (t u : TT) : TT := fun σ H Q => t σ H fun c H1 => if c = true then Q true H1 else u σ H1 Q
def tNot (t : TT) : TT := fun σ H Q => t σ H fun c H1 => Q (!c) H1
theorem pw_and1 (ha : PT X a tA) : PW X (.BoolOp .And [a] pos) tA := by
 intro wh pins s σ H Q I h
 refine isTrue_and (thn (ha pins s σ H Q I h) fun c s1 e => ?_)
 cases c with
 | true => exact isTrue_and_nil e
 | false => exact e
theorem pw_or1 (ha : PT X a tA) : PW X (.BoolOp .Or [a] pos) tA := by
 intro wh pins s σ H Q I h
 refine isTrue_or (thn (ha pins s σ H Q I h) fun c s1 e => ?_)
 cases c with
 | false => exact isTrue_or_nil e
 | true => exact e
theorem pw_and (ha : PT X a tA) (hb : PW X (.BoolOp .And (b :: rest) pos) tB') : PW X (.BoolOp .And (a :: b :: rest) pos) (tAnd tA tB') := by
 intro wh pins s σ H Q I h
 refine isTrue_and (thn (ha pins s σ H _ I h) fun c s1 ⟨H1, I1, q1⟩ => ?_)
 cases c with
 | true => exact hb wh pins s1 σ H1 Q I1 q1
 | false => exact ⟨H1, I1, q1⟩
theorem pw_or (ha : PT X a tA) (hb : PW X (.BoolOp .Or (b :: rest) pos) tB') : PW X (.BoolOp .Or (a :: b :: rest) pos) (tOr tA tB') := by
 intro wh pins s σ H Q I h
 refine isTrue_or (thn (ha pins s σ H _ I h) fun c s1 ⟨H1, I1, q1⟩ => ?_)
 cases c with
 | true => exact ⟨H1, I1, q1⟩
 | false => exact hb wh pins s1 σ H1 Q I1 q1
theorem pt_not (ha : PT X a tA) : PT X (.UnaryOp .Not a pos) (tNot tA) := by
 intro pins s σ H Q I h
 exact isTrue_not (ha pins s σ H (fun c H1 => Q (!c) H1) I h)
def tAndV (ta tb : TE) : TE := fun σ H Q => ta σ H fun x H1 => ∃ c, x = .bl c /\ if c = true then tb σ H1 Q else Q (.bl false) H1
def tOrV (ta tb : TE) : TE := fun σ H Q => ta σ H fun x H1 => ∃ c, x = .bl c /\ if c = true then Q (.bl true) H1 else tb σ H1 Q
def tNotV (ta : TE) : TE := fun σ H Q => ta σ H fun x H1 => ∃ c, x = .bl c /\ Q (.bl (!c)) H1
theorem pe_one {op} {t : TE} (h : PE X a t) : PE X (.BoolOp op [a] pos) t := fun pins s σ H Q I hw => BoolOp_one (h pins s σ H Q I hw)
theorem pe_and (ha : PE X a ta) (hb : PE X (.BoolOp .And (b :: rest) pos) tb) : PE X (.BoolOp .And (a :: b :: rest) pos) (tAndV ta tb) := by
 intro pins s σ H Q I h
 refine BoolOp_and (thn (ha pins s σ H _ I h) fun v s1 ⟨x, H1, I1, r1, q1⟩ => ?_)
 obtain ⟨c, rfl, q1⟩ := q1
 cases r1
 refine wpAny_truthy_bool ?_
 cases c with
 | true => exact hb pins s1 σ H1 Q I1 q1
 | false => exact ⟨.bl false, H1, I1, rfl, q1⟩
theorem pe_not (ha : PE X a ta) : PE X (.UnaryOp .Not a pos) (tNotV ta) := by
 intro pins s σ H Q I h
 refine UnaryOp_ (thn (ha pins s σ H _ I h) fun v s1 ⟨x, H1, I1, r1, q1⟩ => ?_)
 obtain ⟨c, rfl, q1⟩ := q1
 cases r1
 exact not_of (wpAny_truthy_bool ⟨.bl (!c), H1, I1, rfl, q1⟩)
def tIf (t : TT) (ta tb : TE) : TE := fun σ H Q => t σ H fun c H1 => if c = true then ta σ H1 Q else tb σ H1 Q
theorem pe_ifExp {c : Expr} (hc : PT X c tA) (ha : PE X a ta) (hb : PE X b tb) : PE X (.IfExp c a b pos) (tIf tA ta tb) := by
 intro pins s σ H Q I h
 refine wpAny_IfExp (thn (hc pins s σ H _ I h) fun d s1 ⟨H1, I1, q1⟩ => ?_)
 cases d with
 | true => exact ha pins s1 σ H1 Q I1 q1
 | false => exact hb pins s1 σ H1 Q I1 q1
end
end L2
namespace L2
open PySem PySem.Spec PyProof.Rows
def SqL (K : PySem.W.Frag) (H : Hp) (a : Addr) (xs : List V) : Prop :=
 Rd H a (.lst xs) \/
  ∃ (o : Obj) (its : Array Value) (n : Nat), K.lookup a = some o /\ o.cls = .type "list" /\ o.dict = none /\ o.data = .seq its n /\ its.size <= sizeLine /\ Vals xs its.toList
def SqT (K : PySem.W.Frag) (H : Hp) (a : Addr) (xs : List V) : Prop :=
 Rd H a (.tup xs) \/
  ∃ (o : Obj) (its : Array Value) (n : Nat), K.lookup a = some o /\ o.cls = .type "tuple" /\ o.data = .seq its n /\ its.size <= sizeLine /\ Vals xs its.toList
def absV : Value -> Option V
 | .none => some .non
 | .bool b => some (.bl b)
 | .int i _ => some (.int i)
 | .str x _ => some (.str x)
 | .bytes b _ => some (.byt b)
 | .float b _ => some (.flt b)
 | .ref a => some (.ref a)
 | .type n => some (.ty n)
 | _ => none
theorem RelV.abs {x : V} {u : Value} (r : RelV x u) : absV u = some x := by
 cases x with
 | non => cases r; rfl
 | bl _ => cases r; rfl
 | int _ => obtain ⟨t, rfl⟩ := r; rfl
 | str _ => obtain ⟨t, rfl⟩ := r; rfl
 | byt _ => obtain ⟨t, rfl⟩ := r; rfl
 | flt _ => obtain ⟨t, rfl⟩ := r; rfl
 | ref _ => cases r; rfl
 | ty _ => cases r; rfl
theorem RelV.inj {x y : V} {u : Value} (r : RelV x u) (q : RelV y u) : x = y := Option.some.inj (r.abs.symm.trans q.abs)
theorem Vals.inj : ∀ {xs ys : List V} {us : List Value}, Vals xs us -> Vals ys us -> xs = ys
 | _, _, _, .nil, .nil => rfl
 | _, _, _, .cons r t, .cons r' t' => by rw [r.inj r', Vals.inj t t']
section
variable {X : Cx} {pins : List (Addr × Obj)} {σ : St} {H : Hp} {s : Shared} {a : Addr} {xs ys : List V}
theorem SqL.of {K : PySem.W.Frag} (h : H a = some (.lst xs)) : SqL K H a xs := .inl (.inl h)
theorem SqT.of {K : PySem.W.Frag} (h : H a = some (.tup xs)) : SqT K H a xs := .inl (.inl h)
theorem Inv.list (I : Inv X pins σ H s) (h : SqL X.K H a xs) : ∃ its : List Value, Vals xs its /\ PlainL s.heap a its.toArray /\ xs.length <= sizeLine := by
 rcases h with h | ⟨o, its, n, hk, hc, hd, hs, hz, r⟩
 · obtain ⟨z, its, n, r, e⟩ := h.ok I.hok
   exact ⟨its, r, ⟨_, n, e, rfl, rfl, rfl⟩, z⟩
 · refine ⟨its.toList, r, ⟨o, n, I.kIn a o hk, hc, hd, by simpa using hs⟩, ?_⟩
   have e := r.length
   simp only [Array.length_toList] at e
   omega
theorem Inv.tuple (I : Inv X pins σ H s) (h : SqT X.K H a xs) : ∃ its : List Value, Vals xs its /\ IsTup s.heap a its.toArray /\ xs.length <= sizeLine := by
 rcases h with h | ⟨o, its, n, hk, hc, hs, hz, r⟩
 · obtain ⟨z, its, r, p⟩ := h.ok I.hok
   exact ⟨its, r, p, z⟩
 · refine ⟨its.toList, r, ⟨o, I.kIn a o hk, hc, n, by simpa using hs⟩, ?_⟩
   have e := r.length
   simp only [Array.length_toList] at e
   omega
theorem Inv.list_inj (I : Inv X pins σ H s) (h : SqL X.K H a xs) (h' : SqL X.K H a ys) : xs = ys := by
 obtain ⟨its, r, ⟨o, n, e, _, _, d⟩, _⟩ := I.list h
 obtain ⟨its', r', ⟨o', n', e', _, _, d'⟩, _⟩ := I.list h'
 rw [e] at e'; cases e'
 rw [d] at d'
 injection d' with d1 _
 have : its = its' := by simpa using congrArg Array.toList d1
 subst this
 exact r.inj r'
end
abbrev Cx.wish (X : Cx) (E : Value -> Shared -> Prop) : Cx := { X with xe := E }
abbrev Cx.nox (X : Cx) : Cx := X.wish fun _ _ => False
theorem Cx.Ok.wish {X : Cx} (ok : X.Ok) (E : Value -> Shared -> Prop) : (X.wish E).Ok :=
 ⟨ok.mod, ok.kind, ok.glob, ok.blt, ok.above, ok.inj, ok.has, ok.cab, ok.hd, ok.frames, ok.stk, ok.exf, ok.bs, ok.bsz, ok.noex, ok.exfs, ok.funs, ok.frf⟩
theorem Cx.Ok.unwish {X : Cx} {E : Value -> Shared -> Prop} (ok : (X.wish E).Ok) : X.Ok :=
 ⟨ok.mod, ok.kind, ok.glob, ok.blt, ok.above, ok.inj, ok.has, ok.cab, ok.hd, ok.frames, ok.stk, ok.exf, ok.bs, ok.bsz, ok.noex, ok.exfs, ok.funs, ok.frf⟩
section
variable {X : Cx} {pins : List (Addr × Obj)} {σ : St} {H : Hp} {s : Shared} {E : Value -> Shared -> Prop}
theorem Inv.wish (I : Inv X pins σ H s) (E : Value -> Shared -> Prop) : Inv (X.wish E) pins σ H s := ⟨I.ok.wish E, I.os, I.bare, I.base, I.loc, I.cell, I.free, I.freeC, I.pin, I.hok, I.len⟩
theorem Inv.unwish (I : Inv (X.wish E) pins σ H s) : Inv X pins σ H s := ⟨I.ok.unwish, I.os, I.bare, I.base, I.loc, I.cell, I.free, I.freeC, I.pin, I.hok, I.len⟩
theorem SP.unwish {D : Ends} {f : Flow} {s' : Shared} (h : SP (X.wish E) pins D f s') : SP X pins D f s' := by
 cases f with
 | next => obtain ⟨σ', H', I, q⟩ := h; exact ⟨σ', H', I.unwish, q⟩
 | brk => obtain ⟨σ', H', I, q⟩ := h; exact ⟨σ', H', I.unwish, q⟩
 | cont => obtain ⟨σ', H', I, q⟩ := h; exact ⟨σ', H', I.unwish, q⟩
 | ret u => obtain ⟨v, σ', H', I, r, q⟩ := h; exact ⟨v, σ', H', I.unwish, r, q⟩
theorem PSs.nox {st : List Stmt} {t : TS} (h : PSs X.nox st t) : PSs X st t := fun pins s σ H D I hw =>
 wpAny_mono (h pins s σ H D (I.wish _) hw) (fun _ _ q => q.unwish) fun _ _ z => False.elim z
end
section
variable {X : Cx} {st : Stmt} {rest : List Stmt} {t u : TS} {e : Expr} {te : TE} {pos : Pos}
def tNext : TS := fun D σ H => D.nx σ H
def tSeq (t u : TS) : TS := fun D σ H => t { D with nx := u D } σ H
theorem pss_nil : PSs X [] tNext := fun _ _ σ H _ I h => wpAny_execs_nil ⟨σ, H, I, h⟩
theorem pss_cons (h1 : PS X st t) (h2 : PSs X rest u) : PSs X (st :: rest) (tSeq t u) := by
 intro pins s σ H D I h
 refine wpAny_execs_cons (thn (h1 pins s σ H { D with nx := u D } I h) fun f s1 q => ?_)
 cases f with
 | next =>
  obtain ⟨σ', H', I', q⟩ := q
  exact h2 pins s1 σ' H' D I' q
 | ret v => exact q
 | brk => exact q
 | cont => exact q
theorem pss_one (h1 : PS X st t) : PSs X [st] t := by
 intro pins s σ H D I h
 refine wpAny_execs_cons (thn (h1 pins s σ H D I h) fun f s1 q => ?_)
 cases f with
 | next => exact wpAny_execs_nil q
 | ret v => exact q
 | brk => exact q
 | cont => exact q
theorem Inv.quiet {pins : List (Addr × Obj)} {σ : St} {H : Hp} {s : Shared} (I : Inv X pins σ H s) : interactive X.env = false := by simp [interactive, I.ok.kind]
def tDrop (te : TE) : TS := fun D σ H => te σ H fun _ H1 => D.nx σ H1
theorem ps_expr (he : PE X e te) (hs : swapsWith e none pos.line X.env = pure false := by rfl) : PS X (.Expr e pos) (tDrop te) := by
 intro pins s σ H D I h
 exact wpAny_Expr_any (thn (he pins s σ H _ I h) fun v s1 ⟨x, H1, I1, r1, q1⟩ => ⟨σ, H1, I1, q1⟩) I.quiet hs
def tRet (te : TE) : TS := fun D σ H => te σ H D.rt
theorem ps_ret (he : PE X e te) : PS X (.Return (some e) pos) (tRet te) := by
 intro pins s σ H D I h
 exact wpAny_Return_some (thn (he pins s σ H _ I h) fun v s1 ⟨x, H1, I1, r1, q1⟩ => ⟨x, σ, H1, I1, r1, q1⟩)
def tIfS (c : TT) (t u : TS) : TS := fun D σ H => c σ H fun b H1 => if b = true then t D σ H1 else u D σ H1
theorem ps_if {c : Expr} {a b : List Stmt} {tc : TT} (hc : PT X c tc) (ha : PSs X a t) (hb : PSs X b u) : PS X (.If c a b pos) (tIfS tc t u) := by
 intro pins s σ H D I h
 refine wpAny_If (thn (hc pins s σ H _ I h) fun d s1 ⟨H1, I1, q1⟩ => ?_)
 cases d with
 | true => exact ha pins s1 σ H1 D I1 q1
 | false => exact hb pins s1 σ H1 D I1 q1
def tNever : TS := fun _ _ _ => False
theorem pss_never {sts : List Stmt} : PSs X sts tNever := fun _ _ _ _ _ _ h => h.elim
end
abbrev TG := V -> St -> Hp -> (St -> Hp -> Prop) -> Prop
abbrev TGs := List V -> St -> Hp -> (St -> Hp -> Prop) -> Prop
def PG (X : Cx) (target : Expr) (t : TG) : Prop :=
 ∀ (pins : List (Addr × Obj)) (s : Shared) (σ : St) (H : Hp) (v : V) (u : Value) (Q : St -> Hp -> Prop), Inv X pins σ H s -> RelV v u -> t v σ H Q ->
  wpAny (model X.prog X.w) X.A (assign target X.env u) (fun _ s' => ∃ σ' H', Inv X pins σ' H' s' /\ Q σ' H') X.xe s
def PGs (X : Cx) (ts : List Expr) (t : TGs) : Prop :=
 ∀ (pins : List (Addr × Obj)) (s : Shared) (σ : St) (H : Hp) (vs : List V) (us : List Value) (Q : St -> Hp -> Prop), Inv X pins σ H s -> Vals vs us -> t vs σ H Q ->
  wpAny (model X.prog X.w) X.A (assignInOrder ((assignEach ts X.env).map (·.2)) us) (fun _ s' => ∃ σ' H', Inv X pins σ' H' s' /\ Q σ' H') X.xe s
abbrev TSet := V -> V -> V -> Hp -> (Hp -> Prop) -> Prop
def PSet (X : Cx) (t : TSet) : Prop :=
 ∀ (pins : List (Addr × Obj)) (s : Shared) (σ : St) (H : Hp) (o i v : V) (ov iv u : Value) (Q : Hp -> Prop), Inv X pins σ H s -> RelV o ov -> RelV i iv -> RelV v u -> t o i v H Q ->
  wpAny (model X.prog X.w) X.A (setItem ov iv u) (fun _ s' => ∃ H', Inv X pins σ H' s' /\ Q H') X.xe s
abbrev TIp := V -> V -> Hp -> VK -> Prop
def PIp (X : Cx) (op : Operator) (t : TIp) : Prop :=
 ∀ (pins : List (Addr × Obj)) (s : Shared) (σ : St) (H : Hp) (x y : V) (v u : Value) (Q : VK), Inv X pins σ H s -> RelV x v -> RelV y u -> t x y H Q ->
  wpAny (model X.prog X.w) X.A (inplaceOp op v u) (EP X pins σ Q) X.xe s
section
variable {X : Cx} {pos : Pos}
def gName (i : Nat) : TG := fun v σ H Q => Q (σ.set i (some v)) H
theorem pg_name {i : Nat} {x : Str} (hN : X.N.Nodup) (hi : X.N[i]? = some x) (hx : Loc X.env.scope x) (hf : X.fn x = true \/ X.env.scope.names.lookup x = some .local := by first | exact .inl rfl | exact .inr rfl | assumption) : PG X (.Name x pos) (gName i) := by
 intro pins s σ H v u Q I r h
 exact wpAny_assign_Name (store_ok I hN hi hx r (fun s' I' => ⟨_, H, I', h⟩) hf)
def gNil : TGs := fun vs σ H Q => vs = [] /\ Q σ H
def gCons (t : TG) (u : TGs) : TGs := fun vs σ H Q => ∃ v r, vs = v :: r /\ t v σ H fun σ' H' => u r σ' H' Q
theorem pgs_nil : PGs X [] gNil := by
 intro pins s σ H vs us Q I r h
 obtain ⟨e, h⟩ := h
 subst e
 cases r
 exact assignInOrder_nil ⟨σ, H, I, h⟩
theorem pgs_cons {e : Expr} {es : List Expr} {t : TG} {u : TGs} (h1 : PG X e t) (h2 : PGs X es u)
  (hs : (assignEach (e :: es) X.env).map (·.2) = assign e X.env :: (assignEach es X.env).map (·.2) := by rfl) : PGs X (e :: es) (gCons t u) := by
 intro pins s σ H vs us Q I r h
 obtain ⟨v, vr, e1, h⟩ := h
 subst e1
 cases r with
 | cons r rr =>
  rw [hs]
  refine assignInOrder_cons (thn (h1 pins s σ H _ _ _ I r h) fun _ s1 ⟨σ1, H1, I1, q1⟩ => ?_)
  exact h2 pins s1 σ1 H1 _ _ Q I1 rr q1
def gTup (K : PySem.W.Frag) (n : Nat) (t : TGs) : TG := fun v σ H Q => ∃ a xs, v = .ref a /\ SqT K H a xs /\ xs.length = n /\ t xs σ H Q
theorem pg_tup {es : List Expr} {k : Nat} {t : TGs} {n : Nat} (hc : X.calm = true) (h : PGs X es t)
  (hn : (assignEach es X.env).length = n := by rfl) (hst : (assignEach es X.env).findIdx? (·.1) = none := by rfl) : PG X (.Tuple es k pos) (gTup X.K n t) := by
 intro pins s σ H v u Q I r hw
 obtain ⟨a, xs, e1, hq, hl, hw⟩ := hw
 subst e1
 cases r
 obtain ⟨its, rv, ht, hz⟩ := I.tuple hq
 refine assign_Tuple_tuple (I.ok.hd hc) ht (by simp [hn, ← hl, rv.length]) hst fun h' hx => ?_
 have I1 : Inv X pins σ H { s with heap := h' } := I.kept (t' := s.toks) fun b o e => hx b o (Nat.ne_of_lt (Heap.lt_size e)) e
 exact h pins _ σ H xs _ Q I1 (by simpa using rv) hw
def gSub (to ti : TE) (t : TSet) : TG := fun v σ H Q => to σ H fun o H1 => ti σ H1 fun i H2 => t o i v H2 fun H3 => Q σ H3
theorem pg_sub {o i : Expr} {to ti : TE} {t : TSet} (ho : PE X o to) (hi : PE X i ti) (hs : PSet X t)
  (ha : ∀ v, assign (.Subscript o i pos) X.env v = (do
   let ov ← holding [v] (eval o X.env)
   let iv ← holding [v, ov] (eval i X.env)
   standAt pos
   holding [v, ov, iv] (setItem ov iv v)
   release [v, ov, iv] []) := by intro _; rfl) : PG X (.Subscript o i pos) (gSub to ti t) := by
 intro pins s σ H v u Q I r h
 rw [ha]
 refine wpAny_bind (wpAny_holding (thn (ho pins s σ H _ I h) fun ov s1 ⟨x, H1, I1, r1, q1⟩ => ?_))
 refine wpAny_bind (wpAny_holding (thn (hi pins s1 σ H1 _ I1 q1) fun iv s2 ⟨y, H2, I2, r2, q2⟩ => ?_))
 refine wpAny_bind (wpAny_standAt (wpAny_bind (wpAny_holding (thn (hs pins s2 σ H2 x y v ov iv u _ I2 r1 r2 r q2) fun _ s3 ⟨H3, I3, q3⟩ => ?_))))
 exact wpAny_release ⟨σ, H3, I3, q3⟩
def tAsg (te : TE) (g : TG) : TS := fun D σ H => te σ H fun x H1 => g x σ H1 D.nx
theorem ps_asg {tg e : Expr} {te : TE} {g : TG} (he : PE X e te) (hg : PG X tg g) (hs : swapsWithSole [tg] e pos.line X.env = pure false := by rfl) (hw : swappedStores [tg] e X.env = pure none := by rfl)
  (h1 : (assignEach [tg] X.env).map (·.2) = [assign tg X.env] := by rfl) : PS X (.Assign [tg] e pos) (tAsg te g) := by
 intro pins s σ H D I h
 refine wpAny_Assign_stores (thn (he pins s σ H _ I h) fun v s1 ⟨x, H1, I1, r1, q1⟩ => ?_) hs hw
 rw [h1]
 exact thn (hg pins s1 σ H1 x v _ I1 r1 q1) fun _ s2 q => q
theorem ps_set {i : Nat} {x : Str} {e : Expr} {te : TE} {pos' : Pos} (hN : X.N.Nodup) (hi : X.N[i]? = some x) (hx : Loc X.env.scope x) (he : PE X e te) (hs : swapsWith e (some (.Name x pos')) pos.line X.env = pure false := by rfl) (hf : X.fn x = true \/ X.env.scope.names.lookup x = some .local := by first | exact .inl rfl | exact .inr rfl | assumption) :
  PS X (.Assign [.Name x pos'] e pos) (tAsg te (gName i)) := by
 intro pins s σ H D I h
 refine wpAny_Assign_Name (thn (he pins s σ H _ I h) fun v s1 ⟨y, H1, I1, r1, q1⟩ => ?_) hs
 exact store_ok I1 hN hi hx r1 (fun s2 I2 => ⟨_, H1, I2, q1⟩) hf
def tAugS (to ti te : TE) (tget : V -> V -> Hp -> VK -> Prop) (tip : TIp) (tset : TSet) : TS := fun D σ H => to σ H fun o H1 => ti σ H1 fun i H2 => tget o i H2 fun x H3 => te σ H3 fun y H4 => tip x y H4 fun z H5 => tset o i z H5 fun H6 => D.nx σ H6
def PGet (X : Cx) (t : V -> V -> Hp -> VK -> Prop) : Prop :=
 ∀ (pins : List (Addr × Obj)) (s : Shared) (σ : St) (H : Hp) (o i : V) (ov iv : Value) (Q : VK), Inv X pins σ H s -> RelV o ov -> RelV i iv -> t o i H Q ->
  wpAny (model X.prog X.w) X.A (getItem ov iv) (EP X pins σ Q) X.xe s
theorem ps_augS {o i e : Expr} {to ti te : TE} {tget : V -> V -> Hp -> VK -> Prop} {tip : TIp} {tset : TSet} {op : Operator} {tpos : Pos} (ho : PE X o to) (hi : PE X i ti) (hg : PGet X tget) (he : PE X e te) (hp : PIp X op tip) (hs : PSet X tset)
  (ha : ∀ ov iv new, augStore i ov iv new = (do holding [new, ov, iv] (setItem ov iv new); release [new, ov, iv] []; pure .next) := by intros; rfl) : PS X (.AugAssign (.Subscript o i tpos) op e pos) (tAugS to ti te tget tip tset) := by
 intro pins s σ H D I h
 refine wpAny_AugAssign_SubscriptAny (thn (ho pins s σ H _ I h) fun ov s1 ⟨x1, H1, I1, r1, q1⟩ => ?_) ha
 refine thn (hi pins s1 σ H1 _ I1 q1) fun iv s2 ⟨x2, H2, I2, r2, q2⟩ => ?_
 refine thn (hg pins s2 σ H2 x1 x2 ov iv _ I2 r1 r2 q2) fun old s3 ⟨x3, H3, I3, r3, q3⟩ => ?_
 refine thn (he pins s3 σ H3 _ I3 q3) fun v s4 ⟨x4, H4, I4, r4, q4⟩ => ?_
 refine thn (hp pins s4 σ H4 x3 x4 old v _ I4 r3 r4 q4) fun new s5 ⟨x5, H5, I5, r5, q5⟩ => ?_
 exact thn (hs pins s5 σ H5 x1 x2 x5 ov iv new _ I5 r1 r2 r5 q5) fun _ s6 ⟨H6, I6, q6⟩ => ⟨σ, H6, I6, q6⟩
def ipI (f : Int -> Int -> Int) : TIp := fun x y H Q => ∃ i j, x = .int i /\ y = .int j /\ Q (.int (f i j)) H
theorem ip_add : PIp X .Add (ipI fun i j => i + j) := by
 intro pins s σ H x y v u Q I r1 r2 h
 obtain ⟨i, j, e1, e2, q⟩ := h
 subst e1; subst e2
 obtain ⟨t, rfl⟩ := r1
 obtain ⟨t', rfl⟩ := r2
 exact iadd_int ⟨.int _, H, I.tok _, ⟨_, rfl⟩, q⟩
end
section
variable {X : Cx} {pos : Pos}
end
structure It where
 go : Nat -> Hp -> Prop
 yld : Nat -> Hp -> V -> Hp -> Prop
 stop : Nat -> Hp -> Prop
def FpOk (X : Cx) (pins : List (Addr × Obj)) (H : Hp) (b : Addr) : Prop :=
 H b = none /\ b ≠ X.env.locals /\ b ∉ X.fs /\ (b ∈ X.ex \/ X.s₀.heap.objs.size <= b) /\ (∀ x c, X.env.cells.lookup x = some c -> c ≠ b) /\ ∀ p ∈ X.pn ++ pins, p.1 ≠ b
theorem Inv.fpOk {X : Cx} {pins : List (Addr × Obj)} {σ : St} {H H' : Hp} {s : Shared} {b : Addr} (I : Inv X pins σ H s) (hb : s.heap.objs.size <= b) (hn : H' b = none) : FpOk X pins H' b := by
 refine ⟨hn, Nat.ne_of_gt (Nat.lt_of_lt_of_le I.lt hb), I.nofs hb, .inr (Nat.le_trans I.sz hb), fun x c e z => ?_, fun p hp z => ?_⟩
 · obtain ⟨v, q⟩ := I.cell x c e
   exact absurd (Nat.lt_of_lt_of_le q.lt (by rw [z]; exact hb)) (Nat.lt_irrefl _)
 · exact absurd (Nat.lt_of_lt_of_le (Heap.lt_size (I.pin p hp).1) (by rw [z]; exact hb)) (Nat.lt_irrefl _)
structure Turn (P : Program) (w : World) (K : PySem.W.Frag) (tg : Expr) (J : It) (fp : List Addr) (it : Addr) (tn : Nat -> Heap -> Prop) : Prop where
 mem : it ∈ fp
 obj : ∀ i h, tn i h -> ∀ b ∈ fp, ∃ o, h.get? b = some o /\ ∀ v, o.data ≠ .cell v
 keep : ∀ i h h', tn i h -> (∀ b ∈ fp, ∀ o, h.get? b = some o -> h'.get? b = some o) -> tn i h'
 item : ∀ (X : Cx), X.prog = P -> X.w = w -> X.K = K -> X.calm = true -> ∀ (i : Nat) (pins : List (Addr × Obj)) (s : Shared) (σ : St) (H : Hp) (E : Value -> Shared -> Prop), Inv X pins σ H s -> (∀ b ∈ fp, FpOk X pins H b) -> tn i s.heap -> J.go i H ->
  wpAny (model P w) X.A (pyNext (.ref it)) (fun r s1 => ∃ u, r = some u /\
   wpAny (model P w) X.A (letOwnedTupleGo tg (.ref it) u) (fun _ s2 => ∃ x H', Inv X pins σ H' s2 /\ RelV x u /\ J.yld i H x H' /\ tn (i + 1) s2.heap /\ ∀ b ∈ fp, H' b = none) E s1) E s
 done : ∀ (X : Cx), X.prog = P -> X.w = w -> X.K = K -> X.calm = true -> ∀ (i : Nat) (pins : List (Addr × Obj)) (s : Shared) (σ : St) (H : Hp) (E : Value -> Shared -> Prop), Inv X pins σ H s -> (∀ b ∈ fp, FpOk X pins H b) -> tn i s.heap -> J.stop i H ->
  wpAny (model P w) X.A (pyNext (.ref it)) (fun r s1 => r = none /\ Inv X pins σ H s1) E s
 self : ∀ (A : Around) (i : Nat) (s : Shared) (Q : Value -> Shared -> Prop) (E : Value -> Shared -> Prop), tn i s.heap -> Q (.ref it) s -> wpAny (model P w) A (pyIter (.ref it)) Q E s
abbrev TI := St -> Hp -> (It -> Hp -> Prop) -> Prop
def PIE (X : Cx) (pins : List (Addr × Obj)) (σ : St) (tg : Expr) (R : It -> Hp -> Prop) (itv : Value) (s2 : Shared) : Prop :=
 ∃ (it : Addr) (fp : List Addr) (tn : Nat -> Heap -> Prop) (J : It) (H' : Hp), itv = .ref it /\ Inv X pins σ H' s2 /\ Turn X.prog X.w X.K tg J fp it tn /\ tn 0 s2.heap /\ (∀ b ∈ fp, FpOk X pins H' b) /\ R J H'
def PI (X : Cx) (tg iter : Expr) (wi : TI) : Prop :=
 ∀ (pins : List (Addr × Obj)) (s : Shared) (σ : St) (H : Hp) (R : It -> Hp -> Prop), Inv X pins σ H s -> wi σ H R ->
  wpAny (model X.prog X.w) X.A (eval iter X.env) (fun v s1 => wpAny (model X.prog X.w) X.A (pyIter v) (PIE X pins σ tg R) X.xe s1) X.xe s
theorem go_of {M : Model} {A : Around} {E : Value -> Shared -> Prop} {s : Shared} {tg : Expr} {it : Addr} {u : Value} {o : Obj} {n : String} {vs : Array Value} {Q : Unit -> Shared -> Prop} (ho : s.heap.get? it = some o) (hc : o.cls = .type n) (hd : o.data = .fields vs)
  (hn : ["enumerate", "zip", "dict_itemiterator", "dict_reverseitemiterator", "odict_iterator", "itertools.zip_longest", "itertools.pairwise"].contains n = false) (hQ : Q () s) : wpAny M A (letOwnedTupleGo tg (.ref it) u) Q E s := by
 unfold letOwnedTupleGo
 cases tg <;> first
  | exact wpAny_pure hQ
  | (cases u <;> first
    | exact wpAny_pure hQ
    | (refine wpAny_bind (wpAny_load ho ?_)
       rw [hc, hd]
       show wpAny M A (if (["enumerate", "zip", "dict_itemiterator", "dict_reverseitemiterator", "odict_iterator", "itertools.zip_longest", "itertools.pairwise"].contains n && vs[0]? == some (rawInt _)) = true then _ else _) Q E s
       rw [if_neg (by intro h; rw [hn, Bool.false_and] at h; cases h)]
       exact wpAny_pure hQ))
def Itl (K : PySem.W.Frag) (a : Addr) : It :=
 ⟨fun i H => ∃ xs x, SqL K H a xs /\ xs[i]? = some x, fun i H x H' => H' = H /\ ∀ xs, SqL K H a xs -> xs[i]? = some x, fun i H => ∃ xs, SqL K H a xs /\ xs.length <= i⟩
def Itr (lo : Int) (n : Nat) : It := ⟨fun i _ => i < n, fun i H x H' => H' = H /\ x = .int (lo + i), fun i _ => n <= i⟩
theorem turn_list {P : Program} {w : World} {K : PySem.W.Frag} {tg : Expr} (a it : Addr) : Turn P w K tg (Itl K a) [it] it (fun i h => h.IsListIter it a i) where
 mem := by simp
 obj := fun i h st b hb => by
  have e : b = it := by simpa using hb
  subst e
  obtain ⟨o, e, c, d⟩ := st
  exact ⟨o, e, fun v z => by rw [d] at z; cases z⟩
 keep := fun i h h' st k => st.at fun o e => k it (by simp) o e
 item := by
  intro X hP hw hK hc i pins s σ H E I hf st hg
  subst hP hw hK
  obtain ⟨xs, x, hq, hx⟩ := hg
  obtain ⟨its, rv, p, hz⟩ := I.list hq
  obtain ⟨u, hu, ru⟩ := rv.get hx
  obtain ⟨f0, f1, f2, f3, f4, f5⟩ := hf it (by simp)
  refine wpAny_pyNext_list_item st p.isList (x := u) (by simpa using hu) fun h' st' sb => ?_
  have I1 : Inv X pins σ H { s with heap := h' } := I.turned (t' := s.toks) (fun b o hb e => (sb.2 b hb).trans e) f0 f1 f3 f4 f5
  obtain ⟨o, e, c, d⟩ := id st'
  exact ⟨u, rfl, go_of (s := { s with heap := h' }) e c d (by decide) ⟨x, H, I1, ru, ⟨rfl, fun ys hy => by rw [I.list_inj hy hq]; exact hx⟩, st', fun b hb => (hf b hb).1⟩⟩
 done := by
  intro X hP hw hK hc i pins s σ H E I hf st hg
  subst hP hw hK
  obtain ⟨xs, hq, hx⟩ := hg
  obtain ⟨its, rv, p, hz⟩ := I.list hq
  obtain ⟨f0, f1, f2, f3, f4, f5⟩ := hf it (by simp)
  have hl := rv.length
  exact wpAny_pyNext_list_end (I.ok.hd hc) st p.isList (by simp; omega) fun h' eb => ⟨rfl, I.turned (t' := s.toks) (fun b o hb e => eb b o hb e) f0 f1 f3 f4 f5⟩
 self := fun _ _ _ _ _ st h => wpAny_pyIter_listiter st h
theorem turn_range {P : Program} {w : World} {K : PySem.W.Frag} {tg : Expr} (it : Addr) (lo : Int) (n : Nat) : Turn P w K tg (Itr lo n) [it] it (fun i h => IsRangeIter h it (lo + (i : Nat) * 1) ((n : Int) - (i : Nat)) 1) where
 mem := by simp
 obj := fun i h st b hb => by
  have e : b = it := by simpa using hb
  subst e
  exact ⟨_, st, fun v z => by
   have z' : Data.fields _ = Data.cell v := z
   cases z'⟩
 keep := fun i h h' st k => k it (by simp) _ st
 item := by
  intro X hP hw hK hc i pins s σ H E I hf st hg
  subst hP hw hK
  obtain ⟨f0, f1, f2, f3, f4, f5⟩ := hf it (by simp)
  have W := Walks.range (prog := X.prog) (w := X.w) (I.ok.hd hc) it lo 1 n
  refine W.item i s _ _ hg st fun v h' tk hv st' kk => ?_
  obtain ⟨t, rfl⟩ := hv
  have I1 : Inv X pins σ H { s with heap := h', toks := tk } := I.turned (fun b o hb e => kk b o (by simpa using hb) e) f0 f1 f3 f4 f5
  refine ⟨_, rfl, go_of (s := { s with heap := h', toks := tk }) (n := "range_iterator") st' rfl rfl (by decide) ⟨.int (lo + i), H, I1, ⟨t, ?_⟩, ⟨rfl, rfl⟩, st', fun b hb => (hf b hb).1⟩⟩
  rw [Int.mul_one]
 done := by
  intro X hP hw hK hc i pins s σ H E I hf st hg
  subst hP hw hK
  obtain ⟨f0, f1, f2, f3, f4, f5⟩ := hf it (by simp)
  exact wpAny_pyNext_range_end (I.ok.hd hc) st (by have : n <= i := hg; omega) fun h' eb => ⟨rfl, I.turned (t' := s.toks) (fun b o hb e => eb b o hb e) f0 f1 f3 f4 f5⟩
 self := fun _ _ _ _ _ st h => wpAny_pyIter_rangeiter st h
end L2
namespace L2
open PySem PySem.Spec PyProof.Rows
section
variable {X : Cx} {tg : Expr}
def iList (K : PySem.W.Frag) (tl : TE) : TI := fun σ H R => tl σ H fun x H1 => ∃ a, x = .ref a /\ (∃ xs, SqL K H1 a xs) /\ R (Itl K a) H1
theorem pi_list {l : Expr} {tl : TE} (hl : PE X l tl) : PI X tg l (iList X.K tl) := by
 intro pins s σ H R I h
 refine thn (hl pins s σ H _ I h) fun v s1 ⟨x, H1, I1, r1, q1⟩ => ?_
 obtain ⟨a, e, ⟨xs, hq⟩, q⟩ := q1
 subst e
 cases r1
 obtain ⟨its, rv, p, hz⟩ := I1.list hq
 refine wpAny_pyIter_list p.isList ?_
 refine ⟨s1.heap.objs.size, [s1.heap.objs.size], _, _, H1, rfl, I1.kept (t' := s1.toks) fun b o e => Heap.get?_push_of_some _ e, turn_list a _, ⟨_, Heap.get?_push_size _ rfl, rfl, rfl⟩, fun b hb => ?_, q⟩
 have e : b = s1.heap.objs.size := by simpa using hb
 subst e
 exact I1.fpOk (Nat.le_refl _) (I1.hok.fresh (Nat.le_refl _))
theorem range_it {pins : List (Addr × Obj)} {σ : St} {H : Hp} {s : Shared} {R : It -> Hp -> Prop} {E : Value -> Shared -> Prop} {lo hi : Int} {t u v : Tok} {tk : Nat} (I : Inv X pins σ H s) (h1 : -(2 ^ 62) <= lo) (h2 : lo < 2 ^ 62) (h3 : -(2 ^ 62) <= hi) (h4 : hi < 2 ^ 62)
  (q : R (Itr lo (hi - lo).toNat) H) : wpAny (model X.prog X.w) X.A (pyIter (.ref s.heap.objs.size)) (PIE X pins σ tg R) E { s with heap := s.heap.push { cls := .type "range", data := .fields #[.int lo t, .int hi u, .int 1 v] }, toks := tk } := by
 refine wpAny_pyIter_range (IsRange.new ..) (small_one h1 h2 h3 h4) ?_
 have I1 : Inv X pins σ H { s with heap := s.heap.push { cls := .type "range", data := .fields #[.int lo t, .int hi u, .int 1 v] }, toks := tk } := I.kept fun b o e => Heap.get?_push_of_some _ e
 refine ⟨(s.heap.push { cls := .type "range", data := .fields #[.int lo t, .int hi u, .int 1 v] }).objs.size, [(s.heap.push { cls := .type "range", data := .fields #[.int lo t, .int hi u, .int 1 v] }).objs.size], _, _, H, rfl,
  I1.kept (t' := tk) fun b o e => Heap.get?_push_of_some _ e, turn_range _ lo (hi - lo).toNat, ?_, fun b hb => ?_, q⟩
 · have e1 : lo + ((0 : Nat) : Int) * 1 = lo := by simp
   have e2 : (((hi - lo).toNat : Nat) : Int) - ((0 : Nat) : Int) = Builtin.Range.rangeSize lo hi 1 := by rw [rangeSize_one]; split <;> omega
   show IsRangeIter _ _ (lo + ((0 : Nat) : Int) * 1) ((((hi - lo).toNat : Nat) : Int) - ((0 : Nat) : Int)) 1
   rw [e1, e2]
   exact Heap.get?_push_size _ rfl
 · have e : b = (s.heap.push { cls := .type "range", data := .fields #[.int lo t, .int hi u, .int 1 v] }).objs.size := by simpa using hb
   subst e
   exact I1.fpOk (Nat.le_refl _) (I1.hok.fresh (Nat.le_refl _))
def iRng1 (ta : TA) : TI := fun σ H R => ta σ H fun vs H1 => ∃ j : Int, vs = [.int j] /\ -(2 ^ 62) <= j /\ j < 2 ^ 62 /\ R (Itr 0 j.toNat) H1
def iRng2 (ta : TA) : TI := fun σ H R => ta σ H fun vs H1 => ∃ i j : Int, vs = [.int i, .int j] /\ (-(2 ^ 62) <= i /\ i < 2 ^ 62 /\ -(2 ^ 62) <= j /\ j < 2 ^ 62) /\ R (Itr i (j - i).toNat) H1
theorem pi_range1 {a : Expr} {ta : TA} {p pos : Pos} (hg : Gl X "range") (hm : X.mg "range" = none) (ha : PA X [a] ta) (hs : starEach [a] X.env = [(false, eval a X.env)] := by rfl) : PI X tg (.Call (.Name "range" p) [a] [] pos) (iRng1 ta) := by
 intro pins s σ H R I h
 refine Call_ (ld_blt I hg hm boot_range (PyProof.Rows.callWith_type1 (thn (ha pos pins s σ H _ I h) fun us s1 ⟨vs, H1, I1, r1, q1⟩ => ?_) hs rfl))
 obtain ⟨j, e, q1, q2, q⟩ := q1
 subst e
 cases r1 with
 | cons r rr =>
  cases rr
  obtain ⟨t, rfl⟩ := r
  exact call_range_1 (range_it I1 (by omega) (by omega) q1 q2 (by simpa using q))
theorem pi_range2 {a b : Expr} {ta : TA} {p pos : Pos} (hg : Gl X "range") (hm : X.mg "range" = none) (ha : PA X [a, b] ta) (hs : starEach [a, b] X.env = [(false, eval a X.env), (false, eval b X.env)] := by rfl) (hs2 : starEach [b] X.env = [(false, eval b X.env)] := by rfl) :
  PI X tg (.Call (.Name "range" p) [a, b] [] pos) (iRng2 ta) := by
 intro pins s σ H R I h
 refine Call_ (ld_blt I hg hm boot_range (PyProof.Rows.callWith_type1 (thn (ha pos pins s σ H _ I h) fun us s1 ⟨vs, H1, I1, r1, q1⟩ => ?_) (by rw [hs, hs2]) (by rw [hs2]; rfl)))
 obtain ⟨i, j, e, ⟨q1, q2, q3, q4⟩, q⟩ := q1
 subst e
 cases r1 with
 | cons r rr =>
  cases rr with
  | cons r' rr =>
   cases rr
   obtain ⟨t, rfl⟩ := r
   obtain ⟨t', rfl⟩ := r'
   exact call_range_2 (range_it I1 q1 q2 q3 q4 q)
def tFor (wi : TI) (g : TG) (tb : TS) : TS := fun D σ H => wi σ H fun J H1 => ∃ W : Nat -> Nat -> St -> Hp -> Prop, (∃ m, W 0 m σ H1) /\ ∀ i m σ H, W i m σ H ->
 (J.stop i H /\ D.nx σ H) \/ (J.go i H /\ ∃ N : St -> Hp -> Prop, (∀ σ' H', N σ' H' -> ∃ m', m' < m /\ W (i + 1) m' σ' H') /\ ∀ x H', J.yld i H x H' -> g x σ H' fun σ2 H2 => tb { D with nx := N, ct := N, bk := D.nx } σ2 H2)
def pinsAt (fp : List Addr) (h : Heap) : List (Addr × Obj) := fp.filterMap fun b => (h.get? b).map fun o => (b, o)
theorem mem_pinsAt {fp : List Addr} {h : Heap} {b : Addr} {o : Obj} (hb : b ∈ fp) (e : h.get? b = some o) : (b, o) ∈ pinsAt fp h := List.mem_filterMap.mpr ⟨b, hb, by rw [e]; rfl⟩
theorem of_pinsAt {fp : List Addr} {h : Heap} {p : Addr × Obj} (hp : p ∈ pinsAt fp h) : p.1 ∈ fp /\ h.get? p.1 = some p.2 := by
 obtain ⟨b, hb, e⟩ := List.mem_filterMap.mp hp
 cases q : h.get? b with
 | none => rw [q] at e; cases e
 | some o =>
  rw [q] at e
  have e' : (b, o) = p := Option.some.inj e
  subst e'
  exact ⟨hb, q⟩
theorem Inv.pinned {pins : List (Addr × Obj)} {σ : St} {H : Hp} {s : Shared} {fp : List Addr} (I : Inv X pins σ H s) (hf : ∀ b ∈ fp, FpOk X pins H b) (ho : ∀ b ∈ fp, ∃ o, s.heap.get? b = some o /\ ∀ v, o.data ≠ .cell v) : Inv X (pins ++ pinsAt fp s.heap) σ H s :=
 I.pins_of fun p hp => (List.mem_append.mp hp).elim (fun z => I.pin p (List.mem_append_right _ z)) fun z => by
  obtain ⟨hb, e⟩ := of_pinsAt z
  obtain ⟨f0, f1, f2, _⟩ := hf p.1 hb
  obtain ⟨o, e', d⟩ := ho p.1 hb
  rw [e] at e'; cases e'
  exact ⟨e, f0, f1, f2, d⟩
theorem Inv.unpinned {pins pl : List (Addr × Obj)} {σ : St} {H : Hp} {s : Shared} (I : Inv X (pins ++ pl) σ H s) : Inv X pins σ H s := I.pins_of fun p hp => I.pin p (List.mem_append_right _ (List.mem_append_left _ hp))
theorem ps_for {iter : Expr} {body : List Stmt} {wi : TI} {g : TG} {tb : TS} {pos : Pos} (hp : PassesOwn (model X.prog X.w) X.A X.env X.xe) (hc : X.calm = true) (hi : PI X tg iter wi) (hg : PG X tg g) (hb : PSs X body tb)
  (hs : ∀ x, foldedSetIterable iter X.env x = pure x := by intro _; rfl) : PS X (.For tg iter body [] pos) (tFor wi g tb) := by
 intro pins s σ H D I h
 refine wpAny_For (thn (hi pins s σ H _ I h) fun v s1 h1 => thn h1 fun itv s2 h2 => ?_) hs
 obtain ⟨it, fp, tn, J, H2, e, I2, T, st2, f2, W, ⟨m0, w0⟩, turn⟩ := h2
 subst e
 -- what stays true of the iterator's objects through the loop
 have stat : ∀ {H' : Hp}, (∀ b ∈ fp, H' b = none) -> ∀ b ∈ fp, FpOk X pins H' b := fun hn b hb => ⟨hn b hb, (f2 b hb).2⟩
 refine codeAny_forLoop_any (fun n s' => ∃ i σ' H', Inv X pins σ' H' s' /\ tn i s'.heap /\ (∀ b ∈ fp, H' b = none) /\ W i n σ' H') ?_ m0 ⟨0, σ, H2, I2, st2, fun b hb => (f2 b hb).1, w0⟩
 rintro n s3 ⟨i, σ3, H3, I3, st3, fr3, w3⟩
 rcases turn i n σ3 H3 w3 with ⟨stop, qn⟩ | ⟨go, N, hN, step⟩
 · refine wpAny_passesOwn hp (thn (T.done X rfl rfl rfl hc i pins s3 σ3 H3 X.xe I3 (stat fr3) st3 stop) fun r s4 ⟨hr, I4⟩ => ?_)
   subst hr
   exact wpAny_execs_nil ⟨σ3, H3, I4, qn⟩
 · refine wpAny_passesOwn hp (thn (T.item X rfl rfl rfl hc i pins s3 σ3 H3 X.xe I3 (stat fr3) st3 go) fun r s4 ⟨u, hr, h4⟩ => ?_)
   subst hr
   refine wpAny_passesOwn hp (thn h4 fun _ s5 ⟨x, H5, I5, r5, y5, st5, fr5⟩ => ?_)
   have I5' := I5.pinned (stat fr5) (T.obj _ _ st5)
   refine wpAny_passesOwn hp (thn (hg _ s5 σ3 H5 x u _ I5' r5 (step x H5 y5)) fun _ s6 ⟨σ6, H6, I6, q6⟩ => ?_)
   refine wpAny_passesOwn hp (thn (hb _ s6 σ6 H6 _ I6 q6) fun f s7 q7 => ?_)
   have again : ∀ {σ7 : St} {H7 : Hp}, Inv X (pins ++ pinsAt fp s5.heap) σ7 H7 s7 -> N σ7 H7 -> ∃ m, m < n /\ ∃ i σ' H', Inv X pins σ' H' s7 /\ tn i s7.heap /\ (∀ b ∈ fp, H' b = none) /\ W i m σ' H' := fun {σ7 H7} I7 n7 => by
    obtain ⟨m', hm, w7⟩ := hN σ7 H7 n7
    refine ⟨m', hm, i + 1, σ7, H7, I7.unpinned, T.keep _ _ _ st5 fun b hb o e => (I7.pin (b, o) (List.mem_append_right _ (List.mem_append_right _ (mem_pinsAt hb e)))).1, fun b hb => ?_, w7⟩
    obtain ⟨o, e, d⟩ := T.obj _ _ st5 b hb
    exact (I7.pin (b, o) (List.mem_append_right _ (List.mem_append_right _ (mem_pinsAt hb e)))).2.1
   cases f with
   | next => obtain ⟨σ7, H7, I7, n7⟩ := q7; exact again I7 n7
   | cont => obtain ⟨σ7, H7, I7, n7⟩ := q7; exact again I7 n7
   | brk => obtain ⟨σ7, H7, I7, q7⟩ := q7; exact ⟨σ7, H7, I7.unpinned, q7⟩
   | ret v => obtain ⟨x7, σ7, H7, I7, r7, q7⟩ := q7; exact ⟨x7, σ7, H7, I7.unpinned, r7, q7⟩
end
theorem for_list {K : PySem.W.Frag} {a : Addr} {xs : List V} {g : TG} {tb : TS} {D : Ends} {σ : St} {H : Hp} (Pv : Nat -> St -> Hp -> Prop) (h0 : Pv 0 σ H) (hl : ∀ i σ H, i <= xs.length -> Pv i σ H -> SqL K H a xs)
  (hs : ∀ i x σ H, xs[i]? = some x -> Pv i σ H -> g x σ H fun σ2 H2 => tb { D with nx := Pv (i + 1), ct := Pv (i + 1), bk := D.nx } σ2 H2) (hd : ∀ σ H, Pv xs.length σ H -> D.nx σ H) :
  ∃ W : Nat -> Nat -> St -> Hp -> Prop, (∃ m, W 0 m σ H) /\ ∀ i m σ H, W i m σ H ->
   ((Itl K a).stop i H /\ D.nx σ H) \/ ((Itl K a).go i H /\ ∃ N : St -> Hp -> Prop, (∀ σ' H', N σ' H' -> ∃ m', m' < m /\ W (i + 1) m' σ' H') /\ ∀ x H', (Itl K a).yld i H x H' -> g x σ H' fun σ2 H2 => tb { D with nx := N, ct := N, bk := D.nx } σ2 H2) := by
 refine ⟨fun i m σ H => m = xs.length - i /\ i <= xs.length /\ Pv i σ H, ⟨xs.length, by simp, Nat.zero_le _, h0⟩, ?_⟩
 rintro i m σ H ⟨rfl, hi, p⟩
 have q := hl i σ H hi p
 by_cases hlt : i < xs.length
 · refine .inr ⟨⟨xs, xs[i], q, by simp [hlt]⟩, Pv (i + 1), fun σ' H' p' => ⟨xs.length - (i + 1), by omega, rfl, hlt, p'⟩, fun x H' y => ?_⟩
   obtain ⟨e, y⟩ := y
   subst e
   exact hs i x σ _ (y xs q) p
 · have e : i = xs.length := by omega
   subst e
   exact .inl ⟨⟨xs, q, Nat.le_refl _⟩, hd σ H p⟩
theorem for_range {lo : Int} {n : Nat} {g : TG} {tb : TS} {D : Ends} {σ : St} {H : Hp} (Pv : Nat -> St -> Hp -> Prop) (h0 : Pv 0 σ H)
  (hs : ∀ i σ H, i < n -> Pv i σ H -> g (.int (lo + i)) σ H fun σ2 H2 => tb { D with nx := Pv (i + 1), ct := Pv (i + 1), bk := D.nx } σ2 H2) (hd : ∀ σ H, Pv n σ H -> D.nx σ H) :
  ∃ W : Nat -> Nat -> St -> Hp -> Prop, (∃ m, W 0 m σ H) /\ ∀ i m σ H, W i m σ H ->
   ((Itr lo n).stop i H /\ D.nx σ H) \/ ((Itr lo n).go i H /\ ∃ N : St -> Hp -> Prop, (∀ σ' H', N σ' H' -> ∃ m', m' < m /\ W (i + 1) m' σ' H') /\ ∀ x H', (Itr lo n).yld i H x H' -> g x σ H' fun σ2 H2 => tb { D with nx := N, ct := N, bk := D.nx } σ2 H2) := by
 refine ⟨fun i m σ H => m = n - i /\ i <= n /\ Pv i σ H, ⟨n, by simp, Nat.zero_le _, h0⟩, ?_⟩
 rintro i m σ H ⟨rfl, hi, p⟩
 by_cases hlt : i < n
 · refine .inr ⟨hlt, Pv (i + 1), fun σ' H' p' => ⟨n - (i + 1), by omega, rfl, hlt, p'⟩, fun x H' y => ?_⟩
   obtain ⟨e, y⟩ := y
   subst e y
   exact hs i σ _ hlt p
 · have e : i = n := by omega
   subst e
   exact .inl ⟨Nat.le_refl _, hd σ H p⟩
end L2
namespace L2
open PySem PySem.Spec PyProof.Rows
abbrev R2 := V -> V -> Hp -> VK -> Prop
def OpR (X : Cx) (f : Value -> Value -> Sem Value) (r : R2) : Prop :=
 ∀ (pins : List (Addr × Obj)) (s : Shared) (σ : St) (H : Hp) (x y : V) (v u : Value) (Q : VK), Inv X pins σ H s -> RelV x v -> RelV y u -> r x y H Q ->
  wpAny (model X.prog X.w) X.A (f v u) (EP X pins σ Q) X.xe s
def UnR (X : Cx) (f : Value -> Sem Value) (r : V -> Hp -> VK -> Prop) : Prop :=
 ∀ (pins : List (Addr × Obj)) (s : Shared) (σ : St) (H : Hp) (x : V) (v : Value) (Q : VK), Inv X pins σ H s -> RelV x v -> r x H Q ->
  wpAny (model X.prog X.w) X.A (f v) (EP X pins σ Q) X.xe s
def CallR (X : Cx) (f : Value) (r : List V -> Hp -> VK -> Prop) : Prop :=
 ∀ (pins : List (Addr × Obj)) (s : Shared) (σ : St) (H : Hp) (xs : List V) (us : List Value) (Q : VK), Inv X pins σ H s -> Vals xs us -> r xs H Q ->
  wpAny (model X.prog X.w) X.A (call f us) (EP X pins σ Q) X.xe s
def TruR (X : Cx) (r : V -> Hp -> (Bool -> Hp -> Prop) -> Prop) : Prop :=
 ∀ (pins : List (Addr × Obj)) (s : Shared) (σ : St) (H : Hp) (x : V) (v : Value) (Q : Bool -> Hp -> Prop), Inv X pins σ H s -> RelV x v -> r x H Q ->
  wpAny (model X.prog X.w) X.A (truthy v) (TP X pins σ Q) X.xe s
def tOp (r : R2) (ta tb : TE) : TE := fun σ H Q => ta σ H fun x H1 => tb σ H1 fun y H2 => r x y H2 Q
def tUn (r : V -> Hp -> VK -> Prop) (ta : TE) : TE := fun σ H Q => ta σ H fun x H1 => r x H1 Q
def rI (C : Int -> Int -> Prop) (g : Int -> Int -> V) : R2 := fun x y H Q => ∃ i j, x = .int i /\ y = .int j /\ C i j /\ Q (g i j) H
def rI0 (g : Int -> Int -> V) : R2 := fun x y H Q => ∃ i j, x = .int i /\ y = .int j /\ Q (g i j) H
def rU (g : Int -> V) : V -> Hp -> VK -> Prop := fun x H Q => ∃ i, x = .int i /\ Q (g i) H
section
variable {X : Cx} {a b c : Expr} {ta tb tc : TE} {pos : Pos}
theorem binT (ha : PE X a ta) (hb : PE X b tb) {pins : List (Addr × Obj)} {s : Shared} {σ : St} {H : Hp} {R : V -> V -> Hp -> Prop} (I : Inv X pins σ H s)
  (h : ta σ H fun x H1 => tb σ H1 fun y H2 => R x y H2) {Q : Value -> Shared -> Prop} {f : Value -> Value -> Sem Value}
  (hf : ∀ v u s2 x y H2, Inv X pins σ H2 s2 -> RelV x v -> RelV y u -> R x y H2 -> wpAny (model X.prog X.w) X.A (f v u) Q X.xe s2) :
  wpAny (model X.prog X.w) X.A (eval a X.env) (fun v s₁ => wpAny (model X.prog X.w) X.A (eval b X.env) (fun u s₂ => wpAny (model X.prog X.w) X.A (f v u) Q X.xe s₂) X.xe s₁) X.xe s := by
 refine thn (ha pins s σ H _ I h) fun v s1 ⟨x, H1, I1, r1, q1⟩ => ?_
 refine thn (hb pins s1 σ H1 _ I1 q1) fun u s2 ⟨y, H2, I2, r2, q2⟩ => ?_
 exact hf v u s2 x y H2 I2 r1 r2 q2
theorem pe_op {op : Operator} {r : R2} (ho : OpR X (binaryOp op) r) (ha : PE X a ta) (hb : PE X b tb) : PE X (.BinOp a op b pos) (tOp r ta tb) := by
 intro pins s σ H Q I h
 exact wpAny_BinOp (binT ha hb I h fun v u s2 x y H2 I2 rx ry q => ho pins s2 σ H2 x y v u Q I2 rx ry q)
theorem pe_un {op : UnaryOp} {r : V -> Hp -> VK -> Prop} (ho : UnR X (unaryOp op) r) (ha : PE X a ta) : PE X (.UnaryOp op a pos) (tUn r ta) := by
 intro pins s σ H Q I h
 exact UnaryOp_ (thn (ha pins s σ H _ I h) fun v s1 ⟨x, H1, I1, r1, q1⟩ => ho pins s1 σ H1 x v Q I1 r1 q1)
theorem opI {f : Value -> Value -> Sem Value} {C : Int -> Int -> Prop} {g : Int -> Int -> Int}
  (rule : ∀ (i j : Int) (t u : Tok) (s : Shared) (Q : Value -> Shared -> Prop) (E : Value -> Shared -> Prop), C i j -> Q (.int (g i j) s.toks) { s with toks := s.toks + 1 } -> wpAny (model X.prog X.w) X.A (f (.int i t) (.int j u)) Q E s) :
  OpR X f (rI C fun i j => .int (g i j)) := by
 intro pins s σ H x y v u Q I rx ry h
 obtain ⟨i, j, rfl, rfl, hc, q⟩ := h
 obtain ⟨t, rfl⟩ := rx
 obtain ⟨t', rfl⟩ := ry
 exact rule i j t t' s _ _ hc ⟨.int (g i j), H, I.tok _, ⟨_, rfl⟩, q⟩
theorem opI0 {f : Value -> Value -> Sem Value} {g : Int -> Int -> Int}
  (rule : ∀ (i j : Int) (t u : Tok) (s : Shared) (Q : Value -> Shared -> Prop) (E : Value -> Shared -> Prop), Q (.int (g i j) s.toks) { s with toks := s.toks + 1 } -> wpAny (model X.prog X.w) X.A (f (.int i t) (.int j u)) Q E s) :
  OpR X f (rI0 fun i j => .int (g i j)) := by
 intro pins s σ H x y v u Q I rx ry h
 obtain ⟨i, j, rfl, rfl, q⟩ := h
 obtain ⟨t, rfl⟩ := rx
 obtain ⟨t', rfl⟩ := ry
 exact rule i j t t' s _ _ ⟨.int (g i j), H, I.tok _, ⟨_, rfl⟩, q⟩
theorem opB0 {f : Value -> Value -> Sem Value} {g : Int -> Int -> Bool}
  (rule : ∀ (i j : Int) (t u : Tok) (s : Shared) (Q : Value -> Shared -> Prop) (E : Value -> Shared -> Prop), Q (.bool (g i j)) s -> wpAny (model X.prog X.w) X.A (f (.int i t) (.int j u)) Q E s) :
  OpR X f (rI0 fun i j => .bl (g i j)) := by
 intro pins s σ H x y v u Q I rx ry h
 obtain ⟨i, j, rfl, rfl, q⟩ := h
 obtain ⟨t, rfl⟩ := rx
 obtain ⟨t', rfl⟩ := ry
 exact rule i j t t' s _ _ ⟨.bl (g i j), H, I, rfl, q⟩
def CDiv (i j : Int) : Prop := 0 < j /\ j < 1073741824
def CPow (i j : Int) : Prop := 0 <= j /\ j <= 1000000 /\ i.natAbs < 2 ^ 64
def CMul (i j : Int) : Prop := (-(2 ^ 64) < i /\ i < 2 ^ 64) \/ (-(2 ^ 64) < j /\ j < 2 ^ 64)
theorem CMul.ok {i j : Int} (h : CMul i j) : IntMulOk i j := by
 rcases h with ⟨h1, h2⟩ | ⟨h1, h2⟩
 · exact .of_left (intBits_le_64 h1 h2)
 · exact .of_right (intBits_le_64 h1 h2)
theorem op_add : OpR X (binaryOp .Add) (rI0 fun i j => .int (i + j)) := opI0 fun _ _ _ _ _ _ _ q => add_int q
theorem op_sub : OpR X (binaryOp .Sub) (rI0 fun i j => .int (i - j)) := opI0 fun _ _ _ _ _ _ _ q => sub_int q
theorem op_mul : OpR X (binaryOp .Mult) (rI CMul fun i j => .int (i * j)) := opI fun _ _ _ _ _ _ _ hc q => mul_int q hc.ok
theorem op_fdiv : OpR X (binaryOp .FloorDiv) (rI CDiv fun i j => .int (i / j)) := opI fun i j _ _ _ _ _ hc q => by
 have h1 : (0 : Int) < j := hc.1
 have h2 : j < 1073741824 := hc.2
 exact floordiv_int (by omega) (by rw [Int.fdiv_eq_ediv_of_nonneg i (by omega)]; exact q) (.inl (PyProof.noPylong_small (by omega)))
theorem op_mod : OpR X (binaryOp .Mod) (rI (fun _ j => 0 < j) fun i j => .int (i % j)) := opI fun i j _ _ _ _ _ hc q => by
 have h1 : (0 : Int) < j := hc
 exact mod_int' (by omega) (by rw [Int.fmod_eq_emod_of_nonneg i (by omega)]; exact q)
theorem op_pow : OpR X (binaryOp .Pow) (rI CPow fun i j => .int (i ^ j.toNat)) := opI fun _ _ _ _ _ _ _ hc q => pow_int_small hc.1 hc.2.1 hc.2.2 q
theorem unI {f : Value -> Sem Value} {g : Int -> Int}
  (rule : ∀ (i : Int) (t : Tok) (s : Shared) (Q : Value -> Shared -> Prop) (E : Value -> Shared -> Prop), Q (.int (g i) s.toks) { s with toks := s.toks + 1 } -> wpAny (model X.prog X.w) X.A (f (.int i t)) Q E s) :
  UnR X f (rU fun i => .int (g i)) := by
 intro pins s σ H x v Q I rx h
 obtain ⟨i, rfl, q⟩ := h
 obtain ⟨t, rfl⟩ := rx
 exact rule i t s _ _ ⟨.int (g i), H, I.tok _, ⟨_, rfl⟩, q⟩
theorem un_neg : UnR X (unaryOp .USub) (rU fun i => .int (-i)) := unI fun _ _ _ _ _ q => neg_int q
end
def scal : V -> V -> Bool
 | .non, .non => true | .non, .int _ => true | .int _, .non => true | .non, .bl _ => true | .bl _, .non => true | .non, .str _ => true | .str _, .non => true
 | .int _, .int _ => true | .bl _, .bl _ => true | .str _, .str _ => true | .byt _, .byt _ => true
 | .int _, .str _ => true | .str _, .int _ => true | .bl _, .str _ => true | .str _, .bl _ => true
 | _, _ => false
def rEq : R2 := fun x y H Q => scal x y = true /\ Q (.bl (decide (x = y))) H
def rNe : R2 := fun x y H Q => scal x y = true /\ Q (.bl (!decide (x = y))) H
theorem dec_int {i j : Int} : decide (V.int i = V.int j) = (i == j) := by
 rw [Bool.eq_iff_iff]
 simp
theorem dec_bl {i j : Bool} : decide (V.bl i = V.bl j) = (i == j) := by
 rw [Bool.eq_iff_iff]
 simp
theorem dec_str {i j : Str} : decide (V.str i = V.str j) = (i == j) := by
 rw [Bool.eq_iff_iff]
 simp
theorem dec_byt {i j : Array UInt8} : decide (V.byt i = V.byt j) = (i.toList == j.toList) := by
 rw [Bool.eq_iff_iff]
 cases i
 cases j
 simp
section
variable {X : Cx} {a b c : Expr} {ta tb tc : TE} {pos : Pos}
theorem fin_bl {pins : List (Addr × Obj)} {σ : St} {H : Hp} {s : Shared} {Q : VK} {k k' : Bool} (I : Inv X pins σ H s) (q : Q (.bl k) H) (e : k = k') : EP X pins σ Q (.bool k') s := by
 subst e
 exact ⟨.bl k, H, I, rfl, q⟩
theorem op_eq : OpR X (compareOp .Eq) rEq := by
 intro pins s σ H x y v u Q I rx ry h
 obtain ⟨hs, q⟩ := h
 cases x with
 | non =>
  cases rx
  cases y with
  | non => cases ry; exact PySem.EqNone.eq_none_none (fin_bl I q (by simp))
  | bl j => cases ry; exact PySem.EqNone.eq_none_bool (fin_bl I q (by simp))
  | int j => obtain ⟨t', rfl⟩ := ry; exact PySem.EqNone.eq_none_int (fin_bl I q (by simp))
  | str j => obtain ⟨t', rfl⟩ := ry; exact PySem.EqNone.eq_none_str (fin_bl I q (by simp))
  | _ => exact absurd (show false = true from hs) Bool.false_ne_true
 | bl i =>
  cases rx
  cases y with
  | non => cases ry; exact PySem.EqNone.eq_bool_none (fin_bl I q (by simp))
  | bl j => cases ry; exact eq_bool (fin_bl I q dec_bl)
  | str j => obtain ⟨t', rfl⟩ := ry; exact PySem.EqMixed.eq_bool_str (fin_bl I q (by simp))
  | _ => exact absurd (show false = true from hs) Bool.false_ne_true
 | int i =>
  obtain ⟨t, rfl⟩ := rx
  cases y with
  | non => cases ry; exact PySem.EqNone.eq_int_none (fin_bl I q (by simp))
  | int j => obtain ⟨t', rfl⟩ := ry; exact eq_int (fin_bl I q dec_int)
  | str j => obtain ⟨t', rfl⟩ := ry; exact PySem.EqMixed.eq_int_str (fin_bl I q (by simp))
  | _ => exact absurd (show false = true from hs) Bool.false_ne_true
 | str i =>
  obtain ⟨t, rfl⟩ := rx
  cases y with
  | non => cases ry; exact PySem.EqNone.eq_str_none (fin_bl I q (by simp))
  | bl j => cases ry; exact PySem.EqMixed.eq_str_bool (fin_bl I q (by simp))
  | int j => obtain ⟨t', rfl⟩ := ry; exact PySem.EqMixed.eq_str_int (fin_bl I q (by simp))
  | str j => obtain ⟨t', rfl⟩ := ry; exact eq_str (fin_bl I q dec_str)
  | _ => exact absurd (show false = true from hs) Bool.false_ne_true
 | byt i =>
  obtain ⟨t, rfl⟩ := rx
  cases y with
  | byt j => obtain ⟨t', rfl⟩ := ry; exact PySem.W.eq_bytes (fin_bl I q dec_byt)
  | _ => exact absurd (show false = true from hs) Bool.false_ne_true
 | _ => cases y <;> exact absurd (show false = true from hs) Bool.false_ne_true
theorem op_ne : OpR X (compareOp .NotEq) rNe := by
 intro pins s σ H x y v u Q I rx ry h
 obtain ⟨hs, q⟩ := h
 cases x with
 | non =>
  cases rx
  cases y with
  | non => cases ry; exact PySem.EqNone.ne_none_none (fin_bl I q (by simp))
  | bl j => cases ry; exact PySem.EqNone.ne_none_bool (fin_bl I q (by simp))
  | int j => obtain ⟨t', rfl⟩ := ry; exact PySem.EqNone.ne_none_int (fin_bl I q (by simp))
  | str j => obtain ⟨t', rfl⟩ := ry; exact PySem.EqNone.ne_none_str (fin_bl I q (by simp))
  | _ => exact absurd (show false = true from hs) Bool.false_ne_true
 | bl i =>
  cases rx
  cases y with
  | non => cases ry; exact PySem.EqNone.ne_bool_none (fin_bl I q (by simp))
  | bl j => cases ry; exact ne_bool (fin_bl I q (congrArg not dec_bl))
  | str j => obtain ⟨t', rfl⟩ := ry; exact PySem.EqMixed.ne_bool_str (fin_bl I q (by simp))
  | _ => exact absurd (show false = true from hs) Bool.false_ne_true
 | int i =>
  obtain ⟨t, rfl⟩ := rx
  cases y with
  | non => cases ry; exact PySem.EqNone.ne_int_none (fin_bl I q (by simp))
  | int j => obtain ⟨t', rfl⟩ := ry; exact ne_int (fin_bl I q (congrArg not dec_int))
  | str j => obtain ⟨t', rfl⟩ := ry; exact PySem.EqMixed.ne_int_str (fin_bl I q (by simp))
  | _ => exact absurd (show false = true from hs) Bool.false_ne_true
 | str i =>
  obtain ⟨t, rfl⟩ := rx
  cases y with
  | non => cases ry; exact PySem.EqNone.ne_str_none (fin_bl I q (by simp))
  | bl j => cases ry; exact PySem.EqMixed.ne_str_bool (fin_bl I q (by simp))
  | int j => obtain ⟨t', rfl⟩ := ry; exact PySem.EqMixed.ne_str_int (fin_bl I q (by simp))
  | str j => obtain ⟨t', rfl⟩ := ry; exact ne_str (fin_bl I q (congrArg not dec_str))
  | _ => exact absurd (show false = true from hs) Bool.false_ne_true
 | byt i =>
  obtain ⟨t, rfl⟩ := rx
  cases y with
  | byt j => obtain ⟨t', rfl⟩ := ry; exact PySem.W.ne_bytes (fin_bl I q (congrArg not dec_byt))
  | _ => exact absurd (show false = true from hs) Bool.false_ne_true
 | _ => cases y <;> exact absurd (show false = true from hs) Bool.false_ne_true
theorem op_lt : OpR X (compareOp .Lt) (rI0 fun i j => .bl (decide (i < j))) := opB0 fun _ _ _ _ _ _ _ q => lt_int q
theorem op_le : OpR X (compareOp .LtE) (rI0 fun i j => .bl (decide (i <= j))) := opB0 fun _ _ _ _ _ _ _ q => le_int q
theorem op_gt : OpR X (compareOp .Gt) (rI0 fun i j => .bl (decide (j < i))) := opB0 fun _ _ _ _ _ _ _ q => gt_int q
theorem op_ge : OpR X (compareOp .GtE) (rI0 fun i j => .bl (decide (j <= i))) := opB0 fun _ _ _ _ _ _ _ q => ge_int q
theorem op_isN : OpR X (compareOp .Is) (fun x y H Q => y = .non /\ Q (.bl (decide (x = .non))) H) := by
 intro pins s σ H x y v u Q I rx ry h
 obtain ⟨rfl, q⟩ := h
 cases ry
 refine is_none_gen (fin_bl I q ?_)
 cases x <;> first
  | (cases rx; rfl)
  | (obtain ⟨t, rfl⟩ := rx; rfl)
theorem op_notN : OpR X (compareOp .IsNot) (fun x y H Q => y = .non /\ Q (.bl (!decide (x = .non))) H) := by
 intro pins s σ H x y v u Q I rx ry h
 obtain ⟨rfl, q⟩ := h
 cases ry
 refine isnot_none_gen (fin_bl I q ?_)
 cases x <;> first
  | (cases rx; rfl)
  | (obtain ⟨t, rfl⟩ := rx; rfl)
theorem nomark (b : Expr) {op : CmpOp} (h : op ≠ .In := by decide) (h2 : op ≠ .NotIn := by decide) : behindInMarks op b = false := by
 have e1 : (op == CmpOp.In) = false := by cases op <;> first | rfl | exact absurd rfl h
 have e2 : (op == CmpOp.NotIn) = false := by cases op <;> first | rfl | exact absurd rfl h2
 cases b <;> simp [behindInMarks, e1, e2]
theorem pe_cmpR {op : CmpOp} {r : R2} (ho : OpR X (compareOp op) r) (ha : PE X a ta) (hb : PE X b tb) (hm : behindInMarks op b = false) : PE X (.Compare a [op] [b] pos) (tOp r ta tb) := by
 intro pins s σ H Q I h
 exact wpAny_Compare1 (binT ha hb I h fun v u s2 x y H2 I2 rx ry q => ho pins s2 σ H2 x y v u Q I2 rx ry q) hm
def tTest (t : TE) : TT := fun σ H Q => t σ H fun x H' => ∃ k, x = .bl k /\ Q k H'
theorem pt_cmpR {op : CmpOp} {r : R2} (ho : OpR X (compareOp op) r) (ha : PE X a ta) (hb : PE X b tb) (hm : behindInMarks op b = false) : PT X (.Compare a [op] [b] pos) (tTest (tOp r ta tb)) := by
 intro pins s σ H Q I h
 refine wpAny_isTrue_Compare1 (thn (ha pins s σ H _ I h) fun v s1 ⟨x, H1, I1, r1, q1⟩ => thn (hb pins s1 σ H1 _ I1 q1) fun u s2 ⟨y, H2, I2, r2, q2⟩ =>
  thn (ho pins s2 σ H2 x y v u _ I2 r1 r2 q2) fun c s3 ⟨z, H3, I3, r3, k, e, q3⟩ => ?_) hm
 subst e
 cases r3
 exact wpAny_truthy_bool ⟨H3, I3, q3⟩
def TruV (K : PySem.W.Frag) (x : V) (H : Hp) (k : Bool) : Prop :=
 match x with
 | .non => k = false
 | .bl b => k = b
 | .int i => k = (i != 0)
 | .str y => y.length <= sizeLine /\ k = ((y.length : Int) != 0)
 | .byt y => y.size <= sizeLine /\ k = ((y.size : Int) != 0)
 | .ref p => (∃ xs, SqL K H p xs /\ k = !xs.isEmpty) \/ (∃ xs, SqT K H p xs /\ k = !xs.isEmpty) \/ ∃ kvs, H p = some (.dK kvs) /\ k = !kvs.isEmpty
 | _ => False
theorem isEmpty_kv {κ : Type} {kvs : List (κ × V)} {vs : List (κ × Value)} (r : KV kvs vs) : (!vs.isEmpty) = !kvs.isEmpty := by
 cases r <;> rfl
theorem isEmpty_of {xs : List V} {its : List Value} (r : Vals xs its) : (!its.toArray.isEmpty) = !xs.isEmpty := by
 cases r <;> simp
theorem line63 : (sizeLine : Nat) < 2 ^ 63 := by rw [sizeLine_eq]; decide
theorem tru_ok : TruR X (fun x H Q => ∃ k, TruV X.K x H k /\ Q k H) := by
 intro pins s σ H x v Q I rx h
 obtain ⟨k, e, q⟩ := h
 have hl := line63
 have hs : sizeLine = 16777216 := sizeLine_eq
 cases x with
 | non =>
  cases rx
  have e' : k = false := e
  subst e'
  exact truthy_none ⟨H, I, q⟩
 | bl b =>
  cases rx
  have e' : k = b := e
  subst e'
  exact wpAny_truthy_bool ⟨H, I, q⟩
 | int i =>
  obtain ⟨t, rfl⟩ := rx
  have e' : k = (i != 0) := e
  subst e'
  exact PySem.P.truthy_int ⟨H, I, q⟩
 | str y =>
  obtain ⟨t, rfl⟩ := rx
  obtain ⟨hy, e'⟩ : y.length <= sizeLine /\ k = ((y.length : Int) != 0) := e
  subst e'
  exact PySem.P.truthy_str (by omega) ⟨H, I.tok _, q⟩
 | byt y =>
  obtain ⟨t, rfl⟩ := rx
  obtain ⟨hy, e'⟩ : y.size <= sizeLine /\ k = ((y.size : Int) != 0) := e
  subst e'
  exact PySem.W.truthy_bytes (by omega) ⟨H, I.tok _, q⟩
 | ref p =>
  cases rx
  have e' : (∃ xs, SqL X.K H p xs /\ k = !xs.isEmpty) \/ (∃ xs, SqT X.K H p xs /\ k = !xs.isEmpty) \/ ∃ kvs, H p = some (.dK kvs) /\ k = !kvs.isEmpty := e
  rcases e' with ⟨xs, hx, e'⟩ | ⟨xs, hx, e'⟩ | ⟨kvs, hx, e'⟩
  · subst e'
    obtain ⟨its, r, pl, hz⟩ := I.list hx
    have hlen := r.length
    exact wpAny_truthy_list pl.isList (by simp only [List.size_toArray]; omega) ⟨H, I.tok _, by rw [isEmpty_of r]; exact q⟩
  · subst e'
    obtain ⟨its, r, pl, hz⟩ := I.tuple hx
    have hlen := r.length
    exact truthy_tuple pl (by simp only [List.size_toArray]; omega) ⟨H, I.tok _, by rw [isEmpty_of r]; exact q⟩
  · subst e'
    obtain ⟨hz, hS, vs, r, m⟩ : kvs.length <= sizeLine /\ (p == sysModules) = false /\ ∃ vs, KV kvs vs /\ s.heap.DictOf (mixKind X.prog X.w) p vs := I.hok p _ hx
    have hlen : kvs.length = vs.length := Paired.length r
    exact wpAny_truthy_dict hS m (by omega) ⟨H, I.tok _, by rw [isEmpty_kv r]; exact q⟩
 | _ => exact (show False from e).elim
theorem vals1 {x : V} {us : List Value} (r : Vals [x] us) : ∃ u, us = [u] /\ RelV x u := by
 cases r with
 | cons r1 r2 => cases r2; exact ⟨_, rfl, r1⟩
theorem vals2 {x y : V} {us : List Value} (r : Vals [x, y] us) : ∃ u w', us = [u, w'] /\ RelV x u /\ RelV y w' := by
 cases r with
 | cons r1 r2 =>
  cases r2 with
  | cons r3 r4 => cases r4; exact ⟨_, _, rfl, r1, r3⟩
theorem call_min2 (hc : X.calm = true) : CallR X (.builtin "min") (fun xs H Q => ∃ i j, xs = [.int i, .int j] /\ Q (.int (if j < i then j else i)) H) := by
 intro pins s σ H xs us Q I r h
 obtain ⟨i, j, rfl, q⟩ := h
 obtain ⟨u, w', rfl, ⟨t, rfl⟩, ⟨t', rfl⟩⟩ := vals2 r
 refine min_two_ints (I.ok.hd hc) fun h' tk k => ⟨_, H, I.kept k, ?_, q⟩
 by_cases hj : j < i
 · rw [if_pos hj, if_pos hj]; exact ⟨_, rfl⟩
 · rw [if_neg hj, if_neg hj]; exact ⟨_, rfl⟩
theorem call_int1 : CallR X (.type "int") (fun xs H Q => (∃ i, xs = [.int i] /\ Q (.int i) H) \/ ∃ k, xs = [.bl k] /\ Q (.int (if k then 1 else 0)) H) := by
 intro pins s σ H xs us Q I r h
 rcases h with ⟨i, rfl, q⟩ | ⟨k, rfl, q⟩
 · obtain ⟨u, rfl, t, rfl⟩ := vals1 r
   exact call_int_int ⟨.int i, H, I, ⟨_, rfl⟩, q⟩
 · obtain ⟨u, rfl, r1⟩ := vals1 r
   cases r1
   exact call_int_bool ⟨.int (if k then 1 else 0), H, I.tok _, ⟨_, rfl⟩, q⟩
end
end L2
namespace L2
open PySem PySem.Spec PyProof.Rows
structure ObjM (h : Heap) (x dx C : Addr) (mA : Str -> Option Value) : Prop where
 obj : h.get? x = some (PySem.W.instObj C dx)
 ns : h.Ns1 dx mA
 ne : dx ≠ x
theorem lookIn_ns {h : Heap} {dx : Addr} {mA : Str -> Option Value} (n : h.Ns1 dx mA) : ∃ od, h.get? dx = some od /\ ∀ name, PySem.W.lookIn name od = some (mA name) := by
 obtain ⟨o, es, ep, ho, hd, hk, _, hm⟩ := n
 refine ⟨o, ho, fun name => ?_⟩
 have e := hm name
 unfold nsFind findBy at e
 rw [← Array.find?_toList] at e
 unfold PySem.W.lookIn
 rw [hd]
 dsimp only
 split
 · rename_i y q
   rw [q] at e
   exact congrArg some e
 · rename_i q
   rw [q] at e
   have a : es.toList.any (·.refKey) = false := by
    rw [List.any_eq_false]
    intro y hy
    obtain ⟨z, t, hkey⟩ := hk y (Array.mem_toList_iff.mp hy)
    simp [DictEntry.refKey, hkey]
   have a' : ¬ es.toList.any (·.refKey) = true := by rw [a]; exact Bool.false_ne_true
   rw [if_neg a']
   exact congrArg some e
theorem ObjM.look {h : Heap} {x dx C : Addr} {mA : Str -> Option Value} (I : ObjM h x dx C mA) : ∃ od, PySem.W.InstAt h x (PySem.W.instObj C dx) C (some od) /\ ∀ name, PySem.W.lookIn name od = some (mA name) :=
 let ⟨od, ho, hl⟩ := lookIn_ns I.ns
 ⟨od, ⟨I.obj, rfl, rfl, ho⟩, hl⟩
section
variable {prog : Program} {w : World} {A : Around} {E : Value -> Shared -> Prop} {s : Shared} {K : PySem.W.Frag} {x dx C f : Addr} {mA : Str -> Option Value} {name : Str} {v : Value}
theorem get_map {expr : Bool} {Q : Value -> Shared -> Prop} (X : K.In s.heap) (I : ObjM s.heap x dx C mA) (hg : PySem.W.plainGet K C name = true) (hh : PySem.W.hasDictIn K C = true)
  (ha : PySem.W.findIn K (.ref C) name = some none) (hv : mA name = some v) (hv' : PySem.W.handedIn v = true) (h : Q v { s with toks := s.toks + 1 }) :
  wpAny (model prog w) A (getAttr (.ref x) name expr) Q E s := by
 obtain ⟨od, J, hl⟩ := I.look
 exact PySem.W.get_value X J (PySem.W.plainGet_of hg).1 (PySem.W.findObj_own hh ha rfl (by rw [hl, hv])) hv' h
theorem get_meth {pl : Sem Bool} {Q : Value × List Value -> Shared -> Prop} (X : K.In s.heap) (I : ObjM s.heap x dx C mA) (hg : PySem.W.plainGet K C name = true)
  (hf : PySem.W.findIn K (.ref C) name = some (some (.ref f))) (ht : PySem.W.isFn K (.ref f) = true) (hv : mA name = none) (h : Q (.ref f, [.ref x]) s) :
  wpAny (model prog w) A (getMethod (.ref x) name pl) Q E s := by
 obtain ⟨od, J, hl⟩ := I.look
 exact PySem.W.method_fn X J (PySem.W.plainGet_of hg).1 (PySem.W.plainGet_of hg).2 hf (beq_iff_eq.mp ht) (by show (PySem.W.lookIn name od).map (·.isSome) = some false; rw [hl, hv]; rfl) h
theorem set_map {ns : List Str} {Q : Unit -> Shared -> Prop} (X : K.In s.heap) (I : ObjM s.heap x dx C mA)
  (hs : PySem.W.findIn K (.ref C) "__setattr__" = some (some (.builtin "object.__setattr__"))) (hp : PySem.W.plainOver K C = true) (ht : PySem.W.takerIn K C name = some none) (hh : PySem.W.hasDictIn K C = true)
  (hw : PySem.Within mA ns) (hsz : ns.length <= sizeLine)
  (h : ∀ h', ObjM h' x dx C (fun y => if y = name then some v else mA y) -> Heap.SameBut dx s.heap h' -> Q () { s with heap := h', toks := s.toks + 2 }) :
  wpAny (model prog w) A (setAttr (.ref x) name v) Q E s := by
 obtain ⟨od, J, hl⟩ := I.look
 refine PySem.W.set_plain X J hs (PySem.W.osa_open (s := { s with toks := s.toks + 1 }) (r := none) X J hp ht fun b => ?_)
 obtain ⟨cd, hc, hd'⟩ := PySem.W.any_some hh
 have hx : s.heap.get? x = some ⟨.ref C, some dx, .plain, #[]⟩ := I.obj
 refine wpAny_bind (wpAny_pure (wpAny_bind (wpAny_bind (wpAny_loadPart hx (wpAny_bind (PySem.W.Looks.here (s := { s with toks := s.toks + 1 }) (PySem.W.looks_clsIn X hc) ?_))))))
 rw [hd']
 refine wpAny_pure (a := some dx) (wpAny_bind (wpAny_pure (wpAny_bind ?_)))
 refine wpAny_nsSet1 (s := { s with toks := s.toks + 1 }) I.ns fun h' hn2 hs2 => ?_
 obtain ⟨oD, esD, epD, hoD, hdD, hcD⟩ := hn2.count (PySem.Within.cons name v hw)
 refine wpAny_bind (wpAny_lookBehind hoD (by rw [hdD]; exact pastItsLine_dict (Nat.le_trans hcD (by rw [List.length_cons]; omega))) ?_)
 exact wpAny_pure (h _ ⟨(hs2.2 _ (Ne.symm I.ne)).trans I.obj, hn2, I.ne⟩ hs2)
theorem make_map {R : Result -> Shared -> Prop} {vs : List Value} {kw : List (Str × Value)} (X : K.In s.heap) (hm : PySem.W.makesIn K C = true)
  (hi : PySem.W.findIn K (.ref C) "__init__" = some (some (.ref f))) (hf : PySem.W.typeIn K (.ref f) = some (.type "function"))
  (h : codeAny (model prog w) (A.under (.builtin "type.__call__" ⟨.ref C :: vs, kw⟩)) (.call (.ref f) ⟨.ref (s.heap.objs.size + 1) :: vs, kw⟩) (PySem.W.InitBack (s.heap.objs.size + 1) R)
   { s with heap := (s.heap.push PySem.W.emptyDict).push (PySem.W.instObj C s.heap.objs.size) }) :
  codeAny (model prog w) A (.call (.ref C) ⟨vs, kw⟩) R s := by
 obtain ⟨hh, g, d, t, os⟩ := s
 exact PySem.W.make_core (PySem.W.makes_of X hm) (PySem.W.looks_findIn X hi) (fun self => PySem.W.bind_fn X self hf) (.inl rfl) h
end
def putF (f : Str) (v : V) : List (Str × V) -> List (Str × V)
 | [] => [(f, v)]
 | (g, x) :: r => if g = f then (g, v) :: r else (g, x) :: putF f v r
theorem lookup_putF (f g : Str) (v : V) : ∀ fs : List (Str × V), (putF f v fs).lookup g = if g = f then some v else fs.lookup g
 | [] => by
  show List.lookup g [(f, v)] = _
  by_cases h : g = f
  · have hb : (g == f) = true := beq_iff_eq.mpr h
    simp only [List.lookup, hb, if_pos h]
  · have hb : (g == f) = false := beq_eq_false_iff_ne.mpr h
    simp only [List.lookup, hb, if_neg h]
 | (k, x) :: r => by
  have ih := lookup_putF f g v r
  rw [show putF f v ((k, x) :: r) = (if k = f then (k, v) :: r else (k, x) :: putF f v r) from rfl]
  by_cases hk : k = f
  · rw [if_pos hk]
    by_cases h : g = k
    · have hb : (g == k) = true := beq_iff_eq.mpr h
      simp only [List.lookup, hb, if_pos (h.trans hk)]
    · have hb : (g == k) = false := beq_eq_false_iff_ne.mpr h
      simp only [List.lookup, hb, if_neg (fun e : g = f => h (e.trans hk.symm))]
  · rw [if_neg hk]
    by_cases h : g = k
    · have hb : (g == k) = true := beq_iff_eq.mpr h
      simp only [List.lookup, hb, if_neg (fun e : g = f => hk (h.symm.trans e))]
    · have hb : (g == k) = false := beq_eq_false_iff_ne.mpr h
      simp only [List.lookup, hb]
      exact ih
theorem keys_putF (f : Str) (v : V) : ∀ fs : List (Str × V), f ∈ (putF f v fs).map (·.1) /\ ∀ g, g ∈ fs.map (·.1) -> g ∈ (putF f v fs).map (·.1)
 | [] => ⟨by simp [putF], fun g h => by simp at h⟩
 | (k, x) :: r => by
  obtain ⟨i1, i2⟩ := keys_putF f v r
  rw [show putF f v ((k, x) :: r) = (if k = f then (k, v) :: r else (k, x) :: putF f v r) from rfl]
  by_cases hk : k = f
  · rw [if_pos hk]
    subst hk
    exact ⟨by simp, fun g h => by simpa using h⟩
  · rw [if_neg hk]
    refine ⟨?_, fun g h => ?_⟩
    · rw [List.map_cons]
      exact List.mem_cons_of_mem _ i1
    · rw [List.map_cons] at h ⊢
      rcases List.mem_cons.mp h with e | e
      · exact List.mem_cons.mpr (.inl e)
      · exact List.mem_cons_of_mem _ (i2 g e)
theorem length_putF (f : Str) (v : V) : ∀ fs : List (Str × V), (putF f v fs).length <= fs.length + 1
 | [] => by simp [putF]
 | (k, x) :: r => by
  have ih := length_putF f v r
  rw [show putF f v ((k, x) :: r) = (if k = f then (k, v) :: r else (k, x) :: putF f v r) from rfl]
  by_cases hk : k = f
  · rw [if_pos hk, List.length_cons, List.length_cons]; omega
  · rw [if_neg hk, List.length_cons, List.length_cons]; omega
theorem RelO.some_of {v : V} {o : Option Value} (r : RelO (some v) o) : ∃ u, o = some u /\ RelV v u := by
 cases o with
 | none => exact (show False from r).elim
 | some u => exact ⟨u, rfl, r⟩
theorem RelO.none_of {o : Option Value} (r : RelO none o) : o = none := by
 cases o with
 | none => rfl
 | some u => exact (show False from r).elim
theorem handed_of {v : V} {u : Value} (r : RelV v u) : PySem.W.handedIn u = true := by
 cases v with
 | non => cases (show u = Value.none from r); rfl
 | bl b => cases (show u = Value.bool b from r); rfl
 | int i => obtain ⟨t, e⟩ := (show ∃ t, u = Value.int i t from r); cases e; rfl
 | str x => obtain ⟨t, e⟩ := (show ∃ t, u = Value.str x t from r); cases e; rfl
 | byt b => obtain ⟨t, e⟩ := (show ∃ t, u = Value.bytes b t from r); cases e; rfl
 | flt b => obtain ⟨t, e⟩ := (show ∃ t, u = Value.float b t from r); cases e; rfl
 | ref a => cases (show u = Value.ref a from r); rfl
 | ty n => cases (show u = Value.type n from r); rfl
section
variable {P : Program} {w : World} {H H' : Hp} {h h' : Heap} {a C dx : Addr} {fs fs' : List (Str × V)}
theorem ins_get (hok : HOk P w H h) (e : H a = some (.ins C dx fs)) : ∃ mA, ObjM h a dx C mA /\ (∀ f, RelO (fs.lookup f) (mA f)) /\ PySem.Within mA (fs.map (·.1)) /\ fs.length <= 1000 /\ H dx = some (.own a) := by
 obtain ⟨d, z, ne, ob, mA, n, r, q⟩ := (show ObjOk P w H h a (.ins C dx fs) from hok a _ e)
 exact ⟨mA, ⟨ob, n, ne⟩, r, q, z, d⟩
end
structure Cls (K : PySem.W.Frag) (C : Addr) : Prop where
 pg : PySem.W.plainGet K C Str.empty = true
 hd : PySem.W.hasDictIn K C = true
 po : PySem.W.plainOver K C = true
 sa : PySem.W.findIn K (.ref C) "__setattr__" = some (some (.builtin "object.__setattr__"))
theorem Cls.get {K : PySem.W.Frag} {C : Addr} (c : Cls K C) (f : Str) : PySem.W.plainGet K C f = true := c.pg
def NoAttr (K : PySem.W.Frag) (C : Addr) (f : Str) : Prop := PySem.W.findIn K (.ref C) f = some none
theorem NoAttr.taker {K : PySem.W.Frag} {C : Addr} {f : Str} (n : NoAttr K C f) : PySem.W.takerIn K C f = some none := by
 unfold PySem.W.takerIn
 rw [show PySem.W.findIn K (.ref C) f = some none from n]
 rfl
structure Meth (K : PySem.W.Frag) (C : Addr) (m : Str) (f : Addr) : Prop where
 at_ : PySem.W.findIn K (.ref C) m = some (some (.ref f))
 fn : PySem.W.isFn K (.ref f) = true
 kp : PySem.W.keepIn K (.ref f) = true
section
variable {X : Cx} {pins : List (Addr × Obj)} {σ : St} {H : Hp} {s : Shared} {a C dx : Addr} {fs : List (Str × V)} {f : Str} {v : V} {A : Around} {E : Value -> Shared -> Prop}
theorem getattr_ok {b : Bool} {Q : Value -> Shared -> Prop} (I : Inv X pins σ H s) (e : H a = some (.ins C dx fs)) (c : Cls X.K C) (n : NoAttr X.K C f) (l : fs.lookup f = some v)
  (h : ∀ u s', Inv X pins σ H s' -> RelV v u -> Q u s') : wpAny (model X.prog X.w) A (getAttr (.ref a) f b) Q E s := by
 obtain ⟨mA, O, r, _, _, _⟩ := ins_get I.hok e
 obtain ⟨u, hu, ru⟩ := RelO.some_of (v := v) (o := mA f) (by rw [← l]; exact r f)
 exact get_map I.kIn O (c.get f) c.hd n hu (handed_of ru) (h u _ (I.tok _) ru)
theorem getmeth_ok {m : Str} {g : Addr} {pl : Sem Bool} {Q : Value × List Value -> Shared -> Prop} (I : Inv X pins σ H s) (e : H a = some (.ins C dx fs)) (c : Cls X.K C) (k : Meth X.K C m g) (l : fs.lookup m = none)
  (h : Q (.ref g, [.ref a]) s) : wpAny (model X.prog X.w) A (getMethod (.ref a) m pl) Q E s := by
 obtain ⟨mA, O, r, _, _, _⟩ := ins_get I.hok e
 have hn : mA m = none := RelO.none_of (by rw [← l]; exact r m)
 exact get_meth I.kIn O (c.get m) k.at_ k.fn hn h
theorem setattr_ok {y : V} {u : Value} {Q : Unit -> Shared -> Prop} (I : Inv X pins σ H s) (e : H a = some (.ins C dx fs)) (c : Cls X.K C) (n : NoAttr X.K C f) (hl : fs.length < 1000) (ry : RelV y u)
  (h : ∀ s', Inv X pins σ (upd H a (.ins C dx (putF f y fs))) s' -> Q () s') : wpAny (model X.prog X.w) A (setAttr (.ref a) f u) Q E s := by
 obtain ⟨mA, O, r, wi, _, ho⟩ := ins_get I.hok e
 have hz : (fs.map (·.1)).length <= sizeLine := by rw [List.length_map, sizeLine_eq]; omega
 refine set_map I.kIn O c.sa c.po n.taker c.hd wi hz fun h' O' sb => h _ ?_
 have hd : ∃ o, h'.get? dx = some o := let ⟨o, _, _, e', _⟩ := O'.ns; ⟨o, e'⟩
 refine I.write (x := a) (e := dx) (by rw [e]; exact True.intro) (.inr ho) (fun b q hb z => (sb.2 b hb).trans z) hd ?_
 refine ⟨by rw [upd_ne O.ne]; exact ho, ?_, O.ne, O'.obj, _, O'.ns, fun g => ?_, fun g hg => ?_⟩
 · have := length_putF f y fs; omega
 · show RelO ((putF f y fs).lookup g) (if g = f then some u else mA g)
   rw [lookup_putF]
   by_cases q : g = f
   · rw [if_pos q, if_pos q]; exact ry
   · rw [if_neg q, if_neg q]; exact r g
 · by_cases q : g = f
   · rw [q]; exact (keys_putF f y fs).1
   · refine (keys_putF f y fs).2 g (wi g fun z => hg ?_)
     show (if g = f then some u else mA g) = none
     rw [if_neg q]; exact z
theorem Inv.made (I : Inv X pins σ H s) : Inv X pins σ (upd (upd H s.heap.objs.size (.own (s.heap.objs.size + 1))) (s.heap.objs.size + 1) (.ins C s.heap.objs.size []))
  { s with heap := (s.heap.push PySem.W.emptyDict).push (PySem.W.instObj C s.heap.objs.size) } := by
 have e1 : (s.heap.push PySem.W.emptyDict).get? s.heap.objs.size = some PySem.W.emptyDict := Heap.get?_push_size s.heap rfl
 have e2 : ((s.heap.push PySem.W.emptyDict).push (PySem.W.instObj C s.heap.objs.size)).get? (s.heap.objs.size + 1) = some (PySem.W.instObj C s.heap.objs.size) := by
  have := Heap.get?_push_size (s.heap.push PySem.W.emptyDict) (o := PySem.W.instObj C s.heap.objs.size) rfl
  rwa [Heap.size_push] at this
 have e3 : (s.heap.push PySem.W.emptyDict).Ns s.heap.objs.size (fun _ => none) := ⟨PySem.W.emptyDict, #[], _, e1, rfl, (fun e he => absurd he (by simp)), fun _ => rfl⟩
 have I1 := I.laid (a := s.heap.objs.size) (o := .own (s.heap.objs.size + 1)) (h' := s.heap.push PySem.W.emptyDict) (t' := s.toks) (fun b u q => Heap.get?_push_of_some _ q) (Nat.le_refl _) ⟨_, e1⟩
 refine I1.laid (a := s.heap.objs.size + 1) (o := .ins C s.heap.objs.size []) (t' := s.toks) (fun b u q => Heap.get?_push_of_some _ q) (Nat.le_of_eq (Heap.size_push _ _)) ?_
 have ne : s.heap.objs.size ≠ s.heap.objs.size + 1 := Nat.ne_of_lt (Nat.lt_succ_self _)
 refine ⟨by rw [upd_ne ne, upd_same], Nat.zero_le _, ne, e2, fun _ => none, (Heap.Ns1.of_empty e3).at fun o q => Heap.get?_push_of_some _ q, fun _ => True.intro, fun y hy => absurd rfl hy⟩
theorem attr_of {prog : Program} {w : World} {env : Env} {e : Expr} {f : Str} {pos : Pos} {s : Shared} {Q : Value -> Shared -> Prop} (hb : attributeBase e f env (eval e env) = eval e env)
  (h : wpAny (model prog w) A (eval e env) (fun o s₁ => wpAny (model prog w) A (getAttr o f true) Q E s₁) E s) : wpAny (model prog w) A (eval (.Attribute e f pos) env) Q E s :=
 Attribute_any_ h (by rw [arm_eval_Attribute, hb])
end
def tFld (K : PySem.W.Frag) (ta : TE) (f : Str) : TE := fun σ H Q => ta σ H fun x H1 => ∃ a C dx fs v, x = .ref a /\ H1 a = some (.ins C dx fs) /\ Cls K C /\ NoAttr K C f /\ fs.lookup f = some v /\ Q v H1
def sFld (K : PySem.W.Frag) (ta tv : TE) (f : Str) : TS := fun D σ H => tv σ H fun y H1 => ta σ H1 fun x H2 => ∃ a C dx fs, x = .ref a /\ H2 a = some (.ins C dx fs) /\ Cls K C /\ NoAttr K C f /\ fs.length < 1000 /\
 D.nx σ (upd H2 a (.ins C dx (putF f y fs)))
section
variable {X : Cx} {o e value : Expr} {f : Str} {pos pos' tpos : Pos} {ta tv : TE}
theorem pe_fld (he : PE X e ta) (hb : attributeBase e f X.env (eval e X.env) = eval e X.env) : PE X (.Attribute e f pos) (tFld X.K ta f) := by
 intro pins s σ H Q I h
 refine attr_of hb (thn (he pins s σ H _ I h) fun u s1 ⟨x, H1, I1, rx, a, C, dx, fs, v, ex, ea, c, n, l, q⟩ => ?_)
 subst ex
 obtain rfl : u = Value.ref a := rx
 exact getattr_ok I1 ea c n l fun u' s2 I2 ru => ⟨v, H1, I2, ru, q⟩
theorem ps_fld (ha : PE X o ta) (hv : PE X value tv) (hs : swapsWith value (some (.Attribute o f pos')) pos.line X.env = pure false) : PS X (.Assign [.Attribute o f pos'] value pos) (sFld X.K ta tv f) := by
 intro pins s σ H D I h
 refine plainObj_wpAny_Assign_Attribute (thn (hv pins s σ H _ I h) fun u s1 ⟨y, H1, I1, ry, q⟩ => thn (ha pins s1 σ H1 _ I1 q) fun ov s2 ⟨x, H2, I2, rx, a, C, dx, fs, ex, ea, c, n, l, q2⟩ => ?_) hs
 subst ex
 obtain rfl : ov = Value.ref a := rx
 exact setattr_ok I2 ea c n l ry fun s3 I3 => ⟨σ, _, I3, q2⟩
end
section
variable {X : Cx} {pins : List (Addr × Obj)} {σ : St} {H : Hp} {s : Shared} {A : Around} {E : Value -> Shared -> Prop} {Q : Value -> Shared -> Prop} {c : Value} {b : Bool}
inductive TyOf (K : PySem.W.Frag) (H : Hp) : V -> Value -> Prop where
 | non : TyOf K H .non (.type "NoneType")
 | bl (x : Bool) : TyOf K H (.bl x) (.type "bool")
 | int (i : Int) : TyOf K H (.int i) (.type "int")
 | str (x : Str) : TyOf K H (.str x) (.type "str")
 | flt (x : UInt64) : TyOf K H (.flt x) (.type "float")
 | lst {a : Addr} {xs : List V} (e : H a = some (.lst xs)) : TyOf K H (.ref a) (.type "list")
 | frz {a : Addr} {o : Obj} {xs : List V} (e : H a = some (.frz o (.lst xs))) : TyOf K H (.ref a) (.type "list")
 | tup {a : Addr} {xs : List V} (e : H a = some (.tup xs)) : TyOf K H (.ref a) (.type "tuple")
 | dK {a : Addr} {kvs : List (Key × V)} (e : H a = some (.dK kvs)) : TyOf K H (.ref a) (.type "dict")
 | dT {a : Addr} {kvs : List (List Key × V)} (e : H a = some (.dT kvs)) : TyOf K H (.ref a) (.type "dict")
 | ins {a C dx : Addr} {fs : List (Str × V)} (e : H a = some (.ins C dx fs)) (cl : Cls K C) (ha : PySem.W.findIn K (.ref C) "__class__" = some (some (.builtin "object.__class__")))
   (hn : PySem.W.specialIn K (.builtin "object.__class__") "__get__" = some (some (.builtin "getset_descriptor.__get__"))) (htk : PySem.W.takesIn K (.builtin "object.__class__") = some true)
   (hm : PySem.W.mroIn K C (.type "object") = some true) : TyOf K H (.ref a) (.ref C)
theorem isinst_ok {x : V} {u t : Value} (I : Inv X pins σ H s) (rx : RelV x u) (ty : TyOf X.K H x t) (e : PySem.W.kitOne X.K t c = some b) (h : ∀ tk, Q (.bool b) { s with toks := tk }) :
  wpAny (model X.prog X.w) A (call (.builtin "isinstance") [u, c]) Q E s := by
 cases ty with
 | non => cases (show u = Value.none from rx); exact PySem.W.kia_one PySem.W.kitx_none I.kIn True.intro e (fun z => nomatch z) h
 | bl y => cases (show u = Value.bool y from rx); exact PySem.W.kia_one PySem.W.kitx_bool I.kIn True.intro e (fun z => nomatch z) h
 | int i => obtain ⟨t, q⟩ := (show ∃ t, u = Value.int i t from rx); cases q; exact PySem.W.kia_one PySem.W.kitx_int I.kIn True.intro e (fun z => nomatch z) h
 | str y => obtain ⟨t, q⟩ := (show ∃ t, u = Value.str y t from rx); cases q; exact PySem.W.kia_one PySem.W.kitx_str I.kIn True.intro e (fun z => nomatch z) h
 | flt y => obtain ⟨t, q⟩ := (show ∃ t, u = Value.float y t from rx); cases q; exact PySem.W.kia_one PySem.W.kitx_float I.kIn True.intro e (fun z => nomatch z) h
 | @lst a xs ea =>
  cases (show u = Value.ref a from rx)
  obtain ⟨_, _, n, _, h1⟩ := (show ObjOk X.prog X.w H s.heap a (.lst xs) from I.hok a _ ea)
  exact PySem.W.kia_one PySem.W.kitx_list I.kIn ⟨_, h1, rfl⟩ e (fun z => nomatch z) h
 | @frz a ob xs ea =>
  cases (show u = Value.ref a from rx)
  obtain ⟨_, _, _, n, _, h1⟩ := (show ObjOk X.prog X.w H s.heap a (.frz ob (.lst xs)) from I.hok a _ ea)
  exact PySem.W.kia_one PySem.W.kitx_list I.kIn ⟨_, h1, rfl⟩ e (fun z => nomatch z) h
 | @tup a xs ea =>
  cases (show u = Value.ref a from rx)
  obtain ⟨_, _, _, p⟩ := (show ObjOk X.prog X.w H s.heap a (.tup xs) from I.hok a _ ea)
  obtain ⟨o, h1, h2, _⟩ := p
  exact PySem.W.kia_one PySem.W.kitx_tuple I.kIn ⟨o, h1, h2⟩ e (fun z => nomatch z) h
 | @dK a kvs ea =>
  cases (show u = Value.ref a from rx)
  obtain ⟨_, _, vs, _, p⟩ := (show ObjOk X.prog X.w H s.heap a (.dK kvs) from I.hok a _ ea)
  obtain ⟨o, es, ep, h1, h2, _⟩ := p
  exact PySem.W.kia_one PySem.W.kitx_dict I.kIn ⟨o, h1, h2.1⟩ e (fun z => nomatch z) h
 | @dT a kvs ea =>
  cases (show u = Value.ref a from rx)
  obtain ⟨_, _, xs, _, o, es, ep, h1, h2, _⟩ := (show ObjOk X.prog X.w H s.heap a (.dT kvs) from I.hok a _ ea)
  exact PySem.W.kia_one PySem.W.kitx_dict I.kIn ⟨o, h1, h2.1⟩ e (fun z => nomatch z) h
 | @ins a C dx fs ea cl ha hn htk hm =>
  cases (show u = Value.ref a from rx)
  obtain ⟨mA, O, _⟩ := ins_get I.hok ea
  obtain ⟨od, J, _⟩ := O.look
  exact PySem.W.kia_one (PySem.W.kitx_own (cl.get _) cl.hd ha hn htk hm) I.kIn J e (fun z => nomatch z) h
end
end L2
namespace L2
open PySem PySem.Spec PyProof.Rows
structure Room (k : Nat) (A : Around) : Prop where
 hd : A.handled = none
 dp : A.depth + 3 * k + 5 < recursionLimit
 un : A.units + 16 * k + 200 < cLine
theorem Room.mono {j k : Nat} {A : Around} (r : Room k A) (h : j <= k) : Room j A := ⟨r.hd, by have := r.dp; omega, by have := r.un; omega⟩
theorem Room.deeper {k : Nat} {A : Around} (r : Room (k + 1) A) (env : Env) : Room k (A.deeper env) :=
 ⟨r.hd, by have := r.dp; show A.depth + 1 + 3 * k + 5 < _; omega, by have := r.un; show A.units + 3 + 16 * k + 200 < _; omega⟩
theorem make_depth {A : Around} {C : Addr} {us : List Value} {kw : List (Str × Value)} : (A.under (.builtin "type.__call__" ⟨.ref C :: us, kw⟩)).depth = A.depth + 1 := by
 first | rfl | simp [Around.under, Code.weight, Code.isCreation, Code.isGuard, Code.isCaller, Code.frames, Code.isFrame, guardIds]
theorem make_units {A : Around} {C : Addr} {us : List Value} {kw : List (Str × Value)} : (A.under (.builtin "type.__call__" ⟨.ref C :: us, kw⟩)).units = A.units + 1 := by
 first | rfl | simp [Around.under, Code.cUnits, Code.frames, Code.isFrame]
theorem Room.make {k : Nat} {A : Around} (r : Room (k + 1) A) (C : Addr) (us : List Value) (kw : List (Str × Value)) : Room k (A.under (.builtin "type.__call__" ⟨.ref C :: us, kw⟩)) :=
 ⟨r.hd, by have := r.dp; rw [make_depth]; omega, by have := r.un; rw [make_units]; omega⟩
theorem Room.depth {k : Nat} {A : Around} (r : Room k A) : A.depth < recursionLimit := by have := r.dp; omega
theorem Room.units {k : Nat} {A : Around} (r : Room k A) : A.units + 64 < cLine := by have := r.un; omega
def tNil : TA := fun _ H Q => Q [] H
def tCons (ta : TE) (tr : TA) : TA := fun σ H Q => ta σ H fun x H1 => tr σ H1 fun xs H2 => Q (x :: xs) H2
section
variable {X : Cx} {e : Expr} {es : List Expr} {te : TE} {t : TA} {pos : Pos}
theorem pa_nil : PA X [] tNil := fun _ _ _ _ H Q I h => Calls.spliced_nil ⟨[], H, I, .nil, h⟩
theorem pa_cons (ha : PE X e te) (hr : PA X es t) (hs : starEach (e :: es) X.env = (false, eval e X.env) :: starEach es X.env := by rfl) : PA X (e :: es) (tCons te t) := by
 intro pos pins s σ H Q I h
 rw [hs]
 show wpAny _ _ (spliced ((false, eval e X.env) :: backTo pos (starEach es X.env))) _ _ s
 refine Calls.spliced_cons (thn (ha pins s σ H _ I h) fun u s1 ⟨x, H1, I1, r1, q1⟩ => ?_)
 exact thn (hr pos pins s1 σ H1 _ I1 q1) fun us s2 ⟨xs, H2, I2, r2, q2⟩ => ⟨x :: xs, H2, I2, .cons r1 r2, q2⟩
def tTup (t : TA) : TE := fun σ H Q => t σ H fun xs H1 => xs.length <= sizeLine /\ ∀ p, H1 p = none -> Q (.ref p) (upd H1 p (.tup xs))
def tLst (t : TA) : TE := fun σ H Q => t σ H fun xs H1 => xs.length <= sizeLine /\ ∀ p, H1 p = none -> Q (.ref p) (upd H1 p (.lst xs))
theorem pe_tup {x1} (h : PA X es t) : PE X (.Tuple es x1 pos) (tTup t) := by
 intro pins s σ H Q I hq
 refine wpAny_Tuple_spliced (thn (h pos pins s σ H _ I hq) fun us s1 ⟨xs, H1, I1, r, z, q⟩ => ⟨by rw [← r.length]; exact z, ?_⟩)
 have hf : H1 s1.heap.objs.size = none := I1.hok.fresh (Nat.le_refl _)
 refine ⟨.ref s1.heap.objs.size, upd H1 s1.heap.objs.size (.tup xs), I1.laid (t' := s1.toks) (fun b u e => Heap.get?_push_of_some _ e) (Nat.le_refl _) ?_, rfl, q _ hf⟩
 exact ⟨z, us, r, ⟨_, Heap.get?_push_size _ rfl, rfl, _, rfl⟩⟩
theorem pe_lst (h : PA X es t) : PE X (.List es pos) (tLst t) := by
 intro pins s σ H Q I hq
 refine wpAny_List_spliced (thn (h pos pins s σ H _ I hq) fun us s1 ⟨xs, H1, I1, r, z, q⟩ => ⟨by rw [← r.length]; exact z, ?_⟩)
 have hf : H1 s1.heap.objs.size = none := I1.hok.fresh (Nat.le_refl _)
 refine ⟨.ref s1.heap.objs.size, upd H1 s1.heap.objs.size (.lst xs), I1.laid (t' := s1.toks) (fun b u e => Heap.get?_push_of_some _ e) (Nat.le_refl _) ?_, rfl, q _ hf⟩
 exact ⟨z, us, 0, r, Heap.get?_push_size _ rfl⟩
end
abbrev Sp := List V -> Hp -> VK -> XK -> Prop
abbrev CXT := List Env -> Hp -> Shared -> XK -> Value -> Shared -> Prop
structure Env0 (P : Program) (w : World) (K : PySem.W.Frag) (mg : Str -> Option Value) (base : Heap) (A : Around) (outer : List Env) (s : Shared) (H : Hp) : Prop where
 frames : A.frames = some outer
 mod : Mod K mg base
 bs : ∀ b o, base.get? b = some o -> s.heap.get? b = some o /\ H b = none
 bsz : base.objs.size <= s.heap.objs.size
 funs : s.heap.FunFrames base outer
 frf : ∀ b ∈ frs outer, H b = none
 hok : HOk P w H s.heap
 bare : AllBare s.gens
def CE (outer : List Env) (P : Program) (w : World) (H : Hp) (s : Shared) (Q : VK) (u : Value) (s' : Shared) : Prop :=
 ∃ v H', s'.os = s.os /\ AllBare s'.gens /\ Un (frs outer) [] H H' s.heap s'.heap /\ HOk P w H' s'.heap /\ RelV v u /\ Q v H'
def CR (CX : CXT) (outer : List Env) (P : Program) (w : World) (H : Hp) (s : Shared) (Q : VK) (E : XK) (r : Result) (s' : Shared) : Prop :=
 match r with
 | .ok (.ret u) => CE outer P w H s Q u s'
 | .ok _ => False
 | .error e => CX outer H s E e s'
structure FnOk (P : Program) (w : World) (K : PySem.W.Frag) (mg : Str -> Option Value) (base : Heap) (CX : CXT) (k : Nat) (f : Addr) (fd : FuncData) (ps : List Str) (sp : Sp) : Prop where
 len : ∀ vs H Q E, sp vs H Q E -> vs.length = ps.length
 run : ∀ (A : Around) (outer : List Env) (s : Shared) (H : Hp) (args : Args) (us : List Value) (vs : List V) (Q : VK) (E : XK), Room k A -> Env0 P w K mg base A outer s H -> BindsTo s fd args (ps.zip us) -> Vals vs us -> sp vs H Q E ->
  codeAny (model P w) A (.call (.ref f) args) (CR CX outer P w H s Q E) s
theorem FnOk.imp {P : Program} {w : World} {K : PySem.W.Frag} {mg : Str -> Option Value} {base : Heap} {CX : CXT} {k : Nat} {f : Addr} {fd : FuncData} {ps : List Str} {sp sp' : Sp} (F : FnOk P w K mg base CX k f fd ps sp)
  (h : ∀ vs H Q E, sp' vs H Q E -> sp vs H Q E) : FnOk P w K mg base CX k f fd ps sp' :=
 ⟨fun vs H Q E q => F.len vs H Q E (h _ _ _ _ q), fun A outer s H args us vs Q E hr he hb hv hs => F.run A outer s H args us vs Q E hr he hb hv (h _ _ _ _ hs)⟩
theorem Env0.make {P : Program} {w : World} {K : PySem.W.Frag} {mg : Str -> Option Value} {base : Heap} {A : Around} {outer : List Env} {s : Shared} {H : Hp} (e : Env0 P w K mg base A outer s H) (C : Addr) (us : List Value) (kw : List (Str × Value)) :
  Env0 P w K mg base (A.under (.builtin "type.__call__" ⟨.ref C :: us, kw⟩)) outer s H := ⟨by first | exact e.frames | (simpa [Around.under, Code.envs, Code.isFrame, pushEnvs] using e.frames), e.mod, e.bs, e.bsz, e.funs, e.frf, e.hok, e.bare⟩
section
variable {X : Cx} {pins : List (Addr × Obj)} {σ : St} {H : Hp} {s s' : Shared}
theorem Inv.env0 (I : Inv X pins σ H s) : Env0 X.prog X.w X.K X.mg X.base X.A X.stack s H :=
 ⟨I.ok.frames, I.ok.mod, I.bs, Nat.le_trans I.ok.bsz I.sz, I.stack, I.stkFree, I.hok, I.bare⟩
theorem Inv.after {Q : VK} {u : Value} (I : Inv X pins σ H s) (h : CE X.stack X.prog X.w H s Q u s') : EP X pins σ Q u s' := by
 obtain ⟨v, H', os, bare, un, hok, r, q⟩ := h
 obtain ⟨hh, g, d, t, os'⟩ := s'
 obtain rfl : os' = s.os := os
 exact ⟨v, H', I.call (h' := hh) (g' := g) (d' := d) (t' := t) (ch := []) un hok bare (fun b z => absurd z (by simp)), r, q⟩
end
def tCall (sp : Sp) (dvs : List V) (E : XK) (t : TA) : TE := fun σ H Q => t σ H fun vs H1 => sp (vs ++ dvs) H1 Q E
def tMeth (C : Addr) (m : Str) (sp : Sp) (dvs : List V) (E : XK) (ta : TE) (t : TA) : TE := fun σ H Q => ta σ H fun x H1 => ∃ a dx fs, x = .ref a /\ H1 a = some (.ins C dx fs) /\ fs.lookup m = none /\
 t σ H1 fun vs H2 => sp (x :: (vs ++ dvs)) H2 Q E
def tMake (C : Addr) (sp : Sp) (dvs : List V) (E : XK) (t : TA) : TE := fun σ H Q => t σ H fun vs H1 => ∀ x dx, H1 x = none -> H1 dx = none -> dx ≠ x ->
 sp (.ref x :: (vs ++ dvs)) (upd (upd H1 dx (.own x)) x (.ins C dx [])) (fun v H2 => v = .non /\ Q (.ref x) H2) E
def Binds (K : PySem.W.Frag) (fd : FuncData) (ps : List Str) (ds : List Value) : Prop :=
 ∀ (s : Shared) (us : List Value), K.In s.heap -> (us ++ ds).length = ps.length -> BindsTo s fd ⟨us, []⟩ (ps.zip (us ++ ds))
theorem Binds.all {K : PySem.W.Frag} {fd : FuncData} {ps : List Str} (h : ∀ us : List Value, us.length = ps.length -> bindArgs fd ⟨us, []⟩ = pure (ps.zip us)) : Binds K fd ps [] := fun s us _ hl => by
 rw [List.append_nil] at hl ⊢
 exact .of_eq (h us hl)
def Passes (CX : CXT) (X : Cx) (E : XK) : Prop := ∀ (pins : List (Addr × Obj)) (σ : St) (H : Hp) (s : Shared) (e : Value) (s' : Shared), Inv X pins σ H s -> CX X.stack H s E e s' -> X.xe e s'
section
variable {X : Cx} {CX : CXT} {k : Nat} {f C : Addr} {fd : FuncData} {ps : List Str} {sp : Sp} {dvs : List V} {ds : List Value} {E : XK} {x m : Str} {p pos apos : Pos} {e o : Expr} {es : List Expr} {ta : TE} {t : TA}
theorem run_fn {pins : List (Addr × Obj)} {σ : St} {H : Hp} {s : Shared} {Q : VK} {us : List Value} {vs : List V} (F : FnOk X.prog X.w X.K X.mg X.base CX k f fd ps sp) (hr : Room k X.A) (hb : Binds X.K fd ps ds) (hd : Vals dvs ds) (hx : Passes CX X E)
  (I : Inv X pins σ H s) (r : Vals vs us) (h : sp (vs ++ dvs) H Q E) : wpAny (model X.prog X.w) X.A (call (.ref f) us) (EP X pins σ Q) X.xe s := by
 have r2 : Vals (vs ++ dvs) (us ++ ds) := r.append hd
 have hl : (us ++ ds).length = ps.length := by rw [← r2.length]; exact F.len _ _ _ _ h
 refine wpAny_call (codeAny_mono (F.run X.A X.stack s H ⟨us, []⟩ (us ++ ds) (vs ++ dvs) Q E hr I.env0 (hb s us I.kIn hl) r2 h) fun r s' hq => ?_)
 cases r with
 | error e => exact hx pins σ H s e s' I hq
 | ok fl =>
  cases fl with
  | ret u => exact I.after hq
  | next => exact False.elim hq
  | brk => exact False.elim hq
  | cont => exact False.elim hq
theorem pe_call (F : FnOk X.prog X.w X.K X.mg X.base CX k f fd ps sp) (hr : Room k X.A) (hg : Gl X x) (hm : X.mg x = some (.ref f)) (hk : PySem.W.keepIn X.K (.ref f) = true) (hb : Binds X.K fd ps ds) (hd : Vals dvs ds) (hx : Passes CX X E)
  (ha : PA X (e :: es) t) (hdb : (x == ("__debug__" : Str)) = false := by decide) (he : starEach (e :: es) X.env = (false, eval e X.env) :: starEach es X.env := by rfl) (hpl : (backTo pos (starEach es X.env)).any (·.1) = false := by rfl) :
  PE X (.Call (.Name x p) (e :: es) [] pos) (tCall sp dvs E t) := by
 intro pins s σ H Q I h
 refine wpAny_Call_Name_kw (ld_glob I hg hm ?_ hdb)
 refine PySem.W.callWith_K (h₀ := X.base) I.ok.mod.kin hk (thn (ha pos pins s σ H _ I h) fun us s1 ⟨vs, H1, I1, r, q⟩ => ⟨I1.kIn, ?_⟩) he hpl
 exact run_fn F hr hb hd hx I1 r q
theorem pe_meth {pl : Sem Bool} (he : PE X o ta) (c : Cls X.K C) (hm : Meth X.K C m f) (F : FnOk X.prog X.w X.K X.mg X.base CX k f fd ps sp) (hr : Room k X.A) (hb : Binds X.K fd ps ds) (hd : Vals dvs ds) (hx : Passes CX X E) (ha : PA X (e :: es) t)
  (hst : starEach (e :: es) X.env = (false, eval e X.env) :: starEach es X.env := by rfl) (hpl : (backTo pos (starEach es X.env)).any (·.1) = false := by rfl)
  (ht : eval (.Call (.Attribute o m apos) (e :: es) [] pos) X.env = (do
   let ov ← eval o X.env
   standAt apos.atName
   let (f, first) ← holding [ov] (getMethod ov m pl)
   callWith pos f first (backTo pos (starEach (e :: es) X.env)) (backToKw pos (keywordEach [] X.env))) := by rfl) :
  PE X (.Call (.Attribute o m apos) (e :: es) [] pos) (tMeth C m sp dvs E ta t) := by
 intro pins s σ H Q I h
 refine PySem.W.methodCall_KW (pl := pl) (thn (he pins s σ H _ I h) fun u s1 ⟨x, H1, I1, rx, a, dx, fs, ex, ea, l, q⟩ => ?_) ht
 subst ex
 obtain rfl : u = Value.ref a := rx
 refine getmeth_ok I1 ea c hm l ?_
 refine PySem.W.callWith_K (first := [.ref a]) (h₀ := X.base) I.ok.mod.kin hm.kp (thn (ha pos pins s1 σ H1 _ I1 q) fun us s2 ⟨vs, H2, I2, r, q2⟩ => ⟨I2.kIn, ?_⟩) hst hpl
 exact run_fn (us := .ref a :: us) (vs := .ref a :: vs) F hr hb hd hx I2 (.cons rfl r) q2
theorem pe_meth0 {pl : Sem Bool} (he : PE X o ta) (c : Cls X.K C) (hm : Meth X.K C m f) (F : FnOk X.prog X.w X.K X.mg X.base CX k f fd ps sp) (hr : Room k X.A) (hb : Binds X.K fd ps ds) (hd : Vals dvs ds) (hx : Passes CX X E)
  (ht : eval (.Call (.Attribute o m apos) [] [] pos) X.env = (do
   let ov ← eval o X.env
   standAt apos.atName
   let (f, first) ← holding [ov] (getMethod ov m pl)
   callWith pos f first (backTo pos (starEach [] X.env)) (backToKw pos (keywordEach [] X.env))) := by rfl) :
  PE X (.Call (.Attribute o m apos) [] [] pos) (tMeth C m sp dvs E ta tNil) := by
 intro pins s σ H Q I h
 refine PySem.W.methodCall_KW (pl := pl) (thn (he pins s σ H _ I h) fun u s1 ⟨x, H1, I1, rx, a, dx, fs, ex, ea, l, q⟩ => ?_) ht
 subst ex
 obtain rfl : u = Value.ref a := rx
 refine getmeth_ok I1 ea c hm l ?_
 exact PySem.W.callWith_K0 (first := [.ref a]) I1.kIn hm.kp (run_fn (us := [.ref a]) (vs := [.ref a]) F hr hb hd hx I1 (.cons rfl .nil) q)
structure Mk (K : PySem.W.Frag) (C f : Addr) : Prop where
 makes : PySem.W.makesIn K C = true
 init : PySem.W.findIn K (.ref C) "__init__" = some (some (.ref f))
 fn : PySem.W.isFn K (.ref f) = true
 kp : PySem.W.keepIn K (.ref C) = true
theorem run_make {pins : List (Addr × Obj)} {σ : St} {H : Hp} {s : Shared} {Q : VK} {us : List Value} {vs : List V} (M : Mk X.K C f) (F : FnOk X.prog X.w X.K X.mg X.base CX k f fd ps sp) (hr : Room (k + 1) X.A) (hb : Binds X.K fd ps ds) (hd : Vals dvs ds)
  (hx : Passes CX X E) (I : Inv X pins σ H s) (r : Vals vs us)
  (h : ∀ x dx, H x = none -> H dx = none -> dx ≠ x -> sp (.ref x :: (vs ++ dvs)) (upd (upd H dx (.own x)) x (.ins C dx [])) (fun v H2 => v = .non /\ Q (.ref x) H2) E) :
  wpAny (model X.prog X.w) X.A (call (.ref C) us) (EP X pins σ Q) X.xe s := by
 have hq := h (s.heap.objs.size + 1) s.heap.objs.size (I.hok.fresh (Nat.le_succ _)) (I.hok.fresh (Nat.le_refl _)) (Nat.ne_of_lt (Nat.lt_succ_self _))
 have I2 := Inv.made (C := C) I
 have r2 : Vals (V.ref (s.heap.objs.size + 1) :: (vs ++ dvs)) (Value.ref (s.heap.objs.size + 1) :: (us ++ ds)) := .cons rfl (r.append hd)
 have hl : (Value.ref (s.heap.objs.size + 1) :: us ++ ds).length = ps.length := by
  have e := r2.length
  rw [F.len _ _ _ _ hq] at e
  exact e.symm
 refine wpAny_call (make_map (f := f) I.kIn M.makes M.init (beq_iff_eq.mp M.fn) (codeAny_mono (F.run _ X.stack _ _ ⟨Value.ref (s.heap.objs.size + 1) :: us, []⟩ (Value.ref (s.heap.objs.size + 1) :: (us ++ ds)) _ _ E (hr.make C us [])
  (I2.env0.make C us []) (hb _ (Value.ref (s.heap.objs.size + 1) :: us) I2.kIn hl) r2 hq) fun r s' hq' => ?_))
 cases r with
 | error e => exact hx pins σ _ _ e s' I2 hq'
 | ok fl =>
  cases fl with
  | ret u =>
   obtain ⟨v, H', I3, rv, ev, q3⟩ := I2.after hq'
   subst ev
   exact ⟨rv, ⟨V.ref (s.heap.objs.size + 1), H', I3, rfl, q3⟩⟩
  | next => exact False.elim hq'
  | brk => exact False.elim hq'
  | cont => exact False.elim hq'
theorem pe_make (M : Mk X.K C f) (F : FnOk X.prog X.w X.K X.mg X.base CX k f fd ps sp) (hr : Room (k + 1) X.A) (hg : Gl X x) (hm : X.mg x = some (.ref C)) (hb : Binds X.K fd ps ds) (hd : Vals dvs ds) (hx : Passes CX X E)
  (ha : PA X (e :: es) t) (hdb : (x == ("__debug__" : Str)) = false := by decide) (he : starEach (e :: es) X.env = (false, eval e X.env) :: starEach es X.env := by rfl) (hpl : (backTo pos (starEach es X.env)).any (·.1) = false := by rfl) :
  PE X (.Call (.Name x p) (e :: es) [] pos) (tMake C sp dvs E t) := by
 intro pins s σ H Q I h
 refine wpAny_Call_Name_kw (ld_glob I hg hm ?_ hdb)
 refine PySem.W.callWith_K (h₀ := X.base) I.ok.mod.kin M.kp (thn (ha pos pins s σ H _ I h) fun us s1 ⟨vs, H1, I1, r, q⟩ => ⟨I1.kIn, ?_⟩) he hpl
 exact run_make M F hr hb hd hx I1 r q
end
def PK (X : Cx) (kws : List Keyword) (t : TA) : Prop :=
 ∀ (pos : Pos) (pins : List (Addr × Obj)) (s : Shared) (σ : St) (H : Hp) (Q : List V -> Hp -> Prop), Inv X pins σ H s -> t σ H Q -> wpAny (model X.prog X.w) X.A (evalAll ((backToKw pos (keywordEach kws X.env)).map (·.2))) (AP X pins σ Q) X.xe s
section
variable {X : Cx} {CX : CXT} {k : Nat} {f C : Addr} {fd : FuncData} {ps ks : List Str} {sp : Sp} {E : XK} {x m : Str} {p pos apos kpos : Pos} {e o : Expr} {es : List Expr} {kws : List Keyword} {te ta : TE} {t tk : TA} {nm : Option Str}
theorem pk_nil : PK X [] tNil := fun _ _ _ _ H Q I h => wpAny_evalAll_nil ⟨[], H, I, .nil, h⟩
theorem pk_cons (ha : PE X e te) (hr : PK X kws t) : PK X (⟨nm, e, kpos⟩ :: kws) (tCons te t) := by
 intro pos pins s σ H Q I h
 show wpAny _ _ (evalAll ((do let v ← eval e X.env; standAt pos; pure v) :: (backToKw pos (keywordEach kws X.env)).map (·.2))) _ _ s
 refine wpAny_evalAll_cons (wpAny_bind (thn (ha pins s σ H _ I h) fun u s1 ⟨x, H1, I1, r1, q1⟩ => wpAny_bind (wpAny_standAt (wpAny_pure ?_))))
 exact thn (hr pos pins s1 σ H1 _ I1 q1) fun us s2 ⟨xs, H2, I2, r2, q2⟩ => ⟨x :: xs, H2, I2, .cons r1 r2, q2⟩
variable {g : List Value -> List Value -> List Value} {gV : List V -> List V -> List V}
end
structure FnScope (N P : List Str) (sc : Scope) : Prop where
 kind : sc.kind = .function
 co : sc.isCoroutine = false
 gen : sc.isGenerator = false
 nd : N.Nodup
 pre : N.take P.length = P
 par : ∀ x ∈ P, sc.names.lookup x = some .local \/ sc.names.lookup x = some .cell
 nofree : ∀ y ∈ sc.names, y.2 ≠ .free
theorem bindL_out {kindOf : Str -> Option NameKind} {x : Str} : ∀ {binds : List (Str × Value)} {m : Str -> Option Value}, (∀ v, (x, v) ∉ binds) -> bindL kindOf binds m x = m x
 | [], _, _ => rfl
 | (n, v) :: r, m, h => by
  unfold bindL
  rw [bindL_out fun w hw => h w (List.mem_cons_of_mem _ hw)]
  split
  · have : x ≠ n := by rintro rfl; exact h v List.mem_cons_self
    simp [this]
  · rfl
theorem bindC_out {kindOf : Str -> Option NameKind} {x : Str} : ∀ {binds : List (Str × Value)} {m : Str -> Option Value}, (∀ v, (x, v) ∉ binds) -> bindC kindOf binds m x = m x
 | [], _, _ => rfl
 | (n, v) :: r, m, h => by
  unfold bindC
  rw [bindC_out fun w hw => h w (List.mem_cons_of_mem _ hw)]
  split
  · rfl
  · have : x ≠ n := by rintro rfl; exact h v List.mem_cons_self
    simp [this]
theorem bindL_get {kindOf : Str -> Option NameKind} {x : Str} {v : Value} : ∀ {P : List Str} {vs : List Value} {i : Nat} {m : Str -> Option Value}, P.Nodup -> P[i]? = some x -> vs[i]? = some v -> kindOf x = some .local ->
  bindL kindOf (P.zip vs) m x = some v
 | [], _, _, _, _, h, _, _ => by simp at h
 | _ :: _, [], _, _, _, _, h, _ => by simp at h
 | p :: P, w :: vs, 0, m, nd, h1, h2, hk => by
  simp at h1 h2; subst h1; subst h2
  show bindL kindOf ((p, w) :: P.zip vs) m p = _
  unfold bindL
  rw [bindL_out fun v hv => (List.nodup_cons.mp nd).1 (List.of_mem_zip hv).1, if_pos hk]
  simp
 | p :: P, w :: vs, i + 1, m, nd, h1, h2, hk => by
  show bindL kindOf ((p, w) :: P.zip vs) m x = _
  unfold bindL
  exact bindL_get (i := i) (List.nodup_cons.mp nd).2 (by simpa using h1) (by simpa using h2) hk
theorem bindC_get {kindOf : Str -> Option NameKind} {x : Str} {v : Value} : ∀ {P : List Str} {vs : List Value} {i : Nat} {m : Str -> Option Value}, P.Nodup -> P[i]? = some x -> vs[i]? = some v -> kindOf x ≠ some .local ->
  bindC kindOf (P.zip vs) m x = some v
 | [], _, _, _, _, h, _, _ => by simp at h
 | _ :: _, [], _, _, _, _, h, _ => by simp at h
 | p :: P, w :: vs, 0, m, nd, h1, h2, hk => by
  simp at h1 h2; subst h1; subst h2
  show bindC kindOf ((p, w) :: P.zip vs) m p = _
  unfold bindC
  rw [bindC_out fun v hv => (List.nodup_cons.mp nd).1 (List.of_mem_zip hv).1, if_neg hk]
  simp
 | p :: P, w :: vs, i + 1, m, nd, h1, h2, hk => by
  show bindC kindOf ((p, w) :: P.zip vs) m x = _
  unfold bindC
  exact bindC_get (i := i) (List.nodup_cons.mp nd).2 (by simpa using h1) (by simpa using h2) hk
def start (N : List Str) (vs : List V) : St := vs.map some ++ List.replicate (N.length - vs.length) none
def cxOf (CX : CXT) (P : Program) (w : World) (K : PySem.W.Frag) (mg : Str -> Option Value) (base : Heap) (N : List Str) (qual : Str) (scope : Scope) (f : Addr) (cd : Value) (A : Around) (outer : List Env) (s : Shared) (H : Hp) (E : XK) : Cx where
 prog := P
 w := w
 K := K
 mg := mg
 base := base
 A := A.deeper (envOfC qual scope s.heap.objs.size f cd)
 N := N
 s₀ := s
 H₀ := H
 env := envOfC qual scope s.heap.objs.size f cd
 outer := outer
 stack := envOfC qual scope s.heap.objs.size f cd :: outer
 ex := []
 calm := true
 fn := fun _ => true
 pn := []
 xe := fun e s' => wpAny (model P w) (A.deeper (envOfC qual scope s.heap.objs.size f cd)) (leaving (envOfC qual scope s.heap.objs.size f cd) e) (fun _ s'' => CX outer H s E e s'') (fun e' s'' => CX outer H s E e' s'') s'
theorem cell_has {sc : Scope} {n : Nat} {x : Str} (h : sc.names.lookup x = some .cell) : ∃ c, (cellsFrom n sc.names []).lookup x = some c := by
 have q := PySem.W.cellsFrom_some sc.names n [] (.inl h)
 exact Option.isSome_iff_exists.mp q
theorem inv_start {CX : CXT} {P : Program} {w : World} {K : PySem.W.Frag} {mg : Str -> Option Value} {base : Heap} {N ps : List Str} {qual : Str} {scope : Scope} {f : Addr} {cd : Value} {A : Around} {outer : List Env} {s s1 : Shared} {H : Hp} {E : XK} {us : List Value} {vs : List V}
  (S : FnScope N ps scope) (hd : A.handled = none) (e0 : Env0 P w K mg base A outer s H) (hl : vs.length = ps.length) (r : Vals vs us)
  (x : InCallC s s.heap.objs.size (bindL (envOfC qual scope s.heap.objs.size f cd).kindOf (ps.zip us) fun _ => none) (cellsFrom (s.heap.objs.size + 1) scope.names []) (bindC (envOfC qual scope s.heap.objs.size f cd).kindOf (ps.zip us) fun _ => none) s1) :
  Inv (cxOf CX P w K mg base N qual scope f cd A outer s H E) [] (start N vs) H s1 := by
 have hpl : ps.length <= N.length := by have := congrArg List.length S.pre; rw [List.length_take] at this; omega
 obtain ⟨h1, tk, rfl, hk⟩ := x.done
 have noA : ∀ b : Addr, b ∉ (cxOf CX P w K mg base N qual scope f cd A outer s H E).ex := fun b z => absurd (show b ∈ ([] : List Addr) from z) (by simp)
 refine ⟨⟨e0.mod, S.kind, rfl, rfl, Nat.le_refl _, fun y z c h1 h2 => ?_, fun y hy => ?_, fun y c _ h => ?_, fun _ => hd, Around.frames_deeper e0.frames, .inr ⟨rfl, rfl⟩, fun b z => absurd z (noA b), e0.bs, e0.bsz, fun b _ _ => noA b, fun b z => absurd z (noA b), e0.funs, e0.frf⟩,
  rfl, e0.bare, Un.kept hk, ⟨_, x.toInCall.ns, fun i y v h1 h2 h3 => ?_⟩, fun y c h => ⟨_, x.cell y c h⟩, e0.hok.fresh (Nat.le_refl _), fun y c h => ?_, fun p hp => absurd (show p ∈ ([] : List (Addr × Obj)) from hp) (by simp), e0.hok.kept hk, ?_⟩
 · exact name_of_addr x.apart (PySem.mem_of_lookup h1) (PySem.mem_of_lookup h2)
 · have hy : scope.names.lookup y = some .cell \/ scope.names.lookup y = some .free := hy
   rcases hy with hy | hy
   · exact cell_has hy
   · exact absurd rfl (S.nofree _ (PySem.mem_of_lookup hy))
 · exact Nat.le_of_lt (x.above y c (PySem.mem_of_lookup h))
 · have hi : i < vs.length := by
    unfold start at h2
    by_cases hi : i < vs.length
    · exact hi
    · rw [List.getElem?_append_right (by simpa using hi)] at h2
      rw [List.getElem?_replicate] at h2
      split at h2 <;> cases h2
   have ha : vs[i]? = some v := by
    unfold start at h2
    rw [List.getElem?_append_left (by simpa using hi), List.getElem?_map] at h2
    cases e : vs[i]? with
    | none => rw [e] at h2; cases h2
    | some a => rw [e] at h2; cases h2; rfl
   obtain ⟨u, hu, rv⟩ := r.get ha
   have hp : ps[i]? = some y := by
    rw [← S.pre, List.getElem?_take_of_lt (by omega)]; exact h1
   have ndP : ps.Nodup := by rw [← S.pre]; exact S.nd.sublist (List.take_sublist _ _)
   refine ⟨u, rv, ?_⟩
   rcases S.par y (List.mem_of_getElem? hp) with k | k
   · exact .inl ⟨k, bindL_get ndP hp hu k⟩
   · obtain ⟨c, e⟩ := cell_has (n := s.heap.objs.size + 1) k
     refine .inr ⟨.inl k, c, e, ?_⟩
     have q := x.cell y c e
     rw [bindC_get ndP hp hu (by show scope.names.lookup y ≠ _; rw [k]; decide)] at q
     exact q
 · exact e0.hok.fresh (Nat.le_of_lt (x.above y c (PySem.mem_of_lookup h)))
 · unfold start
   show _ = N.length
   rw [List.length_append, List.length_map, List.length_replicate]
   omega
theorem fn_of {CX : CXT} {P : Program} {w : World} {K : PySem.W.Frag} {mg : Str -> Option Value} {base : Heap} {k : Nat} {f : Addr} {name qual : Str} {params : Arguments} {body : List Stmt} {scope : Scope} {dV kV doc pm cdv ct oc : Value} {an od : Option Addr}
  {osl : Array (Option Value)} {N ps : List Str} {sp : Sp} (lk : K.lookup f = some ⟨oc, od, .func (PySem.W.fnOf name qual params body scope dV kV doc pm an cdv ct), osl⟩) (hcd : PySem.W.codeIn K cdv qual = true) (S : FnScope N ps scope)
  (len : ∀ vs H Q E, sp vs H Q E -> vs.length = ps.length)
  (hbody : ∀ (A : Around) (outer : List Env) (s : Shared) (H : Hp) (vs : List V) (Q : VK) (E : XK), Room k (A.deeper (envOfC qual scope s.heap.objs.size f cdv)) -> sp vs H Q E ->
   ∃ t, PSs (cxOf CX P w K mg base N qual scope f cdv A outer s H E) body t /\ t { nx := fun _ H' => Q .non H', rt := Q } (start N vs) H) :
  FnOk P w K mg base CX (k + 1) f (PySem.W.fnOf name qual params body scope dV kV doc pm an cdv ct) ps sp := by
 refine ⟨len, fun A outer s H args us vs Q E hr e0 hb r hsp => ?_⟩
 have hl := len _ _ _ _ hsp
 have KX : K.In s.heap := e0.mod.kin.keeps fun b o e => (e0.bs b o e).1
 have lim : s.heap.NoLimit := e0.mod.nolimit.keeps fun b o e => (e0.bs b o e).1
 have hkind : ∀ y ∈ ps.zip us, scope.names.lookup y.1 = some .local \/ (scope.names.lookup y.1 = some .cell /\ ((cellsFrom (s.heap.objs.size + 1) scope.names []).lookup y.1).isSome = true) := fun ⟨n, v⟩ hy => by
  rcases S.par n (List.of_mem_zip hy).1 with q | q
  · exact .inl q
  · exact .inr ⟨q, PySem.W.cellsFrom_some _ _ _ (.inl q)⟩
 refine codeAny_call_function hr.depth (KX _ _ lk) rfl S.co S.gen rfl (PySem.W.codeRec_of KX hcd) (hb _ _ _ _ ?_)
 refine wpAny_newFunctionEnv_cells S.kind hkind fun env he s1 x => ?_
 subst he
 refine ⟨lim.keeps x.toInCall.keep, codeAny_func ?_⟩
 obtain ⟨t, ht, hq⟩ := hbody A outer s H vs Q E (hr.deeper _) hsp
 have I : Inv (cxOf CX P w K mg base N qual scope f cdv A outer s H E) [] (start N vs) H s1 := inv_start S hr.hd e0 hl r x
 refine wpAny_mono (ht [] s1 (start N vs) H _ I hq) (fun fl s' hs => ?_) fun e s' hs => hs
 have fin : ∀ {σ' : St} {H' : Hp} {v : V} {u : Value}, Inv (cxOf CX P w K mg base N qual scope f cdv A outer s H E) [] σ' H' s' -> RelV v u -> Q v H' -> CE outer P w H s Q u s' :=
  fun {σ' H' v u} J rv q => ⟨v, H', J.os, J.bare, J.base, J.hok, rv, q⟩
 cases fl with
 | ret u =>
  obtain ⟨v, σ', H', J, rv, q⟩ := hs
  exact fin J rv q
 | next =>
  obtain ⟨σ', H', J, q⟩ := hs
  exact fin (v := V.non) (u := Value.none) J rfl q
 | brk =>
  obtain ⟨_, _, _, q⟩ := hs
  exact False.elim q
 | cont =>
  obtain ⟨_, _, _, q⟩ := hs
  exact False.elim q
end L2
namespace L2
open PySem PySem.Spec PyProof.Rows
section
variable {X : Cx} {x : Str} {p pos : Pos} {e : Expr} {es : List Expr} {t : TA} {id T : String} {r : List V -> Hp -> VK -> Prop}
def tCB (r : List V -> Hp -> VK -> Prop) (t : TA) : TE := fun σ H Q => t σ H fun vs H1 => r vs H1 Q
theorem pe_callB (hc : CallR X (.builtin id) r) (hg : Gl X x) (hm : X.mg x = none) (hv : bootBuiltins x = some (.builtin id)) (ha : PA X (e :: es) t) (hn : x ≠ "__name__" := by decide) (hdb : (x == ("__debug__" : Str)) = false := by decide)
  (he : starEach (e :: es) X.env = (false, eval e X.env) :: starEach es X.env := by rfl) (hpl : (backTo pos (starEach es X.env)).any (·.1) = false := by rfl) : PE X (.Call (.Name x p) (e :: es) [] pos) (tCB r t) := by
 intro pins s σ H Q I h
 refine wpAny_Call_Name_kw (ld_blt I hg hm hv ?_ hn hdb)
 exact PyProof.Rows.callWith_builtin1 (thn (ha pos pins s σ H _ I h) fun us s1 ⟨vs, H1, I1, r1, q1⟩ => hc pins s1 σ H1 vs us Q I1 r1 q1) he hpl
theorem pe_callTy (hc : CallR X (.type T) r) (hg : Gl X x) (hm : X.mg x = none) (hv : bootBuiltins x = some (.type T)) (ha : PA X (e :: es) t) (hn : x ≠ "__name__" := by decide) (hdb : (x == ("__debug__" : Str)) = false := by decide)
  (he : starEach (e :: es) X.env = (false, eval e X.env) :: starEach es X.env := by rfl) (hpl : (backTo pos (starEach es X.env)).any (·.1) = false := by rfl) : PE X (.Call (.Name x p) (e :: es) [] pos) (tCB r t) := by
 intro pins s σ H Q I h
 refine wpAny_Call_Name_kw (ld_blt I hg hm hv ?_ hn hdb)
 exact PyProof.Rows.callWith_type1 (thn (ha pos pins s σ H _ I h) fun us s1 ⟨vs, H1, I1, r1, q1⟩ => hc pins s1 σ H1 vs us Q I1 r1 q1) he hpl
end
end L2
namespace HT
open PySem PyProof.Rows
section
open PySem.SeqAt
open PySem.AutoSeq1 (wpAny_loadPart')
open PySem.MeetsSeq PySem.MeetsSeq2 PySem.MeetsSeq3
end
section
variable {prog : Program} {w : World} {A : Around} {E : Value -> Shared -> Prop} {s : Shared}
def sIx (n d : Nat) : Option Int -> Nat
 | none => d
 | some v => if v < 0 then (v + (n : Int)).toNat else min v.toNat n
end
end HT
namespace L2
open PySem PySem.Spec PyProof.Rows
abbrev TO := St -> Hp -> (Option Int -> Hp -> Prop) -> Prop
def PO (X : Cx) (e : Option Expr) (t : TO) : Prop :=
 ∀ (pins : List (Addr × Obj)) (s : Shared) (σ : St) (H : Hp) (Q : Option Int -> Hp -> Prop), Inv X pins σ H s -> t σ H Q ->
  wpAny (model X.prog X.w) X.A (evalPart e X.env) (fun u s' => ∃ o H', Inv X pins σ H' s' /\ IsPart u o /\ Q o H') X.xe s
def tNoPart : TO := fun _ H Q => Q none H
def tPart (t : TE) : TO := fun σ H Q => t σ H fun x H1 => ∃ i, x = .int i /\ Q (some i) H1
theorem intsAre_of {ns : List Int} : ∀ {us : List Value}, Vals (ns.map V.int) us -> IntsAre us ns := by
 induction ns with
 | nil => intro us r; rw [List.map_nil] at r; cases r; exact .nil
 | cons n ns ih =>
  intro us r
  rw [List.map_cons] at r
  cases r with
  | cons r1 r2 =>
   obtain ⟨t, e⟩ := r1
   subst e
   exact .cons n t (ih r2)
section
variable {X : Cx} {e : Expr} {te : TE} {lo hi : Option Expr} {tl th : TO} {pos p2 : Pos}
theorem po_some (h : PE X e te) : PO X (some e) (tPart te) := by
 intro pins s σ H Q I hw
 rw [evalPart_some]
 refine thn (h pins s σ H _ I hw) fun u s1 ⟨x, H1, I1, r1, q1⟩ => ?_
 obtain ⟨i, rfl, q⟩ := q1
 obtain ⟨t, rfl⟩ := r1
 exact ⟨some i, H1, I1, .int i t, q⟩
def SlR (X : Cx) (r : V -> Option Int -> Option Int -> Hp -> VK -> Prop) : Prop :=
 ∀ (pins : List (Addr × Obj)) (s : Shared) (σ : St) (H : Hp) (x : V) (v vl vu : Value) (lo hi : Option Int) (sl : Addr) (Q : VK), Inv X pins σ H s -> RelV x v -> s.heap.IsSliceOf sl vl vu .none -> IsPart vl lo -> IsPart vu hi -> r x lo hi H Q ->
  ∃ T id, typeLookup (.type T) "__getitem__" = pure (some (.builtin id)) /\ s.TypeIs v T /\ wpAny (model X.prog X.w) X.A (getItem v (.ref sl)) (EP X pins σ Q) X.xe s
def tSl (r : V -> Option Int -> Option Int -> Hp -> VK -> Prop) (te : TE) (tl th : TO) : TE := fun σ H Q => te σ H fun x H1 => tl σ H1 fun l H2 => th σ H2 fun u H3 => r x l u H3 Q
theorem pe_slice {r : V -> Option Int -> Option Int -> Hp -> VK -> Prop} (hr : SlR X r) (he : PE X e te) (hl : PO X lo tl) (hu : PO X hi th) : PE X (.Subscript e (.Slice lo hi none p2) pos) (tSl r te tl th) := by
 intro pins s σ H Q I h
 refine Subscript_ (thn (he pins s σ H _ I h) fun v s1 ⟨x, H1, I1, r1, q1⟩ => ?_)
 refine wpAny_Slice (thn (hl pins s1 σ H1 _ I1 q1) fun vl s2 ⟨l, H2, I2, pl, q2⟩ => thn (hu pins s2 σ H2 _ I2 q2) fun vu s3 ⟨u, H3, I3, pu, q3⟩ => ?_)
 rw [evalPart_none]
 refine wpAny_pure ?_
 have I4 : Inv X pins σ H3 { s3 with heap := s3.heap.push { cls := .type "slice", data := .fields #[vl, vu, .none] } } := I3.kept (t' := s3.toks) fun b ob q => Heap.get?_push_of_some _ q
 obtain ⟨T, id, hT, ht, hg⟩ := hr pins { s3 with heap := s3.heap.push { cls := .type "slice", data := .fields #[vl, vu, .none] } } σ H3 x v vl vu l u s3.heap.objs.size Q I4 r1 (Heap.IsSliceOf.new ..) pl pu q3
 show wpAny (model X.prog X.w) X.A (subscriptTail e (.Slice lo hi none p2) v (.ref s3.heap.objs.size)) (EP X pins σ Q) X.xe { s3 with heap := s3.heap.push { cls := .type "slice", data := .fields #[vl, vu, .none] } }
 exact tail_any (ops := [.ref s3.heap.objs.size, v]) ht hT hg (by with_unfolding_all rfl)
def cutV (xs : List V) (lo hi : Option Int) : List V := (xs.drop (HT.sIx xs.length 0 lo)).take (HT.sIx xs.length xs.length hi - HT.sIx xs.length 0 lo)
theorem cutV_length (xs : List V) (lo hi : Option Int) : (cutV xs lo hi).length <= xs.length := by
 unfold cutV
 rw [List.length_take, List.length_drop]
 omega
end
end L2
namespace L2
open PySem PySem.Spec PyProof.Rows
def ixN (n : Nat) (i : Int) : Option Nat := if 0 <= i then (if i < n then some i.toNat else none) else if -(n : Int) <= i then some (i + n).toNat else none
def atI {α : Type} (xs : List α) (i : Int) : Option α := (ixN xs.length i).bind fun j => xs[j]?
theorem ixN_seq {n : Nat} {i : Int} {j : Nat} (h : ixN n i = some j) : seqIndex? i n = some j /\ j < n /\ -(n : Int) <= i /\ i < n := by
 unfold ixN at h
 by_cases h0 : 0 <= i
 · rw [if_pos h0] at h
   by_cases h1 : i < n
   · rw [if_pos h1] at h
     have e : i.toNat = j := Option.some.inj h
     exact ⟨by rw [seqIndex_of h0 h1, e], by omega, by omega, h1⟩
   · rw [if_neg h1] at h; cases h
 · rw [if_neg h0] at h
   by_cases h1 : -(n : Int) <= i
   · rw [if_pos h1] at h
     have e : (i + n).toNat = j := Option.some.inj h
     exact ⟨by rw [seqIndex_neg (by omega) h1, e], by omega, h1, by omega⟩
   · rw [if_neg h1] at h; cases h
theorem atI_get {α : Type} {xs : List α} {i : Int} {v : α} (h : atI xs i = some v) : ∃ j, seqIndex? i xs.length = some j /\ xs[j]? = some v /\ j < xs.length /\ -(xs.length : Int) <= i /\ i < xs.length := by
 unfold atI at h
 cases e : ixN xs.length i with
 | none => rw [e] at h; cases h
 | some j =>
  rw [e] at h
  obtain ⟨h1, h2, h3, h4⟩ := ixN_seq e
  exact ⟨j, h1, h, h2, h3, h4⟩
theorem atI_nat {α : Type} {xs : List α} {j : Nat} {v : α} (h : xs[j]? = some v) : atI xs (j : Int) = some v := by
 have hj : j < xs.length := (List.getElem?_eq_some_iff.mp h).1
 have e : ixN xs.length (j : Int) = some j := by
  unfold ixN
  rw [if_pos (by omega), if_pos (by omega)]; simp
 unfold atI; rw [e]; exact h
def PlainIx (b : Expr) : Prop := ∀ o i, subscripted b false o i = operate [o, i] (getItem o i)
def IxR (X : Cx) (r : R2) : Prop :=
 ∀ (value slice : Expr) (pins : List (Addr × Obj)) (s : Shared) (σ : St) (H : Hp) (x y : V) (v u : Value) (Q : VK), Inv X pins σ H s -> RelV x v -> RelV y u -> r x y H Q ->
  subscripted slice false v u = operate [v, u] (getItem v u) -> wpAny (model X.prog X.w) X.A (subscriptTail value slice v u) (EP X pins σ Q) X.xe s
def MtR (X : Cx) (id : String) (r : V -> List V -> Hp -> VK -> Prop) : Prop :=
 ∀ (pins : List (Addr × Obj)) (s : Shared) (σ : St) (H : Hp) (x : V) (xs : List V) (v : Value) (us : List Value) (Q : VK), Inv X pins σ H s -> RelV x v -> Vals xs us -> r x xs H Q ->
  wpAny (model X.prog X.w) X.A (call (.builtin id) (v :: us)) (EP X pins σ Q) X.xe s
section
variable {X : Cx} {a b : Expr} {ta tb : TE} {pos : Pos}
theorem pe_ix {r : R2} (hr : IxR X r) (ha : PE X a ta) (hb : PE X b tb) (hs : PlainIx b) : PE X (.Subscript a b pos) (tOp r ta tb) := by
 intro pins s σ H Q I h
 exact Subscript_ (binT ha hb I h fun v u s2 x y H2 I2 rx ry q => hr a b pins s2 σ H2 x y v u Q I2 rx ry q (hs _ _))
def rIxL (K : PySem.W.Frag) : R2 := fun x y H Q => ∃ p xs i v, x = .ref p /\ y = .int i /\ SqL K H p xs /\ atI xs i = some v /\ Q v H
def rIxT (K : PySem.W.Frag) : R2 := fun x y H Q => ∃ p xs i v, x = .ref p /\ y = .int i /\ SqT K H p xs /\ atI xs i = some v /\ Q v H
theorem ix_list : IxR X (rIxL X.K) := by
 intro value slice pins s σ H x y v u Q I rx ry h hs
 obtain ⟨p, xs, i, z, rfl, rfl, hq, he, q⟩ := h
 cases rx
 obtain ⟨t, rfl⟩ := ry
 obtain ⟨its, r, pl, hz⟩ := I.list hq
 obtain ⟨j, h1, h2, h3, h4, h5⟩ := atI_get he
 obtain ⟨w, ew, rw'⟩ := r.get h2
 have hl := r.length
 have hn := line63
 have fin : EP X pins σ Q w s := ⟨z, H, I, rw', q⟩
 by_cases h0 : 0 <= i
 · have hj : i.toNat = j := by
    rw [seqIndex_of h0 h5] at h1
    exact Option.some.inj h1
   exact item_listR pl.isList h0 (by omega) (by rw [hj]; simpa using ew) fin hs
 · have hj : (i + (its.toArray.size : Int)).toNat = j := by
    rw [seqIndex_neg (by omega) h4] at h1
    rw [List.size_toArray, ← hl]
    exact Option.some.inj h1
   exact subscriptTail_builtinR (x := w) pl.isList.typeIs slot_list_getitem.lookup
    (wpAny_getItem_list_neg (Q := fun r s' => r = w /\ EP X pins σ Q r s') pl.isList (by omega) (by rw [List.size_toArray] <;> omega) (by omega) (by rw [hj]; simpa using ew) ⟨rfl, fin⟩) hs
theorem ix_tup : IxR X (rIxT X.K) := by
 intro value slice pins s σ H x y v u Q I rx ry h hs
 obtain ⟨p, xs, i, z, rfl, rfl, hq, he, q⟩ := h
 cases rx
 obtain ⟨t, rfl⟩ := ry
 obtain ⟨its, r, pl, hz⟩ := I.tuple hq
 obtain ⟨j, h1, h2, h3, h4, h5⟩ := atI_get he
 obtain ⟨w, ew, rw'⟩ := r.get h2
 have hl := r.length
 have hn := line63
 have fin : EP X pins σ Q w s := ⟨z, H, I, rw', q⟩
 exact subscriptTail_builtinR (x := w) pl.typeIs slot_tuple_getitem.lookup
  (getItem_tuple (j := j) (Q := fun r s' => r = w /\ EP X pins σ Q r s') pl (by omega) (by omega) (by rw [List.size_toArray, ← hl]; exact h1) (by simpa using ew) ⟨rfl, fin⟩) hs
theorem mapSeq_set (its : List Value) (n j : Nat) (u : Value) : Obj.mapSeq (·.setIfInBounds j u) { cls := .type "list", data := .seq its.toArray n } = { cls := .type "list", data := .seq (its.set j u).toArray n } := by
 simp [Obj.mapSeq]
theorem Inv.lst {pins : List (Addr × Obj)} {σ : St} {H : Hp} {s : Shared} {p : Addr} {xs : List V} (I : Inv X pins σ H s) (h : H p = some (.lst xs)) :
  ∃ (its : List Value) (n : Nat), Vals xs its /\ s.heap.get? p = some { cls := .type "list", data := .seq its.toArray n } /\ xs.length <= sizeLine := by
 obtain ⟨z, its, n, r, e⟩ := I.hok p _ h
 exact ⟨its, n, r, e, z⟩
theorem Inv.lstUpd {pins : List (Addr × Obj)} {σ : St} {H : Hp} {s : Shared} {p : Addr} {xs ys : List V} {its its' : List Value} {n n' : Nat} {f : Obj -> Obj} (I : Inv X pins σ H s) (h : H p = some (.lst xs))
  (ho : s.heap.get? p = some { cls := .type "list", data := .seq its.toArray n }) (hf : f { cls := .type "list", data := .seq its.toArray n } = { cls := .type "list", data := .seq its'.toArray n' }) (r : Vals ys its') (hz : ys.length <= sizeLine) (t : Nat) :
  Inv X pins σ (upd H p (.lst ys)) { s with heap := s.heap.update p f, toks := t } := by
 have e : (s.heap.update p f).get? p = some { cls := .type "list", data := .seq its'.toArray n' } := by
  rw [Heap.get?_update_self f ho (by rw [hf] <;> rfl), hf]
 refine I.write (x := p) (e := p) (by rw [h]; trivial) (.inl rfl) (fun b u hb q => (Heap.get?_update_other _ _ (Ne.symm hb)).trans q) ⟨_, e⟩ ?_
 exact ⟨hz, its', n', r, e⟩
def rSetL : V -> V -> V -> Hp -> (Hp -> Prop) -> Prop := fun o i v H Q => ∃ p xs k j, o = .ref p /\ i = .int k /\ H p = some (.lst xs) /\ ixN xs.length k = some j /\ Q (upd H p (.lst (xs.set j v)))
theorem set_list : PSet X rSetL := by
 intro pins s σ H o i v ov iv u Q I ro ri rv h
 obtain ⟨p, xs, k, j, rfl, rfl, hp, hj, q⟩ := h
 cases ro
 obtain ⟨t, rfl⟩ := ri
 obtain ⟨its, n, r, ho, hz⟩ := I.lst hp
 obtain ⟨h1, h2, h3, h4⟩ := ixN_seq hj
 have hl := r.length
 have hn := line63
 have I' : Inv X pins σ (upd H p (.lst (xs.set j v))) { s with heap := s.heap.update p (Obj.mapSeq (·.setIfInBounds j u)) } :=
  I.lstUpd hp ho (mapSeq_set its n j u) (r.set rv j) (by rw [List.length_set]; exact hz) s.toks
 by_cases h0 : 0 <= k
 · have hk : k.toNat = j := by
    rw [seqIndex_of h0 h4] at h1
    exact Option.some.inj h1
   exact PySem.W.ki_setAt ho h0 (by omega) (by rw [List.size_toArray, ← hl]; exact h4) (by rw [hk]; exact ⟨_, I', q⟩)
 · have hk : (k + (its.toArray.size : Int)).toNat = j := by
    rw [seqIndex_neg (by omega) h3] at h1
    rw [List.size_toArray, ← hl]
    exact Option.some.inj h1
   exact PySem.W.ki_setBack ho (by omega) (by rw [List.size_toArray, ← hl]; exact h3) (by omega) (by rw [hk]; exact ⟨_, I', q⟩)
theorem slice_bounds (lo hi : Option Int) (n : Nat) : (sliceBounds lo hi none n).1 = ((HT.sIx n 0 lo : Nat) : Int) /\ (sliceBounds lo hi none n).2.1 = ((HT.sIx n n hi : Nat) : Int) /\ (sliceBounds lo hi none n).2.2 = 1 := by
 refine ⟨?_, ?_, rfl⟩
 · cases lo with
   | none => simp [sliceBounds, HT.sIx]
   | some i =>
    simp only [sliceBounds, HT.sIx, Option.getD_none, show (1 : Int) > 0 by decide, if_true]
    by_cases h : i < 0
    · simp only [h, if_true] <;> omega
    · simp only [h, if_false] <;> omega
 · cases hi with
   | none => simp [sliceBounds, HT.sIx]
   | some i =>
    simp only [sliceBounds, HT.sIx, Option.getD_none, show (1 : Int) > 0 by decide, if_true]
    by_cases h : i < 0
    · simp only [h, if_true] <;> omega
    · simp only [h, if_false] <;> omega
theorem slicePick_cut (its : List Value) (lo hi : Option Int) : slicePick its.toArray lo hi none = ((its.drop (HT.sIx its.length 0 lo)).take (HT.sIx its.length its.length hi - HT.sIx its.length 0 lo)).toArray := by
 obtain ⟨h1, h2, h3⟩ := slice_bounds lo hi its.toArray.size
 unfold slicePick
 rw [h1, h2, h3]
 simp only [sliceRange_one, pick_run, List.size_toArray] <;> rfl
def rSlL (K : PySem.W.Frag) : V -> Option Int -> Option Int -> Hp -> VK -> Prop := fun x lo hi H Q => ∃ a xs, x = .ref a /\ SqL K H a xs /\ ∀ p, H p = none -> Q (.ref p) (upd H p (.lst (cutV xs lo hi)))
theorem sl_list : SlR X (rSlL X.K) := by
 intro pins s σ H x v vl vu lo hi sl Q I rx hs pl pu h
 obtain ⟨a, xs, rfl, hx, q⟩ := h
 cases rx
 obtain ⟨its, r, ht, hz⟩ := I.list hx
 have hlen := r.length
 refine ⟨"list", _, slot_list_getitem.lookup, ht.isList.typeIs, ?_⟩
 refine wpAny_getItem_list_slice ht.isList hs pl pu .none (by simp) ?_ (by rw [List.size_toArray] <;> omega)
 rw [slicePick_cut, ← hlen]
 refine ⟨.ref s.heap.objs.size, _, I.laid (t' := s.toks) (o := .lst (cutV xs lo hi)) (fun b ob q => Heap.get?_push_of_some _ q) (Nat.le_refl _) ?_, rfl, q _ (I.hok.fresh (Nat.le_refl _))⟩
 exact ⟨Nat.le_trans (cutV_length xs lo hi) hz, _, 0, (r.drop (HT.sIx xs.length 0 lo)).take (HT.sIx xs.length xs.length hi - HT.sIx xs.length 0 lo), Heap.get?_push_size _ rfl⟩
theorem call_len_seq : CallR X (.builtin "len") (fun xs H Q => ∃ p ys, xs = [.ref p] /\ (SqL X.K H p ys \/ SqT X.K H p ys) /\ Q (.int ys.length) H) := by
 intro pins s σ H xs us Q I r h
 obtain ⟨p, ys, rfl, hq, q⟩ := h
 obtain ⟨u, rfl, rx⟩ := vals1 r
 cases rx
 have hn := line63
 rcases hq with hq | hq
 · obtain ⟨its, r', pl, hz⟩ := I.list hq
   have hlen := r'.length
   exact Calls.call_len_list pl.isList (by simp only [List.size_toArray] <;> omega) ⟨.int ys.length, H, I.tok _, ⟨s.toks + 1, by rw [List.size_toArray, hlen]⟩, q⟩
 · obtain ⟨its, r', pl, hz⟩ := I.tuple hq
   have hlen := r'.length
   exact len_tuple pl (by simp only [List.size_toArray] <;> omega) ⟨.int ys.length, H, I.tok _, ⟨s.toks + 1, by rw [List.size_toArray, hlen]⟩, q⟩
theorem call_list_of : CallR X (.type "list") (fun xs H Q => ∃ p ys, xs = [.ref p] /\ (SqL X.K H p ys \/ SqT X.K H p ys) /\ ∀ l, H l = none -> Q (.ref l) (upd H l (.lst ys))) := by
 intro pins s σ H xs us Q I r h
 obtain ⟨p, ys, rfl, hq, q⟩ := h
 obtain ⟨u, rfl, rx⟩ := vals1 r
 cases rx
 have fin : ∀ (its : List Value), Vals ys its -> ys.length <= sizeLine -> ∀ (h' : Heap) (c' : Nat), (∀ b o', s.heap.get? b = some o' -> h'.get? b = some o') ->
   h'.get? s.heap.objs.size = some { cls := .type "list", dict := none, data := .seq its.toArray c', slots := #[] } -> EP X pins σ Q (.ref s.heap.objs.size) { s with heap := h' } := fun its r' hz h' c' kp e =>
  ⟨.ref s.heap.objs.size, _, I.laid (t' := s.toks) kp (Nat.le_refl _) (show ObjOk X.prog X.w _ h' _ (.lst ys) from ⟨hz, its, c', r', e⟩), rfl, q _ (I.hok.fresh (Nat.le_refl _))⟩
 rcases hq with hq | hq
 · obtain ⟨its, r', pl, hz⟩ := I.list hq
   have hlen := r'.length
   obtain ⟨o, ho, hc, n, hd⟩ := pl.isList
   exact call_list_seq p (.inl rfl) ho hc hd (fun h' c' kp e => fin its r' hz h' c' kp e) (by simp only [List.size_toArray] <;> omega)
 · obtain ⟨its, r', pl, hz⟩ := I.tuple hq
   have hlen := r'.length
   obtain ⟨o, ho, hc, n, hd⟩ := pl
   exact call_list_seq p (.inr rfl) ho hc hd (fun h' c' kp e => fin its r' hz h' c' kp e) (by simp only [List.size_toArray] <;> omega)
theorem call_tuple_of : CallR X (.type "tuple") (fun xs H Q => ∃ p ys, xs = [.ref p] /\ ((SqL X.K H p ys /\ ∀ l, H l = none -> Q (.ref l) (upd H l (.tup ys))) \/ (SqT X.K H p ys /\ Q (.ref p) H))) := by
 intro pins s σ H xs us Q I r h
 obtain ⟨p, ys, rfl, h⟩ := h
 obtain ⟨u, rfl, rx⟩ := vals1 r
 cases rx
 rcases h with ⟨hq, q⟩ | ⟨hq, q⟩
 · obtain ⟨its, r', pl, hz⟩ := I.list hq
   have hlen := r'.length
   refine call_tuple_list pl.isList (fun h' kp => ?_) (by simp only [List.size_toArray] <;> omega)
   have I1 : Inv X pins σ H { s with heap := h' } := I.kept (t' := s.toks) kp
   have I2 : Inv X pins σ (upd H h'.objs.size (.tup ys)) { s with heap := h'.push { cls := .type "tuple", data := .seq its.toArray } } :=
    I1.laid (t' := s.toks) (fun b o e => Heap.get?_push_of_some _ e) (Nat.le_refl _) (show ObjOk X.prog X.w _ _ _ (.tup ys) from ⟨hz, its, r', IsTup.new _ _⟩)
   exact ⟨.ref h'.objs.size, _, I2, rfl, q _ (I1.hok.fresh (Nat.le_refl _))⟩
 · obtain ⟨its, r', pl, hz⟩ := I.tuple hq
   exact call_tuple_same pl ⟨.ref p, H, I, rfl, q⟩
def tyV (K : PySem.W.Frag) (T : String) (x : V) (H : Hp) : Prop := match x with
 | .str _ => T = "str"
 | .int _ => T = "int"
 | .ref p => (T = "list" /\ ∃ xs, SqL K H p xs) \/ (T = "tuple" /\ ∃ o, K.lookup p = some o /\ o.cls = .type "tuple" /\ o.dict = none) \/
   (T = "dict" /\ ((∃ kvs, H p = some (.dK kvs)) \/ ∃ kvs, H p = some (.dT kvs))) \/ (T = "set" /\ ∃ S n, H p = some (.set S n))
 | _ => False
theorem tyV_is {pins : List (Addr × Obj)} {σ : St} {H : Hp} {s : Shared} {T : String} {x : V} {v : Value} (I : Inv X pins σ H s) (r : RelV x v) (ty : tyV X.K T x H) :
  s.TypeIs v T /\ ∀ a, v = .ref a -> ∃ ob, s.heap.get? a = some ob /\ ob.dict = none := by
 cases x with
 | str z =>
  obtain ⟨t, rfl⟩ := r
  cases (show T = "str" from ty)
  exact ⟨typeIs_str s z t, fun _ e => nomatch e⟩
 | int i =>
  obtain ⟨t, rfl⟩ := r
  cases (show T = "int" from ty)
  exact ⟨typeIs_int s i t, fun _ e => nomatch e⟩
 | ref p =>
  cases r
  rcases ty with ⟨rfl, xs, hq⟩ | ⟨rfl, o, hk, hc, hd⟩ | ⟨rfl, hk⟩ | ⟨rfl, S, n, hk⟩
  · obtain ⟨its, _, pl, _⟩ := I.list hq
    refine ⟨pl.isList.typeIs, fun a e => ?_⟩
    cases e
    obtain ⟨o, n, e, c, hd, _⟩ := pl
    exact ⟨o, e, hd⟩
  · refine ⟨⟨o, I.kIn p o hk, hc⟩, fun a e => ?_⟩
    cases e
    exact ⟨o, I.kIn _ o hk, hd⟩
  · have z : ∃ o, s.heap.get? p = some o /\ o.ExactDict := by
     rcases hk with ⟨kvs, hk⟩ | ⟨kvs, hk⟩
     · obtain ⟨_, _, _, _, o, _, _, e, ex, _⟩ := I.hok p _ hk
       exact ⟨o, e, ex⟩
     · obtain ⟨_, _, _, _, o, _, _, e, ex, _⟩ := I.hok p _ hk
       exact ⟨o, e, ex⟩
    obtain ⟨o, e, ex⟩ := z
    refine ⟨⟨o, e, ex.1⟩, fun a e2 => ?_⟩
    cases e2
    exact ⟨o, e, ex.2.1⟩
  · obtain ⟨o, _, _, _, e, ex, _⟩ := I.hok p _ hk
    refine ⟨⟨o, e, ex.1⟩, fun a e2 => ?_⟩
    cases e2
    exact ⟨o, e, ex.2.1⟩
 | _ => exact False.elim ty
def tBM (K : PySem.W.Frag) (T : String) (r : V -> List V -> Hp -> VK -> Prop) (to : TE) (t : TA) : TE := fun σ H Q => to σ H fun x H1 => tyV K T x H1 /\ t σ H1 fun xs H2 => r x xs H2 Q
variable {o e : Expr} {es : List Expr} {to : TE} {t : TA} {name : Str} {apos cpos : Pos} {T id : String} {r : V -> List V -> Hp -> VK -> Prop}
theorem pe_bm (pa : PlainAttrs T) (slot : Slot T name id) (hty : typeOf (.builtin id) = pure (.type "method_descriptor")) (hm : MtR X id r) (ho : PE X o to) (ha : PA X (e :: es) t)
  (hbase : attributeBase o name X.env (eval o X.env) = eval o X.env := by rfl)
  (hfew : ((backTo cpos (starEach (e :: es) X.env)).all (fun x => !x.1) && (backToKw cpos (keywordEach [] X.env)).all (fun x => x.1.isSome)
   && decide ((e :: es).length + ([] : List Keyword).length + (if ([] : List Keyword).isEmpty then 0 else 1) < 30)) = true := by rfl)
  (hline : (apos.endLine == cpos.line) = true := by rfl) (hs : starEach (e :: es) X.env = (false, eval e X.env) :: starEach es X.env := by rfl) (hplain : (backTo cpos (starEach es X.env)).any (·.1) = false := by rfl) :
  PE X (.Call (.Attribute o name apos) (e :: es) [] cpos) (tBM X.K T r to t) := by
 intro pins s σ H Q I h
 refine wpAny_Call_method_late hbase hfew hline rfl (thn (ho pins s σ H _ I h) fun v s1 ⟨x, H1, I1, r1, ty, q1⟩ => ?_)
 obtain ⟨h1, h2⟩ := tyV_is I1 r1 ty
 refine ⟨T, id, pa, slot, hty, h1, h2, ?_⟩
 have hA := ha cpos pins s1 σ H1 _ I1 q1
 rw [hs] at hA ⊢
 refine Calls.callWith_builtin (by show (false || (backTo cpos (starEach es X.env)).any (·.1)) = false; rw [hplain] <;> rfl) (Calls.evalArgs_plain ?_)
 exact thn hA fun us s2 ⟨vs, H2, I2, r2, q2⟩ => hm pins s2 σ H2 x vs v us Q I2 r1 r2 q2
end
end L2
namespace L2
open PySem PySem.Spec PyProof.Rows
def MtM (X : Cx) (id : String) (r : V -> List V -> Hp -> VK -> Prop) : Prop :=
 ∀ (pins : List (Addr × Obj)) (s : Shared) (σ : St) (H : Hp) (x : V) (xs : List V) (v : Value) (us : List Value) (Q : VK), Inv X pins σ H s -> RelV x v -> Vals xs us -> r x xs H Q ->
  wpAny (model X.prog X.w) X.A (call (.builtin id) (v :: us)) (EP X pins σ Q) X.xe s
theorem Vals.one : ∀ {x : V} {us : List Value}, Vals [x] us -> ∃ u, us = [u] /\ RelV x u
 | _, _, .cons r .nil => ⟨_, rfl, r⟩
theorem Vals.two : ∀ {x y : V} {us : List Value}, Vals [x, y] us -> ∃ u v, us = [u, v] /\ RelV x u /\ RelV y v
 | _, _, _, .cons r (.cons q .nil) => ⟨_, _, rfl, r, q⟩
theorem Vals.eraseIdx : ∀ {xs : List V} {us : List Value} (i : Nat), Vals xs us -> Vals (xs.eraseIdx i) (us.eraseIdx i)
 | _, _, _, .nil => .nil
 | _, _, 0, .cons _ t => t
 | _, _, i + 1, .cons r t => .cons r (Vals.eraseIdx i t)
section
variable {X : Cx} {pins : List (Addr × Obj)} {σ : St} {H : Hp} {s : Shared} {l b : Addr} {xs ys zs : List V}
theorem Inv.lset {its its' : List Value} {n : Nat} {f : Array Value -> Array Value} {t' : Nat} (I : Inv X pins σ H s) (hH : H l = some (.lst xs))
  (e : s.heap.get? l = some { cls := .type "list", data := .seq its.toArray n }) (hf : f its.toArray = its'.toArray) (hv : Vals ys its') (hz : ys.length <= sizeLine) :
  Inv X pins σ (upd H l (.lst ys)) { s with heap := s.heap.update l (Obj.mapSeq f), toks := t' } := by
 have q := PySem.IsL.update e f
 rw [hf] at q
 refine I.write (x := l) (e := l) (by rw [hH]; exact trivial) (.inl rfl) (fun b' u hb hu => (Heap.get?_update_other s.heap (Obj.mapSeq f) (Ne.symm hb)).trans hu) ⟨_, q⟩ ?_
 exact ⟨hz, its', _, hv, q⟩
theorem Inv.lnew {its : List Value} {t' : Nat} (I : Inv X pins σ H s) (hv : Vals ys its) (hz : ys.length <= sizeLine) :
  Inv X pins σ (upd H s.heap.objs.size (.lst ys)) { s with heap := s.heap.push { cls := .type "list", data := .seq its.toArray }, toks := t' } :=
 I.laid (fun _ _ q => Heap.get?_push_of_some _ q) (Nat.le_refl _) ⟨hz, its, 0, hv, Heap.get?_push_size _ rfl⟩
theorem Inv.fresh (I : Inv X pins σ H s) : H s.heap.objs.size = none := I.hok.fresh (Nat.le_refl _)
theorem Inv.lstM (I : Inv X pins σ H s) (hH : H l = some (.lst xs)) : xs.length <= sizeLine /\ ∃ (its : List Value) (n : Nat), Vals xs its /\ xs.length = its.length /\ s.heap.get? l = some { cls := .type "list", data := .seq its.toArray n } := by
 obtain ⟨z, its, n, r, e⟩ := I.hok l _ hH
 exact ⟨z, its, n, r, r.length, e⟩
end
section
variable {X : Cx}
def rAppend : V -> List V -> Hp -> VK -> Prop := fun x vs H Q => ∃ l xs y, x = .ref l /\ vs = [y] /\ H l = some (.lst xs) /\ xs.length < sizeLine /\ Q .non (upd H l (.lst (xs ++ [y])))
theorem mt_append : MtM X "list.append" rAppend := by
 intro pins s σ H x vs v us Q I rx rv h
 obtain ⟨l, xs, y, rfl, rfl, hH, hz, q⟩ := h
 cases rx
 obtain ⟨u, rfl, ru⟩ := rv.one
 obtain ⟨z, its, n, r, hl, e⟩ := I.lstM hH
 refine call_meets F.slot_list_append ⟨_, e, rfl⟩ F.entry_list_append (F.args_list_append_2 _ _) (PySem.list_append l its.toArray n u (by rw [List.size_toArray]; omega)) ⟨e, ?_⟩
 refine ⟨.non, _, I.lset (its' := its ++ [u]) hH e (by simp) (r.append (.cons ru .nil)) ?_, rfl, q⟩
 rw [List.length_append, List.length_singleton]
 omega
def rCat : R2 := fun x y H Q => ∃ l b xs zs, x = .ref l /\ y = .ref b /\ H l = some (.lst xs) /\ H b = some (.lst zs) /\ xs.length + zs.length <= sizeLine /\ ∀ p, H p = none -> Q (.ref p) (upd H p (.lst (xs ++ zs)))
theorem op_cat : OpR X (binaryOp .Add) rCat := by
 intro pins s σ H x y v u Q I rx ry h
 obtain ⟨l, b, xs, zs, rfl, rfl, hH, hB, hz, q⟩ := h
 cases rx
 cases ry
 obtain ⟨z, its, n, r, hl, e⟩ := I.lstM hH
 obtain ⟨z2, its2, n2, r2, hl2, e2⟩ := I.lstM hB
 refine PySem.P.add_list e e2 ?_ (by rw [List.size_toArray, List.size_toArray]; omega)
 have ea : its.toArray ++ its2.toArray = (its ++ its2).toArray := by simp
 rw [ea]
 exact ⟨.ref _, _, I.lnew (t' := s.toks) (r.append r2) (by rw [List.length_append]; omega), rfl, q _ I.fresh⟩
end
section
variable {prog : Program} {w : World} {A : Around} {E : Value -> Shared -> Prop} {s : Shared}
end
section
variable {X : Cx}
end
end L2
namespace Att
open PySem PySem.W PySem.Calls PyProof.Rows
theorem ints_of_wellAll {P : Params} {h : Heap} : ∀ (ns : List Int) (vs : List Value), WellAll P h vs (ns.map WData.int) -> IntsAre vs ns := by
 intro ns
 induction ns with
 | nil =>
  intro vs w
  rw [List.map_nil] at w
  cases w
  exact .nil
 | cons n ns ih =>
  intro vs w
  rw [List.map_cons] at w
  cases w with
  | cons a b =>
   cases a
   exact .cons _ _ (ih _ b)
theorem script_of {l : OpenLaw} {n : Nat} (hn : l.most = some n) {P : Params} {h : Heap} {args : List WData} {vals : List Value}
  (hpre : l.row.toRowW.claim.pre args = true) (hwl : WellAll P h vals args) :
  ∃ a vs ns, vals = [Value.ref a] /\ args = [WData.list (ns.map WData.int)] /\ h.get? a = some { cls := .type "list", data := .seq vs.toArray } /\ IntsAre vs ns /\ ns.length <= n := by
 have hsh : WShape.hasAll [] args [.list .int] = true := (pre_splitW hpre).1
 have hc : l.pre.holds [] { args := args } = true := (pre_splitW hpre).2
 obtain ⟨d, r, rfl, h1, h2⟩ := hasAllW_cons hsh
 obtain rfl := hasAllW_nil h2
 obtain ⟨xs, rfl, h3⟩ := hasW_list h1
 obtain ⟨ns, rfl⟩ := items_int h3
 have hlen : ns.length <= n := by
  unfold OpenLaw.pre at hc
  have h4 : (WTm.not (.lt (.lit (.int (n : Int))) (.len (.arg 0)))).holds [] { args := [.list (ns.map .int)] } = true := by
   have h4 := (holds_andW hc).1
   rw [hn] at h4
   exact h4
  have h5 := condW_of h4 (w_not (w_lt w_lit (w_len_list (w_arg rfl))))
  rw [List.length_map] at h5
  refine Nat.le_of_not_lt fun q => ?_
  have q' : (n : Int) < ((ns.length : Nat) : Int) := by omega
  first
   | (rw [decide_eq_true q'] at h5; exact absurd h5 (by decide))
   | (simp at h5; omega)
 cases hwl with
 | cons w1 w2 =>
  cases w2
  cases w1 with
  | list ho hall => exact ⟨_, _, ns, rfl, rfl, ho, ints_of_wellAll ns _ hall, hlen⟩
theorem post_true (l : OpenLaw) (args : List WData) : l.row.toRowW.claim.post args (.bool true) args = true :=
 postW_of (r := l.row.toRowW) (X := (true == true))
  (show WShape.has [] (.bool true) .bool = true by first | rfl | decide | simp [WShape.has, WShape.arms, WShape.armsAll])
  (show (WTm.eq .res (.lit (.bool true))).value [] { args := args, res := some (.bool true), after := args } = some (.bool (true == true)) from w_eq_bool (w_res rfl) w_lit) rfl
theorem attach_call {l : OpenLaw} {n : Nat} {q : Program} {loose : List Str} {XP : (Str -> Option Value) -> Heap -> Prop} {YP : World -> Heap -> Prop} {d : DefRec}
  (hn : l.most = some n) (hdf : d.params.defaults = [])
  (call : ∀ (w : World) (s₀ s₁ : Shared) (mg mb : Str -> Option Value) (fa : Addr) (o : Obj) (pm cd doc : Value) (a : Addr) (vs : List Value) (ns : List Int),
   Ground q loose [] XP w s₀ mg mb s₁.heap -> YP w s₁.heap ->
   s₁.heap.get? fa = some o -> o.data = .func (docDef d.name d.params d.body d.scope pm cd doc) -> s₁.heap.CodeRec cd d.name -> mg d.name = some (.ref fa) ->
   s₁.heap.get? a = some { cls := .type "list", data := .seq vs.toArray } -> IntsAre vs ns -> ns.length <= n -> s₁.gens = #[] ->
   codeAny (model l.prog w) callerA (.call (.ref fa) ⟨[.ref a], []⟩) (fun r s' => r = .ok (.ret (.bool true)) /\ OldK s₁.heap s'.heap /\ s'.os = s₁.os /\ AllBare s'.gens) s₁) :
  WalkO q loose XP YP l.row.toRowW d [] (fun f vs => PySem.call f vs) := by
 intro w s₀ s₁ mg mb G Y fa o pm cd doc dV kV ho hd hcd hD hmg hg args vals as hpre hlay hrd hwl hlo
 obtain rfl : dV = .none := Dflts.none hD hdf
 obtain rfl : kV = .none := Dflts.noKw hD
 obtain ⟨a, vs, ns, rfl, rfl, hobj, hints, hlen⟩ := script_of hn hpre hwl
 refine enter_call (codeAny_mono (call w s₀ s₁ mg mb fa o pm cd doc a vs ns G Y ho (fd_plain hd) hcd hmg hobj hints hlen hg) fun r s' hq => ?_)
 obtain ⟨rfl, h2, h3, h4⟩ := hq
 exact ⟨.inl ⟨.bool true, .bool true, [], rfl, fun _ => rfl, .bool true, post_true l _, fun _ => ⟨List.Pairwise.nil, fun _ hm => (nomatch hm)⟩⟩, h2, h3, h4⟩
section
variable {prog : Program} {w : World} {A : Around} {E : Value -> Shared -> Prop} {s : Shared} {K : Frag}
end
end Att
namespace L2
open PySem PySem.Spec PyProof.Rows
theorem vals_ints : ∀ {vs : List Value} {ns : List Int}, IntsAre vs ns -> Vals (ns.map V.int) vs
 | _, _, .nil => .nil
 | _, _, .cons n t h => .cons ⟨t, rfl⟩ (vals_ints h)
def Only (H : Hp) : Prop := ∀ b, H b = none \/ ∃ o xs, H b = some (.frz o (.lst xs))
theorem law_call {P : Program} {w : World} {K : PySem.W.Frag} {mg mb : Str -> Option Value} {CX : CXT} {k : Nat} {fa a : Addr} {fd : FuncData} {x : Str} {sp : Sp} {s₁ : Shared} {vs : List Value} {ns : List Int}
  (KX : K.In s₁.heap) (hns : s₁.heap.Ns mainGlobals mg) (hb : s₁.heap.Ns builtinsNs mb) (hbb : ∀ x : Str, x ≠ "__name__" -> mb x = bootBuiltins x) (hlim : s₁.heap.NoLimit) (hg : s₁.gens = #[])
  (ha : s₁.heap.get? a = some { cls := .type "list", data := .seq vs.toArray }) (hi : IntsAre vs ns) (hl : ns.length <= sizeLine) (hr : Room k callerA)
  (F : ∀ base : Heap, K.In base -> base.Ns mainGlobals mg -> FnOk P w K mg base CX k fa fd [x] sp) (hbind : ∀ (s : Shared) (u : Value), BindsTo s fd ⟨[u], []⟩ [(x, u)])
  (hsp : ∀ H : Hp, Only H -> SqL K H a (ns.map V.int) -> sp [.ref a] H (fun v _ => v = .bl true) fun _ _ _ => False)
  (hCX : ∀ H e s', CX [] H s₁ (fun _ _ _ => False) e s' -> False) :
  codeAny (model P w) callerA (.call (.ref fa) ⟨[.ref a], []⟩) (fun r s' => r = .ok (.ret (.bool true)) /\ OldK s₁.heap s'.heap /\ s'.os = s₁.os /\ AllBare s'.gens) s₁ := by
 have rv := vals_ints hi
 have lenV := hi.length
 -- from an abstract heap in which nothing but the script may be tracked
 have core : ∀ H : Hp, Only H -> SqL K H a (ns.map V.int) -> HOk P w H s₁.heap -> (∀ b, H b ≠ none -> b = a) -> (H a ≠ none -> K.lookup a = none) ->
   codeAny (model P w) callerA (.call (.ref fa) ⟨[.ref a], []⟩) (fun r s' => r = .ok (.ret (.bool true)) /\ OldK s₁.heap s'.heap /\ s'.os = s₁.os /\ AllBare s'.gens) s₁ := by
  intro H hO hS hok hA hK
  have base_of : ∀ {b : Addr} {o : Obj}, s₁.heap.get? b = some o -> H b = none -> (hidT s₁.heap H).get? b = some o := fun e n => hidT_get e n
  have noA : ∀ {b : Addr} {o : Obj} {es : Array DictEntry} {ep : Nat}, s₁.heap.get? b = some o -> o.data = .dict es ep -> H b = none := fun {b o es ep} e d => by
   cases q : H b with
   | none => rfl
   | some u =>
    have e' : b = a := hA b (by rw [q]; simp)
    subst e'
    rw [ha] at e; cases e
    have d' : Data.seq vs.toArray _ = Data.dict es ep := d
    cases d'
  have nsK : ∀ {b : Addr} {m : Str -> Option Value}, s₁.heap.Ns b m -> (hidT s₁.heap H).Ns b m := fun {b m} ⟨o, es, ep, e, d, r⟩ => ⟨o, es, ep, base_of e (noA e d), d, r⟩
  have hKb : K.In (hidT s₁.heap H) := fun b o e => base_of (KX b o e) (by
   cases q : H b with
   | none => rfl
   | some u =>
    have e' : b = a := hA b (by rw [q]; simp)
    subst e'
    rw [hK (by rw [q]; simp)] at e; cases e)
  have hM : Mod K mg (hidT s₁.heap H) := ⟨hKb, nsK hns, ⟨mb, nsK hb, hbb⟩, let ⟨mc, h1, h2⟩ := hlim; ⟨mc, nsK h1, h2⟩⟩
  have e0 : Env0 P w K mg (hidT s₁.heap H) callerA [] s₁ H := ⟨rfl, hM, fun b o e => of_hidT e, Nat.le_of_eq (hidT_size _ _), trivial, fun b hb => absurd (show b ∈ ([] : List Addr) from hb) (by simp), hok, .of_eq hg⟩
  refine codeAny_mono ((F _ hKb (nsK hns)).run callerA [] s₁ H ⟨[.ref a], []⟩ [.ref a] [.ref a] _ _ hr e0 (hbind s₁ (.ref a)) (.cons rfl .nil) (hsp H hO hS)) fun r s' h => ?_
  cases r with
  | error e => exact (hCX H e s' h).elim
  | ok fl =>
   cases fl with
   | next => exact False.elim h
   | brk => exact False.elim h
   | cont => exact False.elim h
   | ret u =>
    obtain ⟨v, H', os, bare, un, hok', r', q⟩ := h
    have q' : v = .bl true := q
    subst q'
    obtain rfl : u = Value.bool true := r'
    refine ⟨rfl, OldK.of_keep fun b o e => ?_, os, bare⟩
    cases q : H b with
    | none => exact un.keep b o e q (by intro z; exact absurd (show b ∈ ([] : List Addr) from z) (by simp)) (by simp)
    | some u =>
     rcases hO b with z | ⟨ob, xs, z⟩
     · rw [q] at z; cases z
     · have z2 := un.frzs b ob _ z
       obtain ⟨e1, _⟩ := hok b _ z
       obtain ⟨e2, _⟩ := hok' b _ z2
       rw [e] at e1; cases e1
       exact e2
 cases hk : K.lookup a with
 | some o =>
  -- the script is one of the module's own objects
  have e := KX a o hk
  rw [ha] at e
  cases e
  refine core (fun _ => none) (fun _ => .inl rfl) (.inr ⟨_, vs.toArray, _, hk, rfl, rfl, rfl, by rw [List.size_toArray, lenV]; exact hl, by simpa using rv⟩) (fun b u z => by have z' : (none : Option HO) = some u := z; cases z') (fun b z => absurd rfl z) fun z => absurd rfl z
 | none =>
  refine core (fun b => if b = a then some (.frz { cls := .type "list", data := .seq vs.toArray } (.lst (ns.map V.int))) else none) (fun b => ?_) (.inl (.inr ⟨{ cls := .type "list", data := .seq vs.toArray }, if_pos rfl⟩)) (fun b u z => ?_) (fun b z => ?_) fun _ => hk
  · by_cases hb : b = a
    · exact .inr ⟨_, _, if_pos hb⟩
    · exact .inl (if_neg hb)
  · by_cases hb : b = a
    · have z' := (if_pos hb).symm.trans z
      cases z'
      subst hb
      exact ⟨ha, by rw [List.length_map]; exact hl, vs, _, rv, ha⟩
    · have z' := (if_neg hb).symm.trans z
      cases z'
  · by_cases hb : b = a
    · exact hb
    · exact absurd (if_neg hb) z
end L2
namespace L2
open PySem PySem.Spec PyProof.Rows
abbrev KOf {K : PySem.W.Frag} {h : Heap} (_ : K.In h) : PySem.W.Frag := K
theorem walk_of {l : PySem.W.OpenLaw} {n k : Nat} {q : Program} {loose : List Str} {XP : (Str -> Option Value) -> Heap -> Prop} {YP : World -> Heap -> Prop} {d : DefRec} {K : Params -> PySem.W.Frag} {CX : World -> CXT} {sp : World -> Sp} {x : Str}
  (hn : l.most = some n) (hn2 : n <= sizeLine) (hdf : d.params.defaults = []) (hr : Room k callerA)
  (hY : ∀ (w : World) (h : Heap), YP w h -> (K w.params).In h)
  (F : ∀ (w : World) (mg : Str -> Option Value) (fa : Addr) (h : Heap), (K w.params).In h -> h.Ns mainGlobals mg -> mg d.name = some (.ref fa) ->
   ∃ fd : FuncData, (∀ (s : Shared) (u : Value), BindsTo s fd ⟨[u], []⟩ [(x, u)]) /\
    ∀ base : Heap, (K w.params).In base -> base.Ns mainGlobals mg -> FnOk l.prog w (K w.params) mg base (CX w) k fa fd [x] (sp w))
  (hsp : ∀ (w : World) (H : Hp) (a : Addr) (ns : List Int), ns.length <= n -> Only H -> SqL (K w.params) H a (ns.map V.int) -> sp w [.ref a] H (fun v _ => v = .bl true) fun _ _ _ => False)
  (hCX : ∀ (w : World) (H : Hp) (s : Shared) (e : Value) (s' : Shared), CX w [] H s (fun _ _ _ => False) e s' -> False) :
  PySem.W.WalkO q loose XP YP l.row.toRowW d [] (fun f vs => PySem.call f vs) := by
 refine Att.attach_call hn hdf fun w s₀ s₁ mg mb fa o pm cd doc a vs ns G Y ho hd hcd hmg hobj hints hlen hg => ?_
 have KX := hY w _ Y
 obtain ⟨fd, hb, hF⟩ := F w mg fa _ KX G.T.g hmg
 exact law_call KX G.T.g G.T.b G.T.builtins G.T.nolimit hg hobj hints (Nat.le_trans hlen hn2) hr hF hb (fun H hO hS => hsp w H a ns hlen hO hS) fun H e s' => hCX w H s₁ e s'
end L2
namespace L2
open PySem PySem.Spec PyProof.Rows
def defArgs (s : Stmt) : Arguments := match s with
 | .FunctionDef _ a _ _ _ _ _ _ _ _ => a
 | _ => { posonlyargs := [], args := [], vararg := none, kwonlyargs := [], kw_defaults := [], kwarg := none, defaults := [] }
def defBody (s : Stmt) : List Stmt := match s with
 | .FunctionDef _ _ b _ _ _ _ _ _ _ => b
 | _ => []
def defScope (s : Stmt) : Scope := match s with
 | .FunctionDef _ _ _ _ _ _ sc _ _ _ => sc
 | _ => { kind := .function, names := [], isGenerator := false, isCoroutine := false }
abbrev CX0 : CXT := fun _ _ _ _ _ _ => False
abbrev E0 : XK := fun _ _ _ => False
theorem pass0 {X : Cx} : Passes CX0 X E0 := fun _ _ _ _ _ _ _ h => h.elim
structure Fun (K : PySem.W.Frag) (x qual : Str) (st : Stmt) (f : Addr) (fd : FuncData) : Prop where
 ex : ∃ (oc : Value) (od : Option Addr) (kV doc pm : Value) (an : Option Addr) (cdv ct : Value) (osl : Array (Option Value)),
  fd = PySem.W.fnOf x qual (defArgs st) (defBody st) (defScope st) .none kV doc pm an cdv ct /\ K.lookup f = some ⟨oc, od, .func fd, osl⟩ /\ PySem.W.codeIn K cdv qual = true
 kp : PySem.W.keepIn K (.ref f) = true
section
variable {P : Program} {w : World} {K : PySem.W.Frag} {mg : Str -> Option Value} {base : Heap}
theorem Fun.ok {x qual : Str} {st : Stmt} {f : Addr} {fd : FuncData} {N ps : List Str} {k : Nat} {sp : Sp} (F : Fun K x qual st f fd) (S : FnScope N ps (defScope st)) (len : ∀ vs H Q E, sp vs H Q E -> vs.length = ps.length)
  (hbody : ∀ (cdv : Value) (A : Around) (outer : List Env) (s : Shared) (H : Hp) (vs : List V) (Q : VK) (E : XK), Room k (A.deeper (envOfC qual (defScope st) s.heap.objs.size f cdv)) -> sp vs H Q E ->
   ∃ t, PSs (cxOf CX0 P w K mg base N qual (defScope st) f cdv A outer s H E).nox (defBody st) t /\ t { nx := fun _ H' => Q .non H', rt := Q } (start N vs) H) : FnOk P w K mg base CX0 (k + 1) f fd ps sp := by
 obtain ⟨oc, od, kV, doc, pm, an, cdv, ct, osl, rfl, lk, hcd⟩ := F.ex
 refine fn_of lk hcd S len fun A outer s H vs Q E hr hsp => ?_
 obtain ⟨t, h, q⟩ := hbody cdv A outer s H vs Q E hr hsp
 exact ⟨t, h.nox, q⟩
theorem Fun.binds {x qual : Str} {st : Stmt} {f : Addr} {fd : FuncData} {ps : List Str} (F : Fun K x qual st f fd)
  (h : ∀ (kV doc pm : Value) (an : Option Addr) (cdv ct : Value) (us : List Value), us.length = ps.length -> bindArgs (PySem.W.fnOf x qual (defArgs st) (defBody st) (defScope st) .none kV doc pm an cdv ct) ⟨us, []⟩ = pure (ps.zip us)) : Binds K fd ps [] := by
 obtain ⟨oc, od, kV, doc, pm, an, cdv, ct, osl, rfl, lk, hcd⟩ := F.ex
 exact .all (h kV doc pm an cdv ct)
theorem fun_mk {x qual : Str} {st : Stmt} {f : Addr} {oc : Value} {od an : Option Addr} {osl : Array (Option Value)} {kV doc pm cdv ct : Value} (l : K.lookup f = some ⟨oc, od, .func (PySem.W.fnOf x qual (defArgs st) (defBody st) (defScope st) .none kV doc pm an cdv ct), osl⟩)
  (c : PySem.W.codeIn K cdv qual = true) (k : PySem.W.keepIn K (.ref f) = true) : Fun K x qual st f (PySem.W.fnOf x qual (defArgs st) (defBody st) (defScope st) .none kV doc pm an cdv ct) := ⟨⟨oc, od, kV, doc, pm, an, cdv, ct, osl, rfl, l, c⟩, k⟩
end
theorem small1000 {n : Nat} (h : n <= 1000) : n < sizeLine := Nat.lt_of_le_of_lt h (by decide)
section
variable {X : Cx}
theorem pv (i : Nat) {x : Str} {pos : Pos} (hN : X.N[i]? = some x := by rfl) (hv : Vis X.env.scope x := by first | exact Or.inl rfl | exact Or.inr (Or.inl rfl) | exact Or.inr (Or.inr rfl)) (hd : (x == ("__debug__" : Str)) = false := by decide)
  (hcd : (x == ("__classdict__" : Str)) = false := by decide) : PE X (.Name x pos) (tVar i) := pe_var hN hv hd hcd
end
theorem iteF {A B : Prop} (h : B) : if false = true then A else B := by
 rw [if_neg Bool.false_ne_true]
 exact h
theorem iteT {A B : Prop} (h : A) : if true = true then A else B := by
 rw [if_pos rfl]
 exact h
theorem ite2 {c A B : Prop} [Decidable c] (h1 : c -> A) (h2 : ¬ c -> B) : if c then A else B := by
 by_cases h : c
 · rw [if_pos h]
   exact h1 h
 · rw [if_neg h]
   exact h2 h
theorem iteNS {c A B : Prop} [Decidable c] (hc : c) (h : B) : if (!decide c) = true then A else B := by
 rw [decide_eq_true hc]
 exact iteF h
def Same (H H' : Hp) : Prop := ∀ b o, H b = some o -> H' b = some o
theorem Same.refl (H : Hp) : Same H H := fun _ _ h => h
theorem Same.trans {H H1 H2 : Hp} (a : Same H H1) (b : Same H1 H2) : Same H H2 := fun c o h => b c o (a c o h)
theorem Same.free {H H' : Hp} (e : Same H H') {l : Addr} (h : H' l = Option.none) : H l = Option.none := by
 cases q : H l with
 | none => rfl
 | some o =>
  rw [e l o q] at h
  cases h
theorem Same.seq {K : PySem.W.Frag} {H H' : Hp} {a : Addr} {xs : List V} (e : Same H H') (h : SqL K H a xs) : SqL K H' a xs := by
 rcases h with (h | ⟨o, h⟩) | h
 · exact .inl (.inl (e _ _ h))
 · exact .inl (.inr ⟨o, e _ _ h⟩)
 · exact .inr h
end L2
set_option Elab.async false
set_option linter.all false
set_option maxRecDepth 100000
set_option maxHeartbeats 4000000
namespace L2
open PySem PySem.Spec PyProof.Rows
theorem of_pure {α β : Type} {M : Model} {A : Around} {a : α} {t : Sem β} {Q : α -> Shared -> Prop} {E : Value -> Shared -> Prop} {Q' : β -> Shared -> Prop} {E' : Value -> Shared -> Prop} {s : Shared}
  (h : wpAny M A (pure a) Q E s) (k : Q a s -> wpAny M A t Q' E' s) : wpAny M A t Q' E' s := fun Γ p hΓ => k (h Γ p hΓ) Γ p hΓ
def clGo (env : Env) : List (Str × NameKind) -> List (Str × Addr) -> List (Str × Addr)
 | [], cs => cs
 | (n, k) :: r, cs => clGo env r (if k == .free then (n, (env.cells.lookup n).getD 0) :: cs else cs)
def clOf (scope : Scope) (env : Env) : List (Str × Addr) := clGo env scope.names []
theorem clGo_forIn (env : Env) : ∀ (names : List (Str × NameKind)) (cs : List (Str × Addr)), (∀ y ∈ names, y.2 = .free -> ∃ c, env.cells.lookup y.1 = some c) ->
  (forIn names cs (fun (y : Str × NameKind) (r : List (Str × Addr)) => (if (y.2 == NameKind.free) = true then (do let a ← cellOf env y.1; pure (ForInStep.yield ((y.1, a) :: r))) else pure (ForInStep.yield r) : Sem (ForInStep (List (Str × Addr)))))) = (pure (clGo env names cs) : Sem (List (Str × Addr)))
 | [], cs, _ => rfl
 | (n, k) :: r, cs, h => by
  have ih := fun cs' => clGo_forIn env r cs' fun y hy => h y (List.mem_cons_of_mem _ hy)
  rw [List.forIn_cons]
  by_cases hk : (k == NameKind.free) = true
  · obtain ⟨c, hc⟩ := h (n, k) List.mem_cons_self (by simpa using hk)
    have hc' : env.cells.lookup n = some c := hc
    have e : cellOf env n = pure c := by unfold cellOf; rw [hc']
    show ((if (k == NameKind.free) = true then (do let a ← cellOf env n; pure (ForInStep.yield ((n, a) :: cs))) else pure (ForInStep.yield cs) : Sem (ForInStep (List (Str × Addr)))) >>= _) = _
    rw [if_pos hk, e]
    show (forIn r ((n, c) :: cs) _ : Sem (List (Str × Addr))) = pure (clGo env r (if (k == NameKind.free) = true then (n, (env.cells.lookup n).getD 0) :: cs else cs))
    rw [if_pos hk, hc']
    exact ih _
  · show ((if (k == NameKind.free) = true then (do let a ← cellOf env n; pure (ForInStep.yield ((n, a) :: cs))) else pure (ForInStep.yield cs) : Sem (ForInStep (List (Str × Addr)))) >>= _) = _
    rw [if_neg hk]
    show (forIn r cs _ : Sem (List (Str × Addr))) = pure (clGo env r (if (k == NameKind.free) = true then (n, (env.cells.lookup n).getD 0) :: cs else cs))
    rw [if_neg hk]
    exact ih _
theorem closure_is {scope : Scope} {env : Env} (h : ∀ y ∈ scope.names, y.2 = .free -> ∃ c, env.cells.lookup y.1 = some c) : closureFor scope env = pure (clOf scope env) := by
 have q := clGo_forIn env scope.names [] h
 unfold closureFor
 show ((forIn scope.names ([] : List (Str × Addr)) _ : Sem (List (Str × Addr))) >>= fun r => pure r) = _
 have e : ∀ (m : Sem (List (Str × Addr))) , m = pure (clOf scope env) -> (m >>= fun r => pure r) = pure (clOf scope env) := fun m hm => by rw [hm]; rfl
 apply e
 rw [← show (pure (clGo env scope.names []) : Sem (List (Str × Addr))) = pure (clOf scope env) from rfl, ← q]
theorem clGo_sub {env : Env} {y : Str} {c : Addr} : ∀ (names : List (Str × NameKind)) (cs : List (Str × Addr)), (∀ z ∈ names, z.2 = .free -> ∃ c, env.cells.lookup z.1 = some c) -> (∀ c, cs.lookup y = some c -> env.cells.lookup y = some c) ->
  (clGo env names cs).lookup y = some c -> env.cells.lookup y = some c
 | [], cs, _, hc, e => hc c e
 | (n, k) :: r, cs, h, hc, e => by
  refine clGo_sub r _ (fun z hz => h z (List.mem_cons_of_mem _ hz)) ?_ e
  intro c' e'
  by_cases hk : (k == NameKind.free) = true
  · rw [if_pos hk] at e'
    obtain ⟨d, hd⟩ := h (n, k) List.mem_cons_self (by simpa using hk)
    have hd' : env.cells.lookup n = some d := hd
    rw [List.lookup_cons] at e'
    by_cases hy : (y == n) = true
    · rw [hy] at e'
      have : y = n := by simpa using hy
      subst this
      rw [hd'] at e' ⊢
      exact e'
    · have hy' : (y == n) = false := by simpa using hy
      rw [hy'] at e'
      exact hc c' e'
  · rw [if_neg hk] at e'
    exact hc c' e'
theorem clGo_has {env : Env} {y : Str} : ∀ (names : List (Str × NameKind)) (cs : List (Str × Addr)), ((∃ c, cs.lookup y = some c) \/ (y, NameKind.free) ∈ names) -> ∃ c, (clGo env names cs).lookup y = some c
 | [], cs, h => by
  rcases h with h | h
  · exact h
  · exact absurd h (by simp)
 | (n, k) :: r, cs, h => by
  refine clGo_has r _ ?_
  rcases h with ⟨c, h⟩ | h
  · refine .inl ?_
    by_cases hk : (k == NameKind.free) = true
    · rw [if_pos hk, List.lookup_cons]
      by_cases hy : (y == n) = true
      · rw [hy]; exact ⟨_, rfl⟩
      · have hy' : (y == n) = false := by simpa using hy
        rw [hy']; exact ⟨c, h⟩
    · rw [if_neg hk]; exact ⟨c, h⟩
  · rcases List.mem_cons.mp h with h | h
    · refine .inl ?_
      cases h
      rw [if_pos (by rfl), List.lookup_cons]
      rw [show (y == y) = true by simp]
      exact ⟨_, rfl⟩
    · exact .inr h
theorem lookup_relabel {scope : Scope} {env : Env} {y : Str} : (relabel scope env).names.lookup y = (scope.names.lookup y).map fun k => if (k == NameKind.free && env.scope.kind == .function && env.kindOf y == some .cell) then NameKind.cell else k := by
 show List.lookup y (scope.names.map _) = _
 induction scope.names with
 | nil => rfl
 | cons a r ih =>
  obtain ⟨n, k⟩ := a
  rw [List.map_cons]
  by_cases hy : (y == n) = true
  · have : y = n := by simpa using hy
    subst this
    by_cases hc : (k == NameKind.free && env.scope.kind == .function && env.kindOf y == some .cell) = true
    · dsimp only
      rw [if_pos hc, List.lookup_cons, List.lookup_cons, hy]
      dsimp only [Option.map]
      rw [if_pos hc]
    · dsimp only
      rw [if_neg hc, List.lookup_cons, List.lookup_cons, hy]
      dsimp only [Option.map]
      rw [if_neg hc]
  · have hy' : (y == n) = false := by simpa using hy
    by_cases hc : (k == NameKind.free && env.scope.kind == .function && env.kindOf n == some .cell) = true
    · dsimp only
      rw [if_pos hc, List.lookup_cons, List.lookup_cons, hy']
      exact ih
    · dsimp only
      rw [if_neg hc, List.lookup_cons, List.lookup_cons, hy']
      exact ih
structure CompScope (N : List Str) (osc : Scope) (x : Str) (sc : Scope) : Prop where
 kind : sc.kind = .function
 nocell : ∀ y ∈ sc.names, y.2 ≠ .cell
 names : ∀ y ∈ sc.names, y.2 = .local -> sc.names.lookup y.1 = some .local
 here : sc.names.lookup x = some .local
 nd : (x :: N).Nodup
 free : ∀ y ∈ sc.names, y.2 = .free -> osc.names.lookup y.1 = some .cell \/ osc.names.lookup y.1 = some .free
 own : ∀ y ∈ sc.names, y.2 = .local -> y.1 = x \/ y.1 ∉ N
def cxComp (X : Cx) (x : Str) (sc : Scope) (fp : List Addr) (s3 : Shared) (H3 : Hp) : Cx where
 prog := X.prog
 w := X.w
 K := X.K
 mg := X.mg
 base := X.base
 A := X.A
 N := x :: X.N
 s₀ := s3
 H₀ := H3
 env := compEnvC sc (clOf sc X.env) s3.heap.objs.size X.env
 outer := X.stack
 stack := X.stack
 ex := fp
 calm := X.calm
 fn := fun _ => false
 pn := []
 xe := fun _ _ => False
section
variable {X : Cx} {x : Str} {sc : Scope} {fp : List Addr} {s3 : Shared} {H3 : Hp} {pins : List (Addr × Obj)} {σ : St}
theorem CompScope.cells (S : CompScope X.N X.env.scope x sc) (ok : X.Ok) : ∀ y ∈ sc.names, y.2 = .free -> ∃ c, X.env.cells.lookup y.1 = some c := fun y hy hk => ok.has y.1 (S.free y hy hk)
theorem CompScope.sub (S : CompScope X.N X.env.scope x sc) (ok : X.Ok) {y : Str} {c : Addr} (e : (clOf sc X.env).lookup y = some c) : X.env.cells.lookup y = some c :=
 clGo_sub sc.names [] (S.cells ok) (fun c h => by cases h) e
theorem CompScope.isFree (S : CompScope X.N X.env.scope x sc) {y : Str} (h : (relabel sc X.env).names.lookup y = some .cell \/ (relabel sc X.env).names.lookup y = some .free) : (y, NameKind.free) ∈ sc.names := by
 rw [lookup_relabel] at h
 cases e : sc.names.lookup y with
 | none => rw [e] at h; rcases h with h | h <;> cases h
 | some k =>
  rw [e] at h
  have hm := PySem.mem_of_lookup e
  cases k with
  | free => exact hm
  | cell => exact absurd rfl (S.nocell _ hm)
  | _ =>
   exfalso
   rcases h with h | h
   all_goals (simp at h)
theorem FpOk.nobase (ok : X.Ok) {b : Addr} {H : Hp} (f : FpOk X pins H b) {o : Obj} : X.base.get? b = some o -> False := fun e => by
 rcases f.2.2.2.1 with z | z
 · exact ok.noex b o e z
 · exact absurd (Nat.lt_of_lt_of_le (Heap.lt_size e) (Nat.le_trans ok.bsz z)) (Nat.lt_irrefl _)
theorem ok_comp (S : CompScope X.N X.env.scope x sc) (I : Inv X pins σ H3 s3) (hf : ∀ b ∈ fp, FpOk X pins H3 b) (hl : ∀ b ∈ fp, b < s3.heap.objs.size) : (cxComp X x sc fp s3 H3).Ok where
 mod := I.ok.mod
 kind := S.kind
 glob := I.ok.glob
 blt := I.ok.blt
 above := Nat.le_refl _
 inj := fun y z c h1 h2 => I.ok.inj y z c (S.sub I.ok h1) (S.sub I.ok h2)
 has := fun y h => clGo_has sc.names [] (.inr (S.isFree h))
 cab := fun y c h => by cases h
 hd := I.ok.hd
 frames := I.ok.frames
 stk := .inl rfl
 exf := fun b hb => ⟨Nat.ne_of_lt (hl b hb), fun y c e => (hf b hb).2.2.2.2.1 y c (S.sub I.ok e)⟩
 bs := I.bs
 bsz := Nat.le_trans I.ok.bsz I.sz
 noex := fun b o e hb => FpOk.nobase I.ok (hf b hb) e
 exfs := fun b hb hs => by
  rcases List.mem_cons.mp (I.stkSub b hs) with z | z
  · exact (hf b hb).2.1 z
  · exact (hf b hb).2.2.1 z
 funs := I.stack
 frf := I.stkFree
theorem inv_comp {h4 : Heap} {tk : Nat} (S : CompScope X.N X.env.scope x sc) (I : Inv X pins σ H3 s3) (hf : ∀ b ∈ fp, FpOk X pins H3 b) (hl : ∀ b ∈ fp, b < s3.heap.objs.size)
  (hk : ∀ b o, s3.heap.get? b = some o -> h4.get? b = some o) {m : Str -> Option Value} (hn : h4.Ns s3.heap.objs.size m) :
  Inv (cxComp X x sc fp s3 H3) [] (none :: σ) H3 { s3 with heap := h4, toks := tk } := by
 refine ⟨ok_comp S I hf hl, rfl, I.bare, Un.kept hk, ⟨m, hn, fun i y v h1 h2 h3 => ?_⟩, fun y c e => ?_, I.fresh, fun y c e => I.freeC y c (S.sub I.ok e), fun p hp => absurd (show p ∈ ([] : List (Addr × Obj)) from hp) (by simp), I.hok.kept hk, by show σ.length + 1 = X.N.length + 1; rw [I.len]⟩
 · cases i with
   | zero => exact absurd (Option.some.inj h2) (by simp)
   | succ i =>
    have h1' : X.N[i]? = some y := h1
    have h2' : σ[i]? = some (some v) := h2
    have hyN : y ∈ X.N := List.mem_of_getElem? h1'
    have hfree : (y, NameKind.free) ∈ sc.names := by
     rcases h3 with h3 | h3 | h3
     · exfalso
       have h3' : (relabel sc X.env).names.lookup y = some .local := h3
       rw [lookup_relabel] at h3'
       cases e : sc.names.lookup y with
       | none => rw [e] at h3'; cases h3'
       | some k =>
        rw [e] at h3'
        have hm := PySem.mem_of_lookup e
        cases k with
        | «local» =>
         rcases S.own _ hm rfl with z | z
         · have z' : y = x := z
           exact (List.nodup_cons.mp S.nd).1 (z' ▸ hyN)
         · exact z hyN
        | _ =>
         revert h3'
         simp
         try (split <;> simp)
     · exact S.isFree (.inl h3)
     · exact S.isFree (.inr h3)
    have hk0 := S.free _ hfree rfl
    obtain ⟨m0, hn0, hl0⟩ := I.loc
    obtain ⟨u, r, l⟩ := hl0 i y v h1' h2' (hk0.elim (fun z => .inr (.inl z)) (fun z => .inr (.inr z)))
    refine ⟨u, r, .inr ?_⟩
    have hv : (cxComp X x sc fp s3 H3).env.kindOf y = some .cell \/ (cxComp X x sc fp s3 H3).env.kindOf y = some .free := by
     rcases h3 with h3 | h3 | h3
     · exfalso
       have h3' : (relabel sc X.env).names.lookup y = some .local := h3
       rw [lookup_relabel] at h3'
       cases e : sc.names.lookup y with
       | none => rw [e] at h3'; cases h3'
       | some k =>
        rw [e] at h3'
        have hm := PySem.mem_of_lookup e
        cases k with
        | «local» =>
         rcases S.own _ hm rfl with z | z
         · have z' : y = x := z
           exact (List.nodup_cons.mp S.nd).1 (z' ▸ hyN)
         · exact z hyN
        | _ =>
         revert h3'
         simp
         try (split <;> simp)
     · exact .inl h3
     · exact .inr h3
    refine ⟨hv, ?_⟩
    obtain ⟨c, hc⟩ := clGo_has (env := X.env) (y := y) sc.names [] (.inr hfree)
    refine ⟨c, hc, ?_⟩
    have hc' := S.sub I.ok hc
    rcases l with ⟨hk1, _⟩ | ⟨_, c2, e2, z2⟩
    · exfalso
      have hk1' : X.env.scope.names.lookup y = some .local := hk1
      have hk0' : X.env.scope.names.lookup y = some .cell \/ X.env.scope.names.lookup y = some .free := hk0
      rw [hk1'] at hk0'
      rcases hk0' with z | z <;> cases z
    · rw [hc'] at e2; cases e2
      exact z2.keeps hk
 · obtain ⟨v, z⟩ := I.cell y c (S.sub I.ok e)
   exact ⟨v, z.keeps hk⟩
end
end L2
set_option Elab.async false
set_option linter.all false
set_option maxRecDepth 100000
set_option maxHeartbeats 4000000
namespace L2
open PySem PySem.Spec PyProof.Rows
def PIf (X : Cx) (ifs : List Expr) (t : TT) : Prop :=
 ∀ (pins : List (Addr × Obj)) (s : Shared) (σ : St) (H : Hp) (Q : Bool -> Hp -> Prop), Inv X pins σ H s -> t σ H Q ->
  wpAny (model X.prog X.w) X.A (forIn ifs true fun d b => if b = true then do let z ← isTrue d X.env (eval d X.env); pure (ForInStep.yield z) else pure (ForInStep.yield b)) (TP X pins σ Q) X.xe s
def tYes : TT := fun _ H Q => Q true H
theorem pif_nil {X : Cx} : PIf X [] tYes := fun pins s σ H Q I h => wpAny_tests_nil ⟨H, I, h⟩
theorem pif_one {X : Cx} {c : Expr} {t : TT} (h : PT X c t) : PIf X [c] t := fun pins s σ H Q I q => wpAny_tests_one (h pins s σ H Q I q)
def tComp (wi : TI) (tc : TT) (te : TE) : TE := fun σ H Q => wi σ H fun J H1 => ∀ p, H1 p = none ->
 ∃ W : Nat -> Nat -> List V -> Hp -> Prop, (∃ m, W 0 m [] (upd H1 p (.lst []))) /\ ∀ i m ys H, W i m ys H ->
  (J.stop i H /\ Q (.ref p) H) \/ (J.go i H /\ ∀ x H', J.yld i H x H' -> tc (some x :: σ) H' fun b H2 =>
   if b = true then te (some x :: σ) H2 fun v H3 => H3 p = some (.lst ys) /\ ys.length < sizeLine /\ ∃ m', m' < m /\ W (i + 1) m' (ys ++ [v]) (upd H3 p (.lst (ys ++ [v])))
   else ∃ m', m' < m /\ W (i + 1) m' ys H2)
section
variable {X : Cx} {x : Str} {sc : Scope} {px pos : Pos} {elt iter : Expr} {ifs : List Expr} {wi : TI} {tc : TT} {te : TE}
theorem Inv.back {fp : List Addr} {s3 s' : Shared} {H3 H' : Hp} {pins : List (Addr × Obj)} {σ σ' : St} {pl : List (Addr × Obj)} {h' : Heap} (I : Inv X pins σ H3 s3) (hf : ∀ b ∈ fp, FpOk X pins H3 b)
  (J : Inv (cxComp X x sc fp s3 H3) pl σ' H' s') (hs : Heap.SameBut s3.heap.objs.size s'.heap h') : Inv X pins σ H' { s' with heap := h' } := by
 have I1 : Inv X pins σ H' s' := I.call' (ch := fp) J.os J.base J.hok J.bare fun b hb => ⟨(hf b hb).2.2.2.1, (hf b hb).2.1, (hf b hb).2.2.2.2.1, (hf b hb).2.2.2.2.2⟩
 refine I1.turned (t' := s'.toks) (it := s3.heap.objs.size) (fun b o hb e => (hs.2 b hb).trans e) J.free ?_ (.inr I.sz) ?_ ?_
 · exact Nat.ne_of_gt I.lt
 · intro y c e z
   obtain ⟨v, q⟩ := I.cell y c e
   exact absurd q.lt (by rw [z]; exact Nat.lt_irrefl _)
 · intro p hp z
   exact absurd (Heap.lt_size (I.pin p hp).1) (by rw [z]; exact Nat.lt_irrefl _)
theorem comp_core {pins : List (Addr × Obj)} {σ : St} {s2 : Shared} {H2 : Hp} {it : Addr} {fp : List Addr} {tn : Nat -> Heap -> Prop} {J : It} {Q : VK} {E : Value -> Shared -> Prop} {RR : Value -> Addr -> Result -> Shared -> Prop}
  (S : CompScope X.N X.env.scope x sc) (hc : X.calm = true) (hif : ∀ fp s3 H3, PIf (cxComp X x sc fp s3 H3) ifs tc) (he : ∀ fp s3 H3, PE (cxComp X x sc fp s3 H3) elt te)
  (I2 : Inv X pins σ H2 s2) (T : Turn X.prog X.w X.K (.Name x px) J fp it tn) (st2 : tn 0 s2.heap) (f2 : ∀ b ∈ fp, FpOk X pins H2 b)
  (h : ∀ p, H2 p = none -> ∃ W : Nat -> Nat -> List V -> Hp -> Prop, (∃ m, W 0 m [] (upd H2 p (.lst []))) /\ ∀ i m ys H, W i m ys H ->
   (J.stop i H /\ Q (.ref p) H) \/ (J.go i H /\ ∀ x H', J.yld i H x H' -> tc (some x :: σ) H' fun b H2 =>
    if b = true then te (some x :: σ) H2 fun v H3 => H3 p = some (.lst ys) /\ ys.length < sizeLine /\ ∃ m', m' < m /\ W (i + 1) m' (ys ++ [v]) (upd H3 p (.lst (ys ++ [v])))
    else ∃ m', m' < m /\ W (i + 1) m' ys H2))
  (hRR : ∀ (s3 : Shared) (H3 : Hp) (s' : Shared) (σ' : St) (H' : Hp), Inv X pins σ H3 s3 -> (∀ b ∈ fp, FpOk X pins H3 b) -> Inv (cxComp X x sc fp s3 H3) [] σ' H' s' -> Q (.ref s2.heap.objs.size) H' -> RR (.ref s2.heap.objs.size) s3.heap.objs.size (.ok .next) s') :
  wpAny (model X.prog X.w) X.A (newList []) (fun acc s₃ => wpAny (model X.prog X.w) X.A (newFunctionEnv sc X.env.globals (clOf sc X.env) [] X.env.qual none .none (some X.env)) (fun cenv s₄ =>
   codeAny (model X.prog X.w) X.A (.compStart (.ListComp elt [⟨.Name x px, iter, ifs, 0⟩] sc pos) 0 (.ref it) acc { cenv with scope := relabel sc X.env }) (RR acc cenv.locals) s₄) E s₃) E s2 := by
 obtain ⟨W, ⟨m0, w0⟩, turn⟩ := h s2.heap.objs.size I2.fresh
 refine wpAny_newList ?_
 have I3 : Inv X pins σ (upd H2 s2.heap.objs.size (.lst [])) { s2 with heap := s2.heap.push { cls := .type "list", data := .seq ([] : List Value).toArray } } := I2.lnew (ys := []) (t' := s2.toks) .nil (Nat.zero_le _)
 have fpl : ∀ b ∈ fp, b < s2.heap.objs.size := fun b hb => by
  obtain ⟨o, e, _⟩ := T.obj _ _ st2 b hb
  exact Heap.lt_size e
 have f3 : ∀ b ∈ fp, FpOk X pins (upd H2 s2.heap.objs.size (.lst [])) b := fun b hb => ⟨by rw [upd_ne (Nat.ne_of_lt (fpl b hb))]; exact (f2 b hb).1, (f2 b hb).2⟩
 have st3 : tn 0 (s2.heap.push { cls := .type "list", data := .seq ([] : List Value).toArray }) := T.keep _ _ _ st2 fun b _ o e => Heap.get?_push_of_some _ e
 generalize hs3 : ({ s2 with heap := s2.heap.push { cls := .type "list", data := .seq ([] : List Value).toArray } } : Shared) = s3 at *
 have st3' : tn 0 s3.heap := by rw [← hs3]; exact st3
 have fpl3 : ∀ b ∈ fp, b < s3.heap.objs.size := fun b hb => by
  obtain ⟨o, e, _⟩ := T.obj _ _ st3' b hb
  exact Heap.lt_size e
 refine wpAny_newFunctionEnv S.nocell (by intro y hy; simp at hy) (fun h₁ hns₁ hsb₁ => ?_) S.kind
 have keep4 : ∀ b o, s3.heap.get? b = some o -> h₁.get? b = some o := fun b o e => (hsb₁.2 b (Nat.ne_of_lt (Heap.lt_size e))).trans (Heap.get?_push_of_some _ e)
 have I4 := inv_comp (fp := fp) (tk := s3.toks + ([] : List (Str × Value)).length) S I3 f3 fpl3 keep4 hns₁
 have st4 : tn 0 h₁ := T.keep _ _ _ st3' fun b _ o e => keep4 b o e
 generalize hs4 : ({ s3 with heap := h₁, toks := s3.toks + ([] : List (Str × Value)).length } : Shared) = s4 at *
 have st4' : tn 0 s4.heap := by rw [← hs4]; exact st4
 generalize hH3 : upd H2 s2.heap.objs.size (.lst []) = H3 at *
 have stat : ∀ {H' : Hp}, (∀ b ∈ fp, H' b = none) -> ∀ b ∈ fp, FpOk (cxComp X x sc fp s3 H3) [] H' b := fun hn b hb =>
  ⟨hn b hb, Nat.ne_of_lt (fpl3 b hb), I4.ok.exfs b hb, .inl hb, fun y c e => (f3 b hb).2.2.2.2.1 y c (S.sub I3.ok e), fun p hp => absurd (show p ∈ ([] : List (Addr × Obj)) from hp) (by simp)⟩
 have loop : codeAny (model X.prog X.w) X.A (.compLoop (.ListComp elt [⟨.Name x px, iter, ifs, 0⟩] sc pos) 0 (.ref it) (.ref s2.heap.objs.size) (cxComp X x sc fp s3 H3).env) (RR (.ref s2.heap.objs.size) s3.heap.objs.size) s4 := by
  refine codeAny_compLoop_tests (fun n s' => ∃ i o ys H', Inv (cxComp X x sc fp s3 H3) [] (o :: σ) H' s' /\ tn i s'.heap /\ (∀ b ∈ fp, H' b = none) /\ W i n ys H') ?_ m0 ⟨0, none, [], H3, I4, st4', fun b hb => (f3 b hb).1, w0⟩
  rintro n s5 ⟨i, o, ys, H5, I5, st5, fr5, w5⟩
  rcases turn i n ys H5 w5 with ⟨stop, q⟩ | ⟨go, step⟩
  · refine wpAny_mono (T.done (cxComp X x sc fp s3 H3) rfl rfl rfl hc i [] s5 (o :: σ) H5 (fun _ _ => False) I5 (stat fr5) st5 stop) (fun r s6 ⟨hr, I6⟩ => ?_) fun _ _ z => z.elim
    subst hr
    exact hRR s3 H3 s6 _ H5 I3 f3 I6 q
  · refine wpAny_mono (T.item (cxComp X x sc fp s3 H3) rfl rfl rfl hc i [] s5 (o :: σ) H5 (fun _ _ => False) I5 (stat fr5) st5 go) (fun r s6 ⟨u, hr, h6⟩ => ?_) fun _ _ z => z.elim
    subst hr
    refine of_pure (a := ()) h6 fun ⟨xv, H6, I6, r6, y6, st6, fr6⟩ => ?_
    have I6' := I6.pinned (stat fr6) (T.obj _ _ st6)
    have hx : (relabel sc X.env).names.lookup x = some .local := lookup_relabel_local S.here
    refine wpAny_mono (pg_name (X := cxComp X x sc fp s3 H3) (i := 0) (pos := px) S.nd rfl (.inl hx) (.inr hx) _ s6 (o :: σ) H6 xv u (fun σ' H' => σ' = some xv :: σ /\ H' = H6) I6' r6 ⟨rfl, rfl⟩) (fun _ s7 ⟨σ7, H7, I7, e7, e7'⟩ => ?_) fun _ _ z => z.elim
    subst e7 e7'
    have again : ∀ {H' : Hp} {s' : Shared} {ys' : List V}, Inv (cxComp X x sc fp s3 H3) ([] ++ pinsAt fp s6.heap) (some xv :: σ) H' s' -> (∃ m', m' < n /\ W (i + 1) m' ys' H') ->
      ∃ m, m < n /\ ∃ i o ys H', Inv (cxComp X x sc fp s3 H3) [] (o :: σ) H' s' /\ tn i s'.heap /\ (∀ b ∈ fp, H' b = none) /\ W i m ys H' := fun {H' s' ys'} I' ⟨m', hm, w'⟩ => by
     refine ⟨m', hm, i + 1, some xv, ys', H', I'.unpinned, T.keep _ _ _ st6 fun b hb ob e => (I'.pin (b, ob) (List.mem_append_right _ (List.mem_append_right _ (mem_pinsAt hb e)))).1, fun b hb => ?_, w'⟩
     obtain ⟨ob, e, d⟩ := T.obj _ _ st6 b hb
     exact (I'.pin (b, ob) (List.mem_append_right _ (List.mem_append_right _ (mem_pinsAt hb e)))).2.1
    refine wpAny_mono (hif fp s3 H3 _ s7 _ H7 _ I7 (step xv H7 y6)) (fun ok s8 ⟨H8, I8, q8⟩ => ?_) fun _ _ z => z.elim
    cases ok with
    | false =>
     rw [if_neg Bool.false_ne_true] at q8 ⊢
     exact again I8 q8
    | true =>
     rw [if_pos rfl] at q8 ⊢
     refine wpAny_mono (he fp s3 H3 _ s8 _ H8 _ I8 q8) (fun v s9 ⟨y, H9, I9, r9, hp, hz, q9⟩ => ?_) fun _ _ z => z.elim
     refine wpAny_mono (mt_append (X := cxComp X x sc fp s3 H3) _ s9 _ H9 (.ref s2.heap.objs.size) [y] (.ref s2.heap.objs.size) [v] (fun _ H' => H' = upd H9 s2.heap.objs.size (.lst (ys ++ [y]))) I9 rfl (.cons r9 .nil) ⟨_, ys, y, rfl, rfl, hp, hz, rfl⟩) (fun _ s10 ⟨_, H10, I10, _, e10⟩ => ?_) fun _ _ z => z.elim
     subst e10
     exact again I10 q9
 exact codeAny_compStart_list loop (T.self _ 0 _ _ _ st4' loop)
theorem pe_comp (S : CompScope X.N X.env.scope x sc) (hc : X.calm = true) (hi : PI X (.Name x px) iter wi) (hif : ∀ fp s3 H3, PIf (cxComp X x sc fp s3 H3) ifs tc) (he : ∀ fp s3 H3, PE (cxComp X x sc fp s3 H3) elt te)
  (hs : ∀ x, foldedSetIterable iter X.env x = pure x := by intro _; rfl) : PE X (.ListComp elt [⟨.Name x px, iter, ifs, 0⟩] sc pos) (tComp wi tc te) := by
 intro pins s σ H Q I h
 rw [eval_ListComp]
 refine wpAny_comprehension_free (use := none) (cl := clOf sc X.env) rfl hs (closure_is (S.cells I.ok)) S.kind S.names (thn (hi pins s σ H _ I h) fun v s1 h1 => thn h1 fun itv s2 h2 => ?_)
 obtain ⟨it, fp, tn, J, H2, e, I2, T, st2, f2, q2⟩ := h2
 subst e
 refine comp_core (RR := fun acc C => compPost (model X.prog X.w) X.A X.xe none (EP X pins σ Q) acc C) (Q := Q) S hc hif he I2 T st2 f2 q2 ?_
 intro s3 H3 s' σ' H' I3 f3 J' q'
 obtain ⟨m, hn, _⟩ := J'.loc
 exact ⟨m, hn, fun h' hs' => ⟨.ref s2.heap.objs.size, H', I3.back f3 J' hs', rfl, q'⟩⟩
theorem ps_setC {i : Nat} {y : Str} {py spos : Pos} (S : CompScope X.N X.env.scope x sc) (hc : X.calm = true) (hi : PI X (.Name x px) iter wi) (hif : ∀ fp s3 H3, PIf (cxComp X x sc fp s3 H3) ifs tc) (he : ∀ fp s3 H3, PE (cxComp X x sc fp s3 H3) elt te)
  (hN : X.N.Nodup) (hy : X.N[i]? = some y) (hl : Loc X.env.scope y) (hsw : swapsWith (.ListComp elt [⟨.Name x px, iter, ifs, 0⟩] sc pos) (some (.Name y py)) spos.line X.env = pure true)
  (hs : ∀ x, foldedSetIterable iter X.env x = pure x := by intro _; rfl) (hf : X.fn y = true \/ X.env.scope.names.lookup y = some .local := by first | exact .inl rfl | exact .inr rfl | assumption) :
  PS X (.Assign [.Name y py] (.ListComp elt [⟨.Name x px, iter, ifs, 0⟩] sc pos) spos) (tAsg (tComp wi tc te) (gName i)) := by
 intro pins s σ H D I h
 rw [exec_Assign_Name_used _ _ _ _ hsw]
 refine wpAny_bind (wpAny_standAt (wpAny_bind ?_))
 show wpAny _ X.A (do let _ ← comprehension (.ListComp elt [⟨.Name x px, iter, ifs, 0⟩] sc pos) sc X.env _ (newList []) false (eval iter X.env) (some (assign (.Name y py) X.env))) _ _ s
 refine wpAny_bind (wpAny_mono (wpAny_comprehension_free (use := some (assign (.Name y py) X.env)) (cl := clOf sc X.env) (Q := fun _ s' => SP X pins D .next s') rfl hs (closure_is (S.cells I.ok)) S.kind S.names
  (thn (hi pins s σ H _ I h) fun v s1 h1 => thn h1 fun itv s2 h2 => ?_)) (fun _ s' hq => wpAny_pure (wpAny_pure hq)) fun _ _ e => e)
 obtain ⟨it, fp, tn, J, H2, e, I2, T, st2, f2, q2⟩ := h2
 subst e
 refine comp_core (RR := fun acc C => compPost (model X.prog X.w) X.A X.xe (some (assign (.Name y py) X.env)) (fun _ s' => SP X pins D .next s') acc C) (Q := fun v H' => D.nx (σ.set i (some v)) H') S hc hif he I2 T st2 f2 q2 ?_
 intro s3 H3 s' σ' H' I3 f3 J' q'
 obtain ⟨m, hn, _⟩ := J'.loc
 have I1 : Inv X pins σ H' s' := I3.call' (ch := fp) J'.os J'.base J'.hok J'.bare fun b hb => ⟨(f3 b hb).2.2.2.1, (f3 b hb).2.1, (f3 b hb).2.2.2.2.1, (f3 b hb).2.2.2.2.2⟩
 have cL : s3.heap.objs.size ≠ X.env.locals := Nat.ne_of_gt I3.lt
 have cC : ∀ z c, X.env.cells.lookup z = some c -> c ≠ s3.heap.objs.size := fun z c e q => by
  obtain ⟨v, w⟩ := I3.cell z c e
  exact absurd w.lt (by rw [q]; exact Nat.lt_irrefl _)
 have cP : ∀ p ∈ X.pn ++ pins, p.1 ≠ s3.heap.objs.size := fun p hp z => absurd (Heap.lt_size (I3.pin p hp).1) (by rw [z]; exact Nat.lt_irrefl _)
 show wpAny _ X.A (assign (.Name y py) X.env (.ref s2.heap.objs.size)) _ _ s'
 refine wpAny_assign_Name (store_ok2 (v := .ref s2.heap.objs.size) I1 hN hy hl rfl (fun s4 I4 ⟨a, sb, ha⟩ => ?_) hf)
 have ne : s3.heap.objs.size ≠ a := by
  rcases ha with z | z
  · rw [z]; exact cL
  · exact (cC _ _ z).symm
 refine ⟨m, hn.sameBut sb ne, fun h' hs' => ⟨_, H', ?_, q'⟩⟩
 exact I4.turned (t' := s4.toks) (it := s3.heap.objs.size) (fun b o hb e => (hs'.2 b hb).trans e) J'.free cL (.inr I3.sz) cC cP
end
end L2
set_option Elab.async false
set_option linter.all false
set_option maxRecDepth 100000
set_option maxHeartbeats 4000000
namespace L2
open PySem PySem.Spec PyProof.Rows
mutual
def Dt (K : PySem.W.Frag) (H : Hp) : PyData -> V -> Prop
 | .none, v => v = .non
 | .bool b, v => v = .bl b
 | .int i, v => v = .int i
 | .str x, v => v = .str x /\ PyData.strOk x = true
 | .list ds, v => ∃ a xs, v = .ref a /\ SqL K H a xs /\ DtAll K H ds xs
 | .tuple ds, v => ∃ a xs, v = .ref a /\ SqT K H a xs /\ DtAll K H ds xs
 | .dict _, _ => False
def DtAll (K : PySem.W.Frag) (H : Hp) : List PyData -> List V -> Prop
 | [], xs => xs = []
 | d :: ds, xs => ∃ v r, xs = v :: r /\ Dt K H d v /\ DtAll K H ds r
end
section
variable {K : PySem.W.Frag} {H H' : Hp}
mutual
theorem Dt.lay : ∀ {d : PyData} {v : V}, Dt K H d v -> d.canLay0 = true
 | .none, _, _ => rfl
 | .bool _, _, _ => rfl
 | .int _, _, _ => rfl
 | .str x, _, h => by
  rw [Dt] at h
  exact h.2
 | .list ds, _, h => by
  rw [Dt] at h
  obtain ⟨a, xs, _, _, h⟩ := h
  rw [PyData.canLay0]
  exact DtAll.lay h
 | .tuple ds, _, h => by
  rw [Dt] at h
  obtain ⟨a, xs, _, _, h⟩ := h
  rw [PyData.canLay0]
  exact DtAll.lay h
 | .dict _, _, h => by
  rw [Dt] at h
  exact h.elim
theorem DtAll.lay : ∀ {ds : List PyData} {xs : List V}, DtAll K H ds xs -> PyData.canLayAll0 ds = true
 | [], _, _ => by rw [PyData.canLayAll0]
 | d :: ds, _, h => by
  rw [DtAll] at h
  obtain ⟨v, r, _, h1, h2⟩ := h
  rw [PyData.canLayAll0, Dt.lay h1, DtAll.lay h2]
  rfl
end
theorem Same.sqL {a : Addr} {xs : List V} (e : Same H H') (h : SqL K H a xs) : SqL K H' a xs := e.seq h
theorem Same.sqT {a : Addr} {xs : List V} (e : Same H H') (h : SqT K H a xs) : SqT K H' a xs := by
 rcases h with (h | ⟨o, h⟩) | h
 · exact .inl (.inl (e _ _ h))
 · exact .inl (.inr ⟨o, e _ _ h⟩)
 · exact .inr h
mutual
theorem Dt.same (e : Same H H') : ∀ {d : PyData} {v : V}, Dt K H d v -> Dt K H' d v
 | .none, _, h => by rw [Dt] at h ⊢; exact h
 | .bool _, _, h => by rw [Dt] at h ⊢; exact h
 | .int _, _, h => by rw [Dt] at h ⊢; exact h
 | .str x, _, h => by rw [Dt] at h ⊢; exact h
 | .list ds, _, h => by
  rw [Dt] at h ⊢
  obtain ⟨a, xs, h1, h2, h⟩ := h
  exact ⟨a, xs, h1, e.sqL h2, DtAll.same e h⟩
 | .tuple ds, _, h => by
  rw [Dt] at h ⊢
  obtain ⟨a, xs, h1, h2, h⟩ := h
  exact ⟨a, xs, h1, e.sqT h2, DtAll.same e h⟩
 | .dict _, _, h => by
  rw [Dt] at h
  exact h.elim
theorem DtAll.same (e : Same H H') : ∀ {ds : List PyData} {xs : List V}, DtAll K H ds xs -> DtAll K H' ds xs
 | [], _, h => by rw [DtAll] at h ⊢; exact h
 | d :: ds, _, h => by
  rw [DtAll] at h ⊢
  obtain ⟨v, r, h0, h1, h2⟩ := h
  exact ⟨v, r, h0, Dt.same e h1, DtAll.same e h2⟩
end
theorem DtAll.nil : DtAll K H [] [] := by rw [DtAll]
theorem DtAll.cons {d : PyData} {ds : List PyData} {v : V} {r : List V} (h1 : Dt K H d v) (h2 : DtAll K H ds r) : DtAll K H (d :: ds) (v :: r) := by rw [DtAll]; exact ⟨v, r, rfl, h1, h2⟩
theorem Dt.int {i : Int} : Dt K H (.int i) (.int i) := by rw [Dt]
theorem Dt.non : Dt K H .none .non := by rw [Dt]
theorem Dt.str {x : Str} (h : PyData.strOk x = true) : Dt K H (.str x) (.str x) := by rw [Dt]; exact ⟨rfl, h⟩
theorem Dt.lst {a : Addr} {xs : List V} {ds : List PyData} (h : SqL K H a xs) (q : DtAll K H ds xs) : Dt K H (.list ds) (.ref a) := by rw [Dt]; exact ⟨a, xs, rfl, h, q⟩
theorem DtAll.length : ∀ {ds : List PyData} {xs : List V}, DtAll K H ds xs -> xs.length = ds.length
 | [], xs, h => by rw [DtAll] at h; subst h; rfl
 | d :: ds, xs, h => by
  rw [DtAll] at h
  obtain ⟨v, r, rfl, h1, h2⟩ := h
  rw [List.length_cons, List.length_cons, DtAll.length h2]
end
section
variable {X : Cx} {pins : List (Addr × Obj)} {σ : St} {H : Hp} {s : Shared}
mutual
theorem Dt.reads (I : Inv X pins σ H s) : ∀ {d : PyData} {v : V} {u : Value}, Dt X.K H d v -> RelV v u -> ∃ as, Reads s.heap u d as
 | .none, _, _, h, r => by rw [Dt] at h; subst h; cases r; exact ⟨[], .none⟩
 | .bool b, _, _, h, r => by rw [Dt] at h; subst h; cases r; exact ⟨[], .bool b⟩
 | .int i, _, _, h, r => by rw [Dt] at h; subst h; obtain ⟨t, rfl⟩ := r; exact ⟨[], .int i t⟩
 | .str x, _, _, h, r => by
  rw [Dt] at h
  obtain ⟨h, _⟩ := h
  subst h
  obtain ⟨t, rfl⟩ := r
  exact ⟨[], .str x t⟩
 | .list ds, _, _, h, r => by
  rw [Dt] at h
  obtain ⟨a, xs, h1, h2, h⟩ := h
  subst h1
  cases r
  obtain ⟨its, rv, ⟨o, n, e, hc, _, hd⟩, _⟩ := I.list h2
  obtain ⟨as, q⟩ := DtAll.reads I h rv
  exact ⟨_, .list e hc hd (by simpa using q)⟩
 | .tuple ds, _, _, h, r => by
  rw [Dt] at h
  obtain ⟨a, xs, h1, h2, h⟩ := h
  subst h1
  cases r
  obtain ⟨its, rv, ⟨o, e, hc, n, hd⟩, _⟩ := I.tuple h2
  obtain ⟨as, q⟩ := DtAll.reads I h rv
  exact ⟨_, .tuple e hc hd (by simpa using q)⟩
 | .dict _, _, _, h, _ => by
  rw [Dt] at h
  exact h.elim
theorem DtAll.reads (I : Inv X pins σ H s) : ∀ {ds : List PyData} {xs : List V} {us : List Value}, DtAll X.K H ds xs -> Vals xs us -> ∃ as, ReadsAll s.heap us ds as
 | [], _, _, h, r => by rw [DtAll] at h; subst h; cases r; exact ⟨[], .nil⟩
 | d :: ds, _, _, h, r => by
  rw [DtAll] at h
  obtain ⟨v, r', h0, h1, h2⟩ := h
  subst h0
  cases r with
  | cons ra rb =>
   obtain ⟨as, q1⟩ := Dt.reads I h1 ra
   obtain ⟨bs, q2⟩ := DtAll.reads I h2 rb
   exact ⟨_, .cons q1 q2⟩
end
end
section
variable {X : Cx}
def rEqD (K : PySem.W.Frag) : R2 := fun x y H Q => ∃ d e, Dt K H d x /\ Dt K H e y /\ d.depth <= 60 /\ Q (.bl (PyData.eqv d e)) H
def rNeD (K : PySem.W.Frag) : R2 := fun x y H Q => ∃ d e, Dt K H d x /\ Dt K H e y /\ d.depth <= 60 /\ Q (.bl (!PyData.eqv d e)) H
theorem op_eqD {k : Nat} (hr : Room k X.A) : OpR X (compareOp .Eq) (rEqD X.K) := by
 intro pins s σ H x y v u Q I rx ry h
 obtain ⟨d, e, h1, h2, hd, q⟩ := h
 obtain ⟨as, r1⟩ := Dt.reads I h1 rx
 obtain ⟨bs, r2⟩ := Dt.reads I h2 ry
 have hu := hr.units
 exact SeqAt.compareEq_reads r1 r2 h1.lay h2.lay (by have : min d.depth e.depth <= d.depth := Nat.min_le_left _ _; omega) ⟨.bl _, H, I, rfl, q⟩
theorem op_neD {k : Nat} (hr : Room k X.A) : OpR X (compareOp .NotEq) (rNeD X.K) := by
 intro pins s σ H x y v u Q I rx ry h
 obtain ⟨d, e, h1, h2, hd, q⟩ := h
 obtain ⟨as, r1⟩ := Dt.reads I h1 rx
 obtain ⟨bs, r2⟩ := Dt.reads I h2 ry
 have hu := hr.units
 exact SeqAt.compareNe_reads r1 r2 h1.lay h2.lay (by have : min d.depth e.depth <= d.depth := Nat.min_le_left _ _; omega) ⟨.bl _, H, I, rfl, q⟩
theorem call_isT : CallR X (.builtin "isinstance") (fun xs H Q => ∃ x n t b, xs = [x, .ty n] /\ TyOf X.K H x t /\ PySem.W.kitOne X.K t (.type n) = some b /\ Q (.bl b) H) := by
 intro pins s σ H xs us Q I rv h
 obtain ⟨x, n, t, b, rfl, ht, hk, q⟩ := h
 obtain ⟨u, v, rfl, ru, rv'⟩ := rv.two
 cases rv'
 exact isinst_ok I ru ht hk fun tk => ⟨.bl b, H, I.tok tk, rfl, q⟩
end
end L2
set_option Elab.async false
set_option linter.all false
set_option maxRecDepth 100000
set_option maxHeartbeats 4000000
namespace L2
open PySem PySem.Spec PyProof.Rows
def compCheck (N : List Str) (osc : Scope) (x : Str) (sc : Scope) : Bool :=
 (match sc.kind with | .function => true | _ => false) && sc.names.all (fun y => match y.2 with | .cell => false | _ => true)
 && sc.names.all (fun y => match y.2 with | .local => (match sc.names.lookup y.1 with | some .local => true | _ => false) | _ => true)
 && (match sc.names.lookup x with | some .local => true | _ => false) && N.all (fun y => !(y == x))
 && sc.names.all (fun y => match y.2 with | .free => (match osc.names.lookup y.1 with | some .cell => true | some .free => true | _ => false) | _ => true)
 && sc.names.all (fun y => match y.2 with | .local => (y.1 == x || N.all (fun z => !(z == y.1))) | _ => true)
theorem CompScope.of {N : List Str} {osc : Scope} {x : Str} {sc : Scope} (hN : N.Nodup) (h : compCheck N osc x sc = true) : CompScope N osc x sc := by
 unfold compCheck at h
 simp only [Bool.and_eq_true, List.all_eq_true] at h
 obtain ⟨⟨⟨⟨⟨⟨h1, h2⟩, h3⟩, h4⟩, h5⟩, h6⟩, h7⟩ := h
 refine ⟨?_, fun y hy e => ?_, fun y hy e => ?_, ?_, List.nodup_cons.mpr ⟨fun hx => ?_, hN⟩, fun y hy e => ?_, fun y hy e => ?_⟩
 · revert h1; cases sc.kind <;> simp
 · have := h2 y hy; rw [e] at this; exact absurd this (by simp)
 · have := h3 y hy; rw [e] at this
   revert this
   cases sc.names.lookup y.1 with
   | none => simp
   | some k => cases k <;> simp
 · revert h4
   cases sc.names.lookup x with
   | none => simp
   | some k => cases k <;> simp
 · have := h5 x hx; simp at this
 · have := h6 y hy; rw [e] at this
   revert this
   cases osc.names.lookup y.1 with
   | none => simp
   | some k => cases k <;> simp
 · have := h7 y hy; rw [e] at this
   simp only [Bool.or_eq_true, List.all_eq_true] at this
   rcases this with z | z
   · exact .inl (by simpa using z)
   · refine .inr fun q => ?_
     have := z _ q
     simp at this
structure Def (P : Program) (w : World) (K : PySem.W.Frag) (mg : Str -> Option Value) (base : Heap) (CX : CXT) (x : Str) (k : Nat) (ps : List Str) (sp : Sp) : Prop where
 ex : ∃ f fd, FnOk P w K mg base CX k f fd ps sp /\ Binds K fd ps [] /\ PySem.W.keepIn K (.ref f) = true /\ mg x = some (.ref f)
theorem Def.imp {P : Program} {w : World} {K : PySem.W.Frag} {mg : Str -> Option Value} {base : Heap} {CX : CXT} {x : Str} {k : Nat} {ps : List Str} {sp sp' : Sp} (F : Def P w K mg base CX x k ps sp) (h : ∀ vs H Q E, sp' vs H Q E -> sp vs H Q E) : Def P w K mg base CX x k ps sp' := by
 obtain ⟨f, fd, G, r⟩ := F.ex
 exact ⟨f, fd, G.imp h, r⟩
theorem pe_def {X : Cx} {CX : CXT} {k : Nat} {x : Str} {ps : List Str} {sp : Sp} {E : XK} {e : Expr} {es : List Expr} {t : TA} {p pos : Pos} (F : Def X.prog X.w X.K X.mg X.base CX x k ps sp) (hr : Room k X.A) (hg : Gl X x) (hx : Passes CX X E)
  (ha : PA X (e :: es) t) (hdb : (x == ("__debug__" : Str)) = false := by decide) (he : starEach (e :: es) X.env = (false, eval e X.env) :: starEach es X.env := by rfl) (hpl : (backTo pos (starEach es X.env)).any (·.1) = false := by rfl) :
  PE X (.Call (.Name x p) (e :: es) [] pos) (tCall sp [] E t) := by
 obtain ⟨f, fd, G, b, kp, m⟩ := F.ex
 exact pe_call G hr hg m kp b .nil hx ha hdb he hpl
def IsT (K : PySem.W.Frag) (H : Hp) (xs : List V) (b : Bool) : Prop := ∃ x n t, xs = [x, .ty n] /\ TyOf K H x t /\ PySem.W.kitOne K t (.type n) = some b
theorem call_isTy {X : Cx} : CallR X (.builtin "isinstance") (fun xs H Q => ∃ b, IsT X.K H xs b /\ Q (.bl b) H) := by
 intro pins s σ H xs us Q I rv h
 obtain ⟨b, ⟨x, n, t, e, ht, hk⟩, q⟩ := h
 exact call_isT pins s σ H xs us Q I rv ⟨x, n, t, b, e, ht, hk, q⟩
section
variable {K : PySem.W.Frag} {H : Hp}
theorem isT_int_int {i : Int} : IsT K H [.int i, .ty "int"] true := ⟨_, _, _, rfl, .int i, rfl⟩
theorem isT_int_bool {i : Int} : IsT K H [.int i, .ty "bool"] false := ⟨_, _, _, rfl, .int i, rfl⟩
theorem isT_bl_bool {i : Bool} : IsT K H [.bl i, .ty "bool"] true := ⟨_, _, _, rfl, .bl i, rfl⟩
theorem isT_lst {a : Addr} {xs : List V} (h : H a = some (.lst xs)) : IsT K H [.ref a, .ty "list"] true := ⟨_, _, _, rfl, .lst h, rfl⟩
end
theorem seq_step {t u : TS} {D : Ends} {σ : St} {H : Hp} (h : ∀ U, U = u D -> t { D with nx := U } σ H) : tSeq t u D σ H := h _ rfl
@[simp] theorem cxComp_K {X : Cx} {x : Str} {sc : Scope} {fp : List Addr} {s3 : Shared} {H3 : Hp} : (cxComp X x sc fp s3 H3).K = X.K := rfl
theorem sz (n : Nat) (h : n <= 1000 := by omega) : n <= sizeLine := Nat.le_of_lt (small1000 h)
theorem again {n i : Nat} {P : Prop} (h : i < n) (p : P) : ∃ m', m' < n - i /\ m' = n - (i + 1) /\ i + 1 <= n /\ P := ⟨_, by omega, rfl, h, p⟩
theorem same_new {H : Hp} {p : Addr} (h : H p = none) (o : HO) : Same H (upd H p o) := fun b u q => by rw [upd_ne (ne_of_none q h)]; exact q
theorem atI_int {ns : List Int} {k : Int} (h0 : 0 <= k) (h1 : k < ns.length) : atI (ns.map V.int) k = some (.int (ns.getD k.toNat 0)) := by
 have hk : k.toNat < ns.length := by omega
 have e : k = ((k.toNat : Nat) : Int) := by omega
 have q : atI (ns.map V.int) ((k.toNat : Nat) : Int) = some (.int (ns.getD k.toNat 0)) := atI_nat (by rw [List.getElem?_map, List.getElem?_eq_getElem hk, List.getD_eq_getElem?_getD, List.getElem?_eq_getElem hk]; rfl)
 rw [← e] at q
 exact q
theorem comp_listN {K : PySem.W.Frag} {a p : Addr} {xs : List V} {tc : TT} {te : TE} {σ : St} {H : Hp} {Z : Hp -> Prop} (Pv : Nat -> List V -> Hp -> Prop) (h0 : Pv 0 [] (upd H p (.lst []))) (hl : ∀ i ys H, i <= xs.length -> Pv i ys H -> SqL K H a xs)
  (hs : ∀ i x ys H, xs[i]? = some x -> Pv i ys H -> tc (some x :: σ) H fun b H2 =>
   if b = true then te (some x :: σ) H2 fun v H3 => H3 p = some (.lst ys) /\ ys.length < sizeLine /\ ∃ m', m' < xs.length - i /\ m' = xs.length - (i + 1) /\ i + 1 <= xs.length /\ Pv (i + 1) (ys ++ [v]) (upd H3 p (.lst (ys ++ [v]))) else ∃ m', m' < xs.length - i /\ m' = xs.length - (i + 1) /\ i + 1 <= xs.length /\ Pv (i + 1) ys H2)
  (hd : ∀ ys H, Pv xs.length ys H -> Z H) :
  ∃ W : Nat -> Nat -> List V -> Hp -> Prop, (∃ m, W 0 m [] (upd H p (.lst []))) /\ ∀ i m ys H, W i m ys H ->
   ((Itl K a).stop i H /\ Z H) \/ ((Itl K a).go i H /\ ∀ x H', (Itl K a).yld i H x H' -> tc (some x :: σ) H' fun b H2 =>
     if b = true then te (some x :: σ) H2 fun v H3 => H3 p = some (.lst ys) /\ ys.length < sizeLine /\ ∃ m', m' < m /\ W (i + 1) m' (ys ++ [v]) (upd H3 p (.lst (ys ++ [v])))
     else ∃ m', m' < m /\ W (i + 1) m' ys H2) := by
 refine ⟨fun i m ys H => m = xs.length - i /\ i <= xs.length /\ Pv i ys H, ⟨xs.length, by simp, Nat.zero_le _, h0⟩, ?_⟩
 rintro i m ys H ⟨rfl, hi, pv⟩
 have q := hl i ys H hi pv
 by_cases hlt : i < xs.length
 · refine .inr ⟨⟨xs, xs[i], q, by simp [hlt]⟩, fun x H' y => ?_⟩
   obtain ⟨e, y⟩ := y
   subst e
   exact hs i x ys _ (y xs q) pv
 · have e : i = xs.length := by omega
   subst e
   exact .inl ⟨⟨xs, q, Nat.le_refl _⟩, hd ys H pv⟩
theorem comp_rangeN {lo : Int} {n : Nat} {p : Addr} {tc : TT} {te : TE} {σ : St} {H : Hp} {Z : Hp -> Prop} (Pv : Nat -> List V -> Hp -> Prop) (h0 : Pv 0 [] (upd H p (.lst [])))
  (hs : ∀ i ys H, i < n -> Pv i ys H -> tc (some (.int (lo + i)) :: σ) H fun b H2 =>
   if b = true then te (some (.int (lo + i)) :: σ) H2 fun v H3 => H3 p = some (.lst ys) /\ ys.length < sizeLine /\ ∃ m', m' < n - i /\ m' = n - (i + 1) /\ i + 1 <= n /\ Pv (i + 1) (ys ++ [v]) (upd H3 p (.lst (ys ++ [v]))) else ∃ m', m' < n - i /\ m' = n - (i + 1) /\ i + 1 <= n /\ Pv (i + 1) ys H2)
  (hd : ∀ ys H, Pv n ys H -> Z H) :
  ∃ W : Nat -> Nat -> List V -> Hp -> Prop, (∃ m, W 0 m [] (upd H p (.lst []))) /\ ∀ i m ys H, W i m ys H ->
   ((Itr lo n).stop i H /\ Z H) \/ ((Itr lo n).go i H /\ ∀ x H', (Itr lo n).yld i H x H' -> tc (some x :: σ) H' fun b H2 =>
     if b = true then te (some x :: σ) H2 fun v H3 => H3 p = some (.lst ys) /\ ys.length < sizeLine /\ ∃ m', m' < m /\ W (i + 1) m' (ys ++ [v]) (upd H3 p (.lst (ys ++ [v])))
     else ∃ m', m' < m /\ W (i + 1) m' ys H2) := by
 refine ⟨fun i m ys H => m = n - i /\ i <= n /\ Pv i ys H, ⟨n, by simp, Nat.zero_le _, h0⟩, ?_⟩
 rintro i m ys H ⟨rfl, hi, pv⟩
 by_cases hlt : i < n
 · refine .inr ⟨hlt, fun x H' y => ?_⟩
   obtain ⟨e, y⟩ := y
   subst e y
   exact hs i ys _ hlt pv
 · have e : i = n := by omega
   subst e
   exact .inl ⟨Nat.le_refl _, hd ys H pv⟩
end L2
set_option Elab.async false
set_option linter.all false
set_option maxRecDepth 100000
set_option maxHeartbeats 4000000
namespace L2
open PySem PySem.Spec PyProof.Rows
section
variable {X : Cx}
end
section
variable {X : Cx} {K : PySem.W.Frag} {tg : Expr}
theorem ix_listK (h : X.K = K) : IxR X (rIxL K) := by subst h; exact ix_list
theorem ix_tupK (h : X.K = K) : IxR X (rIxT K) := by subst h; exact ix_tup
theorem sl_listK (h : X.K = K) : SlR X (rSlL K) := by subst h; exact sl_list
theorem op_eqDK {k : Nat} (hr : Room k X.A) (h : X.K = K) : OpR X (compareOp .Eq) (rEqD K) := by subst h; exact op_eqD hr
theorem op_neDK {k : Nat} (hr : Room k X.A) (h : X.K = K) : OpR X (compareOp .NotEq) (rNeD K) := by subst h; exact op_neD hr
theorem call_lenK (h : X.K = K) : CallR X (.builtin "len") (fun xs H Q => ∃ p ys, xs = [.ref p] /\ (SqL K H p ys \/ SqT K H p ys) /\ Q (.int ys.length) H) := by subst h; exact call_len_seq
theorem call_isTyK (h : X.K = K) : CallR X (.builtin "isinstance") (fun xs H Q => ∃ b, IsT K H xs b /\ Q (.bl b) H) := by subst h; exact call_isTy
theorem call_list_ofK (h : X.K = K) : CallR X (.type "list") (fun xs H Q => ∃ p ys, xs = [.ref p] /\ (SqL K H p ys \/ SqT K H p ys) /\ ∀ l, H l = none -> Q (.ref l) (upd H l (.lst ys))) := by subst h; exact call_list_of
theorem call_tuple_ofK (h : X.K = K) : CallR X (.type "tuple") (fun xs H Q => ∃ p ys, xs = [.ref p] /\ ((SqL K H p ys /\ ∀ l, H l = none -> Q (.ref l) (upd H l (.tup ys))) \/ (SqT K H p ys /\ Q (.ref p) H))) := by subst h; exact call_tuple_of
theorem pi_listK {l : Expr} {tl : TE} (h : X.K = K) (hl : PE X l tl) : PI X tg l (iList K tl) := by subst h; exact pi_list hl
end
end L2
set_option Elab.async false
set_option linter.all false
set_option maxRecDepth 100000
set_option maxHeartbeats 4000000
namespace L2
open PySem PySem.Spec PyProof.Rows
structure Fly (P : Program) (w : World) (outer : List Env) (H : Hp) (s : Shared) (x C t : Addr) (B : Heap) (H' : Hp) (h : Heap) : Prop where
 un : Un (frs outer) [] H H' s.heap h
 hok : HOk P w H' h
 fl : Heap.FlyingW B outer x (.ref C) (.ref t) h
 new : s.heap.get? x = none
 xfree : H' x = none
 trB : ∀ a o, H' a = some o -> ∃ ob, B.get? a = some ob
 keepB : ∀ b o, s.heap.get? b = some o -> H b = none -> b ∉ frs outer -> B.get? b = some o
 thereB : ∀ b o, s.heap.get? b = some o -> b ∉ frs outer -> ∃ ob, B.get? b = some ob
section
variable {P : Program} {w : World} {outer : List Env} {H H' : Hp} {s : Shared} {x C t : Addr} {B h h' : Heap}
end
section
variable {CX : CXT} {P : Program} {w : World} {K : PySem.W.Frag} {mg : Str -> Option Value} {base : Heap} {N : List Str} {qual : Str} {scope : Scope} {f : Addr} {cd : Value} {A : Around} {outer : List Env} {s₀ : Shared} {H₀ : Hp} {E : XK}
end
end L2
set_option Elab.async false
set_option linter.all false
set_option maxRecDepth 100000
set_option maxHeartbeats 4000000
namespace L2
open PySem PySem.Spec PyProof.Rows
section
variable {X : Cx} {x : Str} {np cpos pos : Pos} {e : Expr} {te : TE} {C : Addr} {E : XK}
end
section
variable {P : Program} {w : World} {K : PySem.W.Frag} {mg : Str -> Option Value} {base : Heap}
end
section
variable {X : Cx}
end
end L2
set_option Elab.async false
set_option linter.all false
set_option maxRecDepth 100000
set_option maxHeartbeats 4000000
namespace L2
open PySem PySem.Spec PyProof.Rows
structure ExcL (K : PySem.W.Frag) (C : Addr) : Prop where
 ga : PySem.W.findIn K (.ref C) "__getattribute__" = some (some (.builtin "BaseException.__getattribute__"))
 hk : PySem.W.findIn K (.ref C) "__getattr__" = some none
 ca : PySem.W.findIn K (.ref C) "__class__" = some (some (.builtin "object.__class__"))
 gt : PySem.W.specialIn K (.builtin "object.__class__") "__get__" = some (some (.builtin "getset_descriptor.__get__"))
 tk : PySem.W.takesIn K (.builtin "object.__class__") = some true
 ob : PySem.W.mroIn K C (.type "object") = some true
 be : PySem.W.mroIn K C (.type "BaseException") = some true
section
variable {prog : Program} {w : World} {A : Around} {E : Value -> Shared -> Prop} {K : PySem.W.Frag} {x C : Addr}
end
section
variable {X : Cx} {pins : List (Addr × Obj)} {σ : St} {H : Hp} {s : Shared}
end
end L2
set_option Elab.async false
set_option linter.all false
set_option maxRecDepth 100000
set_option maxHeartbeats 4000000
namespace L2
open PySem PySem.Spec PyProof.Rows
abbrev Ent := Option Int
def eV : Ent -> V
 | none => .non
 | some i => .int i
def eD : Ent -> PyData
 | none => .none
 | some i => .int i
abbrev Tbl := List (List Ent)
def LineAt (H : Hp) (b : Addr) (r : List Ent) : Prop := H b = some (.lst (r.map eV))
structure TabAt (H : Hp) (a : Addr) (bs : List Addr) (t : Tbl) : Prop where
 at_ : H a = some (.lst (bs.map V.ref))
 nd : bs.Nodup
 ne : a ∉ bs
 lines : Paired (LineAt H) bs t
theorem paired_len {α β : Type} {R : α -> β -> Prop} : ∀ {xs : List α} {ys : List β}, Paired R xs ys -> xs.length = ys.length
 | _, _, .nil => rfl
 | _, _, .cons _ t => by simp [paired_len t]
theorem paired_get {α β : Type} {R : α -> β -> Prop} : ∀ {xs : List α} {ys : List β} {i : Nat} {y : β}, Paired R xs ys -> ys[i]? = some y -> ∃ x, xs[i]? = some x /\ R x y
 | _, _, _, _, .nil, e => by simp at e
 | _, _, 0, _, .cons r _, e => by cases e; exact ⟨_, rfl, r⟩
 | _, _, i + 1, _, .cons _ t, e => by
  obtain ⟨x, e1, r⟩ := paired_get t (by simpa using e)
  exact ⟨x, by simpa using e1, r⟩
theorem paired_get' {α β : Type} {R : α -> β -> Prop} : ∀ {xs : List α} {ys : List β} {i : Nat} {x : α}, Paired R xs ys -> xs[i]? = some x -> ∃ y, ys[i]? = some y /\ R x y
 | _, _, _, _, .nil, e => by simp at e
 | _, _, 0, _, .cons r _, e => by cases e; exact ⟨_, rfl, r⟩
 | _, _, i + 1, _, .cons _ t, e => by
  obtain ⟨x, e1, r⟩ := paired_get' t (by simpa using e)
  exact ⟨x, by simpa using e1, r⟩
theorem paired_of {α β : Type} {R : α -> β -> Prop} : ∀ {xs : List α} {ys : List β}, xs.length = ys.length -> (∀ (i : Nat) x y, xs[i]? = some x -> ys[i]? = some y -> R x y) -> Paired R xs ys
 | [], [], _, _ => .nil
 | [], _ :: _, e, _ => by simp at e
 | _ :: _, [], e, _ => by simp at e
 | x :: xs, y :: ys, e, h => .cons (h 0 x y rfl rfl) (paired_of (by simpa using e) fun i a b e1 e2 => h (i + 1) a b (by simpa using e1) (by simpa using e2))
section
variable {H H' : Hp} {a b : Addr} {bs : List Addr} {t : Tbl} {r : List Ent} {f g : Nat} {e : Ent}
theorem TabAt.len (T : TabAt H a bs t) : bs.length = t.length := paired_len T.lines
theorem TabAt.same (s : Same H H') (T : TabAt H a bs t) : TabAt H' a bs t := ⟨s _ _ T.at_, T.nd, T.ne, Paired.mapP T.lines fun _ _ z => s _ _ z⟩
theorem TabAt.line (T : TabAt H a bs t) (hr : t[f]? = some r) : ∃ b, bs[f]? = some b /\ H b = some (.lst (r.map eV)) /\ atI (bs.map V.ref) (f : Int) = some (.ref b) := by
 obtain ⟨b, eb, hb⟩ := paired_get T.lines hr
 exact ⟨b, eb, hb, atI_nat (by rw [List.getElem?_map, eb]; rfl)⟩
theorem at_line (he : r[g]? = some e) : atI (r.map eV) (g : Int) = some (eV e) := atI_nat (by rw [List.getElem?_map, he]; rfl)
theorem ixN_nat {n j : Nat} (h : j < n) : ixN n (j : Int) = some j := by
 unfold ixN
 rw [if_pos (by omega), if_pos (by omega)]
 simp
theorem map_set_eV (r : List Ent) (g : Nat) (e : Ent) : (r.map eV).set g (eV e) = (r.set g e).map eV := by
 induction r generalizing g with
 | nil => rfl
 | cons x r ih => cases g with
  | zero => rfl
  | succ g => rw [List.map_cons, List.set_cons_succ, ih g, List.set_cons_succ, List.map_cons]
theorem TabAt.put {r' : List Ent} (T : TabAt H a bs t) (eb : bs[f]? = some b) : TabAt (upd H b (.lst (r'.map eV))) a bs (t.set f r') := by
 have hb : b ∈ bs := List.mem_of_getElem? eb
 have nab : a ≠ b := fun z => T.ne (z ▸ hb)
 refine ⟨by rw [upd_ne nab]; exact T.at_, T.nd, T.ne, paired_of (by rw [List.length_set]; exact T.len) fun i x y ex ey => ?_⟩
 unfold LineAt
 by_cases hi : i = f
 · subst hi
   rw [eb] at ex; cases ex
   have hl : i < t.length := by rw [← T.len]; exact (List.getElem?_eq_some_iff.mp eb).1
   rw [List.getElem?_set_self hl] at ey
   cases ey
   exact upd_same
 · rw [List.getElem?_set_ne (Ne.symm hi)] at ey
   obtain ⟨y', ey', hy⟩ := paired_get' T.lines ex
   rw [ey] at ey'; cases ey'
   have nxb : x ≠ b := fun z => hi (by
    subst z
    obtain ⟨h1, q1⟩ := List.getElem?_eq_some_iff.mp ex
    obtain ⟨h2, q2⟩ := List.getElem?_eq_some_iff.mp eb
    exact (List.getElem_inj T.nd).mp (q1.trans q2.symm))
   rw [upd_ne nxb]
   exact hy
theorem TabAt.other {c : Addr} {o : HO} (T : TabAt H a bs t) (h1 : c ≠ a) (h2 : c ∉ bs) : TabAt (upd H c o) a bs t :=
 ⟨by rw [upd_ne (Ne.symm h1)]; exact T.at_, T.nd, T.ne, paired_of T.len fun i x y ex ey => by
  obtain ⟨y', ey', hy⟩ := paired_get' T.lines ex
  rw [ey] at ey'; cases ey'
  unfold LineAt
  have nx : x ≠ c := fun z => h2 (by rw [← z]; exact List.mem_of_getElem? ex)
  rw [upd_ne nx]
  exact hy⟩
theorem TabAt.grow {H2 : Hp} (T : TabAt H a bs t) (hb : H b = none) (s : ∀ c o, c ≠ a -> H c = some o -> H2 c = some o) (hl : H2 b = some (.lst (r.map eV))) (ha : H2 a = some (.lst (bs.map V.ref ++ [.ref b]))) : TabAt H2 a (bs ++ [b]) (t ++ [r]) := by
 have nin : b ∉ bs := fun z => by
  obtain ⟨i, hi, q⟩ := List.getElem_of_mem z
  obtain ⟨y, _, hy⟩ := paired_get' T.lines (i := i) (x := b) (by rw [List.getElem?_eq_getElem hi, q])
  unfold LineAt at hy
  rw [hb] at hy; cases hy
 have nab : a ≠ b := fun z => by have := T.at_; rw [z, hb] at this; cases this
 refine ⟨by rw [ha]; simp, ?_, ?_, ?_⟩
 · rw [List.nodup_append]
   refine ⟨T.nd, by simp, fun x hx y hy => ?_⟩
   rw [List.mem_singleton.mp hy]
   exact fun z => nin (z ▸ hx)
 · intro z
   rcases List.mem_append.mp z with z | z
   · exact T.ne z
   · exact nab (List.mem_singleton.mp z)
 · have app : ∀ {xs : List Addr} {ys : Tbl}, Paired (LineAt H2) xs ys -> Paired (LineAt H2) (xs ++ [b]) (ys ++ [r]) := by
    intro xs ys p
    induction p with
    | nil => exact .cons hl .nil
    | cons q _ ih => exact .cons q ih
   refine app (paired_of T.len fun i x y ex ey => ?_)
   obtain ⟨y', ey', hy⟩ := paired_get' T.lines ex
   rw [ey] at ey'; cases ey'
   exact s _ _ (fun z => T.ne (z ▸ List.mem_of_getElem? ex)) hy
end
def lineD (r : List Ent) : PyData := .list (r.map eD)
def tabD (t : Tbl) : PyData := .list (t.map lineD)
section
variable {K : PySem.W.Frag} {H : Hp}
theorem dt_ents : ∀ (r : List Ent), DtAll K H (r.map eD) (r.map eV)
 | [] => DtAll.nil
 | none :: r => DtAll.cons (by show Dt K H .none .non; rw [Dt]) (dt_ents r)
 | some i :: r => DtAll.cons (show Dt K H (.int i) (.int i) from .int) (dt_ents r)
theorem dt_lines : ∀ {bs : List Addr} {t : Tbl}, Paired (LineAt H) bs t -> DtAll K H (t.map lineD) (bs.map V.ref)
 | _, _, .nil => DtAll.nil
 | _, _, .cons h t => DtAll.cons (Dt.lst (SqL.of h) (dt_ents _)) (dt_lines t)
theorem TabAt.dt {a : Addr} {bs : List Addr} {t : Tbl} (T : TabAt H a bs t) : Dt K H (tabD t) (.ref a) := Dt.lst (SqL.of T.at_) (dt_lines T.lines)
theorem eqv_ents : ∀ (r s : List Ent), PyData.eqvAll (r.map eD) (s.map eD) = decide (r = s)
 | [], [] => by simp [PyData.eqvAll]
 | [], _ :: _ => by simp [PyData.eqvAll]
 | _ :: _, [] => by simp [PyData.eqvAll]
 | x :: r, y :: s => by
  rw [List.map_cons, List.map_cons, PyData.eqvAll, eqv_ents r s, Bool.eq_iff_iff]
  cases x <;> cases y <;> simp [eD, PyData.eqv]
theorem eqv_lines : ∀ (t u : Tbl), PyData.eqvAll (t.map lineD) (u.map lineD) = decide (t = u)
 | [], [] => by simp [PyData.eqvAll]
 | [], _ :: _ => by simp [PyData.eqvAll]
 | _ :: _, [] => by simp [PyData.eqvAll]
 | x :: r, y :: s => by
  rw [List.map_cons, List.map_cons, PyData.eqvAll, eqv_lines r s, Bool.eq_iff_iff, lineD, lineD, PyData.eqv, eqv_ents]
  simp
theorem eqv_tabs (t u : Tbl) : PyData.eqv (tabD t) (tabD u) = decide (t = u) := by rw [tabD, tabD, PyData.eqv, eqv_lines]
theorem depth_ents : ∀ (r : List Ent), PyData.depthAll (r.map eD) <= 5
 | [] => by simp [PyData.depthAll]
 | x :: r => by
  have := depth_ents r
  cases x <;> simp [PyData.depthAll, PyData.depth, eD] <;> omega
theorem depth_lines : ∀ (t : Tbl), PyData.depthAll (t.map lineD) <= 20
 | [] => by simp [PyData.depthAll]
 | x :: r => by
  have := depth_lines r
  have := depth_ents x
  simp [PyData.depthAll, PyData.depth, lineD]
  omega
theorem depth_tab (t : Tbl) : (tabD t).depth <= 60 := by
 have := depth_lines t
 simp [tabD, PyData.depth]
 omega
end
end L2
set_option linter.all false
namespace Oct
abbrev E := Option Int
def leE : E -> E -> Prop
 | _, none => True
 | none, some _ => False
 | some a, some b => a <= b
def addE : E -> E -> E
 | some a, some b => some (a + b)
 | _, _ => none
def minE : E -> E -> E
 | none, b => b
 | some a, none => some a
 | some a, some b => some (min a b)
def hlf : E -> E
 | none => none
 | some a => some (a / 2)
def dbl : E -> E
 | none => none
 | some a => some (2 * a)
abbrev Tb := Nat -> Nat -> E
def fl (f : Nat) : Nat := if f % 2 = 0 then f + 1 else f - 1
theorem fl_fl (f : Nat) : fl (fl f) = f := by unfold fl; split <;> split <;> omega
theorem fl_ne (f : Nat) : fl f ≠ f := by unfold fl; split <;> omega
theorem fl_lt {f n : Nat} (h : f < 2 * n) : fl f < 2 * n := by unfold fl; split <;> omega
@[simp] theorem leE_refl (a : E) : leE a a := by cases a <;> simp [leE]
theorem leE_trans {a b c : E} (h : leE a b) (k : leE b c) : leE a c := by cases a <;> cases b <;> cases c <;> simp_all [leE] <;> omega
theorem minE_l (a b : E) : leE (minE a b) a := by cases a <;> cases b <;> simp [leE, minE] <;> omega
theorem minE_r (a b : E) : leE (minE a b) b := by cases a <;> cases b <;> simp [leE, minE] <;> omega
theorem le_minE {a b c : E} (h : leE c a) (k : leE c b) : leE c (minE a b) := by cases a <;> cases b <;> cases c <;> simp_all [leE, minE] <;> omega
theorem minE_or (a b : E) : minE a b = a \/ minE a b = b := by cases a <;> cases b <;> simp [minE] <;> omega
theorem add_mono {a b c d : E} (h : leE a b) (k : leE c d) : leE (addE a c) (addE b d) := by cases a <;> cases b <;> cases c <;> cases d <;> simp_all [leE, addE] <;> omega
theorem add_comm' (a b : E) : addE a b = addE b a := by cases a <;> cases b <;> simp [addE] <;> omega
theorem add_assoc' (a b c : E) : addE (addE a b) c = addE a (addE b c) := by cases a <;> cases b <;> cases c <;> simp [addE] <;> omega
def Sym (t : Tb) (N : Nat) : Prop := ∀ f g, f < N -> g < N -> t f g = t g f
def Thru (t : Tb) (N h : Nat) : Prop := ∀ f g, f < N -> g < N -> leE (t f g) (addE (t f h) (t (fl h) g))
def Closed (t : Tb) (N : Nat) : Prop := ∀ h, h < N -> Thru t N h
def lnk (t : Tb) (h : Nat) : Tb := fun f g => minE (t f g) (addE (t f h) (t (fl h) g))
theorem add_loop {a b c d : E} (h : leE (some 0) (addE b c)) : leE (addE a d) (addE (addE a b) (addE c d)) := by
 cases a <;> cases b <;> cases c <;> cases d <;> simp_all [leE, addE] <;> omega
theorem lnk_le (t : Tb) (h f g : Nat) : leE (lnk t h f g) (t f g) := minE_l _ _
theorem lnk_self {t : Tb} {N h : Nat} (d : leE (some 0) (t (fl h) h)) : Thru (lnk t h) N h := by
 intro f g _ _
 have e1 : leE (t f h) (lnk t h f h) := le_minE (leE_refl _) (by
  revert d; generalize t f h = a; generalize t (fl h) h = b; cases a <;> cases b <;> simp [leE, addE] <;> omega)
 have e2 : leE (t (fl h) g) (lnk t h (fl h) g) := le_minE (leE_refl _) (by
  revert d; generalize t (fl h) g = a; generalize t (fl h) h = b; cases a <;> cases b <;> simp [leE, addE] <;> omega)
 exact leE_trans (minE_r _ _) (add_mono e1 e2)
theorem lnk_thru {t : Tb} {N h i : Nat} (hh : h < N) (fh : fl h < N) (hi : i < N) (fi : fl i < N) (d : leE (some 0) (t (fl h) h)) (ti : Thru t N i) : Thru (lnk t h) N i := by
 intro f g hf hg
 have a1 := ti f g hf hg
 have a2 := ti f h hf hh
 have a3 := ti (fl h) g fh hg
 have a4 := ti (fl h) h fh hh
 unfold lnk
 rcases minE_or (t f i) (addE (t f h) (t (fl h) i)) with e1 | e1 <;> rcases minE_or (t (fl i) g) (addE (t (fl i) h) (t (fl h) g)) with e2 | e2 <;> rw [e1, e2]
 · exact leE_trans (minE_l _ _) a1
 · refine leE_trans (minE_r _ _) ?_
   rw [← add_assoc']
   exact add_mono a2 (leE_refl _)
 · refine leE_trans (minE_r _ _) ?_
   rw [add_assoc']
   exact add_mono (leE_refl _) a3
 · exact leE_trans (minE_r _ _) (add_loop (leE_trans d a4))
def hv (t : Tb) (f : Nat) : E := hlf (t f f)
def halve (t : Tb) : Tb := fun f g => if f = g then dbl (hv t f) else t f g
def strong (t : Tb) : Tb := fun f g => minE (halve t f g) (addE (hv t f) (hv t g))
theorem halve_le (t : Tb) (f g : Nat) : leE (halve t f g) (t f g) := by
 unfold halve hv
 split
 · subst f; generalize t g g = a; cases a <;> simp [leE, hlf, dbl] <;> omega
 · exact leE_refl _
theorem half_link {t : Tb} {N f g : Nat} (c : Closed t N) (s : Sym t N) (hf : f < N) (ff : fl f < N) (hg : g < N) : leE (hv t g) (addE (t (fl f) g) (hv t f)) := by
 have a1 := c (fl f) ff g g hg hg
 have a2 := c f hf f g hf hg
 rw [fl_fl, s g (fl f) hg ff] at a1
 unfold hv
 revert a1 a2
 generalize t g g = a; generalize t (fl f) g = b; generalize t f g = d; generalize t f f = e
 cases a <;> cases b <;> cases d <;> cases e <;> simp [leE, addE, hlf] <;> omega
theorem strong_closed {t : Tb} {N : Nat} (even : ∀ f, f < N -> fl f < N) (c : Closed t N) (s : Sym t N) (d : ∀ f, f < N -> leE (some 0) (addE (hv t f) (hv t (fl f)))) : Closed (strong t) N := by
 intro x hx f g hf hg
 have fx := even x hx
 have k1 := half_link c s hx fx hg
 have k2 := half_link (f := fl x) (g := f) c s fx (by rw [fl_fl]; exact hx) hf
 rw [fl_fl, s x f hx hf] at k2
 have dx := d x hx
 have b1 : leE (addE (hv t f) (hv t g)) (addE (addE (hv t f) (hv t x)) (halve t (fl x) g)) := by
  unfold halve
  split
  · rename_i e
    subst e
    revert dx
    generalize hv t f = a; generalize hv t x = b; generalize hv t (fl x) = b'
    cases a <;> cases b <;> cases b' <;> simp [leE, addE, dbl] <;> omega
  · revert k1
    generalize hv t f = a; generalize hv t x = b; generalize hv t g = e; generalize t (fl x) g = i
    cases a <;> cases b <;> cases e <;> cases i <;> simp [leE, addE] <;> omega
 have b2 : leE (addE (hv t f) (hv t g)) (addE (halve t f x) (addE (hv t (fl x)) (hv t g))) := by
  unfold halve
  split
  · rename_i e
    subst e
    revert dx
    generalize hv t f = a; generalize hv t g = b; generalize hv t (fl f) = b'
    cases a <;> cases b <;> cases b' <;> simp [leE, addE, dbl] <;> omega
  · revert k2
    generalize hv t f = a; generalize hv t (fl x) = b; generalize hv t g = e; generalize t f x = i
    cases a <;> cases b <;> cases e <;> cases i <;> simp [leE, addE] <;> omega
 unfold strong
 rcases minE_or (halve t f x) (addE (hv t f) (hv t x)) with e1 | e1 <;> rcases minE_or (halve t (fl x) g) (addE (hv t (fl x)) (hv t g)) with e2 | e2 <;> rw [e1, e2]
 · by_cases h1 : f = x
   · refine leE_trans (minE_r _ _) (leE_trans b1 (add_mono ?_ (leE_refl _)))
     subst h1
     unfold halve
     rw [if_pos rfl]
     generalize hv t f = a
     cases a <;> simp [leE, addE, dbl] <;> omega
   · by_cases h2 : fl x = g
     · refine leE_trans (minE_r _ _) (leE_trans b2 (add_mono (leE_refl _) ?_))
       subst h2
       unfold halve
       rw [if_pos rfl]
       generalize hv t (fl x) = a
       cases a <;> simp [leE, addE, dbl] <;> omega
     · have : leE (t f g) (addE (halve t f x) (halve t (fl x) g)) := by
        have z := c x hx f g hf hg
        unfold halve
        rw [if_neg h1, if_neg h2]
        exact z
       exact leE_trans (minE_l _ _) (leE_trans (halve_le t f g) this)
 · exact leE_trans (minE_r _ _) b2
 · exact leE_trans (minE_r _ _) b1
 · exact leE_trans (minE_r _ _) (add_loop dx)
theorem halve_sym {t : Tb} {N : Nat} (s : Sym t N) : Sym (halve t) N := by
 intro f g hf hg
 unfold halve
 by_cases e : f = g
 · subst e; rfl
 · rw [if_neg e, if_neg (Ne.symm e)]; exact s f g hf hg
theorem strong_sym {t : Tb} {N : Nat} (s : Sym t N) : Sym (strong t) N := by
 intro f g hf hg
 unfold strong
 rw [halve_sym s f g hf hg, add_comm']
theorem leE_antisymm {a b : E} (h : leE a b) (k : leE b a) : a = b := by cases a <;> cases b <;> simp_all [leE] <;> omega
def Le (c t : Tb) (N : Nat) : Prop := ∀ f g, f < N -> g < N -> leE (c f g) (t f g)
theorem Le.refl (t : Tb) (N : Nat) : Le t t N := fun _ _ _ _ => leE_refl _
theorem Le.trans {a b c : Tb} {N : Nat} (h : Le a b N) (k : Le b c N) : Le a c N := fun f g hf hg => leE_trans (h f g hf hg) (k f g hf hg)
theorem Le.antisymm {a b : Tb} {N : Nat} (h : Le a b N) (k : Le b a N) : ∀ f g, f < N -> g < N -> a f g = b f g := fun f g hf hg => leE_antisymm (h f g hf hg) (k f g hf hg)
theorem le_lnk {c t : Tb} {N h : Nat} (cc : Closed c N) (l : Le c t N) (hh : h < N) (fh : fl h < N) : Le c (lnk t h) N := fun f g hf hg =>
 le_minE (l f g hf hg) (leE_trans (cc h hh f g hf hg) (add_mono (l f h hf hh) (l (fl h) g fh hg)))
def links (t : Tb) : List Nat -> Tb
 | [] => t
 | h :: r => links (lnk t h) r
theorem links_le : ∀ (hs : List Nat) (t : Tb) (f g : Nat), leE (links t hs f g) (t f g)
 | [], t, f, g => leE_refl _
 | h :: r, t, f, g => leE_trans (links_le r (lnk t h) f g) (lnk_le t h f g)
theorem le_links {c : Tb} {N : Nat} (cc : Closed c N) (even : ∀ f, f < N -> fl f < N) : ∀ (hs : List Nat) (t : Tb), (∀ h ∈ hs, h < N) -> Le c t N -> Le c (links t hs) N
 | [], t, _, l => l
 | h :: r, t, b, l => le_links cc even r (lnk t h) (fun i hi => b i (List.mem_cons_of_mem _ hi)) (le_lnk cc l (b h List.mem_cons_self) (even h (b h List.mem_cons_self)))
theorem links_thru {N : Nat} (even : ∀ f, f < N -> fl f < N) : ∀ (hs : List Nat) (t : Tb) (S : List Nat), (∀ h ∈ S, h < N) -> (∀ h ∈ hs, h < N) -> (∀ h ∈ hs, leE (some 0) (links t hs (fl h) h)) -> (∀ i ∈ S, Thru t N i) -> ∀ i, i ∈ S \/ i ∈ hs -> Thru (links t hs) N i
 | [], t, S, _, _, _, k, i, hi => by
  rcases hi with hi | hi
  · exact k i hi
  · cases hi
 | h :: r, t, S, bS, b, d, k, i, hi => by
  have hh := b h List.mem_cons_self
  have d0 : leE (some 0) (t (fl h) h) := leE_trans (d h List.mem_cons_self) (links_le (h :: r) t (fl h) h)
  refine links_thru even r (lnk t h) (h :: S) (fun j hj => ?_) (fun j hj => b j (List.mem_cons_of_mem _ hj)) (fun j hj => d j (List.mem_cons_of_mem _ hj)) (fun j hj => ?_) i ?_
  · rcases List.mem_cons.mp hj with rfl | hj
    · exact hh
    · exact bS j hj
  · rcases List.mem_cons.mp hj with rfl | hj
    · exact lnk_self d0
    · exact lnk_thru hh (even h hh) (bS j hj) (even j (bS j hj)) d0 (k j hj)
  · rcases hi with hi | hi
    · exact .inl (List.mem_cons_of_mem _ hi)
    · rcases List.mem_cons.mp hi with rfl | hi
      · exact .inl List.mem_cons_self
      · exact .inr hi
theorem links_closed {N : Nat} {hs : List Nat} {t : Tb} (even : ∀ f, f < N -> fl f < N) (b : ∀ h ∈ hs, h < N) (all : ∀ h, h < N -> h ∈ hs) (d : ∀ h, h < N -> leE (some 0) (links t hs (fl h) h)) : Closed (links t hs) N :=
 fun h hh => links_thru even hs t [] (fun _ z => by cases z) b (fun i hi => d i (b i hi)) (fun _ z => by cases z) h (.inr (all h hh))
theorem closed_flip {t : Tb} {N : Nat} (even : ∀ f, f < N -> fl f < N) (c : Closed t N) : Closed (fun f g => t g f) N := fun h hh f g hf hg => by
 have z := c (fl h) (even h hh) g f hg hf
 rw [fl_fl, add_comm'] at z
 exact z
theorem links_sym {N : Nat} {hs : List Nat} {t : Tb} (even : ∀ f, f < N -> fl f < N) (b : ∀ h ∈ hs, h < N) (all : ∀ h, h < N -> h ∈ hs) (d : ∀ h, h < N -> leE (some 0) (links t hs (fl h) h)) (s : Sym t N) : Sym (links t hs) N := by
 have c := links_closed even b all d
 have c' := closed_flip even c
 have l : Le (fun f g => links t hs g f) t N := fun f g hf hg => by
  have z := links_le hs t g f
  rw [s g f hg hf] at z
  exact z
 have k := le_links c' even hs t b l
 exact fun f g hf hg => leE_antisymm (k g f hg hf) (k f g hf hg)
structure Tight (c : Tb) (N : Nat) : Prop where
 sym : Sym c N
 closed : Closed c N
 even : ∀ f, f < N -> ∀ a, c f f = some a -> a % 2 = 0
 halves : ∀ f g, f < N -> g < N -> leE (dbl (c f g)) (addE (c f f) (c g g))
theorem strong_diag (t : Tb) (f : Nat) : strong t f f = dbl (hv t f) := by
 unfold strong halve
 rw [if_pos rfl]
 generalize hv t f = a
 cases a <;> simp [minE, addE, dbl] <;> omega
theorem strong_tight {t : Tb} {N : Nat} (even : ∀ f, f < N -> fl f < N) (c : Closed t N) (s : Sym t N) (d : ∀ f, f < N -> leE (some 0) (addE (hv t f) (hv t (fl f)))) : Tight (strong t) N where
 sym := strong_sym s
 closed := strong_closed even c s d
 even := fun f _ a e => by
  rw [strong_diag] at e
  revert e
  generalize hv t f = b
  cases b <;> simp [dbl] <;> omega
 halves := fun f g _ _ => by
  rw [strong_diag, strong_diag]
  unfold strong
  generalize hv t f = a; generalize hv t g = b; generalize halve t f g = e
  cases a <;> cases b <;> cases e <;> simp [leE, addE, dbl, minE] <;> omega
theorem strong_le (t : Tb) (f g : Nat) : leE (strong t f g) (t f g) := leE_trans (minE_l _ _) (halve_le t f g)
theorem le_strong {c t : Tb} {N : Nat} (k : Tight c N) (l : Le c t N) : Le c (strong t) N := fun f g hf hg => by
 have hd : ∀ x, x < N -> leE (c x x) (dbl (hv t x)) := fun x hx => by
  have z := l x x hx hx
  have ev := k.even x hx
  unfold hv
  revert z ev
  generalize c x x = a; generalize t x x = b
  cases a <;> cases b <;> simp [leE, dbl, hlf] <;> omega
 refine le_minE ?_ ?_
 · unfold halve
   split
   · rename_i e; subst e; exact hd f hf
   · exact l f g hf hg
 · have z := k.halves f g hf hg
   have a := hd f hf
   have b := hd g hg
   revert z a b
   generalize c f g = x; generalize c f f = y; generalize c g g = y'; generalize hv t f = u; generalize hv t g = v
   cases x <;> cases y <;> cases y' <;> cases u <;> cases v <;> simp [leE, dbl, addE] <;> omega
def Pt (w : Nat -> Int) (N : Nat) : Prop := ∀ f, f < N -> w (fl f) = -w f
def tab (w : Nat -> Int) : Tb := fun f g => some (w f + w g)
theorem pt_tight {w : Nat -> Int} {N : Nat} (p : Pt w N) : Tight (tab w) N where
 sym := fun f g _ _ => by simp [tab]; omega
 closed := fun h hh f g _ _ => by have := p h hh; simp [tab, leE, addE]; omega
 even := fun f _ a e => by simp [tab] at e; omega
 halves := fun f g _ _ => by simp [tab, leE, addE, dbl]; omega
def Lies (w : Nat -> Int) (t : Tb) (N : Nat) : Prop := Le (tab w) t N
theorem ends_two {c : Tb} {N f g g' : Nat} {a b : Int} (T : Tight c N) (hf : f < N) (ff : fl f < N) (hg : g < N) (hg' : g' < N) (l : leE (some (a + b)) (c g g')) : leE (some (a + b)) (addE (c f g) (c (fl f) g')) := by
 have z := T.closed f hf g g' hg hg'
 rw [T.sym g f hg hf] at z
 exact leE_trans l z
theorem ends_half {c : Tb} {N f g : Nat} {a : Int} (T : Tight c N) (hf : f < N) (ff : fl f < N) (hg : g < N) (l : leE (some (a + a)) (c g g)) : leE (some a) (addE (hv c f) (c (fl f) g)) := by
 have z := half_link T.closed T.sym hf ff hg
 rw [add_comm'] at z
 refine leE_trans ?_ z
 unfold hv
 revert l
 generalize c g g = b
 cases b <;> simp [leE, hlf] <;> omega
theorem ends_halves {c : Tb} {N f : Nat} (T : Tight c N) (hf : f < N) (ff : fl f < N) (d : leE (some 0) (c f (fl f))) : leE (some 0) (addE (hv c f) (hv c (fl f))) := by
 have z := T.halves f (fl f) hf ff
 have e1 := T.even f hf
 have e2 := T.even (fl f) ff
 unfold hv
 revert z d e1 e2
 generalize c f (fl f) = x; generalize c f f = a; generalize c (fl f) (fl f) = b
 cases x <;> cases a <;> cases b <;> simp [leE, addE, hlf, dbl] <;> omega
theorem between : ∀ (L U : List Int), (∀ l ∈ L, ∀ u ∈ U, l <= u) -> ∃ z : Int, (∀ l ∈ L, l <= z) /\ ∀ u ∈ U, z <= u := by
 have top : ∀ (U : List Int), ∃ z : Int, ∀ u ∈ U, z <= u := by
  intro U
  induction U with
  | nil => exact ⟨0, fun _ z => by cases z⟩
  | cons u r ih =>
   obtain ⟨z, hz⟩ := ih
   refine ⟨min z u, fun v hv => ?_⟩
   rcases List.mem_cons.mp hv with rfl | hv
   · omega
   · have := hz v hv; omega
 intro L
 induction L with
 | nil =>
  intro U _
  obtain ⟨z, hz⟩ := top U
  exact ⟨z, fun _ q => (by cases q), hz⟩
 | cons l r ih =>
  intro U h
  obtain ⟨z, h1, h2⟩ := ih U fun a ha u hu => h a (List.mem_cons_of_mem _ ha) u hu
  refine ⟨max z l, fun a ha => ?_, fun u hu => ?_⟩
  · rcases List.mem_cons.mp ha with rfl | ha
    · omega
    · have := h1 a ha; omega
  · have := h2 u hu
    have := h l List.mem_cons_self u hu
    omega
def LiesS (S : Nat -> Bool) (w : Nat -> Int) (c : Tb) (N : Nat) : Prop := ∀ f g, f < N -> g < N -> S (f / 2) = true -> S (g / 2) = true -> leE (tab w f g) (c f g)
def putN (w : Nat -> Int) (k : Nat) (z : Int) : Nat -> Int := fun f => if f = 2 * k then z else if f = 2 * k + 1 then -z else w f
theorem extendS {c : Tb} {n k : Nat} {S : Nat -> Bool} {w : Nat -> Int} (T : Tight c (2 * n)) (d : ∀ f, f < 2 * n -> leE (some 0) (c f (fl f))) (hk : k < n) (nk : S k = false) (l : LiesS S w c (2 * n)) :
  ∃ z : Int, LiesS (fun j => S j || j == k) (putN w k z) c (2 * n) := by
 have f0 : 2 * k < 2 * n := by omega
 have f1 : 2 * k + 1 < 2 * n := by omega
 have e0 : fl (2 * k) = 2 * k + 1 := by unfold fl; rw [if_pos (by omega)]
 have e1 : fl (2 * k + 1) = 2 * k := by unfold fl; rw [if_neg (by omega)]; omega
 let ends (f : Nat) : List Int := (hv c f).toList ++ (List.range (2 * n)).filterMap fun g => if S (g / 2) = true then (c f g).map fun x => x - w g else none
 have mem : ∀ f a, a ∈ ends f -> hv c f = some a \/ ∃ g, g < 2 * n /\ S (g / 2) = true /\ ∃ x, c f g = some x /\ a = x - w g := by
  intro f a ha
  rcases List.mem_append.mp ha with ha | ha
  · exact .inl (by simpa using ha)
  · obtain ⟨g, hg, e⟩ := List.mem_filterMap.mp ha
    split at e
    · rename_i hs
      obtain ⟨x, ex, rfl⟩ := Option.map_eq_some_iff.mp e
      exact .inr ⟨g, List.mem_range.mp hg, hs, x, ex, rfl⟩
    · cases e
 obtain ⟨z, h1, h2⟩ := between ((ends (2 * k + 1)).map fun a => -a) (ends (2 * k)) (by
  intro b hb u hu
  obtain ⟨a, ha, rfl⟩ := List.mem_map.mp hb
  rcases mem _ _ ha with ha | ⟨g, hg, sg, x, ex, rfl⟩ <;> rcases mem _ _ hu with hu | ⟨g', hg', sg', y, ey, rfl⟩
  · have q := ends_halves T f0 (by rw [e0]; exact f1) (d _ f0)
    rw [e0, ha, hu] at q
    simp [leE, addE] at q
    omega
  · have q := ends_half (a := w g') T f1 (by rw [e1]; exact f0) hg' (l g' g' hg' hg' sg' sg')
    rw [e1, ha, ey] at q
    simp [leE, addE] at q
    omega
  · have q := ends_half (a := w g) T f0 (by rw [e0]; exact f1) hg (l g g hg hg sg sg)
    rw [e0, hu, ex] at q
    simp [leE, addE] at q
    omega
  · have q := ends_two (a := w g') (b := w g) T f0 (by rw [e0]; exact f1) hg' hg (l g' g hg' hg sg' sg)
    rw [e0, ey, ex] at q
    simp [leE, addE] at q
    omega)
 have up : ∀ a, a ∈ ends (2 * k) -> z <= a := h2
 have lo : ∀ a, a ∈ ends (2 * k + 1) -> -a <= z := fun a ha => h1 _ (List.mem_map.mpr ⟨a, ha, rfl⟩)
 have up1 : ∀ g, g < 2 * n -> S (g / 2) = true -> ∀ x, c (2 * k) g = some x -> z + w g <= x := fun g hg sg x ex => by
  have := up (x - w g) (List.mem_append_right _ (List.mem_filterMap.mpr ⟨g, List.mem_range.mpr hg, by rw [if_pos sg, ex]; rfl⟩))
  omega
 have lo1 : ∀ g, g < 2 * n -> S (g / 2) = true -> ∀ x, c (2 * k + 1) g = some x -> -z + w g <= x := fun g hg sg x ex => by
  have := lo (x - w g) (List.mem_append_right _ (List.mem_filterMap.mpr ⟨g, List.mem_range.mpr hg, by rw [if_pos sg, ex]; rfl⟩))
  omega
 have up2 : ∀ x, c (2 * k) (2 * k) = some x -> z + z <= x := fun x ex => by
  have := up (x / 2) (List.mem_append_left _ (by unfold hv; rw [ex]; simp [hlf]))
  omega
 have lo2 : ∀ x, c (2 * k + 1) (2 * k + 1) = some x -> -z + -z <= x := fun x ex => by
  have := lo (x / 2) (List.mem_append_left _ (by unfold hv; rw [ex]; simp [hlf]))
  omega
 have d0 := d _ f0
 rw [e0] at d0
 have pk0 : putN w k z (2 * k) = z := by unfold putN; rw [if_pos rfl]
 have pk1 : putN w k z (2 * k + 1) = -z := by unfold putN; rw [if_neg (by omega), if_pos rfl]
 have po : ∀ g, S (g / 2) = true -> putN w k z g = w g := fun g sg => by
  have : g / 2 ≠ k := fun e => by rw [e, nk] at sg; cases sg
  unfold putN
  rw [if_neg (by omega), if_neg (by omega)]
 have of : ∀ f, (S (f / 2) || f / 2 == k) = true -> S (f / 2) = true \/ f = 2 * k \/ f = 2 * k + 1 := fun f h => by
  rcases Bool.or_eq_true_iff.mp h with h | h
  · exact .inl h
  · have := beq_iff_eq.mp h; omega
 refine ⟨z, fun f g hf hg sf sg => ?_⟩
 unfold tab
 cases e : c f g with
 | none => simp [leE]
 | some x =>
  simp only [leE]
  rcases of f sf with sf | rfl | rfl <;> rcases of g sg with sg | rfl | rfl
  · rw [po f sf, po g sg]
    have q := l f g hf hg sf sg
    unfold tab at q
    rw [e] at q
    exact q
  · rw [po f sf, pk0, Int.add_comm]
    exact up1 f hf sf x (by rw [T.sym _ _ f0 hf]; exact e)
  · rw [po f sf, pk1, Int.add_comm]
    exact lo1 f hf sf x (by rw [T.sym _ _ f1 hf]; exact e)
  · rw [po g sg, pk0]; exact up1 g hg sg x e
  · rw [pk0]; exact up2 x e
  · rw [pk0, pk1]
    rw [e] at d0
    simp [leE] at d0
    omega
  · rw [po g sg, pk1]; exact lo1 g hg sg x e
  · rw [pk0, pk1]
    rw [T.sym _ _ f1 f0] at e
    rw [e] at d0
    simp [leE] at d0
    omega
  · rw [pk1]; exact lo2 x e
theorem putN_pt {w : Nat -> Int} {k N : Nat} {z : Int} (p : Pt w N) : Pt (putN w k z) N := fun f hf => by
 have := p f hf
 unfold putN
 by_cases h0 : f = 2 * k
 · subst h0
   have : fl (2 * k) = 2 * k + 1 := by unfold fl; rw [if_pos (by omega)]
   rw [this, if_neg (by omega), if_pos rfl, if_pos rfl]
 · by_cases h1 : f = 2 * k + 1
   · subst h1
     have : fl (2 * k + 1) = 2 * k := by unfold fl; rw [if_neg (by omega)]; omega
     rw [this, if_pos rfl, if_neg (by omega), if_pos rfl]; omega
   · have a : fl f ≠ 2 * k := fun e => h1 (by have := fl_fl f; rw [e] at this; rw [← this]; unfold fl; rw [if_pos (by omega)])
     have b : fl f ≠ 2 * k + 1 := fun e => h0 (by have := fl_fl f; rw [e] at this; rw [← this]; unfold fl; rw [if_neg (by omega)]; omega)
     rw [if_neg a, if_neg b, if_neg h0, if_neg h1]
     exact this
theorem whole_point {c : Tb} {n : Nat} (T : Tight c (2 * n)) (d : ∀ f, f < 2 * n -> leE (some 0) (c f (fl f))) {S : Nat -> Bool} {w : Nat -> Int} (p : Pt w (2 * n)) (l : LiesS S w c (2 * n)) :
  ∃ w', Pt w' (2 * n) /\ Lies w' c (2 * n) /\ ∀ f, S (f / 2) = true -> w' f = w f := by
 have gen : ∀ k, k <= n -> ∃ (S' : Nat -> Bool) (w' : Nat -> Int), Pt w' (2 * n) /\ LiesS S' w' c (2 * n) /\ (∀ f, S (f / 2) = true -> w' f = w f) /\ (∀ j, S j = true -> S' j = true) /\ ∀ j, j < k -> S' j = true := by
  intro k
  induction k with
  | zero => exact fun _ => ⟨S, w, p, l, fun _ _ => rfl, fun _ h => h, fun j h => by omega⟩
  | succ k ih =>
   intro hk
   obtain ⟨S', w', p', l', a, b, e⟩ := ih (by omega)
   cases hs : S' k with
   | true => exact ⟨S', w', p', l', a, b, fun j hj => by
     by_cases z : j = k
     · rw [z]; exact hs
     · exact e j (by omega)⟩
   | false =>
    obtain ⟨z, lz⟩ := extendS T d (by omega) hs l'
    refine ⟨_, _, putN_pt p', lz, fun f hf => ?_, fun j hj => by simp [b j hj], fun j hj => ?_⟩
    · have : f / 2 ≠ k := fun q => by have := b _ hf; rw [q, hs] at this; cases this
      rw [← a f hf]
      unfold putN
      rw [if_neg (by omega), if_neg (by omega)]
    · by_cases q : j = k
      · simp [q]
      · simp [e j (by omega)]
 obtain ⟨S', w', p', l', a, b, e⟩ := gen n (Nat.le_refl _)
 exact ⟨w', p', fun f g hf hg => l' f g hf hg (e _ (by omega)) (e _ (by omega)), a⟩
theorem has_point {c : Tb} {n : Nat} (T : Tight c (2 * n)) (d : ∀ f, f < 2 * n -> leE (some 0) (c f (fl f))) : ∃ w, Pt w (2 * n) /\ Lies w c (2 * n) := by
 obtain ⟨w, p, l, _⟩ := whole_point (S := fun _ => false) (w := fun _ => 0) T d (fun _ _ => by simp) (fun f g _ _ h => by cases h)
 exact ⟨w, p, l⟩
theorem meet_nums {hf hf' hg hg' A B C D : E} {m : Int} (F1 : leE C (addE hf hg)) (F2 : leE D (addE hf' hg')) (F5 : leE C (addE (dbl hf) A)) (F6 : leE C (addE B (dbl hg))) (F7 : leE D (addE (dbl hf') B)) (F8 : leE D (addE A (dbl hg')))
  (F9 : leE (dbl hf) (addE C B)) (F10 : leE (dbl hg) (addE C A)) (F11 : leE (some 0) (addE hf hf')) (F11' : leE (some 0) (addE hg hg')) (F12 : leE (some 0) (addE A B)) (F13 : leE (some 0) (addE C D)) (hm : leE (some m) C) :
  ∃ x y : Int, m <= x + y /\ leE (some x) hf /\ leE (some (-x)) hf' /\ leE (some y) hg /\ leE (some (-y)) hg' /\ leE (some (x + y)) C /\ leE (some (x - y)) B /\ leE (some (-x + y)) A /\ leE (some (-x - y)) D := by
 obtain ⟨M0, m0, c0, d0⟩ : ∃ M, m <= M /\ leE (some M) C /\ leE (some (-M)) D := by
  cases D with
  | none => exact ⟨m, Int.le_refl _, hm, by simp [leE]⟩
  | some e =>
   by_cases h : m < -e
   · refine ⟨-e, by omega, ?_, by simp [leE]⟩
     cases C <;> simp_all [leE, addE] <;> omega
   · exact ⟨m, Int.le_refl _, hm, by simp [leE]; omega⟩
 obtain ⟨M, m1, c1, d1, par⟩ : ∃ M, m <= M /\ leE (some M) C /\ leE (some (-M)) D /\ ∀ a b, A = some a -> B = some b -> a + b = 0 -> (M + b) % 2 = 0 := by
  by_cases h : ∀ a b, A = some a -> B = some b -> a + b = 0 -> (M0 + b) % 2 = 0
  · exact ⟨M0, m0, c0, d0, h⟩
  · have ⟨a, b, ea, eb, ab, od⟩ : ∃ a b, A = some a /\ B = some b /\ a + b = 0 /\ ¬ (M0 + b) % 2 = 0 := by
     refine Classical.byContradiction fun k => h fun a b ea eb ab => Classical.byContradiction fun q => k ⟨a, b, ea, eb, ab, q⟩
    subst ea eb
    refine ⟨M0 + 1, by omega, ?_, ?_, fun a' b' e1 e2 _ => ?_⟩
    · revert F1 F9 F10 c0
      cases C <;> cases hf <;> cases hg <;> simp [leE, addE, dbl] <;> omega
    · revert d0
      cases D <;> simp [leE] <;> omega
    · cases e2; omega
 obtain ⟨x, lo, up⟩ := between (hf'.toList.map (fun a => -a) ++ hg.toList.map (fun a => M - a) ++ A.toList.map (fun a => (M - a + 1) / 2)) (hf.toList ++ hg'.toList.map (fun a => M + a) ++ B.toList.map (fun b => (M + b) / 2)) (by
  intro l hl u hu
  simp only [List.mem_append, List.mem_map, Option.mem_toList, Option.mem_def] at hl hu
  rcases hl with (⟨a, rfl, rfl⟩ | ⟨a, rfl, rfl⟩) | ⟨a, rfl, rfl⟩ <;> rcases hu with (rfl | ⟨b, rfl, rfl⟩) | ⟨b, rfl, rfl⟩
  · revert F11; simp [leE, addE]; omega
  · revert F2 d1; cases D <;> simp [leE, addE]; omega
  · revert F7 d1; cases D <;> simp [leE, addE, dbl]; omega
  · revert F1 c1; cases C <;> simp [leE, addE]; omega
  · revert F11'; simp [leE, addE]; omega
  · revert F6 c1; cases C <;> simp [leE, addE, dbl]; omega
  · revert F5 c1; cases C <;> simp [leE, addE, dbl]; omega
  · revert F8 d1; cases D <;> simp [leE, addE, dbl]; omega
  · have p := par a b rfl rfl
    revert F12; simp [leE, addE]; omega)
 simp only [List.mem_append, List.mem_map, Option.mem_toList, Option.mem_def] at lo up
 refine ⟨x, M - x, by omega, ?_, ?_, ?_, ?_, ?_, ?_, ?_, ?_⟩
 · cases hf with
   | none => simp [leE]
   | some a => have := up a (.inl (.inl rfl)); simp [leE]; omega
 · cases hf' with
   | none => simp [leE]
   | some a => have := lo (-a) (.inl (.inl ⟨a, rfl, rfl⟩)); simp [leE]; omega
 · cases hg with
   | none => simp [leE]
   | some a => have := lo (M - a) (.inl (.inr ⟨a, rfl, rfl⟩)); simp [leE]; omega
 · cases hg' with
   | none => simp [leE]
   | some a => have := up (M + a) (.inl (.inr ⟨a, rfl, rfl⟩)); simp [leE]; omega
 · rw [show x + (M - x) = M by omega]; exact c1
 · cases B with
   | none => simp [leE]
   | some a => have := up ((M + a) / 2) (.inr ⟨a, rfl, rfl⟩); simp [leE]; omega
 · cases A with
   | none => simp [leE]
   | some a => have := lo ((M - a + 1) / 2) (.inr ⟨a, rfl, rfl⟩); simp [leE]; omega
 · rw [show -x - (M - x) = -M by omega]; exact d1
theorem dbl_hv {c : Tb} {N f : Nat} (T : Tight c N) (hf : f < N) : dbl (hv c f) = c f f := by
 have e := T.even f hf
 unfold hv
 revert e
 generalize c f f = a
 cases a <;> simp [dbl, hlf]; omega
theorem le_halves {c : Tb} {N f g : Nat} (T : Tight c N) (hf : f < N) (hg : g < N) : leE (c f g) (addE (hv c f) (hv c g)) := by
 have z := T.halves f g hf hg
 rw [← dbl_hv T hf, ← dbl_hv T hg] at z
 revert z
 generalize c f g = a; generalize hv c f = b; generalize hv c g = e
 cases a <;> cases b <;> cases e <;> simp [leE, addE, dbl]; omega
def setF (w : Nat -> Int) (f : Nat) (x : Int) : Nat -> Int := fun h => if h = f then x else if h = fl f then -x else w h
theorem setF_pt {w : Nat -> Int} {f N : Nat} {x : Int} (p : Pt w N) : Pt (setF w f x) N := fun h hh => by
 have := p h hh
 unfold setF
 by_cases h0 : h = f
 · subst h0; rw [if_neg (fl_ne h), if_pos rfl, if_pos rfl]
 · by_cases h1 : h = fl f
   · subst h1; rw [fl_fl, if_pos rfl, if_neg (fl_ne f), if_pos rfl]; omega
   · rw [if_neg (fun e => h1 (by rw [← e, fl_fl])), if_neg (fun e => h0 (by rw [← fl_fl h, e, fl_fl])), if_neg h0, if_neg h1]
     exact this
theorem fl_half (f : Nat) : fl f / 2 = f / 2 := by unfold fl; split <;> omega
theorem of_half {f g : Nat} (h : g / 2 = f / 2) : g = f \/ g = fl f := by unfold fl; split <;> omega
theorem le_half {c : Tb} {N f : Nat} {x : Int} (T : Tight c N) (hf : f < N) (h : leE (some x) (hv c f)) : leE (some (x + x)) (c f f) := by
 rw [← dbl_hv T hf]
 revert h
 generalize hv c f = a
 cases a <;> simp [leE, dbl]; omega
theorem meet_two {c : Tb} {n f g : Nat} {m : Int} (T : Tight c (2 * n)) (d : ∀ f, f < 2 * n -> leE (some 0) (c f (fl f))) (hf : f < 2 * n) (hg : g < 2 * n) (ne : f / 2 ≠ g / 2) (hm : leE (some m) (c f g)) :
  ∃ w, Pt w (2 * n) /\ Lies w c (2 * n) /\ m <= w f + w g := by
 have ff := fl_lt hf
 have fg := fl_lt hg
 have t1 := T.closed f hf f g hf hg
 have t2 := T.closed (fl g) fg f g hf hg
 have t3 := T.closed (fl f) ff (fl f) (fl g) ff fg
 have t4 := T.closed g hg (fl f) (fl g) ff fg
 have t5 := T.closed g hg f f hf hf
 have t6 := T.closed f hf g g hg hg
 have t7 := leE_trans (d f hf) (T.closed (fl g) fg f (fl f) hf ff)
 have t8 := leE_trans (d f hf) (T.closed g hg f (fl f) hf ff)
 rw [fl_fl] at t2 t3 t7
 rw [T.sym (fl g) f fg hf] at t5
 rw [T.sym g f hg hf] at t6
 rw [T.sym g (fl f) hg ff, add_comm'] at t7
 rw [T.sym (fl g) (fl f) fg ff] at t8
 obtain ⟨x, y, h0, x1, x2, y1, y2, a1, a2, a3, a4⟩ := meet_nums (hf := hv c f) (hf' := hv c (fl f)) (hg := hv c g) (hg' := hv c (fl g)) (A := c (fl f) g) (B := c f (fl g)) (C := c f g) (D := c (fl f) (fl g)) (m := m)
  (le_halves T hf hg) (le_halves T ff fg) (by rw [dbl_hv T hf]; exact t1) (by rw [dbl_hv T hg]; exact t2) (by rw [dbl_hv T ff]; exact t3) (by rw [dbl_hv T fg]; exact t4) (by rw [dbl_hv T hf]; exact t5) (by rw [dbl_hv T hg]; exact t6)
  (ends_halves T hf ff (d f hf)) (ends_halves T hg fg (d g hg)) t7 t8 hm
 have p0 : Pt (setF (setF (fun _ => 0) f x) g y) (2 * n) := setF_pt (setF_pt fun _ _ => by simp)
 have ng : f ≠ g := fun e => ne (by rw [e])
 have ng2 : f ≠ fl g := fun e => ne (by rw [e, fl_half])
 have ng3 : fl f ≠ g := fun e => ne (by rw [← e, fl_half])
 have ng4 : fl f ≠ fl g := fun e => ne (by rw [← fl_half f, e, fl_half])
 have w1 : setF (setF (fun _ => 0) f x) g y f = x := by unfold setF; rw [if_neg ng, if_neg ng2, if_pos rfl]
 have w2 : setF (setF (fun _ => 0) f x) g y (fl f) = -x := by rw [p0 f hf, w1]
 have w3 : setF (setF (fun _ => 0) f x) g y g = y := by unfold setF; rw [if_pos rfl]
 have w4 : setF (setF (fun _ => 0) f x) g y (fl g) = -y := by rw [p0 g hg, w3]
 obtain ⟨w', p', l', ag⟩ := whole_point (S := fun j => j == f / 2 || j == g / 2) T d p0 (by
  intro u v hu hv su sv
  have cu : u = f \/ u = fl f \/ u = g \/ u = fl g := by
   rcases Bool.or_eq_true_iff.mp su with z | z
   · rcases of_half (beq_iff_eq.mp z) with q | q <;> simp [q]
   · rcases of_half (beq_iff_eq.mp z) with q | q <;> simp [q]
  have cv : v = f \/ v = fl f \/ v = g \/ v = fl g := by
   rcases Bool.or_eq_true_iff.mp sv with z | z
   · rcases of_half (beq_iff_eq.mp z) with q | q <;> simp [q]
   · rcases of_half (beq_iff_eq.mp z) with q | q <;> simp [q]
  have df := d f hf
  have dg := d g hg
  have sw : ∀ {a b : Int} {i j : Nat}, i < 2 * n -> j < 2 * n -> leE (some (a + b)) (c i j) -> leE (some (b + a)) (c j i) := fun hi hj q => by rw [Int.add_comm, T.sym _ _ hj hi]; exact q
  have z1 := le_half T hf x1
  have z2 := le_half T ff x2
  have z3 := le_half T hg y1
  have z4 := le_half T fg y2
  have b1 : leE (some (x + -x)) (c f (fl f)) := by rw [show x + -x = 0 by omega]; exact df
  have b2 : leE (some (y + -y)) (c g (fl g)) := by rw [show y + -y = 0 by omega]; exact dg
  have b3 : leE (some (x + -y)) (c f (fl g)) := a2
  have b4 : leE (some (-x + -y)) (c (fl f) (fl g)) := a4
  unfold tab
  rcases cu with rfl | rfl | rfl | rfl <;> rcases cv with rfl | rfl | rfl | rfl <;> simp only [w1, w2, w3, w4] <;> first | assumption | (exact sw hf ff b1) | (exact sw hg fg b2) | (exact sw hf fg b3) | (exact sw ff fg b4) | (exact sw hf hg a1) | (exact sw ff hg a3))
 refine ⟨w', p', l', ?_⟩
 rw [ag f (by simp), ag g (by simp), w1, w3]
 exact h0
theorem meet_one {c : Tb} {n f : Nat} {m : Int} (T : Tight c (2 * n)) (d : ∀ f, f < 2 * n -> leE (some 0) (c f (fl f))) (hf : f < 2 * n) (hm : leE (some m) (hv c f)) : ∃ w, Pt w (2 * n) /\ Lies w c (2 * n) /\ m <= w f := by
 have ff := fl_lt hf
 have e := ends_halves T hf ff (d f hf)
 obtain ⟨x, h0, x1, x2⟩ : ∃ x : Int, m <= x /\ leE (some x) (hv c f) /\ leE (some (-x)) (hv c (fl f)) := by
  revert e hm
  generalize hv c f = a; generalize hv c (fl f) = b
  cases b with
  | none => exact fun hm _ => ⟨m, Int.le_refl _, hm, by simp [leE]⟩
  | some b =>
   intro hm e
   refine ⟨max m (-b), by omega, ?_, by simp [leE]; omega⟩
   cases a <;> simp_all [leE, addE] <;> omega
 have p0 : Pt (setF (fun _ => 0) f x) (2 * n) := setF_pt fun _ _ => by simp
 have w1 : setF (fun _ => 0) f x f = x := by unfold setF; rw [if_pos rfl]
 have w2 : setF (fun _ => 0) f x (fl f) = -x := by rw [p0 f hf, w1]
 obtain ⟨w', p', l', ag⟩ := whole_point (S := fun j => j == f / 2) T d p0 (by
  intro u v hu hv su sv
  have df := d f hf
  have z1 := le_half T hf x1
  have z2 := le_half T ff x2
  have b1 : leE (some (x + -x)) (c f (fl f)) := by rw [show x + -x = 0 by omega]; exact df
  have b2 : leE (some (-x + x)) (c (fl f) f) := by rw [Int.add_comm, T.sym _ _ ff hf]; exact b1
  unfold tab
  rcases of_half (beq_iff_eq.mp su) with rfl | rfl <;> rcases of_half (beq_iff_eq.mp sv) with rfl | rfl <;> simp only [w1, w2] <;> assumption)
 exact ⟨w', p', l', by rw [ag f (by simp), w1]; exact h0⟩
theorem capped {t : Tb} {P : Nat -> E} {N : Nat} (even : ∀ f, f < N -> fl f < N) (c : Closed t N) (s : Sym t N) (K : ∀ f g, f < N -> g < N -> leE (P g) (addE (t (fl f) g) (P f))) (d : ∀ f, f < N -> leE (some 0) (addE (P f) (P (fl f)))) : Closed (fun f g => minE (t f g) (addE (P f) (P g))) N := by
 intro x hx f g hf hg
 have fx := even x hx
 have k1 := K x g hx hg
 have k2 := K (fl x) f fx hf
 rw [fl_fl, s x f hx hf] at k2
 show leE (minE _ _) (addE (minE (t f x) (addE (P f) (P x))) (minE (t (fl x) g) (addE (P (fl x)) (P g))))
 rcases minE_or (t f x) (addE (P f) (P x)) with e1 | e1 <;> rcases minE_or (t (fl x) g) (addE (P (fl x)) (P g)) with e2 | e2 <;> rw [e1, e2]
 · exact leE_trans (minE_l _ _) (c x hx f g hf hg)
 · refine leE_trans (minE_r _ _) ?_
   rw [← add_assoc']
   exact add_mono k2 (leE_refl _)
 · refine leE_trans (minE_r _ _) ?_
   rw [add_assoc', add_comm' (P x)]
   exact add_mono (leE_refl _) k1
 · exact leE_trans (minE_r _ _) (add_loop (d x hx))
def capP (c : Tb) (h : Nat) (z : Int) (a : Nat) : E := minE (hv c a) (minE (addE (c a h) (some (-z))) (addE (c a (fl h)) (some z)))
def heldAt (c : Tb) (h : Nat) (z : Int) : Tb := fun f g => minE (c f g) (addE (capP c h z f) (capP c h z g))
theorem le_minE_add {a b x y : E} (k : leE a (addE x b)) (l : leE a (addE x y)) : leE a (addE x (minE b y)) := by
 rcases minE_or b y with e | e <;> rw [e] <;> assumption
theorem capP_link {c : Tb} {N h f g : Nat} {z : Int} (even : ∀ f, f < N -> fl f < N) (T : Tight c N) (hh : h < N) (hf : f < N) (hg : g < N) : leE (capP c h z g) (addE (c (fl f) g) (capP c h z f)) := by
 have ff := even f hf
 have fh := even h hh
 have k := half_link T.closed T.sym hf ff hg
 have a1 := T.closed (fl f) ff g h hg hh
 have a2 := T.closed (fl f) ff g (fl h) hg fh
 rw [fl_fl, T.sym g (fl f) hg ff] at a1 a2
 refine le_minE_add (leE_trans (minE_l _ _) k) (le_minE_add (leE_trans (leE_trans (minE_r _ _) (minE_l _ _)) ?_) (leE_trans (leE_trans (minE_r _ _) (minE_r _ _)) ?_))
 · rw [← add_assoc']; exact add_mono a1 (leE_refl _)
 · rw [← add_assoc']; exact add_mono a2 (leE_refl _)
theorem capP_loop {c : Tb} {N h f : Nat} {z : Int} (even : ∀ f, f < N -> fl f < N) (T : Tight c N) (d : ∀ f, f < N -> leE (some 0) (c f (fl f))) (hh : h < N) (hf : f < N) (z1 : leE (some z) (hv c h)) (z2 : leE (some (-z)) (hv c (fl h))) : leE (some 0) (addE (capP c h z f) (capP c h z (fl f))) := by
 have ff := even f hf
 have fh := even h hh
 have b1 := ends_halves T hf ff (d f hf)
 have b2 := leE_trans z1 (half_link T.closed T.sym hf ff hh)
 have b3 := leE_trans z2 (half_link T.closed T.sym hf ff fh)
 have b4 := leE_trans z1 (half_link T.closed T.sym ff (by rw [fl_fl]; exact hf) hh)
 have b5 := leE_trans z2 (half_link T.closed T.sym ff (by rw [fl_fl]; exact hf) fh)
 rw [fl_fl] at b4 b5
 have b6 := leE_trans (le_half T hh z1) (T.closed f hf h h hh hh)
 have b7 := leE_trans (le_half T fh z2) (T.closed f hf (fl h) (fl h) fh fh)
 have b8 := leE_trans (d h hh) (T.closed f hf h (fl h) hh fh)
 have b9 := leE_trans (d h hh) (T.closed (fl f) ff h (fl h) hh fh)
 rw [fl_fl] at b9
 rw [T.sym h f hh hf] at b6 b8
 rw [T.sym (fl h) f fh hf] at b7
 rw [T.sym h (fl f) hh ff] at b9
 unfold capP
 revert b1 b2 b3 b4 b5 b6 b7 b8 b9
 generalize hv c f = p; generalize hv c (fl f) = p'; generalize c f h = q; generalize c (fl f) h = q'; generalize c f (fl h) = r; generalize c (fl f) (fl h) = r'
 intro b1 b2 b3 b4 b5 b6 b7 b8 b9
 rcases minE_or p (minE (addE q (some (-z))) (addE r (some z))) with e | e <;> rw [e]
 · rcases minE_or p' (minE (addE q' (some (-z))) (addE r' (some z))) with e | e <;> rw [e]
   · exact b1
   · rcases minE_or (addE q' (some (-z))) (addE r' (some z)) with e | e <;> rw [e]
     · clear b1 b3 b4 b5 b6 b7 b8 b9; cases p <;> cases q' <;> simp_all [leE, addE] <;> omega
     · clear b1 b2 b4 b5 b6 b7 b8 b9; cases p <;> cases r' <;> simp_all [leE, addE] <;> omega
 · rcases minE_or (addE q (some (-z))) (addE r (some z)) with e | e <;> rw [e]
   · rcases minE_or p' (minE (addE q' (some (-z))) (addE r' (some z))) with e | e <;> rw [e]
     · clear b1 b2 b3 b5 b6 b7 b8 b9; cases p' <;> cases q <;> simp_all [leE, addE] <;> omega
     · rcases minE_or (addE q' (some (-z))) (addE r' (some z)) with e | e <;> rw [e]
       · clear b1 b2 b3 b4 b5 b7 b8 b9; cases q <;> cases q' <;> simp_all [leE, addE] <;> omega
       · clear b1 b2 b3 b4 b5 b6 b7 b9; cases q <;> cases r' <;> simp_all [leE, addE] <;> omega
   · rcases minE_or p' (minE (addE q' (some (-z))) (addE r' (some z))) with e | e <;> rw [e]
     · clear b1 b2 b3 b4 b6 b7 b8 b9; cases p' <;> cases r <;> simp_all [leE, addE] <;> omega
     · rcases minE_or (addE q' (some (-z))) (addE r' (some z)) with e | e <;> rw [e]
       · clear b1 b2 b3 b4 b5 b6 b7 b8; cases r <;> cases q' <;> simp_all [leE, addE] <;> omega
       · clear b1 b2 b3 b4 b5 b6 b8 b9; cases r <;> cases r' <;> simp_all [leE, addE] <;> omega
theorem capP_half (c : Tb) (h : Nat) (z : Int) (a : Nat) : leE (capP c h z a) (hv c a) := minE_l _ _
theorem heldAt_diag {c : Tb} {N h a : Nat} {z : Int} (T : Tight c N) (ha : a < N) : heldAt c h z a a = dbl (capP c h z a) := by
 have z1 := capP_half c h z a
 have e := dbl_hv T ha
 unfold heldAt
 rw [← e]
 revert z1
 generalize capP c h z a = p; generalize hv c a = q
 cases p <;> cases q <;> simp [leE, minE, addE, dbl] <;> omega
theorem heldAt_tight {c : Tb} {N h : Nat} {z : Int} (even : ∀ f, f < N -> fl f < N) (T : Tight c N) (d : ∀ f, f < N -> leE (some 0) (c f (fl f))) (hh : h < N) (z1 : leE (some z) (hv c h)) (z2 : leE (some (-z)) (hv c (fl h))) : Tight (heldAt c h z) N where
 sym := fun f g hf hg => by unfold heldAt; rw [T.sym f g hf hg, add_comm']
 closed := capped even T.closed T.sym (fun f g hf hg => capP_link even T hh hf hg) fun f hf => capP_loop even T d hh hf z1 z2
 even := fun f hf a e => by
  rw [heldAt_diag T hf] at e
  revert e
  generalize capP c h z f = b
  cases b <;> simp [dbl] <;> omega
 halves := fun f g hf hg => by
  rw [heldAt_diag T hf, heldAt_diag T hg]
  unfold heldAt
  generalize capP c h z f = a; generalize capP c h z g = b; generalize c f g = e
  cases a <;> cases b <;> cases e <;> simp [leE, addE, dbl, minE] <;> omega
theorem heldAt_loop {c : Tb} {N h : Nat} {z : Int} (even : ∀ f, f < N -> fl f < N) (T : Tight c N) (d : ∀ f, f < N -> leE (some 0) (c f (fl f))) (hh : h < N) (z1 : leE (some z) (hv c h)) (z2 : leE (some (-z)) (hv c (fl h))) : ∀ f, f < N -> leE (some 0) (heldAt c h z f (fl f)) := fun f hf =>
 le_minE (d f hf) (capP_loop even T d hh hf z1 z2)
theorem shape_tight {N : Nat} {hs : List Nat} {t : Tb} (even : ∀ f, f < N -> fl f < N) (b : ∀ h ∈ hs, h < N) (all : ∀ h, h < N -> h ∈ hs) (s : Sym t N) (d : ∀ h, h < N -> leE (some 0) (links t hs (fl h) h)) (e : ∀ f, f < N -> leE (some 0) (addE (hv (links t hs) f) (hv (links t hs) (fl f)))) : Tight (strong (links t hs)) N :=
 strong_tight even (links_closed even b all d) (links_sym even b all d s) e
theorem shape_greatest {N : Nat} {hs : List Nat} {t c : Tb} (even : ∀ f, f < N -> fl f < N) (b : ∀ h ∈ hs, h < N) (k : Tight c N) (l : Le c t N) : Le c (strong (links t hs)) N := le_strong k (le_links k.closed even hs t b l)
theorem shape_le (hs : List Nat) (t : Tb) (f g : Nat) : leE (strong (links t hs) f g) (t f g) := leE_trans (strong_le _ f g) (links_le hs t f g)
def wideT : Tb := fun f g => if g = fl f then some 0 else none
def low1 (c : Tb) (f g : Nat) (z : Int) : Tb := fun a b => if (a = f /\ b = g) \/ (a = g /\ b = f) then minE (c a b) (some z) else c a b
abbrev Sdn := Nat × Nat × Int
def lowL (c : Tb) : List Sdn -> Tb
 | [] => c
 | s :: r => lowL (low1 c s.1 s.2.1 s.2.2) r
def hsOf (N : Nat) : List Nat := (List.range N).map fl
def neg0 : E -> Bool
 | some z => decide (z < 0)
 | none => false
def badAt (u : Tb) (f : Nat) : Bool := neg0 (u f (fl f)) || neg0 (addE (hv u f) (hv u (fl f)))
def shapeO (N : Nat) (t : Tb) : Option Tb := if (List.range N).any (badAt (links t (hsOf N))) then none else some (strong (links t (hsOf N)))
def Agree (a b : Tb) (N : Nat) : Prop := ∀ f g, f < N -> g < N -> a f g = b f g
theorem strong_eq (t : Tb) (f g : Nat) : minE (t f g) (addE (hv t f) (hv t g)) = strong t f g := by
 unfold strong halve
 by_cases h : f = g
 · subst h
   rw [if_pos rfl]
   unfold hv
   generalize t f f = a
   cases a <;> simp [minE, addE, hlf, dbl] <;> omega
 · rw [if_neg h]
theorem neg0_iff (e : E) : neg0 e = false ↔ leE (some 0) e := by cases e <;> simp [neg0, leE]
theorem low1_le (c : Tb) (f g : Nat) (z : Int) (a b : Nat) : leE (low1 c f g z a b) (c a b) := by
 unfold low1
 split
 · exact minE_l _ _
 · exact leE_refl _
theorem low1_side (c : Tb) (f g : Nat) (z : Int) : leE (low1 c f g z f g) (some z) /\ leE (low1 c f g z g f) (some z) := by
 unfold low1
 rw [if_pos (.inl ⟨rfl, rfl⟩), if_pos (.inr ⟨rfl, rfl⟩)]
 exact ⟨minE_r _ _, minE_r _ _⟩
theorem le_low1 {c t : Tb} {N f g : Nat} {z : Int} (l : Le c t N) (h1 : leE (c f g) (some z)) (h2 : leE (c g f) (some z)) : Le c (low1 t f g z) N := fun a b ha hb => by
 unfold low1
 split
 · rename_i h
   refine le_minE (l a b ha hb) ?_
   rcases h with ⟨rfl, rfl⟩ | ⟨rfl, rfl⟩
   · exact h1
   · exact h2
 · exact l a b ha hb
theorem low1_sym {c : Tb} {N f g : Nat} {z : Int} (s : Sym c N) : Sym (low1 c f g z) N := fun a b ha hb => by
 unfold low1
 rw [s a b ha hb]
 by_cases h : (a = f /\ b = g) \/ (a = g /\ b = f)
 · rw [if_pos h, if_pos (by rcases h with ⟨x, y⟩ | ⟨x, y⟩; exact .inr ⟨y, x⟩; exact .inl ⟨y, x⟩)]
 · rw [if_neg h, if_neg (fun q => h (by rcases q with ⟨x, y⟩ | ⟨x, y⟩; exact .inr ⟨y, x⟩; exact .inl ⟨y, x⟩))]
theorem lowL_le : ∀ (ss : List Sdn) (c : Tb) (a b : Nat), leE (lowL c ss a b) (c a b)
 | [], _, _, _ => leE_refl _
 | s :: r, c, a, b => leE_trans (lowL_le r _ a b) (low1_le c _ _ _ a b)
theorem lowL_sym {N : Nat} : ∀ (ss : List Sdn) (c : Tb), Sym c N -> Sym (lowL c ss) N
 | [], _, s => s
 | _ :: r, _, s => lowL_sym r _ (low1_sym s)
theorem lowL_side : ∀ (ss : List Sdn) (c : Tb) (s : Sdn), s ∈ ss -> leE (lowL c ss s.1 s.2.1) (some s.2.2) /\ leE (lowL c ss s.2.1 s.1) (some s.2.2)
 | [], _, _, h => by simp at h
 | t :: r, c, s, h => by
  rcases List.mem_cons.mp h with e | e
  · subst e
    have q := low1_side c s.1 s.2.1 s.2.2
    exact ⟨leE_trans (lowL_le r _ _ _) q.1, leE_trans (lowL_le r _ _ _) q.2⟩
  · exact lowL_side r _ s e
def Keeps (c : Tb) (s : Sdn) : Prop := leE (c s.1 s.2.1) (some s.2.2) /\ leE (c s.2.1 s.1) (some s.2.2)
theorem le_lowL {c : Tb} {N : Nat} : ∀ (ss : List Sdn) (t : Tb), Le c t N -> (∀ s ∈ ss, Keeps c s) -> Le c (lowL t ss) N
 | [], _, l, _ => l
 | s :: r, t, l, k => le_lowL r _ (le_low1 l (k s List.mem_cons_self).1 (k s List.mem_cons_self).2) fun u hu => k u (List.mem_cons_of_mem _ hu)
theorem le_lowL_iff {c t : Tb} {N : Nat} {ss : List Sdn} (hin : ∀ s ∈ ss, s.1 < N /\ s.2.1 < N) : Le c (lowL t ss) N ↔ Le c t N /\ ∀ s ∈ ss, Keeps c s :=
 ⟨fun h => ⟨fun a b ha hb => leE_trans (h a b ha hb) (lowL_le ss t a b), fun s hs => ⟨leE_trans (h _ _ (hin s hs).1 (hin s hs).2) (lowL_side ss t s hs).1, leE_trans (h _ _ (hin s hs).2 (hin s hs).1) (lowL_side ss t s hs).2⟩⟩, fun ⟨l, k⟩ => le_lowL ss t l k⟩
theorem wide_sym (N : Nat) : Sym wideT N := fun f g _ _ => by
 unfold wideT
 by_cases h : g = fl f
 · rw [if_pos h, if_pos (by rw [h, fl_fl])]
 · rw [if_neg h, if_neg (fun q => h (by rw [q, fl_fl]))]
structure Good (c : Tb) (N : Nat) : Prop where
 tight : Tight c N
 nn : ∀ f, f < N -> leE (some 0) (c f (fl f))
theorem hsOf_lt {N : Nat} (even : ∀ f, f < N -> fl f < N) : ∀ h ∈ hsOf N, h < N := fun h hh => by
 obtain ⟨f, hf, rfl⟩ := List.mem_map.mp hh
 exact even f (List.mem_range.mp hf)
theorem hsOf_all {N : Nat} (even : ∀ f, f < N -> fl f < N) : ∀ h, h < N -> h ∈ hsOf N := fun h hh => List.mem_map.mpr ⟨fl h, List.mem_range.mpr (even h hh), fl_fl h⟩
theorem not_bad {N : Nat} {u : Tb} (h : (List.range N).any (badAt u) = false) : ∀ f, f < N -> leE (some 0) (u f (fl f)) /\ leE (some 0) (addE (hv u f) (hv u (fl f))) := fun f hf => by
 have q := List.any_eq_false.mp h f (List.mem_range.mpr hf)
 unfold badAt at q
 simp only [Bool.or_eq_true, not_or, Bool.not_eq_true] at q
 exact ⟨(neg0_iff _).mp q.1, (neg0_iff _).mp q.2⟩
theorem hv_mono {c t : Tb} {f : Nat} (h : leE (c f f) (t f f)) : leE (hv c f) (hv t f) := by
 revert h
 unfold hv
 generalize c f f = a; generalize t f f = b
 cases a <;> cases b <;> simp [leE, hlf] <;> omega
theorem Good.halves0 {c : Tb} {N f : Nat} (G : Good c N) (even : ∀ f, f < N -> fl f < N) (hf : f < N) : leE (some 0) (addE (hv c f) (hv c (fl f))) := by
 have z := G.tight.halves f (fl f) hf (even f hf)
 have n := G.nn f hf
 have e1 := G.tight.even f hf
 have e2 := G.tight.even (fl f) (even f hf)
 unfold hv
 revert z n e1 e2
 generalize c f (fl f) = x; generalize c f f = a; generalize c (fl f) (fl f) = b
 cases x <;> cases a <;> cases b <;> simp [leE, dbl, addE, hlf] <;> omega
theorem shape_good {N : Nat} {t s : Tb} (even : ∀ f, f < N -> fl f < N) (sy : Sym t N) (h : shapeO N t = some s) : Good s N /\ Le s t N /\ ∀ c, Tight c N -> Le c t N -> Le c s N := by
 unfold shapeO at h
 split at h
 · cases h
 · rename_i nb
   have nb' : (List.range N).any (badAt (links t (hsOf N))) = false := by simpa using nb
   have q := not_bad nb'
   cases h
   have d : ∀ h, h < N -> leE (some 0) (links t (hsOf N) (fl h) h) := fun h hh => by
    have := (q (fl h) (even h hh)).1
    rwa [fl_fl] at this
   have T := shape_tight even (hsOf_lt even) (hsOf_all even) sy d fun f hf => (q f hf).2
   refine ⟨⟨T, fun f hf => ?_⟩, fun f g _ _ => shape_le _ _ f g, fun c k l => shape_greatest even (hsOf_lt even) k l⟩
   have l1 := (q f hf).1
   have l2 := (q f hf).2
   unfold strong halve
   rw [if_neg (Ne.symm (fl_ne f))]
   exact le_minE l1 l2
theorem shape_zero {N : Nat} {t s : Tb} (even : ∀ f, f < N -> fl f < N) (z : ∀ f, f < N -> leE (t f (fl f)) (some 0)) (sy : Sym t N) (h : shapeO N t = some s) : ∀ f, f < N -> s f (fl f) = some 0 := fun f hf => by
 obtain ⟨G, l, _⟩ := shape_good even sy h
 exact leE_antisymm (leE_trans (l f _ hf (even f hf)) (z f hf)) (G.nn f hf)
theorem shape_of_good {N : Nat} {t c : Tb} (even : ∀ f, f < N -> fl f < N) (G : Good c N) (l : Le c t N) : ∃ s, shapeO N t = some s := by
 have l1 := le_links G.tight.closed even (hsOf N) t (hsOf_lt even) l
 unfold shapeO
 have : (List.range N).any (badAt (links t (hsOf N))) = false := by
  rw [List.any_eq_false]
  intro f hf
  have hf' := List.mem_range.mp hf
  have q1 := leE_trans (G.nn f hf') (l1 f _ hf' (even f hf'))
  have q2 := leE_trans (G.halves0 even hf') (add_mono (hv_mono (l1 f f hf' hf')) (hv_mono (l1 _ _ (even f hf') (even f hf'))))
  unfold badAt
  rw [(neg0_iff _).mpr q1, (neg0_iff _).mpr q2]
  simp
 rw [this]
 exact ⟨_, rfl⟩
inductive SameO (N : Nat) : Option Tb -> Option Tb -> Prop
 | none : SameO N none none
 | some {a b : Tb} : Agree a b N -> SameO N (some a) (some b)
theorem Agree.symm {a b : Tb} {N : Nat} (h : Agree a b N) : Agree b a N := fun f g hf hg => (h f g hf hg).symm
def ln (N : Nat) (r : Nat -> E) : List E := (List.range N).map r
def rows (i N : Nat) (c : Tb) : List (List E) := (List.range i).map fun f => ln N (c f)
abbrev toT (N : Nat) (c : Tb) : List (List E) := rows N N c
theorem ln_len (N : Nat) (r : Nat -> E) : (ln N r).length = N := by simp [ln]
theorem rows_len (i N : Nat) (c : Tb) : (rows i N c).length = i := by simp [rows]
theorem ln_get {N g : Nat} {r : Nat -> E} (h : g < N) : (ln N r)[g]? = some (r g) := by simp [ln, h]
theorem rows_get {i N f : Nat} {c : Tb} (h : f < i) : (rows i N c)[f]? = some (ln N (c f)) := by simp [rows, h]
theorem ln_succ (N : Nat) (r : Nat -> E) : ln (N + 1) r = ln N r ++ [r N] := by simp [ln, List.range_succ]
theorem rows_succ (i N : Nat) (c : Tb) : rows (i + 1) N c = rows i N c ++ [ln N (c i)] := by simp [rows, List.range_succ]
theorem ln_set (N : Nat) (r : Nat -> E) (g : Nat) (e : E) : (ln N r).set g e = ln N fun x => if x = g then e else r x := by
 apply List.ext_getElem?
 intro i
 by_cases hi : i < N
 · rw [ln_get hi]
   by_cases h : g = i
   · subst h
     rw [List.getElem?_set_self (by rw [ln_len]; exact hi), if_pos rfl]
   · rw [List.getElem?_set_ne h, ln_get hi, if_neg (Ne.symm h)]
 · rw [List.getElem?_eq_none (by rw [List.length_set, ln_len]; omega), List.getElem?_eq_none (by rw [ln_len]; omega)]
theorem rows_set (i N : Nat) (c : Tb) (f : Nat) (r : Nat -> E) : (rows i N c).set f (ln N r) = rows i N fun a => if a = f then r else c a := by
 apply List.ext_getElem?
 intro j
 by_cases hj : j < i
 · rw [rows_get hj]
   by_cases h : f = j
   · subst h
     rw [List.getElem?_set_self (by rw [rows_len]; exact hj), if_pos rfl]
   · rw [List.getElem?_set_ne h, rows_get hj, if_neg (Ne.symm h)]
 · rw [List.getElem?_eq_none (by rw [List.length_set, rows_len]; omega), List.getElem?_eq_none (by rw [rows_len]; omega)]
theorem ln_congr {N : Nat} {r s : Nat -> E} (h : ∀ g, g < N -> r g = s g) : ln N r = ln N s := List.map_congr_left fun g hg => h g (List.mem_range.mp hg)
theorem rows_congr {i N : Nat} {c d : Tb} (h : ∀ f g, f < i -> g < N -> c f g = d f g) : rows i N c = rows i N d := List.map_congr_left fun f hf => ln_congr fun g hg => h f g (List.mem_range.mp hf) hg
theorem toT_inj {N : Nat} {c d : Tb} (h : toT N c = toT N d) : Agree c d N := fun f g hf hg => by
 have e : (toT N c)[f]? = (toT N d)[f]? := by rw [h]
 rw [rows_get hf, rows_get hf] at e
 have e2 : (ln N (c f))[g]? = (ln N (d f))[g]? := by rw [Option.some.inj e]
 rw [ln_get hg, ln_get hg] at e2
 exact Option.some.inj e2
theorem toT_eq {N : Nat} {c d : Tb} : toT N c = toT N d ↔ Agree c d N := ⟨toT_inj, fun h => rows_congr fun f g hf hg => h f g hf hg⟩
theorem low1_rows (N : Nat) (c : Tb) (f g : Nat) (z : Int) :
  (fun a => if a = g then (fun x => if x = f then minE ((if g = f then (fun y => if y = g then minE (c f g) (some z) else c f y) else c g) f) (some z) else (if g = f then (fun y => if y = g then minE (c f g) (some z) else c f y) else c g) x) else (if a = f then (fun y => if y = g then minE (c f g) (some z) else c f y) else c a)) = low1 c f g z := by
 funext a b
 unfold low1
 by_cases hgf : g = f
 · subst hgf
   by_cases ha : a = g
   · subst ha
     by_cases hb : b = a
     · subst hb
       simp
       generalize c b b = e
       cases e <;> simp [minE]
     · simp [hb]
   · simp [ha]
 · by_cases ha : a = g
   · subst ha
     by_cases hb : b = f
     · subst hb; simp [hgf]
     · simp [hgf, hb]
   · by_cases ha2 : a = f
     · subst ha2
       by_cases hb : b = g
       · subst hb; simp [ha]
       · simp [ha, hb]
     · simp [ha, ha2]
structure Shp (c : Tb) (N : Nat) : Prop where
 good : Good c N
 zero : ∀ f, f < N -> c f (fl f) = some 0
theorem Shp.zero' {c : Tb} {N : Nat} (S : Shp c N) (even : ∀ f, f < N -> fl f < N) {f : Nat} (hf : f < N) : c (fl f) f = some 0 := by
 have := S.zero (fl f) (even f hf)
 rwa [fl_fl] at this
theorem pt_good {w : Nat -> Int} {N : Nat} (p : Pt w N) : Good (tab w) N := ⟨pt_tight p, fun f hf => by have := p f hf; simp [tab, leE]; omega⟩
theorem shape_shp {N : Nat} {t s : Tb} (even : ∀ f, f < N -> fl f < N) (z : ∀ f, f < N -> leE (t f (fl f)) (some 0)) (sy : Sym t N) (h : shapeO N t = some s) : Shp s N := ⟨(shape_good even sy h).1, shape_zero even z sy h⟩
theorem hold_num {c : Tb} {n h : Nat} {z : Int} (S : Shp c (2 * n)) (hh : h < 2 * n) (z1 : leE (some z) (hv c h)) (z2 : leE (some (-z)) (hv c (fl h))) : ∃ w, Pt w (2 * n) /\ Lies w c (2 * n) /\ w h = z := by
 have even : ∀ f, f < 2 * n -> fl f < 2 * n := fun f hf => fl_lt hf
 have T := S.good.tight
 have d := S.good.nn
 obtain ⟨w, p, l⟩ := has_point (heldAt_tight even T d hh z1 z2) (heldAt_loop even T d hh z1 z2)
 refine ⟨w, p, fun f g hf hg => leE_trans (l f g hf hg) (minE_l _ _), ?_⟩
 have l1 := l h h hh hh
 rw [heldAt_diag T hh] at l1
 have l2 := l (fl h) (fl h) (even h hh) (even h hh)
 rw [heldAt_diag T (even h hh)] at l2
 have c1 : leE (capP c h z h) (some z) := by
  refine leE_trans (minE_r _ _) (leE_trans (minE_r _ _) ?_)
  rw [S.zero h hh]; simp [addE, leE]
 have c2 : leE (capP c h z (fl h)) (some (-z)) := by
  refine leE_trans (minE_r _ _) (leE_trans (minE_l _ _) ?_)
  rw [S.zero' even hh]; simp [addE, leE]
 have pw := p h hh
 revert l1 l2 c1 c2
 unfold tab
 generalize capP c h z h = a; generalize capP c h z (fl h) = b
 cases a <;> cases b <;> simp [leE, dbl] <;> omega
def fixL (f : Nat) (z : Int) : List Sdn := [(f, f, 2 * z), (fl f, fl f, -2 * z)]
theorem lowL_shp {c : Tb} {N : Nat} {ss : List Sdn} {s : Tb} (even : ∀ f, f < N -> fl f < N) (S : Shp c N) (h : shapeO N (lowL c ss) = some s) : Shp s N /\ Le s (lowL c ss) N := by
 have sy := lowL_sym ss c S.good.tight.sym
 have z : ∀ f, f < N -> leE (lowL c ss f (fl f)) (some 0) := fun f hf => leE_trans (lowL_le ss c f _) (by rw [S.zero f hf]; exact leE_refl _)
 exact ⟨shape_shp even z sy h, (shape_good even sy h).2.1⟩
theorem fix_some {c : Tb} {n f : Nat} {z : Int} (S : Shp c (2 * n)) (hf : f < 2 * n) (z1 : leE (some z) (hv c f)) (z2 : leE (some (-z)) (hv c (fl f))) :
  ∃ s, shapeO (2 * n) (lowL c (fixL f z)) = some s /\ Shp s (2 * n) /\ Le s c (2 * n) /\ leE (s f f) (some (2 * z)) /\ leE (s (fl f) (fl f)) (some (-2 * z)) := by
 have even : ∀ f, f < 2 * n -> fl f < 2 * n := fun f hf => fl_lt hf
 obtain ⟨w, p, l, e⟩ := hold_num S hf z1 z2
 have pw := p f hf
 have kw : ∀ s ∈ fixL f z, Keeps (tab w) s := fun s hs => by
  have : s = (f, f, 2 * z) \/ s = (fl f, fl f, -2 * z) := by simpa [fixL] using hs
  rcases this with q | q <;> subst q <;> (constructor <;> simp [tab, leE] <;> omega)
 obtain ⟨s, hs⟩ := shape_of_good even (pt_good p) (le_lowL (fixL f z) c l kw)
 obtain ⟨Ss, Ls⟩ := lowL_shp even S hs
 have hin : ∀ s ∈ fixL f z, s.1 < 2 * n /\ s.2.1 < 2 * n := fun s hs => by
  have : s = (f, f, 2 * z) \/ s = (fl f, fl f, -2 * z) := by simpa [fixL] using hs
  rcases this with q | q <;> subst q
  · exact ⟨hf, hf⟩
  · exact ⟨even f hf, even f hf⟩
 obtain ⟨La, Lk⟩ := (le_lowL_iff hin).mp Ls
 exact ⟨s, hs, Ss, La, (Lk (f, f, 2 * z) (by simp [fixL])).1, (Lk (fl f, fl f, -2 * z) (by simp [fixL])).1⟩
def worthO (c : Tb) (f : Nat) : Int := match hv c f with
 | some m => m
 | none => match hv c (fl f) with
  | some m => -m
  | none => 0
theorem worthO_ok {c : Tb} {n f : Nat} (S : Shp c (2 * n)) (hf : f < 2 * n) : leE (some (worthO c f)) (hv c f) /\ leE (some (-worthO c f)) (hv c (fl f)) := by
 have h0 := S.good.halves0 (fun f hf => fl_lt hf) hf
 unfold worthO
 revert h0
 generalize hv c f = a; generalize hv c (fl f) = b
 cases a <;> cases b <;> simp [leE, addE] <;> omega
theorem held_point {c : Tb} {n : Nat} {w : Nat -> Int} (S : Shp c (2 * n)) (p : Pt w (2 * n)) (h : ∀ k, k < n -> leE (c (2 * k) (2 * k)) (some (2 * w (2 * k))) /\ leE (c (2 * k + 1) (2 * k + 1)) (some (-2 * w (2 * k)))) : Lies w c (2 * n) := by
 obtain ⟨v, pv, lv⟩ := has_point S.good.tight S.good.nn
 have ev : ∀ f, f < 2 * n -> v f = w f := fun f hf => by
  have hk : f / 2 < n := by omega
  obtain ⟨h1, h2⟩ := h (f / 2) hk
  have a1 := leE_trans (lv (2 * (f / 2)) (2 * (f / 2)) (by omega) (by omega)) h1
  have a2 := leE_trans (lv (2 * (f / 2) + 1) (2 * (f / 2) + 1) (by omega) (by omega)) h2
  have p1 := pv (2 * (f / 2)) (by omega)
  have p2 := p (2 * (f / 2)) (by omega)
  have e1 : fl (2 * (f / 2)) = 2 * (f / 2) + 1 := by unfold fl; rw [if_pos (by omega)]
  rw [e1] at p1 p2
  simp [tab, leE] at a1 a2
  have : f = 2 * (f / 2) \/ f = 2 * (f / 2) + 1 := by omega
  rcases this with q | q
  · rw [q]; omega
  · rw [q]; omega
 intro f g hf hg
 have := lv f g hf hg
 unfold tab at this ⊢
 rwa [ev f hf, ev g hg] at this
end Oct
set_option Elab.async false
set_option linter.all false
set_option maxRecDepth 100000
set_option maxHeartbeats 4000000
namespace L2
open PySem PySem.Spec PyProof.Rows
section
variable {X : Cx} {pins : List (Addr × Obj)} {σ : St} {H : Hp} {s : Shared} {h' : Heap}
theorem Inv.turnedL {t' : Nat} {ch : List Addr} (I : Inv X pins σ H s) (hf : ∀ b ∈ ch, FpOk X pins H b) (k : ∀ b o, b ∉ ch -> s.heap.get? b = some o -> h'.get? b = some o) : Inv X pins σ H { s with heap := h', toks := t' } := by
 have nch : ∀ b u, H b = some u -> b ∉ ch := fun b u e z => by rw [(hf b z).1] at e; cases e
 refine I.step (g' := s.gens) (d' := s.drawn) (ch := ch) (fun b hb => ⟨(hf b hb).2.2.2.1, (hf b hb).2.1, (hf b hb).2.2.2.2.1, (hf b hb).2.2.2.2.2⟩) (fun b o _ _ hc e _ => k b o hc e) (fun b o _ _ hc e _ => ⟨o.slots, k b o hc e⟩)
  (fun b o hc e n => n) (fun b o hc e => ⟨o, k b o hc e⟩) (fun b ys e => e) (fun b o u e => e) (fun b ps e => ⟨#[], by rw [e]; simp⟩) (fun m hm => ?_) (fun b u e => ?_) I.bare
 · obtain ⟨o, es, ep, ho, r⟩ := hm
   exact ⟨o, es, ep, k _ o (fun z => (hf _ z).2.1 rfl) ho, r⟩
 · refine (I.hok b u e).stay (fun c v hc q => k c v ?_ q) (fun c q => q) fun c ys q => q
   rcases hc with z | z
   · rw [z]; exact nch b u e
   · exact nch c _ z
theorem Inv.turnedT {t' : Nat} {ch : List Addr} {T : Addr} {xs : List V} {us : List Value} (I : Inv X pins σ H s) (hf : ∀ b ∈ ch, FpOk X pins H b)
  (k : ∀ b o, b ∉ ch -> s.heap.get? b = some o -> h'.get? b = some o) (hp : s.heap.objs.size <= T) (new : IsTup h' T us.toArray) (r : Vals xs us) (hz : xs.length <= sizeLine) :
  Inv X pins σ (upd H T (.tup xs)) { s with heap := h', toks := t' } := by
 have hT : H T = none := I.hok.fresh hp
 have nch : ∀ b u, H b = some u -> b ∉ ch := fun b u e z => by rw [(hf b z).1] at e; cases e
 refine I.step (g' := s.gens) (d' := s.drawn) (ch := ch) (fun b hb => ⟨(hf b hb).2.2.2.1, (hf b hb).2.1, (hf b hb).2.2.2.2.1, (hf b hb).2.2.2.2.2⟩) (fun b o _ _ hc e _ => k b o hc e) (fun b o _ _ hc e _ => ⟨o.slots, k b o hc e⟩)
  (fun b o hc e n => by rw [upd_ne (Nat.ne_of_lt (Nat.lt_of_lt_of_le (Heap.lt_size e) hp))]; exact n)
  (fun b o hc e => ⟨o, k b o hc e⟩) (fun b ys e => by rw [upd_ne (ne_of_none e hT)]; exact e) (fun b o u e => by rw [upd_ne (ne_of_none e hT)]; exact e) (fun b ps e => ⟨#[], by rw [upd_ne (ne_of_none e hT), e]; simp⟩) (fun m hm => ?_) (fun b u e => ?_) I.bare
 · obtain ⟨o, es, ep, ho, r⟩ := hm
   exact ⟨o, es, ep, k _ o (fun z => (hf _ z).2.1 rfl) ho, r⟩
 · by_cases hb : b = T
   · subst hb
     rw [upd_same] at e
     cases e
     exact ⟨hz, us, r, new⟩
   · rw [upd_ne hb] at e
     refine (I.hok b u e).stay (fun c v hc q => k c v ?_ q) (fun c q => by rw [upd_ne (ne_of_none q hT)]; exact q) fun c ys q => by rw [upd_ne (ne_of_none q hT)]; exact q
     rcases hc with z | z
     · rw [z]; exact nch b u e
     · exact nch c _ z
end
def Itn (K : PySem.W.Frag) (a : Addr) : It :=
 ⟨fun i H => ∃ xs x, SqL K H a xs /\ xs[i]? = some x, fun i H v H' => ∃ T x, v = .ref T /\ H T = none /\ H' = upd H T (.tup [.int i, x]) /\ ∀ xs, SqL K H a xs -> xs[i]? = some x, fun i H => ∃ xs, SqL K H a xs /\ xs.length <= i⟩
theorem turn_enum {P : Program} {w : World} {K : PySem.W.Frag} {elts : List Expr} {k : Nat} {tp : Pos} (a e it : Addr) (hne : e ≠ it) : Turn P w K (.Tuple elts k tp) (Itn K a) [e, it] e (fun i h => (∃ old, IsEnum h e it i old) /\ h.IsListIter it a i) where
 mem := by simp
 obj := fun i h st b hb => by
  obtain ⟨⟨old, he⟩, o, eo, c, d⟩ := st
  have hb' : b = e \/ b = it := by simpa using hb
  rcases hb' with z | z
  · subst z
    exact ⟨_, he, fun v z => by
     have z' : Data.fields _ = Data.cell v := z
     cases z'⟩
  · subst z
    exact ⟨o, eo, fun v z => by rw [d] at z; cases z⟩
 keep := fun i h h' st k => ⟨⟨st.1.choose, k e (by simp) _ st.1.choose_spec⟩, st.2.at fun o eo => k it (by simp) o eo⟩
 item := by
  intro X hP hw hK hc i pins s σ H E I hf st hg
  subst hP hw hK
  obtain ⟨⟨old, he⟩, st⟩ := st
  obtain ⟨xs, x, hq, hx⟩ := hg
  obtain ⟨its, rv, p, hz⟩ := I.list hq
  obtain ⟨u, hu, ru⟩ := rv.get hx
  refine wpAny_pyNext_enum_item he st p.isList (x := u) (by simpa using hu) hne fun h' ho hit' hT hsz hk => ?_
  refine ⟨_, rfl, wpAny_letOwnedTupleGo_enum ho fun h2 he2 hs2 => ?_⟩
  have helt : e < s.heap.objs.size := Heap.lt_size he
  have kk : ∀ b o, b ∉ [e, it] -> s.heap.get? b = some o -> h2.get? b = some o := fun b o hb q => by
   have hb' : b ≠ e /\ b ≠ it := by simpa using hb
   exact (hs2.2 b hb'.1).trans (hk b o hb'.1 hb'.2 q)
  have I2 : Inv X pins σ (upd H s.heap.objs.size (.tup [.int i, x])) { s with heap := h2, toks := s.toks + 1 } := I.turnedT (xs := [.int i, x]) (us := [.int i s.toks, u]) hf kk (Nat.le_refl _) ⟨_, (hs2.2 _ (Nat.ne_of_gt helt)).trans hT, rfl, _, rfl⟩ (.cons ⟨_, rfl⟩ (.cons ru .nil)) (sz 2)
  refine ⟨.ref s.heap.objs.size, _, I2, rfl, ⟨_, x, rfl, I.hok.fresh (Nat.le_refl _), rfl, fun ys hy => by rw [I.list_inj hy hq]; exact hx⟩, ?_, fun b hb => ?_⟩
  · exact ⟨⟨u, by simpa using he2⟩, hit'.at fun o y => (hs2.2 it hne.symm).trans y⟩
  · have : b < s.heap.objs.size := by
     have hb' : b = e \/ b = it := by simpa using hb
     rcases hb' with z | z
     · rw [z]; exact helt
     · obtain ⟨o, eo, _⟩ := st
       rw [z]; exact Heap.lt_size eo
    rw [upd_ne (Nat.ne_of_lt this)]
    exact (hf b hb).1
 done := by
  intro X hP hw hK hc i pins s σ H E I hf st hg
  subst hP hw hK
  obtain ⟨⟨old, he⟩, st⟩ := st
  obtain ⟨xs, hq, hx⟩ := hg
  obtain ⟨its, rv, p, hz⟩ := I.list hq
  have hl := rv.length
  exact wpAny_pyNext_enum_end (I.ok.hd hc) he st p.isList (by simp; omega) fun h' eb => ⟨rfl, I.turnedL (t' := s.toks) hf fun b o hb q => eb b o (fun z => hb (by simp [z])) q⟩
 self := fun _ _ _ _ _ st h => by
  obtain ⟨⟨old, he⟩, _⟩ := st
  exact wpAny_pyIter_enum he h
def iEnum (K : PySem.W.Frag) (ta : TA) : TI := fun σ H R => ta σ H fun vs H1 => ∃ a, vs = [.ref a] /\ (∃ xs, SqL K H1 a xs) /\ R (Itn K a) H1
theorem pi_enum {X : Cx} {elts : List Expr} {k : Nat} {tp : Pos} {a : Expr} {ta : TA} {p pos : Pos} (hg : Gl X "enumerate") (hm : X.mg "enumerate" = none) (ha : PA X [a] ta) (hs : starEach [a] X.env = [(false, eval a X.env)] := by rfl) :
  PI X (.Tuple elts k tp) (.Call (.Name "enumerate" p) [a] [] pos) (iEnum X.K ta) := by
 intro pins s σ H R I h
 refine Call_ (ld_blt I hg hm boot_enumerate (PyProof.Rows.callWith_type1 (thn (ha pos pins s σ H _ I h) fun us s1 ⟨vs, H1, I1, r1, q1⟩ => ?_) hs rfl))
 obtain ⟨l, e, ⟨xs, hq⟩, q⟩ := q1
 subst e
 obtain ⟨u, rfl, ru⟩ := r1.one
 cases ru
 obtain ⟨its, rv, pl, hz⟩ := I1.list hq
 refine call_enumerate_list pl.isList fun h' he hit hsz hk => wpAny_pyIter_enum he ?_
 refine ⟨s1.heap.objs.size + 1, [s1.heap.objs.size + 1, s1.heap.objs.size], _, _, H1, rfl, I1.kept (t' := s1.toks) hk, turn_enum l _ _ (Nat.succ_ne_self _), ⟨⟨_, he⟩, hit⟩, fun b hb => ?_, q⟩
 have hb' : b = s1.heap.objs.size + 1 \/ b = s1.heap.objs.size := by simpa using hb
 have hle : s1.heap.objs.size <= b := by rcases hb' with z | z <;> rw [z]; exact Nat.le_succ _; exact Nat.le_refl _
 exact I1.fpOk hle (I1.hok.fresh hle)
def Itz (K : PySem.W.Frag) (a b : Addr) : It :=
 ⟨fun i H => ∃ xs ys x y, SqL K H a xs /\ SqL K H b ys /\ xs[i]? = some x /\ ys[i]? = some y,
  fun i H v H' => ∃ T x y, v = .ref T /\ H T = none /\ H' = upd H T (.tup [x, y]) /\ (∀ xs, SqL K H a xs -> xs[i]? = some x) /\ ∀ ys, SqL K H b ys -> ys[i]? = some y,
  fun i H => ∃ xs ys, SqL K H a xs /\ SqL K H b ys /\ (xs.length <= i \/ ys.length <= i)⟩
structure Z5 (z TI TO i1 i2 : Addr) : Prop where
 TIz : TI ≠ z
 TOz : TO ≠ z
 i1z : i1 ≠ z
 i2z : i2 ≠ z
 TITO : TI ≠ TO
 TIi1 : TI ≠ i1
 TIi2 : TI ≠ i2
 TOi1 : TO ≠ i1
 TOi2 : TO ≠ i2
 i12 : i1 ≠ i2
theorem list_off {h : Heap} {l b : Addr} {items : Array Value} {o : Obj} (hl : h.IsList l items) (hb : h.get? b = some o) (hc : o.cls ≠ .type "list") : l ≠ b := fun z => by
 subst z
 obtain ⟨o', e, c, _⟩ := hl
 rw [hb] at e
 cases e
 exact hc c
theorem Z5.apart {h : Heap} {z TI TO i1 i2 l1 l2 : Addr} {u v : Value} {k1 k2 : Nat} {xs ys : Array Value} (D : Z5 z TI TO i1 i2) (hz : IsZip h z TI TO .none) (hTO : IsPair h TO u v) (h1 : h.IsListIter i1 l1 k1) (h2 : h.IsListIter i2 l2 k2)
  (hl1 : h.IsList l1 xs) (hl2 : h.IsList l2 ys) : ZipApart z TI TO i1 i2 l1 l2 := by
 obtain ⟨o1, e1, c1, _⟩ := h1
 obtain ⟨o2, e2, c2, _⟩ := h2
 have n1 : o1.cls ≠ .type "list" := by rw [c1]; simp
 have n2 : o2.cls ≠ .type "list" := by rw [c2]; simp
 exact ⟨D.TIz, D.TOz, D.i1z, D.i2z, D.TITO, D.TIi1, D.TIi2, D.TOi1, D.TOi2, D.i12, list_off hl1 hz (by simp), list_off hl1 hTO (by simp), list_off hl1 e1 n1, list_off hl1 e2 n2,
  list_off hl2 hz (by simp), list_off hl2 hTO (by simp), list_off hl2 e1 n1, list_off hl2 e2 n2⟩
theorem turn_zip {P : Program} {w : World} {K : PySem.W.Frag} {elts : List Expr} {k : Nat} {tp : Pos} (a b z TI TO i1 i2 : Addr) (D : Z5 z TI TO i1 i2) :
  Turn P w K (.Tuple elts k tp) (Itz K a b) [z, TI, TO, i1, i2] z (fun i h => IsZip h z TI TO .none /\ IsPair h TI (.ref i1) (.ref i2) /\ (∃ u v, IsPair h TO u v) /\ h.IsListIter i1 a i /\ h.IsListIter i2 b i) where
 mem := by simp
 obj := fun i h st c hc => by
  obtain ⟨hz, hTI, ⟨u, v, hTO⟩, ⟨o1, e1, c1, d1⟩, ⟨o2, e2, c2, d2⟩⟩ := st
  have hc' : c = z \/ c = TI \/ c = TO \/ c = i1 \/ c = i2 := by simpa using hc
  rcases hc' with q | q | q | q | q
  · subst q
    exact ⟨_, hz, fun v q => by have q' : Data.fields _ = Data.cell v := q; cases q'⟩
  · subst q
    exact ⟨_, hTI, fun v q => by have q' : Data.seq _ _ = Data.cell v := q; cases q'⟩
  · subst q
    exact ⟨_, hTO, fun v q => by have q' : Data.seq _ _ = Data.cell v := q; cases q'⟩
  · subst q
    exact ⟨o1, e1, fun v q => by rw [d1] at q; cases q⟩
  · subst q
    exact ⟨o2, e2, fun v q => by rw [d2] at q; cases q⟩
 keep := fun i h h' st k => by
  obtain ⟨hz, hTI, ⟨u, v, hTO⟩, h1, h2⟩ := st
  exact ⟨k z (by simp) _ hz, k TI (by simp) _ hTI, ⟨u, v, k TO (by simp) _ hTO⟩, h1.at fun o e => k i1 (by simp) o e, h2.at fun o e => k i2 (by simp) o e⟩
 item := by
  intro X hP hw hK hc i pins s σ H E I hf st hg
  subst hP hw hK
  obtain ⟨hz, hTI, ⟨u, v, hTO⟩, h1, h2⟩ := st
  obtain ⟨xs, ys, x, y, hqa, hqb, hx, hy⟩ := hg
  obtain ⟨itx, rvx, px, zx⟩ := I.list hqa
  obtain ⟨ity, rvy, py, zy⟩ := I.list hqb
  obtain ⟨ux, hux, rux⟩ := rvx.get hx
  obtain ⟨uy, huy, ruy⟩ := rvy.get hy
  have Z := D.apart hz hTO h1 h2 px.isList py.isList
  refine wpAny_pyNext_zip_item Z hz hTI hTO h1 h2 px.isList py.isList (x := ux) (y := uy) (by simpa using hux) (by simpa using huy) fun h' a1 a2 a3 a4 a5 a6 hk => ?_
  refine ⟨_, rfl, wpAny_letOwnedTupleGo_zip a1 fun h3 hz3 hs3 => ?_⟩
  have lt : ∀ c ∈ [z, TI, TO, i1, i2], c < s.heap.objs.size := fun c hc => by
   have hc' : c = z \/ c = TI \/ c = TO \/ c = i1 \/ c = i2 := by simpa using hc
   obtain ⟨o1, e1, _⟩ := h1
   obtain ⟨o2, e2, _⟩ := h2
   rcases hc' with q | q | q | q | q
   · rw [q]; exact Heap.lt_size hz
   · rw [q]; exact Heap.lt_size hTI
   · rw [q]; exact Heap.lt_size hTO
   · rw [q]; exact Heap.lt_size e1
   · rw [q]; exact Heap.lt_size e2
  have kk : ∀ c o, c ∉ [z, TI, TO, i1, i2] -> s.heap.get? c = some o -> h3.get? c = some o := fun c o hc q => by
   have hc' : c ≠ z /\ c ≠ TI /\ c ≠ TO /\ c ≠ i1 /\ c ≠ i2 := by simpa using hc
   exact (hs3.2 c hc'.1).trans (hk c o hc'.1 hc'.2.2.1 hc'.2.2.2.1 hc'.2.2.2.2 q)
  have zs : s.heap.objs.size ≠ z := Nat.ne_of_gt (lt z (by simp))
  have I2 : Inv X pins σ (upd H s.heap.objs.size (.tup [x, y])) { s with heap := h3 } := I.turnedT (t' := s.toks) (xs := [x, y]) (us := [ux, uy]) hf kk (Nat.le_refl _) ⟨_, (hs3.2 _ zs).trans a5, rfl, _, rfl⟩ (.cons rux (.cons ruy .nil)) (sz 2)
  refine ⟨.ref s.heap.objs.size, _, I2, rfl, ⟨_, x, y, rfl, I.hok.fresh (Nat.le_refl _), rfl, fun ys hy' => by rw [I.list_inj hy' hqa]; exact hx, fun ys hy' => by rw [I.list_inj hy' hqb]; exact hy⟩, ?_, fun c hc => ?_⟩
  · exact ⟨hz3, (hs3.2 _ D.TIz).trans (hk _ _ D.TIz D.TITO D.TIi1 D.TIi2 hTI), ⟨_, _, (hs3.2 _ D.TOz).trans a2⟩, a3.at fun o e => (hs3.2 _ D.i1z).trans e, a4.at fun o e => (hs3.2 _ D.i2z).trans e⟩
  · rw [upd_ne (Nat.ne_of_lt (lt c hc))]
    exact (hf c hc).1
 done := by
  intro X hP hw hK hc i pins s σ H E I hf st hg
  subst hP hw hK
  obtain ⟨hz, hTI, ⟨u, v, hTO⟩, h1, h2⟩ := st
  obtain ⟨xs, ys, hqa, hqb, hx⟩ := hg
  obtain ⟨itx, rvx, px, zx⟩ := I.list hqa
  obtain ⟨ity, rvy, py, zy⟩ := I.list hqb
  have lx := rvx.length
  have ly := rvy.length
  have Z := D.apart hz hTO h1 h2 px.isList py.isList
  refine wpAny_pyNext_zip_end (I.ok.hd hc) Z hz hTI hTO h1 h2 px.isList py.isList ?_ fun h' hk => ⟨rfl, I.turnedL (t' := s.toks) hf fun c o hc q => ?_⟩
  · rcases hx with hx | hx
    · exact .inl (by simp; omega)
    · exact .inr (by simp; omega)
  · have hc' : c ≠ z /\ c ≠ TI /\ c ≠ TO /\ c ≠ i1 /\ c ≠ i2 := by simpa using hc
    exact hk c o hc'.1 hc'.2.2.1 hc'.2.2.2.1 hc'.2.2.2.2 q
 self := fun _ _ _ _ _ st h => wpAny_pyIter_zip st.1 h
def iZip (K : PySem.W.Frag) (ta : TA) : TI := fun σ H R => ta σ H fun vs H1 => ∃ a b, vs = [.ref a, .ref b] /\ (∃ xs, SqL K H1 a xs) /\ (∃ ys, SqL K H1 b ys) /\ R (Itz K a b) H1
theorem pi_zip {X : Cx} {elts : List Expr} {k : Nat} {tp : Pos} {a b : Expr} {ta : TA} {p pos : Pos} (hg : Gl X "zip") (hm : X.mg "zip" = none) (ha : PA X [a, b] ta) (hs : starEach [a, b] X.env = [(false, eval a X.env), (false, eval b X.env)] := by rfl)
  (hs2 : starEach [b] X.env = [(false, eval b X.env)] := by rfl) : PI X (.Tuple elts k tp) (.Call (.Name "zip" p) [a, b] [] pos) (iZip X.K ta) := by
 intro pins s σ H R I h
 refine Call_ (ld_blt I hg hm boot_zip (PyProof.Rows.callWith_type1 (thn (ha pos pins s σ H _ I h) fun us s1 ⟨vs, H1, I1, r1, q1⟩ => ?_) (by rw [hs, hs2]) (by rw [hs2]; rfl)))
 obtain ⟨l1, l2, e, ⟨xs, hqa⟩, ⟨ys, hqb⟩, q⟩ := q1
 subst e
 obtain ⟨u, v, rfl, ru, rv⟩ := r1.two
 cases ru
 cases rv
 obtain ⟨itx, rvx, px, zx⟩ := I1.list hqa
 obtain ⟨ity, rvy, py, zy⟩ := I1.list hqb
 refine call_zip_2 px.isList py.isList fun h' hz hTI hTO h1 h2 hsz hk => wpAny_pyIter_zip hz ?_
 generalize en : s1.heap.objs.size = n at *
 refine ⟨n + 4, [n + 4, n + 2, n + 3, n, n + 1], _, _, H1, rfl, I1.kept (t' := s1.toks) hk, turn_zip l1 l2 (n + 4) (n + 2) (n + 3) n (n + 1) ⟨?_, ?_, ?_, ?_, ?_, ?_, ?_, ?_, ?_, ?_⟩, ⟨hz, hTI, ⟨_, _, hTO⟩, h1, h2⟩, fun b hb => ?_, q⟩
 iterate 10 (show (_ : Nat) ≠ _; omega)
 have hle : s1.heap.objs.size <= b := by
  rw [en]
  have hb' : b = n + 4 \/ b = n + 2 \/ b = n + 3 \/ b = n \/ b = n + 1 := by simpa using hb
  rcases hb' with q | q | q | q | q <;> rw [q] <;> first | exact Nat.le_refl _ | exact Nat.le_add_right _ _
 exact I1.fpOk hle (I1.hok.fresh hle)
def gPair (K : PySem.W.Frag) (i j : Nat) : TG := gTup K 2 (gCons (gName i) (gCons (gName j) gNil))
theorem pg_pair {X : Cx} {x y : Str} {i j k : Nat} {p q pos : Pos} (hc : X.calm = true) (h1 : PG X (.Name x p) (gName i)) (h2 : PG X (.Name y q) (gName j)) : PG X (.Tuple [.Name x p, .Name y q] k pos) (gPair X.K i j) := pg_tup hc (pgs_cons h1 (pgs_cons h2 pgs_nil))
theorem for_enum {K : PySem.W.Frag} {a : Addr} {xs : List V} {u v : Nat} {tb : TS} {D : Ends} {σ : St} {H : Hp} (Pv : Nat -> St -> Hp -> Prop) (h0 : Pv 0 σ H) (hl : ∀ i σ H, i <= xs.length -> Pv i σ H -> SqL K H a xs)
  (hs : ∀ i x σ H H', xs[i]? = some x -> Pv i σ H -> Same H H' -> tb { D with nx := Pv (i + 1), ct := Pv (i + 1), bk := D.nx } ((σ.set u (some (.int i))).set v (some x)) H') (hd : ∀ σ H, Pv xs.length σ H -> D.nx σ H) :
  ∃ W : Nat -> Nat -> St -> Hp -> Prop, (∃ m, W 0 m σ H) /\ ∀ i m σ H, W i m σ H ->
   ((Itn K a).stop i H /\ D.nx σ H) \/ ((Itn K a).go i H /\ ∃ N : St -> Hp -> Prop, (∀ σ' H', N σ' H' -> ∃ m', m' < m /\ W (i + 1) m' σ' H') /\ ∀ x H', (Itn K a).yld i H x H' -> gPair K u v x σ H' fun σ2 H2 => tb { D with nx := N, ct := N, bk := D.nx } σ2 H2) := by
 refine ⟨fun i m σ H => m = xs.length - i /\ i <= xs.length /\ Pv i σ H, ⟨xs.length, by simp, Nat.zero_le _, h0⟩, ?_⟩
 rintro i m σ H ⟨rfl, hi, p⟩
 have q := hl i σ H hi p
 by_cases hlt : i < xs.length
 · refine .inr ⟨⟨xs, xs[i], q, by simp [hlt]⟩, Pv (i + 1), fun σ' H' p' => ⟨xs.length - (i + 1), by omega, rfl, hlt, p'⟩, fun x H' y => ?_⟩
   obtain ⟨T, x, rfl, hT, rfl, y⟩ := y
   exact ⟨T, [.int i, x], rfl, SqT.of upd_same, rfl, _, _, rfl, _, _, rfl, rfl, hs i x σ H _ (y xs q) p (same_new hT _)⟩
 · have e : i = xs.length := by omega
   subst e
   exact .inl ⟨⟨xs, q, Nat.le_refl _⟩, hd σ H p⟩
theorem compLoop_any {prog : Program} {w : World} {A : Around} {s : Shared} {elt iter target : Expr} {scope : Scope} {pos : Pos} {it acc : Value} {env : Env} {R : Result -> Shared -> Prop} (I : Nat -> Shared -> Prop)
  (turn : ∀ n s, I n s -> wpAny (model prog w) A (pyNext it) (fun r s₁ => match r with
   | none => R (.ok .next) s₁
   | some v => wpAny (model prog w) A (letOwnedTupleGo target it v) (fun _ s₁' => wpAny (model prog w) A (assign target env v) (fun _ s₂ =>
     wpAny (model prog w) A (eval elt env) (fun x s₄ =>
       wpAny (model prog w) A (call (.builtin "list.append") [acc, x]) (fun _ s₅ => ∃ m, m < n /\ I m s₅) (notedBy (model prog w) A env fun e s' => R (.error e) s') s₄) (notedBy (model prog w) A env fun e s' => R (.error e) s') s₂)
     (notedBy (model prog w) A env fun e s' => R (.error e) s') s₁') (notedBy (model prog w) A env fun e s' => R (.error e) s') s₁) (notedBy (model prog w) A env fun e s' => R (.error e) s') s)
  (n : Nat) (h : I n s) : codeAny (model prog w) A (.compLoop (.ListComp elt [⟨target, iter, [], 0⟩] scope pos) 0 it acc env) R s := by
 refine codeAny_loop rfl I (fun n s hI => ?_) n h
 show wpAny _ A ((compTurn (.ListComp elt [⟨target, iter, [], 0⟩] scope pos) 0 it acc env).onRaise (fun x => do noteFrame x env; theTreesLotGoes x)) _ _ s
 refine wpAny_noted ?_
 rw [compTurn_list]
 refine wpAny_bind (wpAny_standAt (wpAny_bind (wpAny_mono (turn n s hI) (fun r s₁ h₁ => ?_) fun _ _ h' => h')))
 cases r with
 | none => exact wpAny_pure h₁
 | some v =>
  refine wpAny_bind (wpAny_mono h₁ (fun _ s₁' h₁' => ?_) fun _ _ h' => h')
  refine wpAny_bind (wpAny_mono h₁' (fun _ s₂ h₂ => wpAny_bind (wpAny_mono (wpAny_tests_nil (Q := fun ok s₃ => ok = true /\ s₃ = s₂) ⟨rfl, rfl⟩) (fun ok s₃ h₃ => ?_) fun _ _ h' => h')) fun _ _ h' => h')
  obtain ⟨rfl, rfl⟩ := h₃
  exact wpAny_bind (wpAny_bind (wpAny_mono h₂ (fun x s₄ h₄ => wpAny_bind (wpAny_mono h₄ (fun _ s₅ h₅ => wpAny_pure (wpAny_pure ⟨rfl, h₅⟩)) fun _ _ h' => h')) fun _ _ h' => h'))
structure CompScope2 (N M : List Str) (osc : Scope) (x y : Str) (sc : Scope) : Prop where
 kind : sc.kind = .function
 nocell : ∀ z ∈ sc.names, z.2 ≠ .cell
 names : ∀ z ∈ sc.names, z.2 = .local -> sc.names.lookup z.1 = some .local
 here : sc.names.lookup x = some .local
 here2 : sc.names.lookup y = some .local
 nd : (x :: y :: M).Nodup
 len : M.length = N.length
 hide : ∀ (i : Nat) z, M[i]? = some z -> N[i]? = some z \/ sc.names.lookup z = none
 free : ∀ z ∈ sc.names, z.2 = .free -> osc.names.lookup z.1 = some .cell \/ osc.names.lookup z.1 = some .free
 own : ∀ z ∈ sc.names, z.2 = .local -> z.1 = x \/ z.1 = y \/ z.1 ∉ M
def cxComp2 (X : Cx) (M : List Str) (x y : Str) (sc : Scope) (fp : List Addr) (s3 : Shared) (H3 : Hp) : Cx where
 prog := X.prog
 w := X.w
 K := X.K
 mg := X.mg
 base := X.base
 A := X.A
 N := x :: y :: M
 s₀ := s3
 H₀ := H3
 env := compEnvC sc (clOf sc X.env) s3.heap.objs.size X.env
 outer := X.stack
 stack := X.stack
 ex := fp
 calm := X.calm
 fn := fun _ => false
 pn := []
 xe := fun _ _ => False
section
variable {X : Cx} {M : List Str} {x y : Str} {sc : Scope} {fp : List Addr} {s3 : Shared} {H3 : Hp} {pins : List (Addr × Obj)} {σ : St}
theorem CompScope2.cells (S : CompScope2 X.N M X.env.scope x y sc) (ok : X.Ok) : ∀ z ∈ sc.names, z.2 = .free -> ∃ c, X.env.cells.lookup z.1 = some c := fun z hz hk => ok.has z.1 (S.free z hz hk)
theorem CompScope2.sub (S : CompScope2 X.N M X.env.scope x y sc) (ok : X.Ok) {z : Str} {c : Addr} (e : (clOf sc X.env).lookup z = some c) : X.env.cells.lookup z = some c :=
 clGo_sub sc.names [] (S.cells ok) (fun c h => by cases h) e
theorem CompScope2.isFree (S : CompScope2 X.N M X.env.scope x y sc) {z : Str} (h : (relabel sc X.env).names.lookup z = some .cell \/ (relabel sc X.env).names.lookup z = some .free) : (z, NameKind.free) ∈ sc.names := by
 rw [lookup_relabel] at h
 cases e : sc.names.lookup z with
 | none => rw [e] at h; rcases h with h | h <;> cases h
 | some k =>
  rw [e] at h
  have hm := PySem.mem_of_lookup e
  cases k with
  | free => exact hm
  | cell => exact absurd rfl (S.nocell _ hm)
  | _ =>
   exfalso
   rcases h with h | h
   all_goals (simp at h)
theorem CompScope2.noLocal (S : CompScope2 X.N M X.env.scope x y sc) {z : Str} (hz : z ∈ M) (h : (relabel sc X.env).names.lookup z = some .local) : False := by
 rw [lookup_relabel] at h
 cases e : sc.names.lookup z with
 | none => rw [e] at h; cases h
 | some k =>
  rw [e] at h
  have hm := PySem.mem_of_lookup e
  cases k with
  | «local» =>
   have nd := List.nodup_cons.mp S.nd
   have nd2 := List.nodup_cons.mp nd.2
   rcases S.own _ hm rfl with q | q | q
   · have q' : z = x := q
     exact nd.1 (List.mem_cons_of_mem _ (q' ▸ hz))
   · have q' : z = y := q
     exact nd2.1 (q' ▸ hz)
   · exact q hz
  | _ =>
   revert h
   simp
   try (split <;> simp)
theorem ok_comp2 (S : CompScope2 X.N M X.env.scope x y sc) (I : Inv X pins σ H3 s3) (hf : ∀ b ∈ fp, FpOk X pins H3 b) (hl : ∀ b ∈ fp, b < s3.heap.objs.size) : (cxComp2 X M x y sc fp s3 H3).Ok where
 mod := I.ok.mod
 kind := S.kind
 glob := I.ok.glob
 blt := I.ok.blt
 above := Nat.le_refl _
 inj := fun y z c h1 h2 => I.ok.inj y z c (S.sub I.ok h1) (S.sub I.ok h2)
 has := fun y h => clGo_has sc.names [] (.inr (S.isFree h))
 cab := fun y c h => by cases h
 hd := I.ok.hd
 frames := I.ok.frames
 stk := .inl rfl
 exf := fun b hb => ⟨Nat.ne_of_lt (hl b hb), fun y c e => (hf b hb).2.2.2.2.1 y c (S.sub I.ok e)⟩
 bs := I.bs
 bsz := Nat.le_trans I.ok.bsz I.sz
 noex := fun b o e hb => FpOk.nobase I.ok (hf b hb) e
 exfs := fun b hb hs => by
  rcases List.mem_cons.mp (I.stkSub b hs) with z | z
  · exact (hf b hb).2.1 z
  · exact (hf b hb).2.2.1 z
 funs := I.stack
 frf := I.stkFree
theorem inv_comp2 {h4 : Heap} {tk : Nat} (S : CompScope2 X.N M X.env.scope x y sc) (I : Inv X pins σ H3 s3) (hf : ∀ b ∈ fp, FpOk X pins H3 b) (hl : ∀ b ∈ fp, b < s3.heap.objs.size)
  (hk : ∀ b o, s3.heap.get? b = some o -> h4.get? b = some o) {m : Str -> Option Value} (hn : h4.Ns s3.heap.objs.size m) :
  Inv (cxComp2 X M x y sc fp s3 H3) [] (none :: none :: σ) H3 { s3 with heap := h4, toks := tk } := by
 refine ⟨ok_comp2 S I hf hl, rfl, I.bare, Un.kept hk, ⟨m, hn, fun i z v h1 h2 h3 => ?_⟩, fun z c e => ?_, I.fresh, fun z c e => I.freeC z c (S.sub I.ok e), fun p hp => absurd (show p ∈ ([] : List (Addr × Obj)) from hp) (by simp), I.hok.kept hk, by show σ.length + 1 + 1 = M.length + 1 + 1; rw [I.len, S.len]⟩
 · match i, h1, h2 with
   | 0, h1, h2 => exact absurd (Option.some.inj h2) (by simp)
   | 1, h1, h2 => exact absurd (Option.some.inj h2) (by simp)
   | i + 2, h1, h2 =>
    have h1m : M[i]? = some z := h1
    have h2' : σ[i]? = some (some v) := h2
    have hyN : z ∈ M := List.mem_of_getElem? h1m
    have hfree : (z, NameKind.free) ∈ sc.names := by
     rcases h3 with h3 | h3 | h3
     · exact (S.noLocal hyN h3).elim
     · exact S.isFree (.inl h3)
     · exact S.isFree (.inr h3)
    have h1' : X.N[i]? = some z := by
     rcases S.hide i z h1m with q | q
     · exact q
     · exfalso
       obtain ⟨k, hk⟩ : ∃ k, sc.names.lookup z = some k := by
        cases e : sc.names.lookup z with
        | some k => exact ⟨k, rfl⟩
        | none =>
         rw [List.lookup_eq_none_iff] at e
         exact absurd (e _ hfree) (by simp)
       rw [hk] at q; cases q
    have hk0 := S.free _ hfree rfl
    obtain ⟨m0, hn0, hl0⟩ := I.loc
    obtain ⟨u, r, l⟩ := hl0 i z v h1' h2' (hk0.elim (fun q => .inr (.inl q)) (fun q => .inr (.inr q)))
    refine ⟨u, r, .inr ?_⟩
    have hv : (cxComp2 X M x y sc fp s3 H3).env.kindOf z = some .cell \/ (cxComp2 X M x y sc fp s3 H3).env.kindOf z = some .free := by
     rcases h3 with h3 | h3 | h3
     · exact (S.noLocal hyN h3).elim
     · exact .inl h3
     · exact .inr h3
    refine ⟨hv, ?_⟩
    obtain ⟨c, hc⟩ := clGo_has (env := X.env) (y := z) sc.names [] (.inr hfree)
    refine ⟨c, hc, ?_⟩
    have hc' := S.sub I.ok hc
    rcases l with ⟨hk1, _⟩ | ⟨_, c2, e2, z2⟩
    · exfalso
      have hk1' : X.env.scope.names.lookup z = some .local := hk1
      have hk0' : X.env.scope.names.lookup z = some .cell \/ X.env.scope.names.lookup z = some .free := hk0
      rw [hk1'] at hk0'
      rcases hk0' with q | q <;> cases q
    · rw [hc'] at e2; cases e2
      exact z2.keeps hk
 · obtain ⟨v, q⟩ := I.cell z c (S.sub I.ok e)
   exact ⟨v, q.keeps hk⟩
end
def tComp2 (K : PySem.W.Frag) (wi : TI) (te : TE) : TE := fun σ H Q => wi σ H fun J H1 => ∀ p, H1 p = none ->
 ∃ W : Nat -> Nat -> List V -> Hp -> Prop, (∃ m, W 0 m [] (upd H1 p (.lst []))) /\ ∀ i m ys H, W i m ys H ->
  (J.stop i H /\ Q (.ref p) H) \/ (J.go i H /\ ∀ u H', J.yld i H u H' -> ∃ T x y, u = .ref T /\ SqT K H' T [x, y] /\
   te (some x :: some y :: σ) H' fun v H3 => H3 p = some (.lst ys) /\ ys.length < sizeLine /\ ∃ m', m' < m /\ W (i + 1) m' (ys ++ [v]) (upd H3 p (.lst (ys ++ [v]))))
section
variable {X : Cx} {M : List Str} {x y : Str} {sc : Scope} {px py tp pos : Pos} {k : Nat} {elt iter : Expr} {wi : TI} {te : TE}
theorem Inv.back2 {fp : List Addr} {s3 s' : Shared} {H3 H' : Hp} {pins : List (Addr × Obj)} {σ σ' : St} {pl : List (Addr × Obj)} {h' : Heap} (I : Inv X pins σ H3 s3) (hf : ∀ b ∈ fp, FpOk X pins H3 b)
  (J : Inv (cxComp2 X M x y sc fp s3 H3) pl σ' H' s') (hs : Heap.SameBut s3.heap.objs.size s'.heap h') : Inv X pins σ H' { s' with heap := h' } := by
 have I1 : Inv X pins σ H' s' := I.call' (ch := fp) J.os J.base J.hok J.bare fun b hb => ⟨(hf b hb).2.2.2.1, (hf b hb).2.1, (hf b hb).2.2.2.2.1, (hf b hb).2.2.2.2.2⟩
 refine I1.turned (t' := s'.toks) (it := s3.heap.objs.size) (fun b o hb e => (hs.2 b hb).trans e) J.free ?_ (.inr I.sz) ?_ ?_
 · exact Nat.ne_of_gt I.lt
 · intro y c e z
   obtain ⟨v, q⟩ := I.cell y c e
   exact absurd q.lt (by rw [z]; exact Nat.lt_irrefl _)
 · intro p hp z
   exact absurd (Heap.lt_size (I.pin p hp).1) (by rw [z]; exact Nat.lt_irrefl _)
theorem comp_core2 {pins : List (Addr × Obj)} {σ : St} {s2 : Shared} {H2 : Hp} {it : Addr} {fp : List Addr} {tn : Nat -> Heap -> Prop} {J : It} {Q : VK} {E : Value -> Shared -> Prop} {RR : Value -> Addr -> Result -> Shared -> Prop}
  (S : CompScope2 X.N M X.env.scope x y sc) (hc : X.calm = true) (he : ∀ fp s3 H3, PE (cxComp2 X M x y sc fp s3 H3) elt te)
  (I2 : Inv X pins σ H2 s2) (T : Turn X.prog X.w X.K (.Tuple [.Name x px, .Name y py] k tp) J fp it tn) (st2 : tn 0 s2.heap) (f2 : ∀ b ∈ fp, FpOk X pins H2 b)
  (h : ∀ p, H2 p = none -> ∃ W : Nat -> Nat -> List V -> Hp -> Prop, (∃ m, W 0 m [] (upd H2 p (.lst []))) /\ ∀ i m ys H, W i m ys H ->
   (J.stop i H /\ Q (.ref p) H) \/ (J.go i H /\ ∀ u H', J.yld i H u H' -> ∃ T x y, u = .ref T /\ SqT X.K H' T [x, y] /\
    te (some x :: some y :: σ) H' fun v H3 => H3 p = some (.lst ys) /\ ys.length < sizeLine /\ ∃ m', m' < m /\ W (i + 1) m' (ys ++ [v]) (upd H3 p (.lst (ys ++ [v])))))
  (hRR : ∀ (s3 : Shared) (H3 : Hp) (s' : Shared) (σ' : St) (H' : Hp), Inv X pins σ H3 s3 -> (∀ b ∈ fp, FpOk X pins H3 b) -> Inv (cxComp2 X M x y sc fp s3 H3) [] σ' H' s' -> Q (.ref s2.heap.objs.size) H' -> RR (.ref s2.heap.objs.size) s3.heap.objs.size (.ok .next) s') :
  wpAny (model X.prog X.w) X.A (newList []) (fun acc s₃ => wpAny (model X.prog X.w) X.A (newFunctionEnv sc X.env.globals (clOf sc X.env) [] X.env.qual none .none (some X.env)) (fun cenv s₄ =>
   codeAny (model X.prog X.w) X.A (.compStart (.ListComp elt [⟨(.Tuple [.Name x px, .Name y py] k tp), iter, [], 0⟩] sc pos) 0 (.ref it) acc { cenv with scope := relabel sc X.env }) (RR acc cenv.locals) s₄) E s₃) E s2 := by
 obtain ⟨W, ⟨m0, w0⟩, turn⟩ := h s2.heap.objs.size I2.fresh
 refine wpAny_newList ?_
 have I3 : Inv X pins σ (upd H2 s2.heap.objs.size (.lst [])) { s2 with heap := s2.heap.push { cls := .type "list", data := .seq ([] : List Value).toArray } } := I2.lnew (ys := []) (t' := s2.toks) .nil (Nat.zero_le _)
 have fpl : ∀ b ∈ fp, b < s2.heap.objs.size := fun b hb => by
  obtain ⟨o, e, _⟩ := T.obj _ _ st2 b hb
  exact Heap.lt_size e
 have f3 : ∀ b ∈ fp, FpOk X pins (upd H2 s2.heap.objs.size (.lst [])) b := fun b hb => ⟨by rw [upd_ne (Nat.ne_of_lt (fpl b hb))]; exact (f2 b hb).1, (f2 b hb).2⟩
 have st3 : tn 0 (s2.heap.push { cls := .type "list", data := .seq ([] : List Value).toArray }) := T.keep _ _ _ st2 fun b _ o e => Heap.get?_push_of_some _ e
 generalize hs3 : ({ s2 with heap := s2.heap.push { cls := .type "list", data := .seq ([] : List Value).toArray } } : Shared) = s3 at *
 have st3' : tn 0 s3.heap := by rw [← hs3]; exact st3
 have fpl3 : ∀ b ∈ fp, b < s3.heap.objs.size := fun b hb => by
  obtain ⟨o, e, _⟩ := T.obj _ _ st3' b hb
  exact Heap.lt_size e
 refine wpAny_newFunctionEnv S.nocell (by intro y hy; simp at hy) (fun h₁ hns₁ hsb₁ => ?_) S.kind
 have keep4 : ∀ b o, s3.heap.get? b = some o -> h₁.get? b = some o := fun b o e => (hsb₁.2 b (Nat.ne_of_lt (Heap.lt_size e))).trans (Heap.get?_push_of_some _ e)
 have I4 := inv_comp2 (fp := fp) (tk := s3.toks + ([] : List (Str × Value)).length) S I3 f3 fpl3 keep4 hns₁
 have st4 : tn 0 h₁ := T.keep _ _ _ st3' fun b _ o e => keep4 b o e
 generalize hs4 : ({ s3 with heap := h₁, toks := s3.toks + ([] : List (Str × Value)).length } : Shared) = s4 at *
 have st4' : tn 0 s4.heap := by rw [← hs4]; exact st4
 generalize hH3 : upd H2 s2.heap.objs.size (.lst []) = H3 at *
 have stat : ∀ {H' : Hp}, (∀ b ∈ fp, H' b = none) -> ∀ b ∈ fp, FpOk (cxComp2 X M x y sc fp s3 H3) [] H' b := fun hn b hb =>
  ⟨hn b hb, Nat.ne_of_lt (fpl3 b hb), I4.ok.exfs b hb, .inl hb, fun y c e => (f3 b hb).2.2.2.2.1 y c (S.sub I3.ok e), fun p hp => absurd (show p ∈ ([] : List (Addr × Obj)) from hp) (by simp)⟩
 have loop : codeAny (model X.prog X.w) X.A (.compLoop (.ListComp elt [⟨(.Tuple [.Name x px, .Name y py] k tp), iter, [], 0⟩] sc pos) 0 (.ref it) (.ref s2.heap.objs.size) (cxComp2 X M x y sc fp s3 H3).env) (RR (.ref s2.heap.objs.size) s3.heap.objs.size) s4 := by
  refine compLoop_any (fun n s' => ∃ i o o2 ys H', Inv (cxComp2 X M x y sc fp s3 H3) [] (o :: o2 :: σ) H' s' /\ tn i s'.heap /\ (∀ b ∈ fp, H' b = none) /\ W i n ys H') ?_ m0 ⟨0, none, none, [], H3, I4, st4', fun b hb => (f3 b hb).1, w0⟩
  rintro n s5 ⟨i, o, o2, ys, H5, I5, st5, fr5, w5⟩
  rcases turn i n ys H5 w5 with ⟨stop, q⟩ | ⟨go, step⟩
  · refine wpAny_mono (T.done (cxComp2 X M x y sc fp s3 H3) rfl rfl rfl hc i [] s5 (o :: o2 :: σ) H5 (fun _ _ => False) I5 (stat fr5) st5 stop) (fun r s6 ⟨hr, I6⟩ => ?_) fun _ _ z => z.elim
    subst hr
    exact hRR s3 H3 s6 _ H5 I3 f3 I6 q
  · refine wpAny_mono (T.item (cxComp2 X M x y sc fp s3 H3) rfl rfl rfl hc i [] s5 (o :: o2 :: σ) H5 (fun _ _ => False) I5 (stat fr5) st5 go) (fun r s6 ⟨u, hr, h6⟩ => ?_) fun _ _ z => z.elim
    subst hr
    refine wpAny_mono h6 (fun _ s6' ⟨tv, H6, I6, r6, y6, st6, fr6⟩ => ?_) fun _ _ z => z.elim
    have I6' := I6.pinned (stat fr6) (T.obj _ _ st6)
    have hx : (relabel sc X.env).names.lookup x = some .local := lookup_relabel_local S.here
    have nd' : (cxComp2 X M x y sc fp s3 H3).N.Nodup := S.nd
    have hy : (relabel sc X.env).names.lookup y = some .local := lookup_relabel_local S.here2
    obtain ⟨Tt, xv, yv, etv, sq6, q6⟩ := step tv H6 y6
    subst etv
    refine wpAny_mono (pg_pair (X := cxComp2 X M x y sc fp s3 H3) (i := 0) (j := 1) (p := px) (q := py) (k := k) (pos := tp) hc (pg_name nd' rfl (.inl hx) (.inr hx)) (pg_name nd' rfl (.inl hy) (.inr hy)) _ s6' (o :: o2 :: σ) H6 (.ref Tt) u (fun σ' H' => σ' = some xv :: some yv :: σ /\ H' = H6) I6' r6
     ⟨Tt, [xv, yv], rfl, sq6, rfl, _, _, rfl, _, _, rfl, rfl, rfl, rfl⟩) (fun _ s7 ⟨σ7, H7, I7, e7, e7'⟩ => ?_) fun _ _ z => z.elim
    subst e7 e7'
    have again : ∀ {H' : Hp} {s' : Shared} {ys' : List V}, Inv (cxComp2 X M x y sc fp s3 H3) ([] ++ pinsAt fp s6'.heap) (some xv :: some yv :: σ) H' s' -> (∃ m', m' < n /\ W (i + 1) m' ys' H') ->
      ∃ m, m < n /\ ∃ i o o2 ys H', Inv (cxComp2 X M x y sc fp s3 H3) [] (o :: o2 :: σ) H' s' /\ tn i s'.heap /\ (∀ b ∈ fp, H' b = none) /\ W i m ys H' := fun {H' s' ys'} I' ⟨m', hm, w'⟩ => by
     refine ⟨m', hm, i + 1, some xv, some yv, ys', H', I'.unpinned, T.keep _ _ _ st6 fun b hb ob e => (I'.pin (b, ob) (List.mem_append_right _ (List.mem_append_right _ (mem_pinsAt hb e)))).1, fun b hb => ?_, w'⟩
     obtain ⟨ob, e, d⟩ := T.obj _ _ st6 b hb
     exact (I'.pin (b, ob) (List.mem_append_right _ (List.mem_append_right _ (mem_pinsAt hb e)))).2.1
    refine wpAny_mono (he fp s3 H3 _ s7 _ H7 _ I7 q6) (fun v s9 ⟨yy, H9, I9, r9, hp, hz, q9⟩ => ?_) fun _ _ z => z.elim
    refine wpAny_mono (mt_append (X := cxComp2 X M x y sc fp s3 H3) _ s9 _ H9 (.ref s2.heap.objs.size) [yy] (.ref s2.heap.objs.size) [v] (fun _ H' => H' = upd H9 s2.heap.objs.size (.lst (ys ++ [yy]))) I9 rfl (.cons r9 .nil) ⟨_, ys, yy, rfl, rfl, hp, hz, rfl⟩) (fun _ s10 ⟨_, H10, I10, _, e10⟩ => ?_) fun _ _ z => z.elim
    subst e10
    exact again I10 q9
 exact codeAny_compStart_list loop (T.self _ 0 _ _ _ st4' loop)
theorem pe_comp2 (S : CompScope2 X.N M X.env.scope x y sc) (hc : X.calm = true) (hi : PI X (.Tuple [.Name x px, .Name y py] k tp) iter wi) (he : ∀ fp s3 H3, PE (cxComp2 X M x y sc fp s3 H3) elt te)
  (hs : ∀ x, foldedSetIterable iter X.env x = pure x := by intro _; rfl) : PE X (.ListComp elt [⟨(.Tuple [.Name x px, .Name y py] k tp), iter, [], 0⟩] sc pos) (tComp2 X.K wi te) := by
 intro pins s σ H Q I h
 rw [eval_ListComp]
 refine wpAny_comprehension_free (use := none) (cl := clOf sc X.env) rfl hs (closure_is (S.cells I.ok)) S.kind S.names (thn (hi pins s σ H _ I h) fun v s1 h1 => thn h1 fun itv s2 h2 => ?_)
 obtain ⟨it, fp, tn, J, H2, e, I2, T, st2, f2, q2⟩ := h2
 subst e
 refine comp_core2 (RR := fun acc C => compPost (model X.prog X.w) X.A X.xe none (EP X pins σ Q) acc C) (Q := Q) S hc he I2 T st2 f2 q2 ?_
 intro s3 H3 s' σ' H' I3 f3 J' q'
 obtain ⟨m, hn, _⟩ := J'.loc
 exact ⟨m, hn, fun h' hs' => ⟨.ref s2.heap.objs.size, H', I3.back2 f3 J' hs', rfl, q'⟩⟩
end
def compCheck2 (N M : List Str) (osc : Scope) (x w : Str) (sc : Scope) : Bool :=
 (match sc.kind with | .function => true | _ => false) && sc.names.all (fun y => match y.2 with | .cell => false | _ => true)
 && sc.names.all (fun y => match y.2 with | .local => (match sc.names.lookup y.1 with | some .local => true | _ => false) | _ => true)
 && (match sc.names.lookup x with | some .local => true | _ => false) && M.all (fun y => !(y == x))
 && sc.names.all (fun y => match y.2 with | .free => (match osc.names.lookup y.1 with | some .cell => true | some .free => true | _ => false) | _ => true)
 && sc.names.all (fun y => match y.2 with | .local => (y.1 == x || (y.1 == w || M.all (fun z => !(z == y.1))))| _ => true)
 && decide (M.length = N.length) && (List.range M.length).all (fun i => match M[i]?, N[i]? with | some a, some b => a == b || (match sc.names.lookup a with | none => true | _ => false) | _, _ => false)
 && (match sc.names.lookup w with | some .local => true | _ => false) && M.all (fun y => !(y == w)) && !(x == w)
theorem CompScope2.of {N M : List Str} {osc : Scope} {x w : Str} {sc : Scope} (hN : M.Nodup) (h : compCheck2 N M osc x w sc = true) : CompScope2 N M osc x w sc := by
 unfold compCheck2 at h
 simp only [Bool.and_eq_true, List.all_eq_true, decide_eq_true_eq] at h
 obtain ⟨⟨⟨⟨⟨⟨⟨⟨⟨⟨⟨h1, h2⟩, h3⟩, h4⟩, h5⟩, h6⟩, h7⟩, h8⟩, h9⟩, h10⟩, h11⟩, h12⟩ := h
 refine ⟨?_, fun y hy e => ?_, fun y hy e => ?_, ?_, ?_, List.nodup_cons.mpr ⟨fun hx => by
  rcases List.mem_cons.mp hx with q | q
  · subst q; simp at h12
  · have := h5 x q; simp at this, List.nodup_cons.mpr ⟨fun hx => by have := h11 w hx; simp at this, hN⟩⟩, h8, fun i z hz => ?_, fun y hy e => ?_, fun y hy e => ?_⟩
 · revert h1; cases sc.kind <;> simp
 · have := h2 y hy; rw [e] at this; exact absurd this (by simp)
 · have := h3 y hy; rw [e] at this
   revert this
   cases sc.names.lookup y.1 with
   | none => simp
   | some k => cases k <;> simp
 · revert h4
   cases sc.names.lookup x with
   | none => simp
   | some k => cases k <;> simp
 · revert h10
   cases sc.names.lookup w with
   | none => simp
   | some k => cases k <;> simp
 · have hl := (List.getElem?_eq_some_iff.mp hz).1
   have q := h9 i (List.mem_range.mpr hl)
   have hl' : i < N.length := by rw [← h8]; exact hl
   rw [hz, List.getElem?_eq_getElem hl'] at q
   rw [List.getElem?_eq_getElem hl']
   simp only [Bool.or_eq_true, beq_iff_eq] at q
   rcases q with q | q
   · exact .inl (by rw [q])
   · refine .inr ?_
     revert q
     cases sc.names.lookup z with
     | none => simp
     | some k => simp
 · have := h6 y hy; rw [e] at this
   revert this
   cases osc.names.lookup y.1 with
   | none => simp
   | some k => cases k <;> simp
 · have := h7 y hy; rw [e] at this
   simp only [Bool.or_eq_true, List.all_eq_true] at this
   rcases this with z | z | z
   · exact .inl (by simpa using z)
   · exact .inr (.inl (by simpa using z))
   · refine .inr (.inr fun q => ?_)
     have := z _ q
     simp at this
structure CompScope1 (N M : List Str) (osc : Scope) (x : Str) (sc : Scope) : Prop where
 kind : sc.kind = .function
 nocell : ∀ z ∈ sc.names, z.2 ≠ .cell
 names : ∀ z ∈ sc.names, z.2 = .local -> sc.names.lookup z.1 = some .local
 here : sc.names.lookup x = some .local
 nd : (x :: M).Nodup
 len : M.length = N.length
 hide : ∀ (i : Nat) z, M[i]? = some z -> N[i]? = some z \/ sc.names.lookup z = none
 free : ∀ z ∈ sc.names, z.2 = .free -> osc.names.lookup z.1 = some .cell \/ osc.names.lookup z.1 = some .free
 own : ∀ z ∈ sc.names, z.2 = .local -> z.1 = x \/ z.1 ∉ M
def cxComp1 (X : Cx) (M : List Str) (x : Str) (sc : Scope) (fp : List Addr) (s3 : Shared) (H3 : Hp) : Cx where
 prog := X.prog
 w := X.w
 K := X.K
 mg := X.mg
 base := X.base
 A := X.A
 N := x :: M
 s₀ := s3
 H₀ := H3
 env := compEnvC sc (clOf sc X.env) s3.heap.objs.size X.env
 outer := X.stack
 stack := X.stack
 ex := fp
 calm := X.calm
 fn := fun _ => false
 pn := []
 xe := fun _ _ => False
section
variable {X : Cx} {M : List Str} {x : Str} {sc : Scope} {fp : List Addr} {s3 : Shared} {H3 : Hp} {pins : List (Addr × Obj)} {σ : St}
theorem CompScope1.cells (S : CompScope1 X.N M X.env.scope x sc) (ok : X.Ok) : ∀ z ∈ sc.names, z.2 = .free -> ∃ c, X.env.cells.lookup z.1 = some c := fun z hz hk => ok.has z.1 (S.free z hz hk)
theorem CompScope1.sub (S : CompScope1 X.N M X.env.scope x sc) (ok : X.Ok) {z : Str} {c : Addr} (e : (clOf sc X.env).lookup z = some c) : X.env.cells.lookup z = some c :=
 clGo_sub sc.names [] (S.cells ok) (fun c h => by cases h) e
theorem CompScope1.isFree (S : CompScope1 X.N M X.env.scope x sc) {z : Str} (h : (relabel sc X.env).names.lookup z = some .cell \/ (relabel sc X.env).names.lookup z = some .free) : (z, NameKind.free) ∈ sc.names := by
 rw [lookup_relabel] at h
 cases e : sc.names.lookup z with
 | none => rw [e] at h; rcases h with h | h <;> cases h
 | some k =>
  rw [e] at h
  have hm := PySem.mem_of_lookup e
  cases k with
  | free => exact hm
  | cell => exact absurd rfl (S.nocell _ hm)
  | _ =>
   exfalso
   rcases h with h | h
   all_goals (simp at h)
theorem CompScope1.noLocal (S : CompScope1 X.N M X.env.scope x sc) {z : Str} (hz : z ∈ M) (h : (relabel sc X.env).names.lookup z = some .local) : False := by
 rw [lookup_relabel] at h
 cases e : sc.names.lookup z with
 | none => rw [e] at h; cases h
 | some k =>
  rw [e] at h
  have hm := PySem.mem_of_lookup e
  cases k with
  | «local» =>
   have nd := List.nodup_cons.mp S.nd
   rcases S.own _ hm rfl with q | q
   · have q' : z = x := q
     exact nd.1 (q' ▸ hz)
   · exact q hz
  | _ =>
   revert h
   simp
   try (split <;> simp)
theorem ok_comp1 (S : CompScope1 X.N M X.env.scope x sc) (I : Inv X pins σ H3 s3) (hf : ∀ b ∈ fp, FpOk X pins H3 b) (hl : ∀ b ∈ fp, b < s3.heap.objs.size) : (cxComp1 X M x sc fp s3 H3).Ok where
 mod := I.ok.mod
 kind := S.kind
 glob := I.ok.glob
 blt := I.ok.blt
 above := Nat.le_refl _
 inj := fun y z c h1 h2 => I.ok.inj y z c (S.sub I.ok h1) (S.sub I.ok h2)
 has := fun y h => clGo_has sc.names [] (.inr (S.isFree h))
 cab := fun y c h => by cases h
 hd := I.ok.hd
 frames := I.ok.frames
 stk := .inl rfl
 exf := fun b hb => ⟨Nat.ne_of_lt (hl b hb), fun y c e => (hf b hb).2.2.2.2.1 y c (S.sub I.ok e)⟩
 bs := I.bs
 bsz := Nat.le_trans I.ok.bsz I.sz
 noex := fun b o e hb => FpOk.nobase I.ok (hf b hb) e
 exfs := fun b hb hs => by
  rcases List.mem_cons.mp (I.stkSub b hs) with z | z
  · exact (hf b hb).2.1 z
  · exact (hf b hb).2.2.1 z
 funs := I.stack
 frf := I.stkFree
theorem inv_comp1 {h4 : Heap} {tk : Nat} (S : CompScope1 X.N M X.env.scope x sc) (I : Inv X pins σ H3 s3) (hf : ∀ b ∈ fp, FpOk X pins H3 b) (hl : ∀ b ∈ fp, b < s3.heap.objs.size)
  (hk : ∀ b o, s3.heap.get? b = some o -> h4.get? b = some o) {m : Str -> Option Value} (hn : h4.Ns s3.heap.objs.size m) :
  Inv (cxComp1 X M x sc fp s3 H3) [] (none :: σ) H3 { s3 with heap := h4, toks := tk } := by
 refine ⟨ok_comp1 S I hf hl, rfl, I.bare, Un.kept hk, ⟨m, hn, fun i z v h1 h2 h3 => ?_⟩, fun z c e => ?_, I.fresh, fun z c e => I.freeC z c (S.sub I.ok e), fun p hp => absurd (show p ∈ ([] : List (Addr × Obj)) from hp) (by simp), I.hok.kept hk, by show σ.length + 1 = M.length + 1; rw [I.len, S.len]⟩
 · match i, h1, h2 with
   | 0, h1, h2 => exact absurd (Option.some.inj h2) (by simp)
   | i + 1, h1, h2 =>
    have h1m : M[i]? = some z := h1
    have h2' : σ[i]? = some (some v) := h2
    have hyN : z ∈ M := List.mem_of_getElem? h1m
    have hfree : (z, NameKind.free) ∈ sc.names := by
     rcases h3 with h3 | h3 | h3
     · exact (S.noLocal hyN h3).elim
     · exact S.isFree (.inl h3)
     · exact S.isFree (.inr h3)
    have h1' : X.N[i]? = some z := by
     rcases S.hide i z h1m with q | q
     · exact q
     · exfalso
       obtain ⟨k, hk⟩ : ∃ k, sc.names.lookup z = some k := by
        cases e : sc.names.lookup z with
        | some k => exact ⟨k, rfl⟩
        | none =>
         rw [List.lookup_eq_none_iff] at e
         exact absurd (e _ hfree) (by simp)
       rw [hk] at q; cases q
    have hk0 := S.free _ hfree rfl
    obtain ⟨m0, hn0, hl0⟩ := I.loc
    obtain ⟨u, r, l⟩ := hl0 i z v h1' h2' (hk0.elim (fun q => .inr (.inl q)) (fun q => .inr (.inr q)))
    refine ⟨u, r, .inr ?_⟩
    have hv : (cxComp1 X M x sc fp s3 H3).env.kindOf z = some .cell \/ (cxComp1 X M x sc fp s3 H3).env.kindOf z = some .free := by
     rcases h3 with h3 | h3 | h3
     · exact (S.noLocal hyN h3).elim
     · exact .inl h3
     · exact .inr h3
    refine ⟨hv, ?_⟩
    obtain ⟨c, hc⟩ := clGo_has (env := X.env) (y := z) sc.names [] (.inr hfree)
    refine ⟨c, hc, ?_⟩
    have hc' := S.sub I.ok hc
    rcases l with ⟨hk1, _⟩ | ⟨_, c2, e2, z2⟩
    · exfalso
      have hk1' : X.env.scope.names.lookup z = some .local := hk1
      have hk0' : X.env.scope.names.lookup z = some .cell \/ X.env.scope.names.lookup z = some .free := hk0
      rw [hk1'] at hk0'
      rcases hk0' with q | q <;> cases q
    · rw [hc'] at e2; cases e2
      exact z2.keeps hk
 · obtain ⟨v, q⟩ := I.cell z c (S.sub I.ok e)
   exact ⟨v, q.keeps hk⟩
end
def tComp1 (wi : TI) (te : TE) : TE := fun σ H Q => wi σ H fun J H1 => ∀ p, H1 p = none ->
 ∃ W : Nat -> Nat -> List V -> Hp -> Prop, (∃ m, W 0 m [] (upd H1 p (.lst []))) /\ ∀ i m ys H, W i m ys H ->
  (J.stop i H /\ Q (.ref p) H) \/ (J.go i H /\ ∀ u H', J.yld i H u H' ->
   te (some u :: σ) H' fun v H3 => H3 p = some (.lst ys) /\ ys.length < sizeLine /\ ∃ m', m' < m /\ W (i + 1) m' (ys ++ [v]) (upd H3 p (.lst (ys ++ [v]))))
section
variable {X : Cx} {M : List Str} {x : Str} {sc : Scope} {px pos : Pos} {k : Nat} {elt iter : Expr} {wi : TI} {te : TE}
theorem Inv.back1 {fp : List Addr} {s3 s' : Shared} {H3 H' : Hp} {pins : List (Addr × Obj)} {σ σ' : St} {pl : List (Addr × Obj)} {h' : Heap} (I : Inv X pins σ H3 s3) (hf : ∀ b ∈ fp, FpOk X pins H3 b)
  (J : Inv (cxComp1 X M x sc fp s3 H3) pl σ' H' s') (hs : Heap.SameBut s3.heap.objs.size s'.heap h') : Inv X pins σ H' { s' with heap := h' } := by
 have I1 : Inv X pins σ H' s' := I.call' (ch := fp) J.os J.base J.hok J.bare fun b hb => ⟨(hf b hb).2.2.2.1, (hf b hb).2.1, (hf b hb).2.2.2.2.1, (hf b hb).2.2.2.2.2⟩
 refine I1.turned (t' := s'.toks) (it := s3.heap.objs.size) (fun b o hb e => (hs.2 b hb).trans e) J.free ?_ (.inr I.sz) ?_ ?_
 · exact Nat.ne_of_gt I.lt
 · intro y c e z
   obtain ⟨v, q⟩ := I.cell y c e
   exact absurd q.lt (by rw [z]; exact Nat.lt_irrefl _)
 · intro p hp z
   exact absurd (Heap.lt_size (I.pin p hp).1) (by rw [z]; exact Nat.lt_irrefl _)
theorem comp_core1 {pins : List (Addr × Obj)} {σ : St} {s2 : Shared} {H2 : Hp} {it : Addr} {fp : List Addr} {tn : Nat -> Heap -> Prop} {J : It} {Q : VK} {E : Value -> Shared -> Prop} {RR : Value -> Addr -> Result -> Shared -> Prop}
  (S : CompScope1 X.N M X.env.scope x sc) (hc : X.calm = true) (he : ∀ fp s3 H3, PE (cxComp1 X M x sc fp s3 H3) elt te)
  (I2 : Inv X pins σ H2 s2) (T : Turn X.prog X.w X.K (.Name x px) J fp it tn) (st2 : tn 0 s2.heap) (f2 : ∀ b ∈ fp, FpOk X pins H2 b)
  (h : ∀ p, H2 p = none -> ∃ W : Nat -> Nat -> List V -> Hp -> Prop, (∃ m, W 0 m [] (upd H2 p (.lst []))) /\ ∀ i m ys H, W i m ys H ->
   (J.stop i H /\ Q (.ref p) H) \/ (J.go i H /\ ∀ u H', J.yld i H u H' ->
    te (some u :: σ) H' fun v H3 => H3 p = some (.lst ys) /\ ys.length < sizeLine /\ ∃ m', m' < m /\ W (i + 1) m' (ys ++ [v]) (upd H3 p (.lst (ys ++ [v])))))
  (hRR : ∀ (s3 : Shared) (H3 : Hp) (s' : Shared) (σ' : St) (H' : Hp), Inv X pins σ H3 s3 -> (∀ b ∈ fp, FpOk X pins H3 b) -> Inv (cxComp1 X M x sc fp s3 H3) [] σ' H' s' -> Q (.ref s2.heap.objs.size) H' -> RR (.ref s2.heap.objs.size) s3.heap.objs.size (.ok .next) s') :
  wpAny (model X.prog X.w) X.A (newList []) (fun acc s₃ => wpAny (model X.prog X.w) X.A (newFunctionEnv sc X.env.globals (clOf sc X.env) [] X.env.qual none .none (some X.env)) (fun cenv s₄ =>
   codeAny (model X.prog X.w) X.A (.compStart (.ListComp elt [⟨(.Name x px), iter, [], 0⟩] sc pos) 0 (.ref it) acc { cenv with scope := relabel sc X.env }) (RR acc cenv.locals) s₄) E s₃) E s2 := by
 obtain ⟨W, ⟨m0, w0⟩, turn⟩ := h s2.heap.objs.size I2.fresh
 refine wpAny_newList ?_
 have I3 : Inv X pins σ (upd H2 s2.heap.objs.size (.lst [])) { s2 with heap := s2.heap.push { cls := .type "list", data := .seq ([] : List Value).toArray } } := I2.lnew (ys := []) (t' := s2.toks) .nil (Nat.zero_le _)
 have fpl : ∀ b ∈ fp, b < s2.heap.objs.size := fun b hb => by
  obtain ⟨o, e, _⟩ := T.obj _ _ st2 b hb
  exact Heap.lt_size e
 have f3 : ∀ b ∈ fp, FpOk X pins (upd H2 s2.heap.objs.size (.lst [])) b := fun b hb => ⟨by rw [upd_ne (Nat.ne_of_lt (fpl b hb))]; exact (f2 b hb).1, (f2 b hb).2⟩
 have st3 : tn 0 (s2.heap.push { cls := .type "list", data := .seq ([] : List Value).toArray }) := T.keep _ _ _ st2 fun b _ o e => Heap.get?_push_of_some _ e
 generalize hs3 : ({ s2 with heap := s2.heap.push { cls := .type "list", data := .seq ([] : List Value).toArray } } : Shared) = s3 at *
 have st3' : tn 0 s3.heap := by rw [← hs3]; exact st3
 have fpl3 : ∀ b ∈ fp, b < s3.heap.objs.size := fun b hb => by
  obtain ⟨o, e, _⟩ := T.obj _ _ st3' b hb
  exact Heap.lt_size e
 refine wpAny_newFunctionEnv S.nocell (by intro y hy; simp at hy) (fun h₁ hns₁ hsb₁ => ?_) S.kind
 have keep4 : ∀ b o, s3.heap.get? b = some o -> h₁.get? b = some o := fun b o e => (hsb₁.2 b (Nat.ne_of_lt (Heap.lt_size e))).trans (Heap.get?_push_of_some _ e)
 have I4 := inv_comp1 (fp := fp) (tk := s3.toks + ([] : List (Str × Value)).length) S I3 f3 fpl3 keep4 hns₁
 have st4 : tn 0 h₁ := T.keep _ _ _ st3' fun b _ o e => keep4 b o e
 generalize hs4 : ({ s3 with heap := h₁, toks := s3.toks + ([] : List (Str × Value)).length } : Shared) = s4 at *
 have st4' : tn 0 s4.heap := by rw [← hs4]; exact st4
 generalize hH3 : upd H2 s2.heap.objs.size (.lst []) = H3 at *
 have stat : ∀ {H' : Hp}, (∀ b ∈ fp, H' b = none) -> ∀ b ∈ fp, FpOk (cxComp1 X M x sc fp s3 H3) [] H' b := fun hn b hb =>
  ⟨hn b hb, Nat.ne_of_lt (fpl3 b hb), I4.ok.exfs b hb, .inl hb, fun y c e => (f3 b hb).2.2.2.2.1 y c (S.sub I3.ok e), fun p hp => absurd (show p ∈ ([] : List (Addr × Obj)) from hp) (by simp)⟩
 have loop : codeAny (model X.prog X.w) X.A (.compLoop (.ListComp elt [⟨(.Name x px), iter, [], 0⟩] sc pos) 0 (.ref it) (.ref s2.heap.objs.size) (cxComp1 X M x sc fp s3 H3).env) (RR (.ref s2.heap.objs.size) s3.heap.objs.size) s4 := by
  refine compLoop_any (fun n s' => ∃ i o ys H', Inv (cxComp1 X M x sc fp s3 H3) [] (o :: σ) H' s' /\ tn i s'.heap /\ (∀ b ∈ fp, H' b = none) /\ W i n ys H') ?_ m0 ⟨0, none, [], H3, I4, st4', fun b hb => (f3 b hb).1, w0⟩
  rintro n s5 ⟨i, o, ys, H5, I5, st5, fr5, w5⟩
  rcases turn i n ys H5 w5 with ⟨stop, q⟩ | ⟨go, step⟩
  · refine wpAny_mono (T.done (cxComp1 X M x sc fp s3 H3) rfl rfl rfl hc i [] s5 (o :: σ) H5 (fun _ _ => False) I5 (stat fr5) st5 stop) (fun r s6 ⟨hr, I6⟩ => ?_) fun _ _ z => z.elim
    subst hr
    exact hRR s3 H3 s6 _ H5 I3 f3 I6 q
  · refine wpAny_mono (T.item (cxComp1 X M x sc fp s3 H3) rfl rfl rfl hc i [] s5 (o :: σ) H5 (fun _ _ => False) I5 (stat fr5) st5 go) (fun r s6 ⟨u, hr, h6⟩ => ?_) fun _ _ z => z.elim
    subst hr
    refine wpAny_mono h6 (fun _ s6' ⟨tv, H6, I6, r6, y6, st6, fr6⟩ => ?_) fun _ _ z => z.elim
    have I6' := I6.pinned (stat fr6) (T.obj _ _ st6)
    have hx : (relabel sc X.env).names.lookup x = some .local := lookup_relabel_local S.here
    have nd' : (cxComp1 X M x sc fp s3 H3).N.Nodup := S.nd
    have q6 := step tv H6 y6
    refine wpAny_mono (pg_name (X := cxComp1 X M x sc fp s3 H3) (i := 0) (pos := px) nd' rfl (.inl hx) (.inr hx) _ s6' (o :: σ) H6 tv u (fun σ' H' => σ' = some tv :: σ /\ H' = H6) I6' r6 ⟨rfl, rfl⟩) (fun _ s7 ⟨σ7, H7, I7, e7, e7'⟩ => ?_) fun _ _ z => z.elim
    subst e7 e7'
    have again : ∀ {H' : Hp} {s' : Shared} {ys' : List V}, Inv (cxComp1 X M x sc fp s3 H3) ([] ++ pinsAt fp s6'.heap) (some tv :: σ) H' s' -> (∃ m', m' < n /\ W (i + 1) m' ys' H') ->
      ∃ m, m < n /\ ∃ i o ys H', Inv (cxComp1 X M x sc fp s3 H3) [] (o :: σ) H' s' /\ tn i s'.heap /\ (∀ b ∈ fp, H' b = none) /\ W i m ys H' := fun {H' s' ys'} I' ⟨m', hm, w'⟩ => by
     refine ⟨m', hm, i + 1, some tv, ys', H', I'.unpinned, T.keep _ _ _ st6 fun b hb ob e => (I'.pin (b, ob) (List.mem_append_right _ (List.mem_append_right _ (mem_pinsAt hb e)))).1, fun b hb => ?_, w'⟩
     obtain ⟨ob, e, d⟩ := T.obj _ _ st6 b hb
     exact (I'.pin (b, ob) (List.mem_append_right _ (List.mem_append_right _ (mem_pinsAt hb e)))).2.1
    refine wpAny_mono (he fp s3 H3 _ s7 _ H7 _ I7 q6) (fun v s9 ⟨yy, H9, I9, r9, hp, hz, q9⟩ => ?_) fun _ _ z => z.elim
    refine wpAny_mono (mt_append (X := cxComp1 X M x sc fp s3 H3) _ s9 _ H9 (.ref s2.heap.objs.size) [yy] (.ref s2.heap.objs.size) [v] (fun _ H' => H' = upd H9 s2.heap.objs.size (.lst (ys ++ [yy]))) I9 rfl (.cons r9 .nil) ⟨_, ys, yy, rfl, rfl, hp, hz, rfl⟩) (fun _ s10 ⟨_, H10, I10, _, e10⟩ => ?_) fun _ _ z => z.elim
    subst e10
    exact again I10 q9
 exact codeAny_compStart_list loop (T.self _ 0 _ _ _ st4' loop)
theorem pe_comp1 (S : CompScope1 X.N M X.env.scope x sc) (hc : X.calm = true) (hi : PI X (.Name x px) iter wi) (he : ∀ fp s3 H3, PE (cxComp1 X M x sc fp s3 H3) elt te)
  (hs : ∀ x, foldedSetIterable iter X.env x = pure x := by intro _; rfl) : PE X (.ListComp elt [⟨(.Name x px), iter, [], 0⟩] sc pos) (tComp1 wi te) := by
 intro pins s σ H Q I h
 rw [eval_ListComp]
 refine wpAny_comprehension_free (use := none) (cl := clOf sc X.env) rfl hs (closure_is (S.cells I.ok)) S.kind S.names (thn (hi pins s σ H _ I h) fun v s1 h1 => thn h1 fun itv s2 h2 => ?_)
 obtain ⟨it, fp, tn, J, H2, e, I2, T, st2, f2, q2⟩ := h2
 subst e
 refine comp_core1 (RR := fun acc C => compPost (model X.prog X.w) X.A X.xe none (EP X pins σ Q) acc C) (Q := Q) S hc he I2 T st2 f2 q2 ?_
 intro s3 H3 s' σ' H' I3 f3 J' q'
 obtain ⟨m, hn, _⟩ := J'.loc
 exact ⟨m, hn, fun h' hs' => ⟨.ref s2.heap.objs.size, H', I3.back1 f3 J' hs', rfl, q'⟩⟩
end
def compCheck1 (N M : List Str) (osc : Scope) (x : Str) (sc : Scope) : Bool :=
 (match sc.kind with | .function => true | _ => false) && sc.names.all (fun y => match y.2 with | .cell => false | _ => true)
 && sc.names.all (fun y => match y.2 with | .local => (match sc.names.lookup y.1 with | some .local => true | _ => false) | _ => true)
 && (match sc.names.lookup x with | some .local => true | _ => false) && M.all (fun y => !(y == x))
 && sc.names.all (fun y => match y.2 with | .free => (match osc.names.lookup y.1 with | some .cell => true | some .free => true | _ => false) | _ => true)
 && sc.names.all (fun y => match y.2 with | .local => (y.1 == x || (M.all (fun z => !(z == y.1))))| _ => true)
 && decide (M.length = N.length) && (List.range M.length).all (fun i => match M[i]?, N[i]? with | some a, some b => a == b || (match sc.names.lookup a with | none => true | _ => false) | _, _ => false)
theorem CompScope1.of {N M : List Str} {osc : Scope} {x : Str} {sc : Scope} (hN : M.Nodup) (h : compCheck1 N M osc x sc = true) : CompScope1 N M osc x sc := by
 unfold compCheck1 at h
 simp only [Bool.and_eq_true, List.all_eq_true, decide_eq_true_eq] at h
 obtain ⟨⟨⟨⟨⟨⟨⟨⟨h1, h2⟩, h3⟩, h4⟩, h5⟩, h6⟩, h7⟩, h8⟩, h9⟩ := h
 refine ⟨?_, fun y hy e => ?_, fun y hy e => ?_, ?_, List.nodup_cons.mpr ⟨fun hx => by have := h5 x hx; simp at this, hN⟩, h8, fun i z hz => ?_, fun y hy e => ?_, fun y hy e => ?_⟩
 · revert h1; cases sc.kind <;> simp
 · have := h2 y hy; rw [e] at this; exact absurd this (by simp)
 · have := h3 y hy; rw [e] at this
   revert this
   cases sc.names.lookup y.1 with
   | none => simp
   | some k => cases k <;> simp
 · revert h4
   cases sc.names.lookup x with
   | none => simp
   | some k => cases k <;> simp
 · have hl := (List.getElem?_eq_some_iff.mp hz).1
   have q := h9 i (List.mem_range.mpr hl)
   have hl' : i < N.length := by rw [← h8]; exact hl
   rw [hz, List.getElem?_eq_getElem hl'] at q
   rw [List.getElem?_eq_getElem hl']
   simp only [Bool.or_eq_true, beq_iff_eq] at q
   rcases q with q | q
   · exact .inl (by rw [q])
   · refine .inr ?_
     revert q
     cases sc.names.lookup z with
     | none => simp
     | some k => simp
 · have := h6 y hy; rw [e] at this
   revert this
   cases osc.names.lookup y.1 with
   | none => simp
   | some k => cases k <;> simp
 · have := h7 y hy; rw [e] at this
   simp only [Bool.or_eq_true, List.all_eq_true] at this
   rcases this with z | z
   · exact .inl (by simpa using z)
   · refine .inr fun q => ?_
     have := z _ q
     simp at this
theorem comp_range1 {lo : Int} {n : Nat} {p : Addr} {te : TE} {σ : St} {H : Hp} {Z : Hp -> Prop} (Pv : Nat -> List V -> Hp -> Prop) (h0 : Pv 0 [] (upd H p (.lst [])))
  (hs : ∀ i ys H, i < n -> Pv i ys H -> te (some (.int (lo + i)) :: σ) H fun v H3 => H3 p = some (.lst ys) /\ ys.length < sizeLine /\ ∃ m', m' < n - i /\ m' = n - (i + 1) /\ i + 1 <= n /\ Pv (i + 1) (ys ++ [v]) (upd H3 p (.lst (ys ++ [v]))))
  (hd : ∀ ys H, Pv n ys H -> Z H) :
  ∃ W : Nat -> Nat -> List V -> Hp -> Prop, (∃ m, W 0 m [] (upd H p (.lst []))) /\ ∀ i m ys H, W i m ys H ->
   ((Itr lo n).stop i H /\ Z H) \/ ((Itr lo n).go i H /\ ∀ u H', (Itr lo n).yld i H u H' ->
     te (some u :: σ) H' fun v H3 => H3 p = some (.lst ys) /\ ys.length < sizeLine /\ ∃ m', m' < m /\ W (i + 1) m' (ys ++ [v]) (upd H3 p (.lst (ys ++ [v])))) := by
 refine ⟨fun i m ys H => m = n - i /\ i <= n /\ Pv i ys H, ⟨n, by simp, Nat.zero_le _, h0⟩, ?_⟩
 rintro i m ys H ⟨rfl, hi, pv⟩
 by_cases hlt : i < n
 · refine .inr ⟨hlt, fun x H' y => ?_⟩
   obtain ⟨e, y⟩ := y
   subst e y
   exact hs i ys _ hlt pv
 · have e : i = n := by omega
   subst e
   exact .inl ⟨Nat.le_refl _, hd ys H pv⟩
theorem comp_enumN {K : PySem.W.Frag} {a p : Addr} {xs : List V} {te : TE} {σ : St} {H : Hp} {Z : Hp -> Prop} (Pv : Nat -> List V -> Hp -> Prop) (h0 : Pv 0 [] (upd H p (.lst []))) (hl : ∀ i ys H, i <= xs.length -> Pv i ys H -> SqL K H a xs)
  (hs : ∀ i x ys H H', xs[i]? = some x -> Pv i ys H -> Same H H' -> te (some (.int i) :: some x :: σ) H' fun v H3 => H3 p = some (.lst ys) /\ ys.length < sizeLine /\ ∃ m', m' < xs.length - i /\ m' = xs.length - (i + 1) /\ i + 1 <= xs.length /\ Pv (i + 1) (ys ++ [v]) (upd H3 p (.lst (ys ++ [v]))))
  (hd : ∀ ys H, Pv xs.length ys H -> Z H) :
  ∃ W : Nat -> Nat -> List V -> Hp -> Prop, (∃ m, W 0 m [] (upd H p (.lst []))) /\ ∀ i m ys H, W i m ys H ->
   ((Itn K a).stop i H /\ Z H) \/ ((Itn K a).go i H /\ ∀ u H', (Itn K a).yld i H u H' -> ∃ T x y, u = .ref T /\ SqT K H' T [x, y] /\
     te (some x :: some y :: σ) H' fun v H3 => H3 p = some (.lst ys) /\ ys.length < sizeLine /\ ∃ m', m' < m /\ W (i + 1) m' (ys ++ [v]) (upd H3 p (.lst (ys ++ [v])))) := by
 refine ⟨fun i m ys H => m = xs.length - i /\ i <= xs.length /\ Pv i ys H, ⟨xs.length, by simp, Nat.zero_le _, h0⟩, ?_⟩
 rintro i m ys H ⟨rfl, hi, pv⟩
 have q := hl i ys H hi pv
 by_cases hlt : i < xs.length
 · refine .inr ⟨⟨xs, xs[i], q, by simp [hlt]⟩, fun u H' y => ?_⟩
   obtain ⟨T, x, rfl, hT, rfl, y⟩ := y
   exact ⟨T, .int i, x, rfl, SqT.of upd_same, hs i x ys H _ (y xs q) pv (same_new hT _)⟩
 · have e : i = xs.length := by omega
   subst e
   exact .inl ⟨⟨xs, q, Nat.le_refl _⟩, hd ys H pv⟩
theorem comp_zipN {K : PySem.W.Frag} {a b p : Addr} {xs zs : List V} {te : TE} {σ : St} {H : Hp} {Z : Hp -> Prop} (hlz : xs.length = zs.length) (Pv : Nat -> List V -> Hp -> Prop) (h0 : Pv 0 [] (upd H p (.lst []))) (hl : ∀ i ys H, i <= xs.length -> Pv i ys H -> SqL K H a xs /\ SqL K H b zs)
  (hs : ∀ i x z ys H H', xs[i]? = some x -> zs[i]? = some z -> Pv i ys H -> Same H H' -> te (some x :: some z :: σ) H' fun v H3 => H3 p = some (.lst ys) /\ ys.length < sizeLine /\ ∃ m', m' < xs.length - i /\ m' = xs.length - (i + 1) /\ i + 1 <= xs.length /\ Pv (i + 1) (ys ++ [v]) (upd H3 p (.lst (ys ++ [v]))))
  (hd : ∀ ys H, Pv xs.length ys H -> Z H) :
  ∃ W : Nat -> Nat -> List V -> Hp -> Prop, (∃ m, W 0 m [] (upd H p (.lst []))) /\ ∀ i m ys H, W i m ys H ->
   ((Itz K a b).stop i H /\ Z H) \/ ((Itz K a b).go i H /\ ∀ u H', (Itz K a b).yld i H u H' -> ∃ T x y, u = .ref T /\ SqT K H' T [x, y] /\
     te (some x :: some y :: σ) H' fun v H3 => H3 p = some (.lst ys) /\ ys.length < sizeLine /\ ∃ m', m' < m /\ W (i + 1) m' (ys ++ [v]) (upd H3 p (.lst (ys ++ [v])))) := by
 refine ⟨fun i m ys H => m = xs.length - i /\ i <= xs.length /\ Pv i ys H, ⟨xs.length, by simp, Nat.zero_le _, h0⟩, ?_⟩
 rintro i m ys H ⟨rfl, hi, pv⟩
 obtain ⟨qa, qb⟩ := hl i ys H hi pv
 by_cases hlt : i < xs.length
 · have hlt' : i < zs.length := by omega
   refine .inr ⟨⟨xs, zs, xs[i], zs[i], qa, qb, by simp [hlt], by simp [hlt']⟩, fun u H' y => ?_⟩
   obtain ⟨T, x, z, rfl, hT, rfl, yx, yz⟩ := y
   exact ⟨T, x, z, rfl, SqT.of upd_same, hs i x z ys H _ (yx xs qa) (yz zs qb) pv (same_new hT _)⟩
 · have e : i = xs.length := by omega
   subst e
   exact .inl ⟨⟨xs, zs, qa, qb, .inl (Nat.le_refl _)⟩, hd ys H pv⟩
theorem pi_enumK {X : Cx} {K : PySem.W.Frag} {elts : List Expr} {k : Nat} {tp : Pos} {a : Expr} {ta : TA} {p pos : Pos} (h : X.K = K) (hg : Gl X "enumerate") (hm : X.mg "enumerate" = none) (ha : PA X [a] ta) (hs : starEach [a] X.env = [(false, eval a X.env)] := by rfl) :
  PI X (.Tuple elts k tp) (.Call (.Name "enumerate" p) [a] [] pos) (iEnum K ta) := by subst h; exact pi_enum hg hm ha hs
theorem pi_zipK {X : Cx} {K : PySem.W.Frag} {elts : List Expr} {k : Nat} {tp : Pos} {a b : Expr} {ta : TA} {p pos : Pos} (h : X.K = K) (hg : Gl X "zip") (hm : X.mg "zip" = none) (ha : PA X [a, b] ta) (hs : starEach [a, b] X.env = [(false, eval a X.env), (false, eval b X.env)] := by rfl)
  (hs2 : starEach [b] X.env = [(false, eval b X.env)] := by rfl) : PI X (.Tuple elts k tp) (.Call (.Name "zip" p) [a, b] [] pos) (iZip K ta) := by subst h; exact pi_zip hg hm ha hs hs2
theorem pg_pairK {X : Cx} {K : PySem.W.Frag} {x y : Str} {i j k : Nat} {p q pos : Pos} (h : X.K = K) (hc : X.calm = true) (h1 : PG X (.Name x p) (gName i)) (h2 : PG X (.Name y q) (gName j)) : PG X (.Tuple [.Name x p, .Name y q] k pos) (gPair K i j) := by subst h; exact pg_pair hc h1 h2
theorem pe_comp2K {X : Cx} {K : PySem.W.Frag} {M : List Str} {x y : Str} {sc : Scope} {px py tp pos : Pos} {k : Nat} {elt iter : Expr} {wi : TI} {te : TE} (h : X.K = K) (S : CompScope2 X.N M X.env.scope x y sc) (hc : X.calm = true) (hi : PI X (.Tuple [.Name x px, .Name y py] k tp) iter wi)
  (he : ∀ fp s3 H3, PE (cxComp2 X M x y sc fp s3 H3) elt te) (hs : ∀ x, foldedSetIterable iter X.env x = pure x := by intro _; rfl) : PE X (.ListComp elt [⟨.Tuple [.Name x px, .Name y py] k tp, iter, [], 0⟩] sc pos) (tComp2 K wi te) := by subst h; exact pe_comp2 S hc hi he hs
end L2
set_option Elab.async false
set_option linter.all false
set_option maxRecDepth 100000
set_option maxHeartbeats 4000000
namespace L2
open PySem PySem.Spec PyProof.Rows
def flipI (f : Int) : Int := if f % 2 = 0 then f + 1 else f - 1
def worthI (ns : List Int) (f : Int) : Int := if f % 2 = 0 then ns.getD (f / 2).toNat 0 else -(ns.getD (f / 2).toNat 0)
def hashI (k seed : Int) : Int := (seed * 48271 % 65537) * (seed * 48271 % 65537 + 2 * k + 1) / 7 % 65521
def cellI (ns : List Int) (k : Int) : Int :=
 if k < ns.length then ns.getD k.toNat 0 else hashI k (if 0 < ns.length then k * 7919 + ns.getD (k % ns.length).toNat 0 % 65537 else k * 7919)
theorem flipI_eq (f : Int) : f + 1 - f % 2 * 2 = flipI f := by unfold flipI; split <;> omega
theorem worthI_flip (ns : List Int) {f : Int} : worthI ns (flipI f) = -worthI ns f := by
 unfold worthI flipI
 by_cases h : f % 2 = 0
 · have e : (f + 1) / 2 = f / 2 := by omega
   rw [if_pos h, if_neg (by omega), if_pos h, e]
 · have e : (f - 1) / 2 = f / 2 := by omega
   rw [if_neg h, if_pos (by omega), if_neg h, e, Int.neg_neg]
theorem worthI_eq (ns : List Int) (f : Int) : ns.getD (f / 2).toNat 0 * (1 - f % 2 * 2) = worthI ns f := by
 unfold worthI
 by_cases h : f % 2 = 0
 · rw [if_pos h, h]; simp
 · have e : f % 2 = 1 := by omega
   rw [if_neg h, e]; omega
structure Bl (mg : Str -> Option Value) : Prop where
 len : mg "len" = none
 isinstance : mg "isinstance" = none
 int : mg "int" = none
 bool : mg "bool" = none
 tuple : mg "tuple" = none
 range : mg "range" = none
 list : mg "list" = none
 sum : mg "sum" = none
 str : mg "str" = none
 enumerate : mg "enumerate" = none
 zip : mg "zip" = none
 min : mg "min" = none
 max : mg "max" = none
def sp_flipped (K : PySem.W.Frag) : Sp := fun vs H Q _ => ∃ f, vs = [.int f] /\ Q (.int (flipI f)) H
abbrev sp__law_flip := sp_flipped
def sp_worth (K : PySem.W.Frag) : Sp := fun vs H Q _ => ∃ (a : Addr) (ns : List Int) (f : Int), vs = [.ref a, .int f] /\ SqT K H a (ns.map V.int) /\ 0 <= f /\ f < 2 * ns.length /\ Q (.int (worthI ns f)) H
abbrev sp__law_worth := sp_worth
def sp__law_cell (K : PySem.W.Frag) : Sp := fun vs H Q _ => ∃ (a : Addr) (ns : List Int) (k : Int), vs = [.ref a, .int k] /\ SqL K H a (ns.map V.int) /\ 0 <= k /\ Q (.int (cellI ns k)) H
def sp__law_whole (K : PySem.W.Frag) : Sp := fun vs H Q _ => ∃ i, vs = [.int i] /\ Q (.bl true) H
def sp_law (K : PySem.W.Frag) : Sp := fun vs H Q _ => ∃ (a : Addr) (ns : List Int), vs = [.ref a] /\ SqL K H a (ns.map V.int) /\ ns.length <= 63 /\ ∀ H', Q (.bl true) H'
def cellAt (K : PySem.W.Frag) (a : Addr) (ns : List Int) : Sp := fun vs H Q _ => ∃ k, vs = [.ref a, .int k] /\ 0 <= k /\ SqL K H a (ns.map V.int) /\ Q (.int (cellI ns k)) H
theorem cellAt_of {K : PySem.W.Frag} {a : Addr} {ns : List Int} : ∀ vs H Q E, cellAt K a ns vs H Q E -> sp__law_cell K vs H Q E := fun vs H Q E ⟨k, e, h0, hS, q⟩ => ⟨a, ns, k, e, hS, h0, q⟩
abbrev Tb := Oct.Tb
abbrev Sdn := Oct.Sdn
def sideV (s : Sdn) : List V := [.int (s.1 : Nat), .int (s.2.1 : Nat), .int s.2.2]
def SideAt (H : Hp) (v : V) (s : Sdn) : Prop := ∃ a, v = .ref a /\ H a = some (.tup (sideV s))
theorem SideAt.same {H H' : Hp} (e : Same H H') {v : V} {s : Sdn} (h : SideAt H v s) : SideAt H' v s := let ⟨a, h1, h2⟩ := h; ⟨a, h1, e _ _ h2⟩
theorem SideAt.put {H : Hp} {p : Addr} {zs ws : List V} (hp : H p = some (.lst zs)) {v : V} {s : Sdn} (h : SideAt H v s) : SideAt (upd H p (.lst ws)) v s := let ⟨a, h1, h2⟩ := h; ⟨a, h1, by rw [upd_ne (ne_of h2 hp (by intro z; cases z))]; exact h2⟩
theorem sides_same {H H' : Hp} (e : Same H H') {xs : List V} {ss : List Sdn} (h : Paired (SideAt H) xs ss) : Paired (SideAt H') xs ss := Paired.mapP h fun _ _ z => z.same e
theorem sides_put {H : Hp} {p : Addr} {zs ws : List V} (hp : H p = some (.lst zs)) {xs : List V} {ss : List Sdn} (h : Paired (SideAt H) xs ss) : Paired (SideAt (upd H p (.lst ws))) xs ss := Paired.mapP h fun _ _ z => z.put hp
theorem paired_snoc {α β : Type} {R : α -> β -> Prop} {a : α} {b : β} : ∀ {xs : List α} {ys : List β}, Paired R xs ys -> R a b -> Paired R (xs ++ [a]) (ys ++ [b])
 | _, _, .nil, r => .cons r .nil
 | _, _, .cons q t, r => .cons q (paired_snoc t r)
theorem same_over {H H' : Hp} {p : Addr} {o : HO} (h : H p = none) (s : Same H H') : Same H (upd H' p o) := fun b u q => by
 rw [upd_ne (ne_of_none q h)]; exact s b u q
structure TabNew (H H' : Hp) (p : Addr) (bs : List Addr) (t : Tbl) : Prop where
 tab : TabAt H' p bs t
 newT : H p = none
 newL : ∀ b ∈ bs, H b = none
theorem TabNew.of {H H1 H' : Hp} {p : Addr} {bs : List Addr} {t : Tbl} (s : Same H H1) (T : TabNew H1 H' p bs t) : TabNew H H' p bs t := ⟨T.tab, s.free T.newT, fun b hb => s.free (T.newL b hb)⟩
def ShapeAt (H : Hp) (v : V) (N : Nat) : Option Tb -> Prop
 | none => v = .non
 | some c => ∃ a bs, v = .ref a /\ TabAt H a bs (Oct.toT N c)
def ShapeNew (H H' : Hp) (v : V) (N : Nat) : Option Tb -> Prop
 | none => v = .non
 | some c => ∃ a bs, v = .ref a /\ TabNew H H' a bs (Oct.toT N c)
theorem ShapeNew.at {H H' : Hp} {v : V} {N : Nat} : ∀ {o : Option Tb}, ShapeNew H H' v N o -> ShapeAt H' v N o
 | none, h => h
 | some _, ⟨a, bs, e, T⟩ => ⟨a, bs, e, T.tab⟩
theorem ShapeNew.of {H H1 H' : Hp} (s : Same H H1) {v : V} {N : Nat} : ∀ {o : Option Tb}, ShapeNew H1 H' v N o -> ShapeNew H H' v N o
 | none, h => h
 | some _, ⟨a, bs, e, T⟩ => ⟨a, bs, e, T.of s⟩
theorem ShapeAt.same {H H' : Hp} (s : Same H H') {v : V} {N : Nat} : ∀ {o : Option Tb}, ShapeAt H v N o -> ShapeAt H' v N o
 | none, h => h
 | some _, ⟨a, bs, e, T⟩ => ⟨a, bs, e, T.same s⟩
theorem flip_nat (f : Nat) : flipI (f : Int) = ((Oct.fl f : Nat) : Int) := by unfold flipI Oct.fl; split <;> split <;> omega
theorem mod_nat (c : Int) {n : Nat} (h : 1 <= n) : ∃ f : Nat, c % (2 * (n : Int)) = (f : Int) /\ f < 2 * n :=
 ⟨(c % (2 * (n : Int))).toNat, by have := Int.emod_nonneg c (b := 2 * (n : Int)) (by omega); omega, by have := Int.emod_nonneg c (b := 2 * (n : Int)) (by omega); have := Int.emod_lt_of_pos c (b := 2 * (n : Int)) (by omega); omega⟩
def wN (xs : List Int) : Nat -> Int := fun f => worthI xs (f : Int)
theorem wN_pt (xs : List Int) (N : Nat) : Oct.Pt (wN xs) N := fun f _ => by unfold wN; rw [← flip_nat]; exact worthI_flip xs
theorem TabAt.rd {H : Hp} {a : Addr} {bs : List Addr} {N f : Nat} {c : Tb} (T : TabAt H a bs (Oct.toT N c)) (h : f < N) : ∃ b, bs[f]? = some b /\ H b = some (.lst ((Oct.ln N (c f)).map eV)) /\ atI (bs.map V.ref) (f : Int) = some (.ref b) := T.line (Oct.rows_get h)
theorem ln_at {N g : Nat} {r : Nat -> Ent} (h : g < N) : atI ((Oct.ln N r).map eV) (g : Int) = some (eV (r g)) := at_line (Oct.ln_get h)
theorem TabAt.lenN {H : Hp} {a : Addr} {bs : List Addr} {i N : Nat} {c : Tb} (T : TabAt H a bs (Oct.rows i N c)) : bs.length = i := by rw [T.len, Oct.rows_len]
theorem TabAt.store {H : Hp} {a b : Addr} {bs : List Addr} {N f : Nat} {c : Tb} {r : Nat -> Ent} (T : TabAt H a bs (Oct.toT N c)) (eb : bs[f]? = some b) : TabAt (upd H b (.lst ((Oct.ln N r).map eV))) a bs (Oct.toT N fun x => if x = f then r else c x) := by
 have := T.put (r' := Oct.ln N r) eb
 rwa [Oct.toT, Oct.rows_set] at this
theorem TabAt.stepL {H : Hp} {a : Addr} {bs : List Addr} {i : Nat} {x : V} {t : Tbl} (T : TabAt H a bs t) (hx : (bs.map V.ref)[i]? = some x) : ∃ b r, x = .ref b /\ bs[i]? = some b /\ t[i]? = some r /\ H b = some (.lst (r.map eV)) := by
 rw [List.getElem?_map] at hx
 cases e : bs[i]? with
 | none => rw [e] at hx; cases hx
 | some b =>
  rw [e] at hx
  obtain ⟨r, er, hb⟩ := paired_get' T.lines e
  exact ⟨b, r, (Option.some.inj hx).symm, rfl, er, hb⟩
theorem TabAt.rowN {H : Hp} {a : Addr} {bs : List Addr} {i N : Nat} {c : Tb} {x : V} (T : TabAt H a bs (Oct.toT N c)) (hx : (bs.map V.ref)[i]? = some x) : i < N /\ ∃ b, x = .ref b /\ bs[i]? = some b /\ H b = some (.lst ((Oct.ln N (c i)).map eV)) := by
 obtain ⟨b, r, e1, e2, e3, e4⟩ := T.stepL hx
 have hi : i < N := by have := (List.getElem?_eq_some_iff.mp e3).1; rwa [Oct.rows_len] at this
 rw [Oct.rows_get hi] at e3
 cases e3
 exact ⟨hi, b, e1, e2, e4⟩
theorem ln_item {N i : Nat} {r : Nat -> Ent} {x : V} (hx : ((Oct.ln N r).map eV)[i]? = some x) : i < N /\ x = eV (r i) := by
 rw [List.getElem?_map] at hx
 by_cases hi : i < N
 · rw [Oct.ln_get hi] at hx
   exact ⟨hi, (Option.some.inj hx).symm⟩
 · rw [List.getElem?_eq_none (by rw [Oct.ln_len]; omega)] at hx; cases hx
theorem ln_lenV (N : Nat) (r : Nat -> Ent) : ((Oct.ln N r).map eV).length = N := by rw [List.length_map, Oct.ln_len]
theorem ln_snocV (N : Nat) (r : Nat -> Ent) : (Oct.ln N r).map eV ++ [eV (r N)] = (Oct.ln (N + 1) r).map eV := by rw [Oct.ln_succ, List.map_append]; rfl
theorem lowL_snoc (s : Sdn) : ∀ (ss : List Sdn) (c : Tb), Oct.lowL c (ss ++ [s]) = Oct.low1 (Oct.lowL c ss) s.1 s.2.1 s.2.2
 | [], _ => rfl
 | t :: r, c => lowL_snoc s r _
theorem links_snoc (h : Nat) : ∀ (hs : List Nat) (c : Tb), Oct.links c (hs ++ [h]) = Oct.lnk (Oct.links c hs) h
 | [], _ => rfl
 | t :: r, c => links_snoc h r _
theorem hsOf_succ (N : Nat) : Oct.hsOf (N + 1) = Oct.hsOf N ++ [Oct.fl N] := by simp [Oct.hsOf, List.range_succ]
def belowE (e : Ent) (z : Int) : Bool := match e with
 | some x => decide (x < z)
 | none => false
def sp_below (K : PySem.W.Frag) : Sp := fun vs H Q _ => ∃ (e : Ent) (z : Int), vs = [eV e, .int z] /\ Q (.bl (belowE e z)) H
def sp_lesser (K : PySem.W.Frag) : Sp := fun vs H Q _ => ∃ a b : Ent, vs = [eV a, eV b] /\ Q (eV (Oct.minE a b)) H
def sp_summed (K : PySem.W.Frag) : Sp := fun vs H Q _ => ∃ a b : Ent, vs = [eV a, eV b] /\ Q (eV (Oct.addE a b)) H
def sp_half (K : PySem.W.Frag) : Sp := fun vs H Q _ => ∃ a : Ent, vs = [eV a] /\ Q (eV (Oct.hlf a)) H
def sp_wide_row (K : PySem.W.Frag) : Sp := fun vs H Q _ => ∃ f N : Nat, vs = [.int f, .int N] /\ N <= 1000 /\ ∀ p H', H p = none -> Same H H' -> H' p = some (.lst ((Oct.ln N (Oct.wideT f)).map eV)) -> Q (.ref p) H'
def sp_wide (K : PySem.W.Frag) : Sp := fun vs H Q _ => ∃ n : Nat, vs = [.int n] /\ n <= 100 /\ ∀ p bs H', Same H H' -> TabNew H H' p bs (Oct.toT (2 * n) Oct.wideT) -> Q (.ref p) H'
def sp_linked_row (K : PySem.W.Frag) : Sp := fun vs H Q _ => ∃ (a : Addr) (e : Ent) (b : Addr) (N : Nat) (r o : Nat -> Ent), vs = [.ref a, eV e, .ref b] /\ SqL K H a ((Oct.ln N r).map eV) /\ SqL K H b ((Oct.ln N o).map eV) /\ N <= 1000 /\
 ∀ p H', H p = none -> Same H H' -> H' p = some (.lst ((Oct.ln N fun g => Oct.minE (r g) (Oct.addE e (o g))).map eV)) -> Q (.ref p) H'
abbrev sp_row_within_halves := sp_linked_row
def sp_linked_through (K : PySem.W.Frag) : Sp := fun vs H Q _ => ∃ (a : Addr) (bs : List Addr) (N : Nat) (c : Tb) (m : Nat), vs = [.ref a, .int m] /\ TabAt H a bs (Oct.toT N c) /\ N <= 1000 /\ m < N /\ Oct.fl m < N /\
 ∀ p bs' H', Same H H' -> TabNew H H' p bs' (Oct.toT N (Oct.lnk c (Oct.fl m))) -> Q (.ref p) H'
def sp_linked_through_all (K : PySem.W.Frag) : Sp := fun vs H Q _ => ∃ (a : Addr) (bs : List Addr) (n : Nat) (c : Tb), vs = [.ref a] /\ TabAt H a bs (Oct.toT (2 * n) c) /\ n <= 100 /\
 ∀ p bs' H', Same H H' -> TabAt H' p bs' (Oct.toT (2 * n) (Oct.links c (Oct.hsOf (2 * n)))) -> Q (.ref p) H'
def sp_tightened (K : PySem.W.Frag) : Sp := fun vs H Q _ => ∃ (a : Addr) (bs : List Addr) (n : Nat) (c : Tb), vs = [.ref a] /\ TabAt H a bs (Oct.toT (2 * n) c) /\ n <= 100 /\ (∀ f, f < 2 * n -> Oct.leE (c f (Oct.fl f)) (some 0)) /\
 ∀ v H', Same H H' -> ShapeNew H H' v (2 * n) (Oct.shapeO (2 * n) c) -> Q v H'
def sp_lowered (K : PySem.W.Frag) : Sp := fun vs H Q _ => ∃ (a b : Addr) (bs : List Addr) (n : Nat) (c : Tb) (ys : List V) (ss : List Sdn), vs = [.ref a, .ref b] /\ TabAt H a bs (Oct.toT (2 * n) c) /\ SqL K H b ys /\ Paired (SideAt H) ys ss /\ (∀ s ∈ ss, s.1 < 2 * n /\ s.2.1 < 2 * n) /\ n <= 100 /\
 ∀ p bs' H', Same H H' -> TabNew H H' p bs' (Oct.toT (2 * n) (Oct.lowL c ss)) -> Q (.ref p) H'
def heldO (N : Nat) (o : Option Tb) (ss : List Sdn) : Option Tb := o.bind fun c => Oct.shapeO N (Oct.lowL c ss)
def DiagO (N : Nat) : Option Tb -> Prop
 | none => True
 | some c => ∀ f, f < N -> Oct.leE (c f (Oct.fl f)) (some 0)
def sp_held_by_all (K : PySem.W.Frag) : Sp := fun vs H Q _ => ∃ (v : V) (b : Addr) (n : Nat) (o : Option Tb) (ys : List V) (ss : List Sdn), vs = [v, .ref b] /\ ShapeAt H v (2 * n) o /\ DiagO (2 * n) o /\ SqL K H b ys /\ Paired (SideAt H) ys ss /\ (∀ s ∈ ss, s.1 < 2 * n /\ s.2.1 < 2 * n) /\ n <= 100 /\
 ∀ u H', Same H H' -> ShapeNew H H' u (2 * n) (heldO (2 * n) o ss) -> Q u H'
def sp_held (K : PySem.W.Frag) : Sp := fun vs H Q _ => ∃ (v w : V) (n : Nat) (o : Option Tb) (s : Sdn), vs = [v, w] /\ ShapeAt H v (2 * n) o /\ DiagO (2 * n) o /\ SideAt H w s /\ s.1 < 2 * n /\ s.2.1 < 2 * n /\ n <= 100 /\
 ∀ u H', Same H H' -> ShapeNew H H' u (2 * n) (heldO (2 * n) o [s]) -> Q u H'
def closedO (n : Nat) (ss : List Sdn) : Option Tb := Oct.shapeO (2 * n) (Oct.lowL Oct.wideT ss)
def sp_closed (K : PySem.W.Frag) : Sp := fun vs H Q _ => ∃ (b : Addr) (n : Nat) (ys : List V) (ss : List Sdn), vs = [.int n, .ref b] /\ SqL K H b ys /\ Paired (SideAt H) ys ss /\ (∀ s ∈ ss, s.1 < 2 * n /\ s.2.1 < 2 * n) /\ n <= 100 /\
 ∀ u H', Same H H' -> ShapeNew H H' u (2 * n) (closedO n ss) -> Q u H'
def okE (z : Int) : Ent -> Bool
 | none => true
 | some e => decide (z <= e)
def liesB (N : Nat) (w : Nat -> Int) (c : Tb) : Bool := (List.range N).all fun f => (List.range N).all fun g => okE (w f + w g) (c f g)
theorem all_range {N : Nat} {p : Nat -> Bool} : (List.range N).all p = true ↔ ∀ i, i < N -> p i = true := by simp [List.all_eq_true]
theorem liesB_iff {N : Nat} {w : Nat -> Int} {c : Tb} : liesB N w c = true ↔ Oct.Lies w c N := by
 unfold liesB Oct.Lies Oct.Le
 rw [all_range]
 constructor
 · intro h f g hf hg
   have := all_range.mp (h f hf) g hg
   revert this
   unfold Oct.tab
   cases c f g <;> simp [okE, Oct.leE]
 · intro h f hf
   refine all_range.mpr fun g hg => ?_
   have := h f g hf hg
   revert this
   unfold Oct.tab
   cases c f g <;> simp [okE, Oct.leE]
def toldRow (c : Tb) (f j : Nat) : List Sdn := (List.range j).filterMap fun g => if f <= g /\ g ≠ Oct.fl f then (c f g).map fun z => (f, g, z) else none
def toldP (N : Nat) (c : Tb) (i : Nat) : List Sdn := (List.range i).flatMap fun f => toldRow c f N
theorem toldP_succ (N : Nat) (c : Tb) (i : Nat) : toldP N c (i + 1) = toldP N c i ++ toldRow c i N := by simp [toldP, List.range_succ]
theorem toldRow_succ (c : Tb) (f j : Nat) : toldRow c f (j + 1) = toldRow c f j ++ (if f <= j /\ j ≠ Oct.fl f then (match c f j with | some z => [(f, j, z)] | none => []) else []) := by
 unfold toldRow
 rw [List.range_succ, List.filterMap_append]
 by_cases h : f <= j /\ j ≠ Oct.fl f
 · cases e : c f j <;> simp [h, e]
 · simp [h]
theorem toldRow_len (c : Tb) (f j : Nat) : (toldRow c f j).length <= j := by
 unfold toldRow
 exact Nat.le_trans (List.length_filterMap_le _ _) (by simp)
theorem toldP_len (N : Nat) (c : Tb) : ∀ i, (toldP N c i).length <= N * i
 | 0 => by simp [toldP]
 | i + 1 => by
  rw [toldP_succ, List.length_append]
  have := toldP_len N c i
  have := toldRow_len c i N
  rw [Nat.mul_succ]
  omega
def sp_told_sides (K : PySem.W.Frag) : Sp := fun vs H Q _ => ∃ (a : Addr) (bs : List Addr) (N : Nat) (c : Tb), vs = [.ref a] /\ TabAt H a bs (Oct.toT N c) /\ N <= 12 /\ ∀ p ys H', Same H H' -> H p = none -> H' p = some (.lst ys) -> Paired (SideAt H') ys (toldP N c N) -> Q (.ref p) H'
def sp__law_lies (K : PySem.W.Frag) : Sp := fun vs H Q _ => ∃ (a b : Addr) (bs : List Addr) (N : Nat) (c : Tb) (xs : List Int), vs = [.ref a, .ref b] /\ TabAt H a bs (Oct.toT N c) /\ SqT K H b (xs.map V.int) /\ N = 2 * xs.length /\ N <= 1000 /\ Q (.bl (liesB N (wN xs) c)) H
def Grow (H H' : Hp) (p : Addr) (ys : List V) (t : Tbl) : Prop := ∃ bs, ys = bs.map V.ref /\ TabNew H H' p bs t /\ Same H H'
theorem Grow.start {H : Hp} {p : Addr} (hp : H p = none) : Grow H (upd H p (.lst [])) p [] [] :=
 ⟨[], rfl, ⟨⟨upd_same, List.nodup_nil, by simp, .nil⟩, hp, by simp⟩, same_new hp _⟩
theorem Grow.same {H H' : Hp} {p : Addr} {ys : List V} {t : Tbl} (G : Grow H H' p ys t) : Same H H' := let ⟨_, _, _, s⟩ := G; s
theorem Grow.len {H H' : Hp} {p : Addr} {ys : List V} {t : Tbl} (G : Grow H H' p ys t) : ys.length = t.length := by
 obtain ⟨bs, rfl, T, _⟩ := G
 rw [List.length_map, T.tab.len]
theorem Grow.step {H H1 H2 : Hp} {p b : Addr} {ys : List V} {t : Tbl} {r : List Ent} (G : Grow H H1 p ys t) (hb : H1 b = none) (sm : Same H1 H2) (hl : H2 b = some (.lst (r.map eV))) :
  H2 p = some (.lst ys) /\ Grow H (upd H2 p (.lst (ys ++ [.ref b]))) p (ys ++ [.ref b]) (t ++ [r]) := by
 obtain ⟨bs, rfl, T, s⟩ := G
 have hpb : p ≠ b := ne_of_none T.tab.at_ hb
 refine ⟨sm _ _ T.tab.at_, bs ++ [b], by simp, ⟨T.tab.grow hb (fun c o hc e => by rw [upd_ne hc]; exact sm c o e) (by rw [upd_ne (Ne.symm hpb)]; exact hl) upd_same, T.newT, fun c hc => ?_⟩, same_over T.newT (s.trans sm)⟩
 rcases List.mem_append.mp hc with z | z
 · exact T.newL c z
 · rw [List.mem_singleton.mp z]; exact s.free hb
theorem belowE_neg0 (e : Ent) : belowE e 0 = Oct.neg0 e := by cases e <;> rfl
theorem take_succ_of {α : Type} {l : List α} {i : Nat} {x : α} (h : l[i]? = some x) : l.take (i + 1) = l.take i ++ [x] := by rw [List.take_add_one, h]; rfl
theorem low1_tab {H : Hp} {p b1 : Addr} {bs : List Addr} {N f g : Nat} {c : Tb} {z : Int} (T : TabAt H p bs (Oct.toT N c)) (hf : f < N) (hg : g < N) (e1 : bs[f]? = some b1) :
  ∃ b2 r2, bs[g]? = some b2 /\ upd H b1 (.lst ((Oct.ln N fun y => if y = g then Oct.minE (c f g) (some z) else c f y).map eV)) b2 = some (.lst ((Oct.ln N r2).map eV)) /\
   TabAt (upd (upd H b1 (.lst ((Oct.ln N fun y => if y = g then Oct.minE (c f g) (some z) else c f y).map eV))) b2 (.lst ((Oct.ln N fun x => if x = f then Oct.minE (r2 f) (some z) else r2 x).map eV))) p bs (Oct.toT N (Oct.low1 c f g z)) /\
   TabAt (upd H b1 (.lst ((Oct.ln N fun y => if y = g then Oct.minE (c f g) (some z) else c f y).map eV))) p bs (Oct.toT N fun a => if a = f then (fun y => if y = g then Oct.minE (c f g) (some z) else c f y) else c a) := by
 have T1 := T.store (r := fun y => if y = g then Oct.minE (c f g) (some z) else c f y) e1
 obtain ⟨b2, e2, h2, _⟩ := T1.rd hg
 refine ⟨b2, _, e2, h2, ?_, T1⟩
 have T2 := T1.store (f := g) (r := fun x => if x = f then Oct.minE ((if g = f then (fun y => if y = g then Oct.minE (c f g) (some z) else c f y) else c g) f) (some z) else (if g = f then (fun y => if y = g then Oct.minE (c f g) (some z) else c f y) else c g) x) e2
 rw [Oct.low1_rows N c f g z] at T2
 exact T2
theorem at_of {fs : List Int} {i : Nat} {y : V} (hi : (fs.map V.int)[i]? = some y) : ∃ h : i < fs.length, y = .int fs[i] := by
 have hil : i < fs.length := by
  have := (List.getElem?_eq_some_iff.mp hi).1
  rwa [List.length_map] at this
 refine ⟨hil, ?_⟩
 rw [List.getElem?_map, List.getElem?_eq_getElem hil] at hi
 exact (Option.some.inj hi).symm
theorem cut_ints (ns : List Int) (lo hi : Option Int) : ∃ cs : List Int, cutV (ns.map V.int) lo hi = cs.map V.int /\ cs.length <= ns.length := by
 refine ⟨(ns.drop (HT.sIx ns.length 0 lo)).take (HT.sIx ns.length ns.length hi - HT.sIx ns.length 0 lo), ?_, ?_⟩
 · simp [cutV, List.map_take, List.map_drop]
 · simp; omega
theorem TabNew.off {H H' : Hp} {p b : Addr} {bs : List Addr} {t : Tbl} {o : HO} (T : TabNew H H' p bs t) (h : H b = some o) : b ≠ p /\ b ∉ bs :=
 ⟨fun e => (by rw [e, T.newT] at h; cases h), fun m => (by rw [T.newL b m] at h; cases h)⟩
theorem toldRow_0 (c : Tb) (f : Nat) : ∀ j, j <= f -> toldRow c f j = []
 | 0, _ => rfl
 | j + 1, h => by rw [toldRow_succ, toldRow_0 c f j (by omega), if_neg (by omega)]; rfl
def sp__law_wide := sp_wide
theorem closed_facts {n : Nat} {ss : List Sdn} {c : Tb} (hin : ∀ s ∈ ss, s.1 < 2 * n /\ s.2.1 < 2 * n) (h : closedO n ss = some c) : Oct.Shp c (2 * n) /\ ∀ s ∈ ss, Oct.Keeps c s := by
 have even : ∀ f, f < 2 * n -> Oct.fl f < 2 * n := fun f hf => Oct.fl_lt hf
 have sy := Oct.lowL_sym ss _ (Oct.wide_sym (2 * n))
 have z : ∀ f, f < 2 * n -> Oct.leE (Oct.lowL Oct.wideT ss f (Oct.fl f)) (some 0) := fun f hf => Oct.leE_trans (Oct.lowL_le ss _ f _) (by unfold Oct.wideT; rw [if_pos rfl]; exact Oct.leE_refl _)
 exact ⟨Oct.shape_shp even z sy h, ((Oct.le_lowL_iff hin).mp (Oct.shape_good even sy h).2.1).2⟩
theorem dt_eV {K : PySem.W.Frag} {H : Hp} (e : Ent) : Dt K H (eD e) (eV e) := by
 cases e with
 | none => exact Dt.non
 | some z => exact Dt.int
theorem eqv_eD (a b : Ent) : PyData.eqv (eD a) (eD b) = decide (a = b) := by rw [Bool.eq_iff_iff]; cases a <;> cases b <;> simp [eD, PyData.eqv]
theorem depth_eD (e : Ent) : (eD e).depth <= 60 := by cases e <;> simp [eD, PyData.depth]
theorem shp_diag {c : Tb} {N : Nat} (S : Oct.Shp c N) : DiagO N (some c) := fun f hf => by rw [S.zero f hf]; exact Oct.leE_refl _
def sp_some_worth (K : PySem.W.Frag) : Sp := fun vs H Q _ => ∃ (a : Addr) (bs : List Addr) (n : Nat) (c : Tb) (f : Nat), vs = [.ref a, .int f] /\ TabAt H a bs (Oct.toT (2 * n) c) /\ f < 2 * n /\ Q (.int (Oct.worthO c f)) H
def sp_fixed (K : PySem.W.Frag) : Sp := fun vs H Q _ => ∃ (a : Addr) (bs : List Addr) (n : Nat) (c : Tb) (f : Nat) (z : Int), vs = [.ref a, .int f, .int z] /\ TabAt H a bs (Oct.toT (2 * n) c) /\ DiagO (2 * n) (some c) /\ f < 2 * n /\ n <= 100 /\
 ∀ u H', Same H H' -> ShapeNew H H' u (2 * n) (Oct.shapeO (2 * n) (Oct.lowL c (Oct.fixL f z))) -> Q u H'
def ShpO (N : Nat) : Option Tb -> Prop
 | none => True
 | some c => Oct.Shp c N
def sp_some_point (K : PySem.W.Frag) : Sp := fun vs H Q _ => ∃ (v : V) (n : Nat) (o : Option Tb), vs = [v] /\ ShapeAt H v (2 * n) o /\ ShpO (2 * n) o /\ n <= 100 /\ (o = none -> ∀ H', Same H H' -> Q .non H') /\
 (∀ c, o = some c -> ∀ (nums : List Int) p H', nums.length = n -> Oct.Lies (wN nums) c (2 * n) -> Same H H' -> H p = none -> H' p = some (.tup (nums.map V.int)) -> Q (.ref p) H')
theorem wN_even (xs : List Int) (k : Nat) : wN xs (2 * k) = xs.getD k 0 := by
 unfold wN worthI
 rw [if_pos (by omega)]
 congr 1
 omega
end L2
set_option Elab.async false
set_option linter.all false
set_option maxRecDepth 100000
set_option maxHeartbeats 4000000
namespace L2
open PySem PySem.Spec PyProof.Rows
end L2
set_option linter.all false
namespace Oct
theorem reach2 {c : Tb} {n f g : Nat} {m : Int} (S : Shp c (2 * n)) (hf : f < 2 * n) (hg : g < 2 * n) (ne : g ≠ fl f) (hm : leE (some m) (c f g)) : ∃ w, Pt w (2 * n) /\ Lies w c (2 * n) /\ m <= w f + w g := by
 by_cases h : g = f
 · subst h
   have ev := S.good.tight.even g hg
   have hk : leE (some (-((-m) / 2))) (hv c g) := by
    unfold hv
    revert hm ev
    generalize c g g = a
    cases a <;> simp [leE, hlf] <;> omega
   obtain ⟨w, p, l, k⟩ := meet_one S.good.tight S.good.nn hg hk
   exact ⟨w, p, l, by omega⟩
 · have nh : f / 2 ≠ g / 2 := fun e => by
    rcases of_half e.symm with q | q
    · exact h q
    · exact ne q
   obtain ⟨w, p, l, k⟩ := meet_two S.good.tight S.good.nn hf hg nh hm
   exact ⟨w, p, l, by omega⟩
theorem reach2_some {c : Tb} {n f g : Nat} {m : Int} (S : Shp c (2 * n)) (hf : f < 2 * n) (hg : g < 2 * n) (ne : g ≠ fl f) (hm : leE (some m) (c f g)) :
  ∃ s, shapeO (2 * n) (lowL c [(fl f, fl g, -m)]) = some s /\ Shp s (2 * n) /\ Le s c (2 * n) /\ leE (s (fl f) (fl g)) (some (-m)) := by
 have even : ∀ f, f < 2 * n -> fl f < 2 * n := fun f hf => fl_lt hf
 obtain ⟨w, p, l, k⟩ := reach2 S hf hg ne hm
 have p1 := p f hf
 have p2 := p g hg
 obtain ⟨s, hs⟩ := shape_of_good even (pt_good p) (le_lowL [(fl f, fl g, -m)] c l fun s hs => by
  rw [List.mem_singleton.mp hs]
  constructor <;> simp [tab, leE] <;> omega)
 obtain ⟨Ss, Ls⟩ := lowL_shp even S hs
 obtain ⟨La, Lk⟩ := (le_lowL_iff (ss := [(fl f, fl g, -m)]) (by intro s hs; rw [List.mem_singleton.mp hs]; exact ⟨even f hf, even g hg⟩)).mp Ls
 exact ⟨s, hs, Ss, La, (Lk (fl f, fl g, -m) (by simp)).1⟩
end Oct
set_option Elab.async false
set_option linter.all false
set_option maxRecDepth 100000
set_option maxHeartbeats 4000000
namespace L2
open PySem PySem.Spec PyProof.Rows
section
variable {X : Cx}
theorem op_inI : OpR X (compareOp .In) (fun x y H Q => ∃ (p : Addr) (ns : List Int) (k : Int), x = .int k /\ y = .ref p /\ SqL X.K H p (ns.map V.int) /\ Q (.bl (ns.any (· == k))) H) := by
 intro pins s σ H x y v u Q I rx ry h
 obtain ⟨p, ns, k, rfl, rfl, hq, q⟩ := h
 obtain ⟨t, rfl⟩ := rx
 cases ry
 obtain ⟨its, r, pl, hz⟩ := I.list hq
 exact in_list_ints pl.isList (intsAre_of r) ⟨.bl _, H, I, rfl, q⟩
theorem op_inIK {K : PySem.W.Frag} (h : X.K = K) : OpR X (compareOp .In) (fun x y H Q => ∃ (p : Addr) (ns : List Int) (k : Int), x = .int k /\ y = .ref p /\ SqL K H p (ns.map V.int) /\ Q (.bl (ns.any (· == k))) H) := by subst h; exact op_inI
def remF (k : Int) : List Int -> List Int
 | [] => []
 | a :: r => if a = k then r else a :: remF k r
theorem remF_at (k : Int) : ∀ (ns : List Int), k ∈ ns -> ∃ j, ∃ h : j < ns.length, ns[j] = k /\ (∀ m (hm : m < ns.length), m < j -> ns[m] ≠ k) /\ ns.eraseIdx j = remF k ns
 | [], h => by simp at h
 | a :: r, h => by
  by_cases e : a = k
  · exact ⟨0, by simp, by simpa using e, fun m _ h => by omega, by simp [remF, e]⟩
  · have h' : k ∈ r := by
     rcases List.mem_cons.mp h with q | q
     · exact absurd q.symm e
     · exact q
    obtain ⟨j, hj, e1, e2, e3⟩ := remF_at k r h'
    refine ⟨j + 1, by simp; omega, by simpa using e1, fun m hm h1 => ?_, by simp [remF, e, e3]⟩
    cases m with
    | zero => simpa using e
    | succ m =>
     simp
     exact e2 m (by simp at hm; omega) (by omega)
theorem map_eraseIdx (j : Nat) : ∀ (ns : List Int), (ns.map V.int).eraseIdx j = (ns.eraseIdx j).map V.int := by
 induction j with
 | zero => intro ns; cases ns <;> simp
 | succ j ih => intro ns; cases ns <;> simp [ih]
def rRemove : V -> List V -> Hp -> VK -> Prop := fun x vs H Q => ∃ (l : Addr) (ns : List Int) (k : Int), x = .ref l /\ vs = [.int k] /\ H l = some (.lst (ns.map V.int)) /\ k ∈ ns /\ Q .non (upd H l (.lst ((remF k ns).map V.int)))
theorem intsAre_get : ∀ {vs : List Value} {ns : List Int}, IntsAre vs ns -> ∀ (j : Nat) (h1 : j < vs.length) (h2 : j < ns.length), ∃ t, vs[j] = .int ns[j] t
 | _, _, .nil, j, h1, _ => by simp at h1
 | _, _, .cons n t h, 0, _, _ => ⟨t, rfl⟩
 | _, _, .cons n t h, j + 1, h1, h2 => by
  obtain ⟨t, e⟩ := intsAre_get h j (by simpa using h1) (by simpa using h2)
  exact ⟨t, by simpa using e⟩
theorem mt_remove : MtM X "list.remove" rRemove := by
 intro pins s σ H x vs v us Q I rx rv h
 obtain ⟨l, ns, k, rfl, rfl, hH, hk, q⟩ := h
 cases rx
 obtain ⟨u, rfl, ru⟩ := rv.one
 obtain ⟨t, rfl⟩ := ru
 obtain ⟨z, its, n, r, hl, e⟩ := I.lstM hH
 have hi : IntsAre its ns := intsAre_of r
 obtain ⟨j, hj, e1, e2, e3⟩ := remF_at k ns hk
 have ln : its.length = ns.length := by rw [← hl, List.length_map]
 have it : ∀ m (hm : m < its.length), isInt k its[m] = decide (ns[m]'(by omega) = k) := fun m hm => by
  obtain ⟨tt, et⟩ := intsAre_get hi m hm (by omega)
  rw [et]
  show (ns[m] == k) = decide (ns[m] = k)
  rw [Bool.eq_iff_iff]
  simp
 refine call_meets F.slot_list_remove ⟨_, e, rfl⟩ F.entry_list_remove (F.args_list_remove_2 _ _) (MeetsSeq.list_remove l its.toArray n (.int k t) (isInt k) (fun y hy => eq_isInt k t hi y (by simpa using hy)) j (by simp; omega) ?_ (fun m hm h1 => ?_) (by rw [List.size_toArray, ← hl]; exact z)) ⟨e, ?_⟩
 · simp only [List.getElem_toArray]
   rw [it j (by omega), e1]
   simp
 · simp only [List.getElem_toArray]
   rw [it m (by simpa using hm)]
   exact decide_eq_false (e2 m (by simp at hm; omega) h1)
 · refine ⟨.non, _, I.lset (its' := its.eraseIdx j) hH e (by simp [Array.eraseIdxIfInBounds]; intro h; exact (List.eraseIdx_of_length_le (by omega)).symm) (ys := (remF k ns).map V.int) (by rw [← e3, ← map_eraseIdx]; exact r.eraseIdx j) ?_, rfl, q⟩
   rw [← e3, List.length_map]
   have := List.length_eraseIdx_le ns j
   rw [List.length_map] at z
   omega
end
section
variable {X : Cx} {es : List Expr} {te : TE} {t : TA}
theorem pa_Constant {c : Const} {k : Nat} {p : Pos} (ha : PE X (.Constant c k p) te) (hr : PA X es t) : PA X (.Constant c k p :: es) (tCons te t) := pa_cons ha hr (by rfl)
theorem pa_Name {x : Str} {p : Pos} (ha : PE X (.Name x p) te) (hr : PA X es t) : PA X (.Name x p :: es) (tCons te t) := pa_cons ha hr (by rfl)
theorem pa_BinOp {a b : Expr} {o : Operator} {p : Pos} (ha : PE X (.BinOp a o b p) te) (hr : PA X es t) : PA X (.BinOp a o b p :: es) (tCons te t) := pa_cons ha hr (by rfl)
theorem pa_UnaryOp {a : Expr} {o : UnaryOp} {p : Pos} (ha : PE X (.UnaryOp o a p) te) (hr : PA X es t) : PA X (.UnaryOp o a p :: es) (tCons te t) := pa_cons ha hr (by rfl)
theorem pa_Call {f : Expr} {as : List Expr} {ks : List Keyword} {p : Pos} (ha : PE X (.Call f as ks p) te) (hr : PA X es t) : PA X (.Call f as ks p :: es) (tCons te t) := pa_cons ha hr (by rfl)
theorem pa_Subscript {a b : Expr} {p : Pos} (ha : PE X (.Subscript a b p) te) (hr : PA X es t) : PA X (.Subscript a b p :: es) (tCons te t) := pa_cons ha hr (by rfl)
theorem pa_List {as : List Expr} {p : Pos} (ha : PE X (.List as p) te) (hr : PA X es t) : PA X (.List as p :: es) (tCons te t) := pa_cons ha hr (by rfl)
theorem pa_Tuple {as : List Expr} {k : Nat} {p : Pos} (ha : PE X (.Tuple as k p) te) (hr : PA X es t) : PA X (.Tuple as k p :: es) (tCons te t) := pa_cons ha hr (by rfl)
end
end L2
set_option linter.all false
set_option maxHeartbeats 4000000
namespace Oct
def lstE : List E -> E
 | [] => none
 | a :: r => minE a (lstE r)
end Oct
set_option Elab.async false
set_option linter.all false
set_option maxRecDepth 100000
set_option maxHeartbeats 4000000
namespace L2
open PySem PySem.Spec PyProof.Rows
def fMin : Int -> List Int -> Int
 | b, [] => b
 | b, x :: r => fMin (if x < b then x else b) r
section
variable {P : Program} {w : World} {A : Around} {R : Result -> Shared -> Prop}
theorem goMin {it bx l : Addr} {its : List Value} {ns : List Int} {kw : List (Str × Value)} (quiet : A.in1.handled = none) (hi : IntsAre its ns) (n1 : it ≠ bx) (n2 : l ≠ bx) (n3 : l ≠ it) :
  ∀ (k j : Nat) (s : Shared) (b : Int) (t : Tok) (cnt : Nat), ns.length - j = k -> s.heap.IsListIter it l j -> s.heap.IsList l its.toArray ->
   s.heap.get? bx = some { cls := .type "list", dict := none, data := .seq #[.int b t, .int b t] cnt, slots := #[] } ->
   (∀ t' h' tk, (∀ x o, x ≠ it -> x ≠ bx -> s.heap.get? x = some o -> h'.get? x = some o) -> R (.ok (.ret (.int (fMin b (ns.drop j)) t'))) { s with heap := h', toks := tk }) ->
   codeAny (model P w) A (.builtin "min.loop" ⟨[.ref it, .none, .ref bx], kw⟩) R s := by
 have nm : (toString "min" ++ toString ".loop" : String) = "min.loop" := by decide
 have ln : its.length = ns.length := hi.length
 intro k
 induction k with
 | zero =>
  intro j s b t cnt hk st hl hb q
  refine codeAny_builtin F.entry_min_loop ?_
  rw [Around.under_plainId F.plain_min_loop _]
  show wpAny _ _ (seqItems? (.ref bx) >>= _) _ _ _
  refine wpAny_bind (wpAny_seqItems hb rfl ?_)
  show wpAny _ _ (tryCatch (pyNext (.ref it)) _ >>= _) _ _ _
  refine wpAny_bind (wpAny_tryCatch (wpAny_pyNext_list_end quiet st hl (by simp; omega) fun h1 ex => ?_))
  have hb1 := ex bx _ (Ne.symm n1) hb
  show wpAny _ _ (updateSeq bx (fun _ => #[]) >>= _) _ _ _
  refine wpAny_bind (wpAny_updateSeq hb1 rfl ?_)
  refine wpAny_bind (wpAny_letGo (wpAny_pure ?_))
  have e0 : ns.drop j = [] := List.drop_eq_nil_of_le (by omega)
  rw [e0] at q
  exact q t _ _ fun x o h2 h3 e => (Heap.get?_update_other _ _ (Ne.symm h3)).trans (ex x o h2 e)
 | succ k ih =>
  intro j s b t cnt hk st hl hb q
  have hj : j < ns.length := by omega
  obtain ⟨t2, et⟩ := intsAre_get hi j (by omega) hj
  have gi : its.toArray[j]? = some (.int ns[j] t2) := by rw [← et]; simp [ln, hj]
  have ed : ns.drop j = ns[j] :: ns.drop (j + 1) := List.drop_eq_getElem_cons hj
  rw [ed] at q
  generalize ns[j] = y at *
  refine codeAny_builtin F.entry_min_loop ?_
  rw [Around.under_plainId F.plain_min_loop _]
  show wpAny _ _ (seqItems? (.ref bx) >>= _) _ _ _
  refine wpAny_bind (wpAny_seqItems hb rfl ?_)
  show wpAny _ _ (tryCatch (pyNext (.ref it)) _ >>= _) _ _ _
  refine wpAny_bind (wpAny_tryCatch (wpAny_pyNext_list_item st hl gi fun h1 st1 ex => ?_))
  have hb1 := ex.extBut bx _ (Ne.symm n1) hb
  have hl1 := hl.extBut ex.extBut n3
  show wpAny _ _ (tryCatch (holding [.int y t2, .int y t2] (richCompare .Lt (.int y t2) (.int b t) >>= _)) _ >>= _) _ _ _
  have cmp := CmpOf.ints_lt (prog := P) (w := w) (A := A.in1) (P := fun i v => ∃ u, v = Value.int (if i = 0 then b else y) u) (fun i => if i = 0 then b else y) fun i v h => h
  refine wpAny_bind (wpAny_tryCatch (wpAny_holding (wpAny_bind (cmp 1 0 _ _ _ _ _ ⟨t2, rfl⟩ ⟨t, rfl⟩ ?_))))
  refine wpAny_bind (wpAny_holding (wpAny_truthy_bool ?_))
  refine wpAny_bind (wpAny_letGo (wpAny_pure ?_))
  by_cases hlt : y < b
  · have d1 : decide ((if (1 : Nat) = 0 then b else y) < (if (0 : Nat) = 0 then b else y)) = true := by simpa using hlt
    rw [if_pos d1]
    have f1 : fMin b (y :: ns.drop (j + 1)) = fMin y (ns.drop (j + 1)) := by simp [fMin, hlt]
    rw [f1] at q
    refine wpAny_bind (wpAny_updateSeq hb1 rfl (wpAny_bind (wpAny_letGo ?_)))
    rw [nm]
    refine wpAny_pure ⟨plainId_quiet F.plain_min_loop _, ih (j + 1) _ y t2 _ (by omega) (st1.at fun o e => (Heap.get?_update_other _ _ (Ne.symm n1)).trans e) (hl1.at fun o e => (Heap.get?_update_other _ _ (Ne.symm n2)).trans e) (Heap.get?_update_self _ hb1 rfl) fun t' h' tk kk => ?_⟩
    exact q t' h' tk fun x o h2 h3 e => kk x o h2 h3 ((Heap.get?_update_other _ _ (Ne.symm h3)).trans (ex.extBut x o h2 e))
  · have d1 : decide ((if (1 : Nat) = 0 then b else y) < (if (0 : Nat) = 0 then b else y)) = false := by simpa using hlt
    rw [if_neg (show ¬ (decide ((if (1 : Nat) = 0 then b else y) < (if (0 : Nat) = 0 then b else y)) = true) from by rw [d1]; exact Bool.false_ne_true)]
    have f1 : fMin b (y :: ns.drop (j + 1)) = fMin b (ns.drop (j + 1)) := by simp [fMin, hlt]
    rw [f1] at q
    refine wpAny_bind (wpAny_letGo ?_)
    rw [nm]
    refine wpAny_pure ⟨plainId_quiet F.plain_min_loop _, ih (j + 1) _ b t cnt (by omega) st1 hl1 hb1 fun t' h' tk kk => ?_⟩
    exact q t' h' tk fun x o h2 h3 e => kk x o h2 h3 (ex.extBut x o h2 e)
end
section
variable {P : Program} {w : World} {A : Around} {s : Shared} {E : Value -> Shared -> Prop} {Q : Value -> Shared -> Prop}
theorem args_minD (a v : Value) : argsOk "min" ⟨[a], [(Str.ofString "default", v)]⟩ := by unfold argsOk; kernel_rfl
theorem minD {l : Addr} {its : List Value} {ns : List Int} {dv : Value} (quiet : A.handled = none) (hl : s.heap.IsList l its.toArray) (hi : IntsAre its ns)
  (q0 : ns = [] -> ∀ h' tk, (∀ x o, s.heap.get? x = some o -> h'.get? x = some o) -> Q dv { s with heap := h', toks := tk })
  (q1 : ∀ b r, ns = b :: r -> ∀ t h' tk, (∀ x o, s.heap.get? x = some o -> h'.get? x = some o) -> Q (.int (fMin b r) t) { s with heap := h', toks := tk }) :
  wpAny (model P w) A (call (.builtin "min") [.ref l] [(Str.ofString "default", dv)]) Q E s := by
 have nm : (toString "min" ++ toString ".loop" : String) = "min.loop" := by decide
 have ln : its.length = ns.length := hi.length
 refine kmk_tree F.kind_min F.plain_min F.entry_min (args_minD _ _) ?_
 show wpAny _ _ (Builtin.Builtins.bindParams "min" ["key", "default"] 0 ⟨[], [(Str.ofString "default", dv)]⟩ >>= _) _ _ _
 refine wpAny_bind (wpAny_of_eq (show Builtin.Builtins.bindParams "min" ["key", "default"] 0 ⟨[], [(Str.ofString "default", dv)]⟩ = pure [none, some dv] from rfl) ?_)
 refine wpAny_bind (wpAny_pure ?_)
 refine wpAny_bind (wpAny_pyIter_list hl ?_)
 refine wpAny_bind (wpAny_newList ?_ (Nat.zero_le _))
 rw [nm]
 refine wpAny_pure ⟨plainId_quiet F.plain_min_loop _, ?_⟩
 have llt : l < s.heap.objs.size := by obtain ⟨o, e, _⟩ := hl; exact Heap.lt_size e
 generalize ehp : s.heap.push { cls := .type "list_iterator", data := .fields #[.ref l, .int 0 0] } = hp1
 have sz1 : hp1.objs.size = s.heap.objs.size + 1 := by rw [← ehp]; exact Heap.size_push ..
 have k1 : ∀ x o, s.heap.get? x = some o -> hp1.get? x = some o := fun x o e => by rw [← ehp]; exact Heap.get?_push_of_some _ e
 have gi1 : hp1.get? s.heap.objs.size = some { cls := .type "list_iterator", data := .fields #[.ref l, .int 0 0] } := by rw [← ehp]; exact Heap.get?_push_size _ rfl
 generalize ehq : hp1.push { cls := .type "list", data := .seq ([] : List Value).toArray } = hp2
 have gb2 : hp2.get? hp1.objs.size = some { cls := .type "list", data := .seq ([] : List Value).toArray } := by rw [← ehq]; exact Heap.get?_push_size _ rfl
 have k2 : ∀ x o, hp1.get? x = some o -> hp2.get? x = some o := fun x o e => by rw [← ehq]; exact Heap.get?_push_of_some _ e
 have st2 : hp2.IsListIter s.heap.objs.size l 0 := ⟨_, k2 _ _ gi1, rfl, rfl⟩
 have hl2 : hp2.IsList l its.toArray := hl.at fun o e => k2 _ _ (k1 _ _ e)
 have n1 : s.heap.objs.size ≠ hp1.objs.size := by rw [sz1]; exact Nat.ne_of_lt (Nat.lt_succ_self _)
 have n2 : l ≠ hp1.objs.size := by rw [sz1]; exact Nat.ne_of_lt (Nat.lt_succ_of_lt llt)
 have n3 : l ≠ s.heap.objs.size := Nat.ne_of_lt llt
 have old : ∀ x o, s.heap.get? x = some o -> x ≠ s.heap.objs.size /\ x ≠ hp1.objs.size := fun x o e => ⟨Nat.ne_of_lt (Heap.lt_size e), by rw [sz1]; exact Nat.ne_of_lt (Nat.lt_succ_of_lt (Heap.lt_size e))⟩
 refine codeAny_builtin F.entry_min_loop ?_
 rw [Around.under_plainId F.plain_min_loop _]
 show wpAny _ _ (seqItems? (.ref hp1.objs.size) >>= _) _ _ _
 refine wpAny_bind (wpAny_seqItems gb2 rfl ?_)
 show wpAny _ _ (tryCatch (pyNext (.ref s.heap.objs.size)) _ >>= _) _ _ _
 cases ns with
 | nil =>
  refine wpAny_bind (wpAny_tryCatch (wpAny_pyNext_list_end quiet st2 hl2 (by simp at ln; simp [ln]) fun h1 ex => ?_))
  refine wpAny_bind (wpAny_rule (wpAny_pure ?_))
  exact q0 rfl h1 _ fun x o e => ex x o (old x o e).1 (k2 _ _ (k1 _ _ e))
 | cons b r =>
  obtain ⟨t2, et⟩ := intsAre_get hi 0 (by simp at ln; omega) (by simp)
  have gi : its.toArray[0]? = some (.int b t2) := by
   have : its[0]'(by simp at ln; omega) = .int b t2 := et
   rw [← this]; simp at ln ⊢
  refine wpAny_bind (wpAny_tryCatch (wpAny_pyNext_list_item st2 hl2 gi fun h1 st1 ex => ?_))
  have gb3 := ex.extBut hp1.objs.size _ (Ne.symm n1) gb2
  show wpAny _ _ (updateSeq hp1.objs.size (fun _ => #[.int b t2, .int b t2]) >>= _) _ _ _
  refine wpAny_bind (wpAny_updateSeq gb3 rfl ?_)
  rw [nm]
  refine wpAny_pure ⟨plainId_quiet F.plain_min_loop _, goMin quiet hi n1 n2 n3 _ 1 _ b t2 _ rfl (st1.at fun o e => (Heap.get?_update_other _ _ (Ne.symm n1)).trans e) ((hl2.extBut ex.extBut n3).at fun o e => (Heap.get?_update_other _ _ (Ne.symm n2)).trans e) (Heap.get?_update_self _ gb3 rfl) fun t' h' tk kk => ?_⟩
  refine q1 b r rfl t' h' tk fun x o e => ?_
  obtain ⟨o1, o2⟩ := old x o e
  exact kk x o o1 o2 ((Heap.get?_update_other _ _ (Ne.symm o2)).trans (ex.extBut x o o1 (k2 _ _ (k1 _ _ e))))
end
def fMax : Int -> List Int -> Int
 | b, [] => b
 | b, x :: r => fMax (if b < x then x else b) r
section
variable {P : Program} {w : World} {A : Around} {R : Result -> Shared -> Prop}
theorem goMax {it bx l : Addr} {its : List Value} {ns : List Int} {kw : List (Str × Value)} (quiet : A.in1.handled = none) (hi : IntsAre its ns) (n1 : it ≠ bx) (n2 : l ≠ bx) (n3 : l ≠ it) :
  ∀ (k j : Nat) (s : Shared) (b : Int) (t : Tok) (cnt : Nat), ns.length - j = k -> s.heap.IsListIter it l j -> s.heap.IsList l its.toArray ->
   s.heap.get? bx = some { cls := .type "list", dict := none, data := .seq #[.int b t, .int b t] cnt, slots := #[] } ->
   (∀ t' h' tk, (∀ x o, x ≠ it -> x ≠ bx -> s.heap.get? x = some o -> h'.get? x = some o) -> R (.ok (.ret (.int (fMax b (ns.drop j)) t'))) { s with heap := h', toks := tk }) ->
   codeAny (model P w) A (.builtin "max.loop" ⟨[.ref it, .none, .ref bx], kw⟩) R s := by
 have nm : (toString "max" ++ toString ".loop" : String) = "max.loop" := by decide
 have ln : its.length = ns.length := hi.length
 intro k
 induction k with
 | zero =>
  intro j s b t cnt hk st hl hb q
  refine codeAny_builtin F.entry_max_loop ?_
  rw [Around.under_plainId F.plain_max_loop _]
  show wpAny _ _ (seqItems? (.ref bx) >>= _) _ _ _
  refine wpAny_bind (wpAny_seqItems hb rfl ?_)
  show wpAny _ _ (tryCatch (pyNext (.ref it)) _ >>= _) _ _ _
  refine wpAny_bind (wpAny_tryCatch (wpAny_pyNext_list_end quiet st hl (by simp; omega) fun h1 ex => ?_))
  have hb1 := ex bx _ (Ne.symm n1) hb
  show wpAny _ _ (updateSeq bx (fun _ => #[]) >>= _) _ _ _
  refine wpAny_bind (wpAny_updateSeq hb1 rfl ?_)
  refine wpAny_bind (wpAny_letGo (wpAny_pure ?_))
  have e0 : ns.drop j = [] := List.drop_eq_nil_of_le (by omega)
  rw [e0] at q
  exact q t _ _ fun x o h2 h3 e => (Heap.get?_update_other _ _ (Ne.symm h3)).trans (ex x o h2 e)
 | succ k ih =>
  intro j s b t cnt hk st hl hb q
  have hj : j < ns.length := by omega
  obtain ⟨t2, et⟩ := intsAre_get hi j (by omega) hj
  have gi : its.toArray[j]? = some (.int ns[j] t2) := by rw [← et]; simp [ln, hj]
  have ed : ns.drop j = ns[j] :: ns.drop (j + 1) := List.drop_eq_getElem_cons hj
  rw [ed] at q
  generalize ns[j] = y at *
  refine codeAny_builtin F.entry_max_loop ?_
  rw [Around.under_plainId F.plain_max_loop _]
  show wpAny _ _ (seqItems? (.ref bx) >>= _) _ _ _
  refine wpAny_bind (wpAny_seqItems hb rfl ?_)
  show wpAny _ _ (tryCatch (pyNext (.ref it)) _ >>= _) _ _ _
  refine wpAny_bind (wpAny_tryCatch (wpAny_pyNext_list_item st hl gi fun h1 st1 ex => ?_))
  have hb1 := ex.extBut bx _ (Ne.symm n1) hb
  have hl1 := hl.extBut ex.extBut n3
  show wpAny _ _ (tryCatch (holding [.int y t2, .int y t2] (richCompare .Gt (.int y t2) (.int b t) >>= _)) _ >>= _) _ _ _
  have cmp := CmpOf.ints_gt (prog := P) (w := w) (A := A.in1) (P := fun i v => ∃ u, v = Value.int (if i = 0 then b else y) u) (fun i => if i = 0 then b else y) fun i v h => h
  refine wpAny_bind (wpAny_tryCatch (wpAny_holding (wpAny_bind (cmp 1 0 _ _ _ _ _ ⟨t2, rfl⟩ ⟨t, rfl⟩ ?_))))
  refine wpAny_bind (wpAny_holding (wpAny_truthy_bool ?_))
  refine wpAny_bind (wpAny_letGo (wpAny_pure ?_))
  by_cases hlt : b < y
  · have d1 : decide ((if (1 : Nat) = 0 then b else y) > (if (0 : Nat) = 0 then b else y)) = true := by simpa using hlt
    rw [if_pos d1]
    have f1 : fMax b (y :: ns.drop (j + 1)) = fMax y (ns.drop (j + 1)) := by simp [fMax, hlt]
    rw [f1] at q
    refine wpAny_bind (wpAny_updateSeq hb1 rfl (wpAny_bind (wpAny_letGo ?_)))
    rw [nm]
    refine wpAny_pure ⟨plainId_quiet F.plain_max_loop _, ih (j + 1) _ y t2 _ (by omega) (st1.at fun o e => (Heap.get?_update_other _ _ (Ne.symm n1)).trans e) (hl1.at fun o e => (Heap.get?_update_other _ _ (Ne.symm n2)).trans e) (Heap.get?_update_self _ hb1 rfl) fun t' h' tk kk => ?_⟩
    exact q t' h' tk fun x o h2 h3 e => kk x o h2 h3 ((Heap.get?_update_other _ _ (Ne.symm h3)).trans (ex.extBut x o h2 e))
  · have d1 : decide ((if (1 : Nat) = 0 then b else y) > (if (0 : Nat) = 0 then b else y)) = false := by simpa using hlt
    rw [if_neg (show ¬ (decide ((if (1 : Nat) = 0 then b else y) > (if (0 : Nat) = 0 then b else y)) = true) from by rw [d1]; exact Bool.false_ne_true)]
    have f1 : fMax b (y :: ns.drop (j + 1)) = fMax b (ns.drop (j + 1)) := by simp [fMax, hlt]
    rw [f1] at q
    refine wpAny_bind (wpAny_letGo ?_)
    rw [nm]
    refine wpAny_pure ⟨plainId_quiet F.plain_max_loop _, ih (j + 1) _ b t cnt (by omega) st1 hl1 hb1 fun t' h' tk kk => ?_⟩
    exact q t' h' tk fun x o h2 h3 e => kk x o h2 h3 (ex.extBut x o h2 e)
end
section
variable {P : Program} {w : World} {A : Around} {s : Shared} {E : Value -> Shared -> Prop} {Q : Value -> Shared -> Prop}
end
def tBest (K : PySem.W.Frag) (f : Int -> List Int -> Int) (ta tk : TA) : TE := fun σ H Q => ta σ H fun vs H1 => tk σ H1 fun zs H2 => ∃ (p : Addr) (ns : List Int) (dv : V), vs = [.ref p] /\ zs = [dv] /\ SqL K H2 p (ns.map V.int) /\ (ns = [] -> Q dv H2) /\ ∀ b r, ns = b :: r -> Q (.int (f b r)) H2
section
variable {X : Cx} {K : PySem.W.Frag} {e d : Expr} {ta tk : TA} {p kp pos : Pos}
theorem pe_minD (hK : X.K = K) (hc : X.calm = true) (hg : Gl X "min") (hm : X.mg "min" = none) (ha : PA X [e] ta) (hk : PK X [⟨some "default", d, kp⟩] tk) (hs : starEach [e] X.env = [(false, eval e X.env)] := by rfl)
  (hks : keywordEach [⟨some "default", d, kp⟩] X.env = [(some (Str.ofString "default"), eval d X.env)] := by rfl) : PE X (.Call (.Name "min" p) [e] [⟨some "default", d, kp⟩] pos) (tBest K fMin ta tk) := by
 subst hK
 intro pins s σ H Q I h
 refine wpAny_Call_Name_kw (ld_blt I hg hm boot_min ?_)
 refine callWith_kw (thn (ha pos pins s σ H _ I h) fun us s1 ⟨vs, H1, I1, r1, q1⟩ => ?_) (by rw [hs]; rfl) (by rw [hs]; rfl) (by rw [hks]; rfl) (by rw [hks]; rfl)
 refine thn (hk pos pins s1 σ H1 _ I1 q1) fun ws s2 ⟨zs, H2, I2, r2, q2⟩ => ?_
 obtain ⟨l, ns, dv, rfl, rfl, sq, q0, q3⟩ := q2
 obtain ⟨u, rfl, ru⟩ := r1.one
 cases ru
 obtain ⟨v, rfl, rv⟩ := r2.one
 obtain ⟨its, r, pl, hz⟩ := I2.list sq
 rw [hks]
 exact minD (I2.ok.hd hc) pl.isList (intsAre_of r) (fun en h' tk kk => ⟨dv, H2, I2.kept kk, rv, q0 en⟩) (fun b rr en t h' tk kk => ⟨.int _, H2, I2.kept kk, ⟨t, rfl⟩, q3 b rr en⟩)
end
def nums (es : List Ent) : List Int := es.filterMap id
theorem lstE_nums : ∀ (es : List Ent), Oct.lstE es = match nums es with
  | [] => none
  | b :: r => some (fMin b r)
 | [] => rfl
 | none :: es => by
  show Oct.minE none (Oct.lstE es) = _
  rw [lstE_nums es]
  rfl
 | some a :: es => by
  have ih := lstE_nums es
  show Oct.minE (some a) (Oct.lstE es) = _
  have e1 : nums (some a :: es) = a :: nums es := rfl
  rw [e1]
  cases e : nums es with
  | nil => rw [e] at ih; rw [ih]; rfl
  | cons b r =>
   rw [e] at ih
   rw [ih]
   show some (min a (fMin b r)) = some (fMin a (b :: r))
   have go : ∀ (r : List Int) (x y : Int), fMin (min x y) r = min x (fMin y r) := by
    intro r
    induction r with
    | nil => intro x y; rfl
    | cons z r ih =>
     intro x y
     unfold fMin
     have : (if z < min x y then z else min x y) = min x (if z < y then z else y) := by split <;> split <;> omega
     rw [this]
     exact ih x _
   show _ = some (fMin (if b < a then b else a) r)
   have : (if b < a then b else a) = min a b := by split <;> omega
   rw [this, go]
end L2
set_option Elab.async false
set_option linter.all false
set_option maxRecDepth 100000
set_option maxHeartbeats 4000000
namespace L2
open PySem PySem.Spec PyProof.Rows
open Sem (wp)
open Builtin Builtin.Str
section
variable {prog : Program} {w : World} {A : Around} {E : Value -> Shared -> Prop} {s : Shared}
open AutoSeq1 (wpAny_loadPart')
end
end L2
set_option Elab.async false
set_option linter.all false
set_option maxRecDepth 100000
set_option maxHeartbeats 4000000
namespace L2
open PySem PySem.Spec PyProof.Rows
end L2
set_option Elab.async false
set_option linter.all false
set_option maxRecDepth 100000
set_option maxHeartbeats 4000000
namespace L2
open PySem PySem.Spec PyProof.Rows
end L2
set_option Elab.async false
set_option linter.all false
set_option maxRecDepth 100000
set_option maxHeartbeats 4000000
namespace L2
open PySem PySem.Spec PyProof.Rows
structure FDef (P : Program) (w : World) (K : PySem.W.Frag) (mg : Str -> Option Value) (base : Heap) (CX : CXT) (k : Nat) (ps : List Str) (sp : Sp) (f : Addr) : Prop where
 ex : ∃ fd, FnOk P w K mg base CX k f fd ps sp /\ Binds K fd ps []
section
variable {X : Cx} {CX : CXT} {k : Nat} {m x : Str} {ps : List Str} {sp : Sp} {E : XK} {e o : Expr} {es : List Expr} {t : TA} {ta : TE} {p pos apos : Pos} {f C : Addr} {K : PySem.W.Frag}
theorem pe_mdef {pl : Sem Bool} (F : FDef X.prog X.w X.K X.mg X.base CX k ps sp f) (c : Cls X.K C) (hm : Meth X.K C m f) (he : PE X o ta) (hr : Room k X.A) (hx : Passes CX X E) (ha : PA X (e :: es) t)
  (hst : starEach (e :: es) X.env = (false, eval e X.env) :: starEach es X.env := by rfl) (hpl : (backTo pos (starEach es X.env)).any (·.1) = false := by rfl)
  (ht : eval (.Call (.Attribute o m apos) (e :: es) [] pos) X.env = (do
   let ov ← eval o X.env
   standAt apos.atName
   let (f, first) ← holding [ov] (getMethod ov m pl)
   callWith pos f first (backTo pos (starEach (e :: es) X.env)) (backToKw pos (keywordEach [] X.env))) := by rfl) :
  PE X (.Call (.Attribute o m apos) (e :: es) [] pos) (tMeth C m sp [] E ta t) := by
 obtain ⟨fd, G, b⟩ := F.ex
 exact pe_meth (pl := pl) he c hm G hr b .nil hx ha hst hpl ht
theorem pe_mdef0 {pl : Sem Bool} (F : FDef X.prog X.w X.K X.mg X.base CX k ps sp f) (c : Cls X.K C) (hm : Meth X.K C m f) (he : PE X o ta) (hr : Room k X.A) (hx : Passes CX X E)
  (ht : eval (.Call (.Attribute o m apos) [] [] pos) X.env = (do
   let ov ← eval o X.env
   standAt apos.atName
   let (f, first) ← holding [ov] (getMethod ov m pl)
   callWith pos f first (backTo pos (starEach [] X.env)) (backToKw pos (keywordEach [] X.env))) := by rfl) :
  PE X (.Call (.Attribute o m apos) [] [] pos) (tMeth C m sp [] E ta tNil) := by
 obtain ⟨fd, G, b⟩ := F.ex
 exact pe_meth0 (pl := pl) he c hm G hr b .nil hx ht
theorem pe_cdef (F : FDef X.prog X.w X.K X.mg X.base CX k ps sp f) (M : Mk X.K C f) (hm : X.mg x = some (.ref C)) (hr : Room (k + 1) X.A) (hg : Gl X x) (hx : Passes CX X E)
  (ha : PA X (e :: es) t) (hdb : (x == ("__debug__" : Str)) = false := by decide) (he : starEach (e :: es) X.env = (false, eval e X.env) :: starEach es X.env := by rfl) (hpl : (backTo pos (starEach es X.env)).any (·.1) = false := by rfl) :
  PE X (.Call (.Name x p) (e :: es) [] pos) (tMake C sp [] E t) := by
 obtain ⟨fd, G, b⟩ := F.ex
 exact pe_make M G hr hg hm b .nil hx ha hdb he hpl
theorem pe_fldK (h : X.K = K) {f : Str} (he : PE X o ta) (hb : attributeBase o f X.env (eval o X.env) = eval o X.env := by rfl) : PE X (.Attribute o f pos) (tFld K ta f) := by subst h; exact pe_fld he hb
theorem ps_fldK (h : X.K = K) {f : Str} {value : Expr} {tv : TE} {pos' : Pos} (ha : PE X o ta) (hv : PE X value tv) (hs : swapsWith value (some (.Attribute o f pos')) pos.line X.env = pure false := by rfl) : PS X (.Assign [.Attribute o f pos'] value pos) (sFld K ta tv f) := by subst h; exact ps_fld ha hv hs
end
section
variable {X : Cx} {x : Str} {px pos : Pos} {sc : Scope} {M : List Str} {elt iter : Expr} {wi : TI} {te : TE}
theorem ps_setC1 {i : Nat} {y : Str} {py spos : Pos} (S : CompScope1 X.N M X.env.scope x sc) (hc : X.calm = true) (hi : PI X (.Name x px) iter wi) (he : ∀ fp s3 H3, PE (cxComp1 X M x sc fp s3 H3) elt te)
  (hN : X.N.Nodup) (hy : X.N[i]? = some y) (hl : Loc X.env.scope y) (hsw : swapsWith (.ListComp elt [⟨.Name x px, iter, [], 0⟩] sc pos) (some (.Name y py)) spos.line X.env = pure true)
  (hs : ∀ x, foldedSetIterable iter X.env x = pure x := by intro _; rfl) (hf : X.fn y = true \/ X.env.scope.names.lookup y = some .local := by first | exact .inl rfl | exact .inr rfl | assumption) :
  PS X (.Assign [.Name y py] (.ListComp elt [⟨.Name x px, iter, [], 0⟩] sc pos) spos) (tAsg (tComp1 wi te) (gName i)) := by
 intro pins s σ H D I h
 rw [exec_Assign_Name_used _ _ _ _ hsw]
 refine wpAny_bind (wpAny_standAt (wpAny_bind ?_))
 show wpAny _ X.A (do let _ ← comprehension (.ListComp elt [⟨.Name x px, iter, [], 0⟩] sc pos) sc X.env _ (newList []) false (eval iter X.env) (some (assign (.Name y py) X.env))) _ _ s
 refine wpAny_bind (wpAny_mono (wpAny_comprehension_free (use := some (assign (.Name y py) X.env)) (cl := clOf sc X.env) (Q := fun _ s' => SP X pins D .next s') rfl hs (closure_is (S.cells I.ok)) S.kind S.names
  (thn (hi pins s σ H _ I h) fun v s1 h1 => thn h1 fun itv s2 h2 => ?_)) (fun _ s' hq => wpAny_pure (wpAny_pure hq)) fun _ _ e => e)
 obtain ⟨it, fp, tn, J, H2, e, I2, T, st2, f2, q2⟩ := h2
 subst e
 refine comp_core1 (RR := fun acc C => compPost (model X.prog X.w) X.A X.xe (some (assign (.Name y py) X.env)) (fun _ s' => SP X pins D .next s') acc C) (Q := fun v H' => D.nx (σ.set i (some v)) H') S hc he I2 T st2 f2 q2 ?_
 intro s3 H3 s' σ' H' I3 f3 J' q'
 obtain ⟨m, hn, _⟩ := J'.loc
 have I1 : Inv X pins σ H' s' := I3.call' (ch := fp) J'.os J'.base J'.hok J'.bare fun b hb => ⟨(f3 b hb).2.2.2.1, (f3 b hb).2.1, (f3 b hb).2.2.2.2.1, (f3 b hb).2.2.2.2.2⟩
 have cL : s3.heap.objs.size ≠ X.env.locals := Nat.ne_of_gt I3.lt
 have cC : ∀ z c, X.env.cells.lookup z = some c -> c ≠ s3.heap.objs.size := fun z c e q => by
  obtain ⟨v, w⟩ := I3.cell z c e
  exact absurd w.lt (by rw [q]; exact Nat.lt_irrefl _)
 have cP : ∀ p ∈ X.pn ++ pins, p.1 ≠ s3.heap.objs.size := fun p hp z => absurd (Heap.lt_size (I3.pin p hp).1) (by rw [z]; exact Nat.lt_irrefl _)
 show wpAny _ X.A (assign (.Name y py) X.env (.ref s2.heap.objs.size)) _ _ s'
 refine wpAny_assign_Name (store_ok2 (v := .ref s2.heap.objs.size) I1 hN hy hl rfl (fun s4 I4 ⟨a, sb, ha⟩ => ?_) hf)
 have ne : s3.heap.objs.size ≠ a := by
  rcases ha with z | z
  · rw [z]; exact cL
  · exact (cC _ _ z).symm
 refine ⟨m, hn.sameBut sb ne, fun h' hs' => ⟨_, H', ?_, q'⟩⟩
 exact I4.turned (t' := s4.toks) (it := s3.heap.objs.size) (fun b o hb e => (hs'.2 b hb).trans e) J'.free cL (.inr I3.sz) cC cP
end
end L2
set_option Elab.async false
set_option linter.all false
set_option maxRecDepth 100000
set_option maxHeartbeats 4000000
namespace L2
open PySem PySem.Spec PyProof.Rows
section
variable {P : Program} {w : World} {A : Around} {s : Shared} {E : Value -> Shared -> Prop} {Q : Value -> Shared -> Prop}
theorem args_max1 (a : Value) : argsOk "max" ⟨[a], []⟩ := by unfold argsOk; kernel_rfl
theorem max1 {l : Addr} {its : List Value} {b : Int} {r : List Int} (quiet : A.handled = none) (hl : s.heap.IsList l its.toArray) (hi : IntsAre its (b :: r))
  (q1 : ∀ t h' tk, (∀ x o, s.heap.get? x = some o -> h'.get? x = some o) -> Q (.int (fMax b r) t) { s with heap := h', toks := tk }) :
  wpAny (model P w) A (call (.builtin "max") [.ref l]) Q E s := by
 have nm : (toString "max" ++ toString ".loop" : String) = "max.loop" := by decide
 have ln : its.length = (b :: r).length := hi.length
 refine kmk_tree F.kind_max F.plain_max F.entry_max (args_max1 _) ?_
 show wpAny _ _ (Builtin.Builtins.bindParams "max" ["key", "default"] 0 ⟨[], []⟩ >>= _) _ _ _
 refine wpAny_bind (wpAny_of_eq (show Builtin.Builtins.bindParams "max" ["key", "default"] 0 ⟨[], []⟩ = pure [none, none] from rfl) ?_)
 refine wpAny_bind (wpAny_pure ?_)
 refine wpAny_bind (wpAny_pyIter_list hl ?_)
 refine wpAny_bind (wpAny_newList ?_ (Nat.zero_le _))
 rw [nm]
 refine wpAny_pure ⟨plainId_quiet F.plain_max_loop _, ?_⟩
 have llt : l < s.heap.objs.size := by obtain ⟨o, e, _⟩ := hl; exact Heap.lt_size e
 generalize ehp : s.heap.push { cls := .type "list_iterator", data := .fields #[.ref l, .int 0 0] } = hp1
 have sz1 : hp1.objs.size = s.heap.objs.size + 1 := by rw [← ehp]; exact Heap.size_push ..
 have k1 : ∀ x o, s.heap.get? x = some o -> hp1.get? x = some o := fun x o e => by rw [← ehp]; exact Heap.get?_push_of_some _ e
 have gi1 : hp1.get? s.heap.objs.size = some { cls := .type "list_iterator", data := .fields #[.ref l, .int 0 0] } := by rw [← ehp]; exact Heap.get?_push_size _ rfl
 generalize ehq : hp1.push { cls := .type "list", data := .seq ([] : List Value).toArray } = hp2
 have gb2 : hp2.get? hp1.objs.size = some { cls := .type "list", data := .seq ([] : List Value).toArray } := by rw [← ehq]; exact Heap.get?_push_size _ rfl
 have k2 : ∀ x o, hp1.get? x = some o -> hp2.get? x = some o := fun x o e => by rw [← ehq]; exact Heap.get?_push_of_some _ e
 have st2 : hp2.IsListIter s.heap.objs.size l 0 := ⟨_, k2 _ _ gi1, rfl, rfl⟩
 have hl2 : hp2.IsList l its.toArray := hl.at fun o e => k2 _ _ (k1 _ _ e)
 have n1 : s.heap.objs.size ≠ hp1.objs.size := by rw [sz1]; exact Nat.ne_of_lt (Nat.lt_succ_self _)
 have n2 : l ≠ hp1.objs.size := by rw [sz1]; exact Nat.ne_of_lt (Nat.lt_succ_of_lt llt)
 have n3 : l ≠ s.heap.objs.size := Nat.ne_of_lt llt
 have old : ∀ x o, s.heap.get? x = some o -> x ≠ s.heap.objs.size /\ x ≠ hp1.objs.size := fun x o e => ⟨Nat.ne_of_lt (Heap.lt_size e), by rw [sz1]; exact Nat.ne_of_lt (Nat.lt_succ_of_lt (Heap.lt_size e))⟩
 refine codeAny_builtin F.entry_max_loop ?_
 rw [Around.under_plainId F.plain_max_loop _]
 show wpAny _ _ (seqItems? (.ref hp1.objs.size) >>= _) _ _ _
 refine wpAny_bind (wpAny_seqItems gb2 rfl ?_)
 show wpAny _ _ (tryCatch (pyNext (.ref s.heap.objs.size)) _ >>= _) _ _ _
 obtain ⟨t2, et⟩ := intsAre_get hi 0 (by simp at ln; omega) (by simp)
 have gi : its.toArray[0]? = some (.int b t2) := by
  have : its[0]'(by simp at ln; omega) = .int b t2 := et
  rw [← this]; simp at ln ⊢
 refine wpAny_bind (wpAny_tryCatch (wpAny_pyNext_list_item st2 hl2 gi fun h1 st1 ex => ?_))
 have gb3 := ex.extBut hp1.objs.size _ (Ne.symm n1) gb2
 show wpAny _ _ (updateSeq hp1.objs.size (fun _ => #[.int b t2, .int b t2]) >>= _) _ _ _
 refine wpAny_bind (wpAny_updateSeq gb3 rfl ?_)
 rw [nm]
 refine wpAny_pure ⟨plainId_quiet F.plain_max_loop _, goMax quiet hi n1 n2 n3 _ 1 _ b t2 _ rfl (st1.at fun o e => (Heap.get?_update_other _ _ (Ne.symm n1)).trans e) ((hl2.extBut ex.extBut n3).at fun o e => (Heap.get?_update_other _ _ (Ne.symm n2)).trans e) (Heap.get?_update_self _ gb3 rfl) fun t' h' tk kk => ?_⟩
 refine q1 t' h' tk fun x o e => ?_
 obtain ⟨o1, o2⟩ := old x o e
 exact kk x o o1 o2 ((Heap.get?_update_other _ _ (Ne.symm o2)).trans (ex.extBut x o o1 (k2 _ _ (k1 _ _ e))))
end
variable {X : Cx}
theorem call_max1 {K : PySem.W.Frag} (hK : X.K = K) (hc : X.calm = true) : CallR X (.builtin "max") (fun xs H Q => ∃ (p : Addr) (b : Int) (r : List Int), xs = [.ref p] /\ SqL K H p ((b :: r).map V.int) /\ Q (.int (fMax b r)) H) := by
 subst hK
 intro pins s σ H xs us Q I r h
 obtain ⟨p, b, rr, rfl, sq, q⟩ := h
 obtain ⟨u, rfl, ru⟩ := vals1 r
 cases ru
 obtain ⟨its, r, pl, hz⟩ := I.list sq
 exact max1 (I.ok.hd hc) pl.isList (intsAre_of r) fun t h' tk k => ⟨.int _, H, I.kept k, ⟨t, rfl⟩, q⟩
end L2
set_option Elab.async false
set_option linter.all false
set_option maxRecDepth 100000
set_option maxHeartbeats 4000000
namespace L2
open PySem PySem.Spec PyProof.Rows
section
variable {prog : Program} {w : World} {A : Around} {E : Value -> Shared -> Prop} {s : Shared}
end
section
variable {X : Cx} {pos : Pos}
end
end L2
set_option Elab.async false
set_option linter.all false
set_option maxRecDepth 100000
set_option maxHeartbeats 4000000
namespace L2
open PySem PySem.Spec PyProof.Rows
section
variable {X : Cx} {M : List Str} {x : Str} {sc : Scope} {px pos : Pos} {elt iter : Expr} {ifs : List Expr} {wi : TI} {tc : TT} {te : TE}
end
section
variable {X : Cx} {K : PySem.W.Frag} {n k : Nat} {x : Str} {ps : List Str} {sp : Sp} {a b e : Expr} {es : List Expr} {t : TA} {ta tb te : TE} {p pos pos' : Pos}
theorem pe_dz (F : Def X.prog X.w X.K X.mg X.base CX0 x k ps sp) (hr : Room n X.A) (ha : PA X (e :: es) t) (hk : k <= n := by decide) (hg : Gl X x := by rfl)
  (hdb : (x == ("__debug__" : Str)) = false := by decide) (he : starEach (e :: es) X.env = (false, eval e X.env) :: starEach es X.env := by rfl) (hpl : (backTo pos (starEach es X.env)).any (·.1) = false := by rfl) :
  PE X (.Call (.Name x p) (e :: es) [] pos) (tCall sp [] E0 t) := pe_def F (hr.mono hk) hg pass0 ha hdb he hpl
theorem ps_sz (i : Nat) (hN : X.N.Nodup) (he : PE X e te) (hi : X.N[i]? = some x := by rfl) (hx : Loc X.env.scope x := by first | exact Or.inl rfl | exact Or.inr rfl) (hs : swapsWith e (some (.Name x pos')) pos.line X.env = pure false := by rfl) (hf : X.fn x = true \/ X.env.scope.names.lookup x = some .local := by first | exact .inl rfl | exact .inr rfl | assumption) :
  PS X (.Assign [.Name x pos'] e pos) (tAsg te (gName i)) := ps_set hN hi hx he hs hf
theorem pg_nz (i : Nat) (hN : X.N.Nodup) (hi : X.N[i]? = some x := by rfl) (hx : Loc X.env.scope x := by first | exact Or.inl rfl | exact Or.inr rfl) (hf : X.fn x = true \/ X.env.scope.names.lookup x = some .local := by first | exact .inl rfl | exact .inr rfl | assumption) : PG X (.Name x pos) (gName i) := pg_name hN hi hx hf
theorem pe_xL (ha : PE X a ta) (hb : PE X b tb) (h : X.K = K := by rfl) (hs : PlainIx b := by exact fun _ _ => rfl) : PE X (.Subscript a b pos) (tOp (rIxL K) ta tb) := pe_ix (ix_listK h) ha hb hs
theorem pe_xT (ha : PE X a ta) (hb : PE X b tb) (h : X.K = K := by rfl) (hs : PlainIx b := by exact fun _ _ => rfl) : PE X (.Subscript a b pos) (tOp (rIxT K) ta tb) := pe_ix (ix_tupK h) ha hb hs
end
abbrev Ha (K : PySem.W.Frag) (x : Str) (f : Addr) : Prop := PySem.W.nsIn K mainGlobals x = some (some (.ref f))
abbrev Hl (K : PySem.W.Frag) (f : Addr) (x q : Str) (st : Stmt) (oc : Value) (od : Option Addr) (kV dc pm : Value) (an : Option Addr) (cd ct : Value) (sl : Array (Option Value)) : Prop := K.lookup f = some ⟨oc, od, .func (PySem.W.fnOf x q (defArgs st) (defBody st) (defScope st) .none kV dc pm an cd ct), sl⟩
abbrev Hc (K : PySem.W.Frag) (cd : Value) (x : Str) : Prop := PySem.W.codeIn K cd x = true
abbrev Hk (K : PySem.W.Frag) (f : Addr) : Prop := PySem.W.keepIn K (.ref f) = true
abbrev Hm (K : PySem.W.Frag) (Z : Addr) (m : Str) (f : Addr) : Prop := PySem.W.findIn K (.ref Z) m = some (some (.ref f))
abbrev Hi (K : PySem.W.Frag) (f : Addr) : Prop := PySem.W.isFn K (.ref f) = true
abbrev Hz (K : PySem.W.Frag) (x : Str) : Prop := PySem.W.nsIn K mainGlobals x = some none
end L2
set_option Elab.async false
set_option linter.all false
set_option maxRecDepth 100000
set_option maxHeartbeats 4000000
namespace L2
open PySem PySem.Spec PyProof.Rows
structure ICls (K : PySem.W.Frag) (C : Addr) : Prop where
 ga : PySem.W.plainGet K C "__class__" = true
 hd : PySem.W.hasDictIn K C = true
 ca : PySem.W.findIn K (.ref C) "__class__" = some (some (.builtin "object.__class__"))
 gt : PySem.W.specialIn K (.builtin "object.__class__") "__get__" = some (some (.builtin "getset_descriptor.__get__"))
 tk : PySem.W.takesIn K (.builtin "object.__class__") = some true
 ob : PySem.W.mroIn K C (.type "object") = some true
end L2
set_option linter.all false
namespace PySem
namespace SetP
def Rise (l : List Nat) : Prop := l.Pairwise (· < ·)
theorem getD_lt {xs : Array Nat} {i d : Nat} (h : i < xs.size) : xs[i]? = some (xs.getD i d) := by
 rw [Array.getElem?_eq_getElem h]
 simp [Array.getD, h]
theorem rise_lt {l : List Nat} (h : Rise l) {i j a b : Nat} (hi : l[i]? = some a) (hj : l[j]? = some b) (hij : i < j) : a < b := by
 obtain ⟨h1, e1⟩ := List.getElem?_eq_some_iff.mp hi
 obtain ⟨h2, e2⟩ := List.getElem?_eq_some_iff.mp hj
 rw [← e1, ← e2]
 exact List.pairwise_iff_getElem.mp h i j h1 h2 hij
theorem go_spec {xs : Array Nat} {j : Nat} (R : Rise xs.toList) : ∀ (fuel lo hi : Nat), hi - lo <= fuel -> lo <= hi -> hi <= xs.size -> (∀ i a, i < lo -> xs[i]? = some a -> a < j) -> (∀ i a, hi <= i -> xs[i]? = some a -> j <= a) ->
  (SetTable.below.go xs j fuel lo hi <= xs.size /\ (∀ i a, i < SetTable.below.go xs j fuel lo hi -> xs[i]? = some a -> a < j) /\ ∀ i a, SetTable.below.go xs j fuel lo hi <= i -> xs[i]? = some a -> j <= a)
 | 0, lo, hi, hf, hl, hs, h1, h2 => by
  have : lo = hi := by omega
  subst this
  exact ⟨hs, h1, h2⟩
 | fuel + 1, lo, hi, hf, hl, hs, h1, h2 => by
  unfold SetTable.below.go
  by_cases h : lo < hi
  · rw [if_pos h]
    have hm : (lo + hi) / 2 < xs.size := by omega
    have em := getD_lt (d := j) hm
    dsimp only
    generalize em' : (lo + hi) / 2 = mid at *
    have le : ∀ {i k a b : Nat}, xs[i]? = some a -> xs[k]? = some b -> i <= k -> a <= b := fun {i k a b} e1 e2 hk => by
     by_cases q : i = k
     · subst q; rw [e1] at e2; cases e2; exact Nat.le_refl _
     · exact Nat.le_of_lt (rise_lt R (by rw [Array.getElem?_toList]; exact e1) (by rw [Array.getElem?_toList]; exact e2) (by omega))
    by_cases hc : xs.getD mid j < j
    · rw [if_pos hc]
      exact go_spec R fuel (mid + 1) hi (by omega) (by omega) hs (fun i a hi' e => Nat.lt_of_le_of_lt (le e em (by omega)) hc) h2
    · rw [if_neg hc]
      exact go_spec R fuel lo mid (by omega) (by omega) (by omega) h1 (fun i a hi' e => Nat.le_trans (Nat.le_of_not_lt hc) (le em e hi'))
  · rw [if_neg h]
    have : lo = hi := by omega
    subst this
    exact ⟨hs, h1, h2⟩
theorem below_spec {xs : Array Nat} (R : Rise xs.toList) (j : Nat) : SetTable.below xs j <= xs.size /\ (∀ i a, i < SetTable.below xs j -> xs[i]? = some a -> a < j) /\ ∀ i a, SetTable.below xs j <= i -> xs[i]? = some a -> j <= a :=
 go_spec R xs.size 0 xs.size (by omega) (by omega) (Nat.le_refl _) (fun i a h => absurd h (by omega)) (fun i a h e => by
  have := (Array.getElem?_eq_some_iff.mp e).1
  omega)
theorem below_next {xs : Array Nat} (R : Rise xs.toList) {i a : Nat} (e : xs[i]? = some a) : SetTable.below xs (a + 1) = i + 1 := by
 obtain ⟨h0, h1, h2⟩ := below_spec R (a + 1)
 have hi := (Array.getElem?_eq_some_iff.mp e).1
 have g : ∀ k, k < xs.size -> ∃ b, xs[k]? = some b := fun k hk => ⟨_, Array.getElem?_eq_getElem hk⟩
 have lo : i + 1 <= SetTable.below xs (a + 1) := by
  refine Nat.le_of_not_lt fun q => ?_
  have := h2 i a (by omega) e
  omega
 refine Nat.le_antisymm (Nat.le_of_not_lt fun q => ?_) lo
 obtain ⟨b, eb⟩ := g (i + 1) (by omega)
 have k1 := h1 (i + 1) b q eb
 have k2 := rise_lt R (by rw [Array.getElem?_toList]; exact e) (by rw [Array.getElem?_toList]; exact eb) (Nat.lt_succ_self i)
 omega
theorem below_zero {xs : Array Nat} (R : Rise xs.toList) : SetTable.below xs 0 = 0 := by
 obtain ⟨h0, h1, _⟩ := below_spec R 0
 refine Nat.eq_zero_of_not_pos fun q => ?_
 have := h1 0 _ q (Array.getElem?_eq_getElem (by omega))
 omega
theorem put_rise {xs : Array Nat} (R : Rise xs.toList) {j : Nat} (nm : xs[SetTable.below xs j]? ≠ some j) : Rise (SetTable.insertAt xs (SetTable.below xs j) j).toList := by
 obtain ⟨h0, h1, h2⟩ := below_spec R j
 rw [SetTable.toList_insertAt]
 generalize SetTable.below xs j = p at *
 have R' : Rise (xs.toList.take p ++ xs.toList.drop p) := by rw [List.take_append_drop]; exact R
 obtain ⟨ra, rb, rc⟩ := List.pairwise_append.mp R'
 refine List.pairwise_append.mpr ⟨ra, List.pairwise_cons.mpr ⟨fun b hb => ?_, rb⟩, fun a ha b hb => ?_⟩
 · obtain ⟨i, hi, e⟩ := List.getElem_of_mem hb
   have e' : xs[p + i]? = some b := by
    rw [← Array.getElem?_toList, ← List.getElem?_drop, List.getElem?_eq_getElem hi, e]
   have := h2 (p + i) b (by omega) e'
   refine Nat.lt_of_le_of_ne this fun q => ?_
   subst q
   by_cases z : i = 0
   · subst z; exact nm e'
   · obtain ⟨c, ec⟩ : ∃ c, xs[p]? = some c := ⟨_, Array.getElem?_eq_getElem (by have := (Array.getElem?_eq_some_iff.mp e').1; omega)⟩
     have k1 := h2 p c (Nat.le_refl _) ec
     have k2 := rise_lt R (by rw [Array.getElem?_toList]; exact ec) (by rw [Array.getElem?_toList]; exact e') (by omega)
     omega
 · have hab : a < j := by
    obtain ⟨i, hi, e⟩ := List.getElem_of_mem ha
    rw [List.length_take] at hi
    have e' : xs[i]? = some a := by
     rw [← Array.getElem?_toList, ← List.getElem?_take_of_lt (i := i) (j := p) (by omega), List.getElem?_eq_getElem (by rw [List.length_take]; omega), e]
    exact h1 i a (by omega) e'
   rcases List.mem_cons.mp hb with rfl | hb
   · exact hab
   · exact rc a ha b hb
structure TOk (L : Bool) (t : SetTable) : Prop where
 led : t.led = L
 pl : t.plain = true -> Rise t.place.toList /\ t.dummies = #[]
theorem has_none (j : Nat) : SetTable.has #[] j = false := by
 unfold SetTable.has
 simp
theorem probe_empty {t : SetTable} (hd : t.dummies = #[]) {f : Nat -> Int} {h : Int} : ∀ (fuel : Nat) (p : SetTable.Probe), p.dummy = none -> ∀ j d, SetTable.probe.go t f h fuel p = some (.empty j d) -> d = none /\ t.slot j = .empty
 | 0, p, hp, j, d, e => by unfold SetTable.probe.go at e; cases e
 | fuel + 1, p, hp, j, d, e => by
  unfold SetTable.probe.go at e
  have adv : ∀ q : SetTable.Probe, q.dummy = none -> (t.advance q).dummy = none := fun q hq => by
   unfold SetTable.advance
   split
   · exact hq
   · exact hq
  cases es : t.slot p.j with
  | empty =>
   rw [es] at e
   cases e
   exact ⟨hp, es⟩
  | dummy =>
   exfalso
   unfold SetTable.slot at es
   rw [hd] at es
   dsimp only at es
   split at es
   · cases es
   · rw [has_none] at es
     cases es
  | live i =>
   rw [es] at e
   dsimp only at e
   split at e
   · cases e
   · exact probe_empty hd fuel _ (adv p hp) j d e
theorem standIn_ok {L : Bool} {t : SetTable} {n : Nat} (h : t.led = L) : TOk L (t.standIn n) := ⟨h, fun e => by cases e⟩
theorem orStandIn_ok {L : Bool} {t : SetTable} {n : Nat} (h : TOk L t) : TOk L (t.orStandIn n) := by
 unfold SetTable.orStandIn
 split
 · exact h
 · exact standIn_ok h.led
theorem layNew_ok {L : Bool} {t : SetTable} (h : TOk L t) (es : Array (Int × Value)) (k : Int) (x : Value) : TOk L (layNew t es k x).2.1 := by
 unfold layNew
 split
 · rename_i slot wasDummy e
   refine orStandIn_ok ⟨h.led, fun hp => ?_⟩
   obtain ⟨R, hd⟩ := h.pl hp
   unfold SetTable.freeSlot at e
   split at e
   · rename_i j d em
     obtain ⟨rfl, hs⟩ := probe_empty hd _ _ rfl j d em
     cases e
     have nm : t.place[SetTable.below t.place j]? ≠ some j := fun q => by
      unfold SetTable.slot at hs
      dsimp only at hs
      rw [if_pos (by rw [q]; simp)] at hs
      cases hs
     refine ⟨put_rise R nm, ?_⟩
     show (if SetTable.has t.dummies j = true then _ else t.dummies) = #[]
     rw [hd, has_none]
     rfl
   · cases e
 · exact standIn_ok h.led
theorem laid_ok {L : Bool} {mask fi mo : Nat} {pl : Bool} {hs : Array Int} {t : SetTable} {o : Array Nat} (e : SetTable.laid mask fi mo L pl hs = some (t, o)) : TOk L t := by
 unfold SetTable.laid at e
 cases ec : SetTable.layClean mask hs with
 | none => rw [ec] at e; cases e
 | some owner =>
  rw [ec] at e
  cases e
  refine ⟨rfl, fun _ => ⟨?_, rfl⟩⟩
  show Rise (List.map _ (List.filterMap _ (List.range (mask + 1))))
  rw [List.map_filterMap]
  refine List.Pairwise.filterMap _ (R := fun a b => a < b) (fun a a' haa b hb b' hb' => ?_) List.pairwise_lt_range
  have one : ∀ {a b : Nat}, (Option.map (fun x => x.1) (Option.map (fun x => (a, x)) (owner.getD a none)) : Option Nat) = some b -> b = a := fun {a b} h => by
   cases hx : owner.getD a none with
   | none => rw [hx] at h; cases h
   | some z => rw [hx] at h; cases h; rfl
  have h1 := one (a := a) (b := b) (by simpa using hb)
  have h2 := one (a := a') (b := b') (by simpa using hb')
  omega
theorem relayAll_ok {L : Bool} {t : SetTable} (h : TOk L t) (es : Array (Int × Value)) (n : Nat) : TOk L (relayAll t es n).2.1 := by
 unfold relayAll
 split
 · rename_i t' o e
   unfold SetTable.relaid at e
   rw [h.led] at e
   have := laid_ok e
   dsimp only
   split
   · exact this
   · exact standIn_ok h.led
 · exact standIn_ok h.led
end SetP
end PySem
set_option linter.all false
namespace PySem
namespace SetP
open PyProof.Rows
def intOf : Value -> Int
 | .int i _ => i
 | _ => 0
structure SetI (prog : Program) (w : World) (h : Heap) (a : Addr) (L : Bool) (σ : List Int) (o : Obj) (es : Array (Int × Value)) (ep : Nat) (t : SetTable) : Prop where
 get : h.get? a = some o
 ex : o.ExactSet
 dat : o.data = .set es ep t
 el : ElemsOf (intKind prog w) es.toList
 pm : (es.toList.map fun e => intOf e.2).Perm σ
 bd : es.size < scanBound
 ft : t.fits es.size = true
 ok : TOk L t
def SetIs (prog : Program) (w : World) (h : Heap) (a : Addr) (L : Bool) (σ : List Int) : Prop := ∃ o es ep t, SetI prog w h a L σ o es ep t
theorem SetI.size {prog : Program} {w : World} {h : Heap} {a : Addr} {L : Bool} {σ : List Int} {o : Obj} {es : Array (Int × Value)} {ep : Nat} {t : SetTable} (S : SetI prog w h a L σ o es ep t) : es.size = σ.length := by
 have := S.pm.length_eq
 simpa using this
theorem SetIs.at_ {prog : Program} {w : World} {h h' : Heap} {a : Addr} {L : Bool} {σ : List Int} (S : SetIs prog w h a L σ) (k : ∀ o, h.get? a = some o -> h'.get? a = some o) : SetIs prog w h' a L σ := by
 obtain ⟨o, es, ep, t, S⟩ := S
 exact ⟨o, es, ep, t, { S with get := k _ S.get }⟩
theorem is_int {prog : Program} {w : World} {k : Int} {v : Value} (h : (intKind prog w).is k v = true) : ∃ t, v = .int k t := Value.isInt_shape h
theorem fresh_is {prog : Program} {w : World} {h : Heap} {a : Addr} {L : Bool} (e : h.get? a = some { cls := .type "set", dict := none, data := .set #[] 0 (.fresh 0 0 L) }) : SetIs prog w h a L [] :=
 ⟨_, #[], 0, _, e, ⟨rfl, rfl, rfl⟩, rfl, fun e he => by simp at he, by simp, by decide, rfl, ⟨rfl, fun _ => ⟨List.Pairwise.nil, rfl⟩⟩⟩
section
variable {prog : Program} {w : World} {A : Around} {E : Value -> Shared -> Prop} {s : Shared}
theorem store_is {h : Heap} {a : Addr} {o : Obj} {es : Array (Int × Value)} {ep : Nat} {t : SetTable} (ho : h.get? a = some o) (hex : o.ExactSet) (hd : o.data = .set es ep t)
  {es' : Array (Int × Value)} {t' : SetTable} {L : Bool} {σ : List Int} (hel : ElemsOf (intKind prog w) es'.toList) (hpm : (es'.toList.map fun e => intOf e.2).Perm σ) (hb : es'.size < scanBound) (hf : t'.fits es'.size = true) (hk : TOk L t') :
  SetI prog w (h.update a (Obj.putSet es' t')) a L σ { o with data := .set es' (ep + 1) t' } es' (ep + 1) t' := by
 have hg : (h.update a (Obj.putSet es' t')).get? a = some { o with data := .set es' (ep + 1) t' } := by
  have := Heap.get?_update_self (Obj.putSet es' t') ho (by rw [putSet_of es' t' hd]; rfl)
  rw [putSet_of es' t' hd] at this
  exact this
 exact ⟨hg, hex, rfl, hel, hpm, hb, hf, hk⟩
theorem add_end {g : Bool -> Sem Unit} (hg : ∀ (b : Bool) (s₁ : Shared) (Q' : Unit -> Shared -> Prop), Q' () s₁ -> wpAny (model prog w) A (g b) Q' E s₁)
  {a : Addr} {o : Obj} {es : Array (Int × Value)} {ep : Nat} {t : SetTable} (ho : s.heap.get? a = some o) (hex : o.ExactSet) (hd : o.data = .set es ep t)
  {es1 : Array (Int × Value)} {t2 : SetTable} {L : Bool} {σ : List Int} (hel : ElemsOf (intKind prog w) es1.toList) (hpm : (es1.toList.map fun e => intOf e.2).Perm σ)
  (hb1 : es1.size < scanBound) (hf2 : t2.fits es1.size = true) (hk : TOk L t2) {wasDummy : Bool} {R : Option Bool -> Shared -> Prop}
  (h : ∀ h', Heap.SameBut a s.heap h' -> SetIs prog w h' a L σ -> R (some true) { s with heap := h' }) :
  wpAny (model prog w) A (do
    storeSet a es1 t2
    if (!wasDummy && t2.tooFull) = true then do
        g (relayAll t2 es1 (SetTable.grown es1.size)).2.2
        storeSet a (relayAll t2 es1 (SetTable.grown es1.size)).1 (relayAll t2 es1 (SetTable.grown es1.size)).2.1
        pure (some true)
     else pure (some true)) R E s := by
 refine wpAny_bind (wpAny_storeSet_of ho hd ?_ (fits_of_scanBound hb1))
 have S1 := store_is (L := L) (σ := σ) ho hex hd hel hpm hb1 hf2 hk
 have sb1 := Heap.SameBut.update s.heap a (Obj.putSet es1 t2)
 split
 · have hp := relayAll_perm t2 es1 (SetTable.grown es1.size)
   have hfr := relayAll_fits t2 es1 (SetTable.grown es1.size)
   have hkr := relayAll_ok hk es1 (SetTable.grown es1.size)
   generalize relayAll t2 es1 (SetTable.grown es1.size) = Rl at hp hfr hkr ⊢
   obtain ⟨es2, t3, gave2⟩ := Rl
   dsimp only at hp hfr hkr ⊢
   have hsz : es2.size = es1.size := by rw [← Array.length_toList, hp.length_eq, Array.length_toList]
   have hb2 : es2.size < scanBound := by rw [hsz]; exact hb1
   refine wpAny_bind (hg _ _ _ ?_)
   refine wpAny_bind (wpAny_storeSet_of S1.get rfl ?_ (fits_of_scanBound hb2))
   have S2 := store_is (L := L) (σ := σ) S1.get hex rfl (hel.perm hp) ((hp.map _).trans hpm) hb2 hfr hkr
   exact wpAny_pure (h _ (sb1.trans (Heap.SameBut.update _ a _)) ⟨_, _, _, _, S2⟩)
 · exact wpAny_pure (h _ sb1 ⟨_, _, _, _, S1⟩)
theorem add_is {a : Addr} {L : Bool} {σ : List Int} {k : Int} {x : Value} {Q : Bool -> Shared -> Prop} (hkey : (intKind prog w).is k x = true) (hS : SetIs prog w s.heap a L σ) (hroom : σ.length + 1 < scanBound)
  (h : ∀ b h', Heap.SameBut a s.heap h' -> SetIs prog w h' a L (step_dedup σ k) -> Q b { s with heap := h' }) :
  wpAny (model prog w) A (setAddHashed a x ((intKind prog w).hash k)) Q E s := by
 obtain ⟨tx, rfl⟩ := is_int hkey
 obtain ⟨o, es, ep, t, S⟩ := hS
 obtain ⟨ho, hex, hd, hel, hpm, hb, hf, hok⟩ := id S
 have hn := S.size
 unfold setAddHashed setAddHashedIn
 refine wpAny_holding (wpAny_bind (wpAny_setState_of ho hd hf ?_))
 dsimp only
 rw [byScan_of rfl hb hel]
 simp only [↓reduceIte]
 unfold setAddByScan
 refine wpAny_bind ?_
 refine wpAny_bind (wpAny_rule ?_)
 refine wpAny_bind (wpAny_setScan_of hkey ho hd hf hel ?_)
 have mem : ∀ j, j ∈ σ ↔ ∃ e ∈ es.toList, (intKind prog w).is j e.2 = true := fun j => by
  rw [← hpm.mem_iff, List.mem_map]
  constructor
  · rintro ⟨e, he, q⟩
    obtain ⟨⟨j', hj, _⟩, _⟩ := hel e he
    obtain ⟨t', et⟩ := is_int hj
    rw [et] at q
    exact ⟨e, he, by rw [← q]; exact hj⟩
  · rintro ⟨e, he, q⟩
    obtain ⟨t', et⟩ := is_int q
    exact ⟨e, he, by rw [et]; rfl⟩
 cases hr : List.findIdx? (fun e => (intKind prog w).is k e.2) es.toList with
 | some j =>
  dsimp only
  obtain ⟨hj, hpj, _⟩ := List.findIdx?_eq_some_iff_getElem.mp hr
  have hk : k ∈ σ := (mem k).mpr ⟨es.toList[j], List.getElem_mem hj, hpj⟩
  refine wpAny_pure (wpAny_pure ?_)
  have e : step_dedup σ k = σ := by
   unfold step_dedup
   rw [if_pos (List.any_eq_true.mpr ⟨k, hk, by simp⟩)]
  have := h false s.heap (Heap.SameBut.refl a s.heap) (by rw [e]; exact ⟨_, _, _, _, S⟩)
  have es : s = { s with heap := s.heap } := by cases s; rfl
  rw [es]
  exact this
 | none =>
  dsimp only
  have hk : ¬ k ∈ σ := fun q => by
   obtain ⟨e, he, hp⟩ := (mem k).mp q
   have := List.findIdx?_eq_none_iff.mp hr e he
   rw [hp] at this
   cases this
  have e : step_dedup σ k = σ ++ [k] := by
   unfold step_dedup
   rw [if_neg]
   intro q
   obtain ⟨z, hz, ez⟩ := List.any_eq_true.mp q
   have : z = k := by simpa using ez
   exact hk (this ▸ hz)
  rw [e] at h
  have hgw : ∀ (b : Bool) {s₁ : Shared} {Q' : Unit -> Shared -> Prop}, Q' () s₁ -> wpAny (model prog w) A (match b with | true => rule "set.scan.the-table-gave-way" | false => pure ()) Q' E s₁ :=
   fun b s₁ Q' hq => by cases b <;> first | exact wpAny_pure hq | exact wpAny_rule hq
  have hperm := layNew_perm t es ((intKind prog w).hash k) (.int k tx)
  have hfits := layNew_fits t es ((intKind prog w).hash k) (.int k tx)
  have hlok := layNew_ok hok es ((intKind prog w).hash k) (.int k tx)
  generalize layNew t es ((intKind prog w).hash k) (.int k tx) = Ly at hperm hfits hlok ⊢
  obtain ⟨es1, t1, wasDummy, gave⟩ := Ly
  dsimp only at hperm hfits hlok ⊢
  rw [Array.toList_push] at hperm
  have hel1 : ElemsOf (intKind prog w) es1.toList := (hel.push hkey rfl).perm hperm
  have hpm1 : (es1.toList.map fun e => intOf e.2).Perm (σ ++ [k]) := by
   refine (hperm.map _).trans ?_
   rw [List.map_append]
   exact hpm.append_right _
  have hb1 : es1.size < scanBound := by
   have := hperm.length_eq
   simp at this
   omega
  refine wpAny_bind (hgw _ ?_)
  split
  · refine wpAny_bind ?_
    rw [hashByValue_scannable 8 rfl]
    refine wpAny_pure ?_
    refine add_end ?_ ho hex hd hel1 hpm1 hb1 hfits hlok ?_
    · intro b s₁ Q' hq; cases b <;> first | exact wpAny_pure hq | exact wpAny_rule hq
    · intro h' hsb hS'; exact wpAny_pure (h _ h' hsb hS')
  · refine wpAny_bind (wpAny_pure ?_)
    simp only [↓reduceIte]
    refine add_end ?_ ho hex hd hel1 hpm1 hb1 hfits hlok ?_
    · intro b s₁ Q' hq; cases b <;> first | exact wpAny_pure hq | exact wpAny_rule hq
    · intro h' hsb hS'; exact wpAny_pure (h _ h' hsb hS')
end
section
variable {prog : Program} {w : World} {A : Around} {R : Result -> Shared -> Prop} {I : Addr} {fp wr : List Addr} {G : Array GenState -> Array GenState -> Prop} {n : Nat} {P : Nat -> Value -> Prop} {St : Nat -> Shared -> Prop}
theorem update_is (W : WalksS prog w A.in1 I fp wr G n P St) (S : Addr) (hSf : S ∉ fp) (val : Nat -> Int) (hval : ∀ i v, P i v -> ∃ t, v = .int (val i) t) (hb : n + 1 < scanBound) {L : Bool} :
  ∀ (k i : Nat) (s : Shared), n - i = k -> i <= n -> St i s -> SetIs prog w s.heap S L (firstMet val i) ->
   (∀ s', Moved (S :: wr) G s s' -> SetIs prog w s'.heap S L (firstMet val n) -> R (.ok (.ret .none)) s') ->
   codeAny (model prog w) A (.builtin "set.update.loop" ⟨[.ref S, .ref I], []⟩) R s := by
 have hSw : S ∉ wr := fun h => hSf (W.sub _ h)
 have hsub : ∀ b ∈ wr, b ∈ S :: wr := fun b hb => List.mem_cons_of_mem _ hb
 intro k
 induction k with
 | zero =>
  intro i s hk hi hst hS hR
  have hin : i = n := by omega
  subst hin
  refine codeAny_builtin F.entry_set_update_loop ?_
  rw [Around.under_plainId F.plain_set_update_loop _]
  show wpAny _ A.in1 (pyNext (.ref I) >>= _) _ _ s
  refine wpAny_bind (W.done s _ _ hst fun s' hm => ?_)
  show wpAny _ A.in1 (ret Value.none) _ _ s'
  exact wpAny_pure (hR s' (hm.mono hsub) (hS.at_ fun o e => hm.heap S _ hSw e))
 | succ k ih =>
  intro i s hk hi hst hS hR
  have hlt : i < n := by omega
  refine codeAny_builtin F.entry_set_update_loop ?_
  rw [Around.under_plainId F.plain_set_update_loop _]
  show wpAny _ A.in1 (pyNext (.ref I) >>= _) _ _ s
  refine wpAny_bind (W.item i s _ _ hlt hst fun v s' hP hst' hm => ?_)
  obtain ⟨t, rfl⟩ := hval i v hP
  have hS' := hS.at_ (h' := s'.heap) fun o e => hm.heap S _ hSw e
  show wpAny _ A.in1 (holding [Value.int (val i) t] (setAdd S (.int (val i) t)) >>= _) _ _ s'
  refine wpAny_bind (wpAny_holding ?_)
  unfold setAdd
  refine wpAny_holding ?_
  refine wpAny_bind ((intKind prog w).pyHash (k := val i) (intKind_is _ _ _ _) ?_)
  have hroom : (firstMet val i).length + 1 < scanBound := by have := firstMet_length_le val i; omega
  refine add_is (s := { s' with toks := s'.toks + 1 }) (intKind_is _ _ _ _) hS' hroom fun b h' hsb hS2 => ?_
  rw [← firstMet_succ] at hS2
  refine wpAny_pure ⟨plainId_quiet F.plain_set_update_loop _, ih (i + 1) _ (by omega) hlt (W.frame _ s' _ _ hst' (Nat.le_succ _) fun b hb o e => ?_) hS2 fun s'' hm'' hS'' => ?_⟩
  · rw [hsb.2 b (fun h : b = S => hSf (by rw [← h]; exact hb))]; exact e
  · refine hR s'' (Moved.trans W.gtrans ((hm.mono hsub).then_heap (Nat.le_succ _) fun b o hb e => ?_) hm'') hS''
    rw [hsb.2 b (fun h : b = S => hb (by rw [h]; exact List.mem_cons_self))]; exact e
end
end SetP
end PySem
set_option linter.all false
namespace PySem
namespace SetP
open PyProof.Rows
set_option maxRecDepth 100000
section
variable {prog : Program} {w : World} {A : Around} {E : Value -> Shared -> Prop} {s : Shared}
abbrev ledOf (w : World) : Bool := !(w.params.followText "set-order")
theorem new_is (a : Value) {Q₁ : Value -> Shared -> Prop}
  (h : Q₁ (.ref s.heap.objs.size) { s with heap := s.heap.push { cls := .type "set", dict := none, data := .set #[] 0 (.fresh 0 0 (ledOf w)) } }) :
  codeAny (model prog w) A (.call (.builtin "set.__new__") ⟨[.type "set", a], []⟩) (wants Q₁ E) s := by
 refine codeAny_of_tree ?_
 show wpAny _ A.in1 (do checkBuiltinCall "set.__new__" ⟨[.type "set", a], []⟩; again (.builtin "set.__new__" ⟨[.type "set", a], []⟩)) _ _ s
 refine wpAny_bind (wpAny_of_eq (F.newCall_set_1 a) (wpAny_pure ⟨plainId_quiet F.plain_set_new _, codeAny_builtin F.entry_set_new ?_⟩))
 rw [Around.under_plainId F.plain_set_new _]
 unfold Builtin.«set.__new__» Builtin.Frozenset.newClass
 have hsub := sub_set_self
 obtain ⟨hp, g, d, tk, os⟩ := s
 dsimp only
 wp_walk
 refine wpAny_askSetting (wpAny_pure ?_)
 dsimp only
 simp only [newObj]
 refine wpAny_bind (wpAny_alloc (wpAny_pure ?_))
 exact wpAny_pure h
set_option maxHeartbeats 3200000 in
theorem call_set_is {l : Addr} {items : Array Value} {ns : List Int} {Q : Value -> Shared -> Prop}
  (hh : A.handled = none) (hl : s.heap.IsList l items) (hi : IntsAre items.toList ns) (hb : items.size + 1 < scanBound)
  (h : ∀ (h' : Heap) (tk : Nat), SetIs prog w h' s.heap.objs.size (ledOf w) (firstMet (fun i => ns.getD i 0) items.size) ->
   (∀ b o, b < s.heap.objs.size -> s.heap.get? b = some o -> h'.get? b = some o) -> Q (.ref s.heap.objs.size) { s with heap := h', toks := tk }) :
  wpAny (model prog w) A (call (.type "set") [.ref l]) Q E s := by
 obtain ⟨c, tl, hmro⟩ := F.called_set.mro
 have hmade := F.called_set.made
 have hsub := F.called_set.sub
 refine wpAny_call (codeAny_of_tree ?_)
 show wpAny _ _ (callAny (.type "set") _) _ _ _
 refine wpAny_pure ⟨Code.quiet_builtin _ (by decide +kernel), codeAny_builtin F.entry_type_call ?_⟩
 rw [Around.under_plain (weight_type_call_type "set" [.ref l] []) rfl]
 have h1 := F.called_set.notType
 have h2 := F.called_set.canCreate
 have hct := F.typeCall_set_1 (.ref l)
 repeat (any_goals (first | assumption | wp_step))
 refine codeAny_mono (new_is (.ref l) (E := E) (Q₁ := fun obj s₁ => obj = .ref s.heap.objs.size /\ s₁ = { s with heap := s.heap.push { cls := .type "set", dict := none, data := .set #[] 0 (.fresh 0 0 (ledOf w)) } }) ⟨rfl, rfl⟩) fun r s₁ hr => ?_
 cases r with
 | error e => exact hr
 | ok fl =>
  cases fl with
  | ret obj =>
   obtain ⟨rfl, rfl⟩ := hr
   generalize ledOf w = led at *
   have hS : (s.heap.push { cls := .type "set", dict := none, data := .set #[] 0 (.fresh 0 0 led) }).get? s.heap.objs.size = some { cls := .type "set", dict := none, data := .set #[] 0 (.fresh 0 0 led) } := Heap.get?_push_size _ rfl
   have hT : Shared.TypeIs { s with heap := s.heap.push { cls := .type "set", dict := none, data := .set #[] 0 (.fresh 0 0 led) } } (.ref s.heap.objs.size) "set" := ⟨_, hS, rfl⟩
   have hli := F.called_set.init.lookup
   have hbi := F.called_set.init.bind (.ref s.heap.objs.size)
   repeat (any_goals (first | assumption | wp_step))
   refine codeAny_mono (codeAny_call_builtin (R := wants (fun r s₂ => r = .none /\ ∃ h' tk, s₂ = { s with heap := h', toks := tk } /\
     SetIs prog w h' s.heap.objs.size led (firstMet (fun i => ns.getD i 0) items.size) /\
     (∀ b o, b < s.heap.objs.size -> s.heap.get? b = some o -> h'.get? b = some o)) E) F.called_set.init.plain F.entry_set_init (check_set_init_1 hT ?_)) fun r₂ s₂ hr₂ => ?_
   · obtain ⟨ol, hol, hcl, nl, hdl⟩ := hl
     obtain ⟨ocls, odict, odata, oslots⟩ := ol
     simp only at hcl hdl
     subst hcl; subst hdl
     have hol' : (s.heap.push { cls := .type "set", dict := none, data := .set #[] 0 (.fresh 0 0 led) }).get? l = some { cls := .type "list", dict := odict, data := .seq items nl, slots := oslots } := Heap.get?_push_of_some _ hol
     have hsls := F.sub_list_set
     have hslf := F.sub_list_frozenset
     have hne : (Value.type "list" == Value.type "dict") = false := by decide
     have hl1 : (s.heap.push { cls := .type "set", dict := none, data := .set #[] 0 (.fresh 0 0 led) }).IsList l items := ⟨_, hol', rfl, nl, rfl⟩
     unfold Builtin.«set.__init__» noKeywords Builtin.Frozenset.updateFrom
     generalize hPI : pyIter = PI
     wp_walk
     subst hPI
     refine wpAny_pyIter_list hl1 ?_
     refine wpAny_bind (wpAny_runValue ?_)
     have hlS : l < s.heap.objs.size := Heap.lt_size hol
     have hh3 : A.in1.in1.in1.handled = none := by simp [hh]
     have hneI : l ≠ (s.heap.push { cls := .type "set", dict := none, data := .set #[] 0 (.fresh 0 0 led) }).objs.size := by
      rw [Heap.size_push]; exact Nat.ne_of_lt (Nat.lt_succ_of_lt hlS)
     have hSf : s.heap.objs.size ∉ [(s.heap.push { cls := .type "set", dict := none, data := .set #[] 0 (.fresh 0 0 led) }).objs.size, l] := by
      rw [Heap.size_push]; simp only [List.mem_cons, List.mem_singleton, List.not_mem_nil, or_false, not_or]
      exact ⟨Nat.ne_of_lt (Nat.lt_succ_self _), Nat.ne_of_gt hlS⟩
     have hval : ∀ (i : Nat) (v : Value), items[i]? = some v -> ∃ t, v = .int ((fun i => ns.getD i 0) i) t := fun i v hv => IntsAre.int_at hi i v (by rw [Array.getElem?_toList]; exact hv)
     refine update_is ((Walks.list hh3 _ l hneI items).toS) s.heap.objs.size hSf (fun i => ns.getD i 0) hval hb (items.size - 0) 0 _ (by omega) (Nat.zero_le _)
      ⟨⟨_, Heap.get?_push_size _ rfl, rfl, rfl⟩, (hl1.push _)⟩ (fresh_is (Heap.get?_push_of_some _ hS)) fun s' hm hS' => ?_
     obtain ⟨h', g', d', tk', os'⟩ := s'
     have eg : g' = s.gens := hm.gens
     have ed : d' = s.drawn := hm.drawn
     have eo : os' = s.os := hm.os
     subst eg; subst ed; subst eo
     show wpAny _ _ _ _ _ _
     refine wpAny_pure ?_
     show wpAny _ _ (ret Value.none) _ _ _
     refine wpAny_pure ⟨rfl, h', tk', rfl, hS', fun b o hb e => ?_⟩
     have hb1 : b ≠ s.heap.objs.size := Nat.ne_of_lt hb
     have hb2 : b ≠ (s.heap.push { cls := .type "set", dict := none, data := .set #[] 0 (.fresh 0 0 led) }).objs.size := by
      rw [Heap.size_push]; exact Nat.ne_of_lt (Nat.lt_succ_of_lt hb)
     exact hm.heap b o (by simp only [List.mem_cons, List.mem_singleton, List.not_mem_nil, or_false, not_or]; exact ⟨hb1, hb2⟩) (Heap.get?_push_of_some _ (Heap.get?_push_of_some _ e))
   · cases r₂ with
     | error e => exact hr₂
     | ok fl₂ =>
      cases fl₂ with
      | ret r =>
       obtain ⟨rfl, h', tk, rfl, hS', hk'⟩ := hr₂
       repeat (any_goals (first | assumption | wp_step))
       exact h _ _ hS' hk'
      | next => exact hr₂.elim
      | brk => exact hr₂.elim
      | cont => exact hr₂.elim
  | next => exact hr.elim
  | brk => exact hr.elim
  | cont => exact hr.elim
end
end SetP
end PySem
set_option linter.all false
namespace PySem
namespace SetP
open PyProof.Rows
set_option maxRecDepth 100000
theorem erase_perm {α : Type} : ∀ (l : List α) (i : Nat) (x : α), l[i]? = some x -> (x :: l.eraseIdx i).Perm l
 | [], i, x, h => by simp at h
 | y :: r, 0, x, h => by simp at h; subst h; exact .refl _
 | y :: r, i + 1, x, h => by
  have := erase_perm r i x (by simpa using h)
  show (x :: y :: r.eraseIdx i).Perm (y :: r)
  exact (List.Perm.swap _ _ _).trans (this.cons y)
theorem pick_go {α : Type} (next : Nat -> Nat) : ∀ (fuel k : Nat) (left : List α) (out : Array α), left.length = fuel -> (pickOrder.go next fuel k left out).toList.Perm (out.toList ++ left)
 | 0, k, left, out, h => by
  have : left = [] := List.length_eq_zero_iff.mp h
  subst this
  simp [pickOrder.go]
 | fuel + 1, k, left, out, h => by
  unfold pickOrder.go
  have hp : next k % left.length < left.length := Nat.mod_lt _ (by omega)
  cases e : left[next k % left.length]? with
  | none => rw [List.getElem?_eq_none_iff] at e; omega
  | some x =>
   dsimp only
   refine (pick_go next fuel (k + 1) _ _ (by rw [List.length_eraseIdx, if_pos hp]; omega)).trans ?_
   rw [Array.toList_push, List.append_assoc]
   exact (erase_perm left _ x e).append_left _
theorem pick_perm {α : Type} (next : Nat -> Nat) (xs : Array α) : (pickOrder next xs).toList.Perm xs.toList := by
 have := pick_go next xs.size 0 xs.toList #[] (by simp)
 simpa [pickOrder] using this
section
variable {M : Model} {A : Around} {E : Value -> Shared -> Prop} {s : Shared}
theorem wpAny_choose {src : Source} {n : Nat} {Q : Nat -> Shared -> Prop} (hn : n ≠ 0) (h : ∀ i d', i < n -> Q i { s with drawn := d' }) : wpAny M A (choose src n) Q E s := fun Γ p _ => by
 unfold choose
 rw [Sem.wp_choose]
 exact ⟨hn, h _ _ (Nat.mod_lt _ (Nat.pos_of_ne_zero hn))⟩
theorem draw_perm {α : Type} : ∀ (n : Nat) (xs : List α) {s : Shared} {Q : List α -> Shared -> Prop}, xs.length = n -> (∀ ys d', ys.Perm xs -> Q ys { s with drawn := d' }) -> wpAny M A (drawOrder n xs) Q E s
 | 0, xs, s, Q, hn, h => by
  have : xs = [] := List.length_eq_zero_iff.mp hn
  subst this
  unfold drawOrder
  exact wpAny_pure (h [] s.drawn (.refl _))
 | n + 1, [], s, Q, hn, h => by simp at hn
 | n + 1, x :: r, s, Q, hn, h => by
  unfold drawOrder
  refine wpAny_bind (wpAny_choose (by simp) fun i d' hi => ?_)
  cases e : (x :: r)[i]? with
  | none => rw [List.getElem?_eq_none_iff] at e; omega
  | some y =>
   dsimp only
   refine wpAny_bind (draw_perm n _ (by rw [List.length_eraseIdx, if_pos hi]; omega) fun ys d2 hy => wpAny_pure ?_)
   exact h _ d2 ((hy.cons y).trans (erase_perm _ _ _ e))
end
theorem entry_set_iter : entryFor table "set.__iter__" = some Builtin.«frozenset.__iter__» :=
 entryFor_alias (id' := "frozenset.__iter__") (by kernel_rfl) rfl (by decide +kernel) (by kernel_rfl)
theorem slot_it_next : Slot "set_iterator" "__next__" "set_iterator.__next__" :=
 .of (owner := "set_iterator") (n := "__next__") (by rw [typeLookup_type, builtinLookup_eq_fast]; kernel_rfl) (by decide +kernel) (by decide +kernel) (by decide +kernel)
  (by first | exact .inl (by decide +kernel) | exact .inr (by decide +kernel)) (by rw [isSubtype_type]; kernel_rfl)
theorem entry_it_next : entryFor table "set_iterator.__next__" = some Builtin.«set_iterator.__next__» := entryFor_of_tree (by kernel_rfl)
theorem owner_it : Manifest.owners.lookup (String.ofList ['r', 'o', 't', 'a', 'r', 'e', 't', 'i', '_', 't', 'e', 's'].reverse) = some Manifest.sig_set_iterator := by kernel_rfl
theorem args_it_next (a : Value) : argsOk "set_iterator.__next__" ⟨[a], []⟩ := by
 unfold argsOk; rw [signature?_of (id := "set_iterator.__next__") (n := ['_', '_', 't', 'x', 'e', 'n', '_', '_']) (o := ['r', 'o', 't', 'a', 'r', 'e', 't', 'i', '_', 't', 'e', 's']) (by kernel_rfl) owner_it]; kernel_rfl
def itObj (f : Value) (a : Addr) (i n ep : Nat) : Obj := { cls := .type "set_iterator", data := .fields #[f, .int i 0, .ref a, .int n 0, .int ep 0] }
def dr (w : World) (t : SetTable) (es : Array (Int × Value)) : Bool := !(w.params.followText "set-order") && (!t.plain && decide (es.size > 1))
def tupOf (ps : List Nat) : Obj := { cls := .type "tuple", data := .seq (ps.map fun (i : Nat) => rawInt i).toArray }
section
variable {prog : Program} {w : World} {A : Around} {E : Value -> Shared -> Prop} {s : Shared} {a : Addr} {L : Bool} {σ : List Int} {o : Obj} {es : Array (Int × Value)} {ep : Nat} {t : SetTable}
theorem SetI.typeIs (S : SetI prog w s.heap a L σ o es ep t) : s.TypeIs (.ref a) "set" := ⟨o, S.get, S.ex.1⟩
theorem iter_set {Q : Value -> Shared -> Prop} (S : SetI prog w s.heap a L σ o es ep t)
  (h1 : dr w t es = false -> Q (.ref s.heap.objs.size) { s with heap := s.heap.push (itObj (.int 0 0) a 0 es.size ep) })
  (h2 : dr w t es = true -> ∀ ps d', ps.Perm (List.range es.size) -> Q (.ref (s.heap.objs.size + 1)) { s with heap := (s.heap.push (tupOf ps)).push (itObj (.ref s.heap.objs.size) a 0 es.size ep), drawn := d' }) :
  wpAny (model prog w) A (pyIter (.ref a)) Q E s := by
 have hT := S.typeIs
 have hz : es.size <= sizeLine := fits_of_scanBound S.bd
 refine wpAny_pyIter_slot hT F.slot_set_iter (wpAny_call_entry F.slot_set_iter hT entry_set_iter ?_ (F.args_set_iter_1 _))
 unfold Builtin.«frozenset.__iter__»
 refine wpAny_bind ?_
 show wpAny _ _ (pure a) _ _ s
 refine wpAny_pure ?_
 unfold Builtin.Frozenset.sizeOf
 refine wpAny_bind (wpAny_bind (wpAny_setEntries_of S.get S.dat S.ft (wpAny_pure ?_)))
 unfold setDrawn setsByText
 refine wpAny_bind (wpAny_bind (wpAny_setState_of S.get S.dat S.ft ?_))
 dsimp only
 refine wpAny_bind (wpAny_bind (wpAny_askSetting (wpAny_pure (wpAny_pure ?_))))
 show wpAny (model prog w) _ (if dr w t es = true then _ else _) _ _ s
 cases hdr : dr w t es with
 | false =>
  rw [if_neg Bool.false_ne_true]
  refine wpAny_bind (wpAny_pure ?_)
  unfold setEpoch
  refine wpAny_bind (wpAny_bind (wpAny_setState_of S.get S.dat S.ft (wpAny_pure ?_)))
  exact wpAny_bind (wpAny_newObj_type (wpAny_pure ⟨_, rfl, "set_iterator", _, ⟨_, Heap.get?_push_size _ rfl, rfl⟩, slot_it_next.lookup, h1 hdr⟩))
 | true =>
  rw [if_pos rfl]
  refine wpAny_bind (draw_perm _ _ (by simp) fun ps d' hp => ?_)
  have lp : (ps.map fun (i : Nat) => rawInt i).length <= sizeLine := by rw [List.length_map, hp.length_eq, List.length_range]; exact hz
  refine wpAny_bind (wpAny_newTuple ?_ lp)
  have ho : (s.heap.push (tupOf ps)).get? a = some o := Heap.get?_push_of_some _ S.get
  unfold setEpoch
  refine wpAny_bind (wpAny_bind (wpAny_setState_of ho S.dat S.ft (wpAny_pure ?_)))
  refine wpAny_bind (wpAny_newObj_type (wpAny_pure ⟨_, rfl, "set_iterator", _, ⟨_, Heap.get?_push_size _ rfl, rfl⟩, slot_it_next.lookup, ?_⟩))
  have := h2 hdr ps d' hp
  rw [show s.heap.objs.size + 1 = (s.heap.push (tupOf ps)).objs.size by rw [Heap.size_push]] at this
  exact this
end
end SetP
end PySem
set_option linter.all false
namespace PySem
namespace SetP
open PyProof.Rows
set_option maxRecDepth 100000
section
variable {prog : Program} {w : World} {A : Around} {E : Value -> Shared -> Prop} {s : Shared} {a : Addr} {L : Bool} {σ : List Int} {o : Obj} {es : Array (Int × Value)} {ep : Nat} {t : SetTable}
theorem next_text (hw : w.params.followText "set-order" = true) (S : SetI prog w s.heap a L σ o es ep t) {sl i : Nat} {Q : Option (Value × Nat) -> Shared -> Prop}
  (h : Q (((pickOrder (w.params.setOrder a ep) es)[i]?).map fun e => (e.2, sl)) s) : wpAny (model prog w) A (setNext a sl i ep) Q E s := by
 unfold setNext setsByText
 refine wpAny_bind (wpAny_setState_of S.get S.dat S.ft ?_)
 dsimp only
 refine wpAny_bind (wpAny_bind (wpAny_askSetting (wpAny_pure ?_)))
 show wpAny (model prog w) _ (if w.params.followText "set-order" = true then _ else _) _ _ s
 rw [if_pos hw, if_neg (by simp)]
 unfold setWalk setsByText
 refine wpAny_bind (wpAny_bind (wpAny_setState_of S.get S.dat S.ft ?_))
 dsimp only
 refine wpAny_bind (wpAny_bind (wpAny_askSetting (wpAny_pure ?_)))
 show wpAny (model prog w) _ (if w.params.followText "set-order" = true then _ else _) _ _ s
 rw [if_pos hw]
 exact wpAny_bind (wpAny_askSetting (wpAny_pure (wpAny_pure h)))
theorem next_led (hw : w.params.followText "set-order" = false) (hd : dr w t es = false) (hl : t.led = true) (S : SetI prog w s.heap a L σ o es ep t) {sl i : Nat} {Q : Option (Value × Nat) -> Shared -> Prop}
  (h : Q (match es[SetTable.below t.place sl]?, t.place[SetTable.below t.place sl]? with | some (_, x), some j => some (x, j + 1) | _, _ => none) s) : wpAny (model prog w) A (setNext a sl i ep) Q E s := by
 have hd' : (!t.plain && decide (es.size > 1)) = false := by
  unfold dr at hd
  rw [hw] at hd
  exact hd
 unfold setNext setsByText
 refine wpAny_bind (wpAny_setState_of S.get S.dat S.ft ?_)
 dsimp only
 refine wpAny_bind (wpAny_bind (wpAny_askSetting (wpAny_pure ?_)))
 show wpAny (model prog w) _ (if w.params.followText "set-order" = true then _ else _) _ _ s
 rw [if_neg (by rw [hw]; exact Bool.false_ne_true)]
 show wpAny (model prog w) _ (if (!t.plain && decide (es.size > 1)) = true then _ else _) _ _ s
 rw [if_neg (by rw [hd']; exact Bool.false_ne_true)]
 refine wpAny_bind ?_
 show wpAny (model prog w) _ (if (!t.led && !es.isEmpty) = true then _ else _) _ _ s
 rw [if_neg (by rw [hl]; simp)]
 exact wpAny_pure (wpAny_pure h)
variable {I : Addr} {Q : Option Value -> Shared -> Prop}
theorem it_type {f : Value} {i n : Nat} (hit : s.heap.get? I = some (itObj f a i n ep)) : s.TypeIs (.ref I) "set_iterator" := ⟨_, hit, rfl⟩
theorem turn_int {sl i nx : Nat} {x : Value} (S : SetI prog w s.heap a L σ o es ep t) (hit : s.heap.get? I = some (itObj (.int sl 0) a i es.size ep))
  (hn : ∀ (A : Around) (E : Value -> Shared -> Prop) (Q : Option (Value × Nat) -> Shared -> Prop), Q (some (x, nx)) s -> wpAny (model prog w) A (setNext a sl i ep) Q E s)
  (hQ : ∀ h', h'.get? I = some (itObj (.int nx 0) a (i + 1) es.size ep) -> Heap.SameBut I s.heap h' -> Q (some x) { s with heap := h' }) : wpAny (model prog w) A (pyNext (.ref I)) Q E s := by
 unfold pyNext
 refine wpAny_bind (wpAny_attempt (wpAny_callSpecial?_slot (name := Str.ofString "__next__") (it_type hit) slot_it_next
  (wpAny_call_entry slot_it_next (it_type hit) entry_it_next ?_ (args_it_next _))))
 unfold Builtin.«set_iterator.__next__»
 refine wpAny_bind (wpAny_pure ?_)
 refine wpAny_bind (wpAny_fieldsOf hit rfl ?_)
 show wpAny (model prog w) _ (setEntries a >>= _) _ _ s
 refine wpAny_bind (wpAny_setEntries_of S.get S.dat S.ft ?_)
 rw [if_neg (by simp)]
 show wpAny (model prog w) _ (setNext a (Int.toNat sl) (Int.toNat i) (Int.toNat ep) >>= _) _ _ s
 simp only [Int.toNat_natCast]
 refine wpAny_bind (hn _ _ _ ?_)
 dsimp only
 refine wpAny_bind (wpAny_setField hit rfl (by simp [itObj]) ?_)
 have e1 : (s.heap.update I (Obj.mapFields (·.setIfInBounds 0 (rawInt nx)))).get? I = some (itObj (.int nx 0) a i es.size ep) := by
  rw [Heap.get?_update_self _ hit rfl]; rfl
 refine wpAny_bind (wpAny_setField (s := { s with heap := s.heap.update I (Obj.mapFields (·.setIfInBounds 0 (rawInt nx))) }) e1 rfl (by simp [itObj]) ?_)
 have e2 : ((s.heap.update I (Obj.mapFields (·.setIfInBounds 0 (rawInt nx)))).update I (Obj.mapFields (·.setIfInBounds 1 (rawInt ((i : Int) + 1))))).get? I = some (itObj (.int nx 0) a (i + 1) es.size ep) := by
  rw [Heap.get?_update_self _ e1 rfl]; rfl
 exact wpAny_pure ⟨_, rfl, wpAny_pure (hQ _ e2 ((Heap.SameBut.update ..).trans (Heap.SameBut.update ..)))⟩
end
end SetP
end PySem
set_option linter.all false
namespace PySem
namespace SetP
open PyProof.Rows
set_option maxRecDepth 100000
theorem slot_it_iter : Slot "set_iterator" "__iter__" "set_iterator.__iter__" :=
 .of (owner := "set_iterator") (n := "__iter__") (by rw [typeLookup_type, builtinLookup_eq_fast]; kernel_rfl) (by decide +kernel) (by decide +kernel) (by decide +kernel)
  (by first | exact .inl (by decide +kernel) | exact .inr (by decide +kernel)) (by rw [isSubtype_type]; kernel_rfl)
theorem entry_it_iter : entryFor table "set_iterator.__iter__" = some Builtin.«dict_keyiterator.__iter__» :=
 entryFor_alias (id' := "dict_keyiterator.__iter__") (by kernel_rfl) rfl (by decide +kernel) (by kernel_rfl)
theorem args_it_iter (a : Value) : argsOk "set_iterator.__iter__" ⟨[a], []⟩ := by
 unfold argsOk; rw [signature?_of (id := "set_iterator.__iter__") (n := ['_', '_', 'r', 'e', 't', 'i', '_', '_']) (o := ['r', 'o', 't', 'a', 'r', 'e', 't', 'i', '_', 't', 'e', 's']) (by kernel_rfl) owner_it]; kernel_rfl
section
variable {prog : Program} {w : World} {A : Around} {E : Value -> Shared -> Prop} {s : Shared} {a : Addr} {L : Bool} {σ : List Int} {o : Obj} {es : Array (Int × Value)} {ep : Nat} {t : SetTable} {I : Addr}
theorem it_self {f : Value} {i n : Nat} {Q : Value -> Shared -> Prop} (hit : s.heap.get? I = some (itObj f a i n ep)) (h : Q (.ref I) s) : wpAny (model prog w) A (pyIter (.ref I)) Q E s := by
 refine wpAny_pyIter_slot (it_type hit) slot_it_iter (wpAny_call_entry slot_it_iter (it_type hit) entry_it_iter ?_ (args_it_iter _))
 show wpAny _ _ (ret (.ref I)) _ _ s
 exact wpAny_pure ⟨_, rfl, "set_iterator", _, it_type hit, slot_it_next.lookup, h⟩
variable {Q : Option Value -> Shared -> Prop}
theorem turn_int_end {sl i : Nat} (hh : A.handled = none) (S : SetI prog w s.heap a L σ o es ep t) (hit : s.heap.get? I = some (itObj (.int sl 0) a i es.size ep))
  (hn : ∀ (A : Around) (E : Value -> Shared -> Prop) (Q : Option (Value × Nat) -> Shared -> Prop), Q none s -> wpAny (model prog w) A (setNext a sl i ep) Q E s)
  (hQ : ∀ h', Heap.ExtBut I s.heap h' -> Q none { s with heap := h' }) : wpAny (model prog w) A (pyNext (.ref I)) Q E s := by
 unfold pyNext
 refine wpAny_bind (wpAny_attempt (wpAny_callSpecial?_slot (name := Str.ofString "__next__") (it_type hit) slot_it_next
  (wpAny_call_entry slot_it_next (it_type hit) entry_it_next ?_ (args_it_next _))))
 unfold Builtin.«set_iterator.__next__»
 refine wpAny_bind (wpAny_pure ?_)
 refine wpAny_bind (wpAny_fieldsOf hit rfl ?_)
 show wpAny (model prog w) _ (setEntries a >>= _) _ _ s
 refine wpAny_bind (wpAny_setEntries_of S.get S.dat S.ft ?_)
 rw [if_neg (by simp)]
 show wpAny (model prog w) _ (setNext a (Int.toNat sl) (Int.toNat i) (Int.toNat ep) >>= _) _ _ s
 simp only [Int.toNat_natCast]
 refine wpAny_bind (hn _ _ _ ?_)
 dsimp only
 refine wpAny_bind (wpAny_setField hit rfl (by simp [itObj]) ?_)
 show wpAny _ _ (newExc (.type "StopIteration") [] >>= _) _ _ _
 refine wpAny_bind ?_
 simp only [newExc, newTuple]
 refine wpAny_bind (wpAny_newObj_type ?_ (by size_fits))
 refine wpAny_bind (m := firstArgMember _ _) (wpAny_of_eq (a := Value.none) (by first | rfl | (simp only [firstArgMember]; rfl)) ?_)
 refine wpAny_newObj_type ?_ (by size_fits)
 simp only [raiseNew]
 refine wpAny_bind (wpAny_handled ?_)
 rw [show A.in1.handled = none from hh]
 refine wpAny_bind (wpAny_pure (wpAny_throw ?_))
 refine wpAny_bind (wpAny_isInstance (T := "StopIteration") (b := true) ⟨_, Heap.get?_push_size _ rfl, rfl⟩ isSubtype_stop ?_)
 exact wpAny_pure (hQ _ (((Heap.SameBut.update ..).extBut.push _).push _))
theorem turn_tup {tp i p : Nat} {x : Value} {ps : List Nat} {hx : Int} (S : SetI prog w s.heap a L σ o es ep t) (hit : s.heap.get? I = some (itObj (.ref tp) a i es.size ep)) (ht : s.heap.get? tp = some (tupOf ps))
  (hp : ps[i]? = some p) (he : es[p]? = some (hx, x))
  (hQ : ∀ h', h'.get? I = some (itObj (.ref tp) a (i + 1) es.size ep) -> Heap.SameBut I s.heap h' -> Q (some x) { s with heap := h' }) : wpAny (model prog w) A (pyNext (.ref I)) Q E s := by
 unfold pyNext
 refine wpAny_bind (wpAny_attempt (wpAny_callSpecial?_slot (name := Str.ofString "__next__") (it_type hit) slot_it_next
  (wpAny_call_entry slot_it_next (it_type hit) entry_it_next ?_ (args_it_next _))))
 unfold Builtin.«set_iterator.__next__»
 refine wpAny_bind (wpAny_pure ?_)
 refine wpAny_bind (wpAny_fieldsOf hit rfl ?_)
 show wpAny (model prog w) _ (setEntries a >>= _) _ _ s
 refine wpAny_bind (wpAny_setEntries_of S.get S.dat S.ft ?_)
 rw [if_neg (by simp)]
 show wpAny (model prog w) _ (seqItems? (.ref tp) >>= _) _ _ s
 refine wpAny_bind (wpAny_seqItems ht rfl ?_)
 have e1 : (ps.map fun (i : Nat) => rawInt i).toArray[i]? = some (rawInt p) := by simp [hp]
 dsimp only
 rw [show Int.toNat (i : Int) = i from Int.toNat_natCast i, e1]
 show wpAny (model prog w) _ (setNextDrawn a (Int.toNat p) (Int.toNat ep) >>= _) _ _ s
 simp only [Int.toNat_natCast]
 unfold setNextDrawn
 refine wpAny_bind (wpAny_bind (wpAny_setState_of S.get S.dat S.ft ?_))
 dsimp only
 rw [if_neg (by simp), he]
 refine wpAny_pure ?_
 refine wpAny_bind (wpAny_setField hit rfl (by simp [itObj]) ?_)
 have e2 : (s.heap.update I (Obj.mapFields (·.setIfInBounds 1 (rawInt ((i : Int) + 1))))).get? I = some (itObj (.ref tp) a (i + 1) es.size ep) := by
  rw [Heap.get?_update_self _ hit rfl]; rfl
 exact wpAny_pure ⟨_, rfl, wpAny_pure (hQ _ e2 (Heap.SameBut.update ..))⟩
theorem turn_tup_end {tp i : Nat} {ps : List Nat} (hh : A.handled = none) (S : SetI prog w s.heap a L σ o es ep t) (hit : s.heap.get? I = some (itObj (.ref tp) a i es.size ep)) (ht : s.heap.get? tp = some (tupOf ps))
  (hp : ps[i]? = none) (hQ : ∀ h', Heap.ExtBut I s.heap h' -> Q none { s with heap := h' }) : wpAny (model prog w) A (pyNext (.ref I)) Q E s := by
 unfold pyNext
 refine wpAny_bind (wpAny_attempt (wpAny_callSpecial?_slot (name := Str.ofString "__next__") (it_type hit) slot_it_next
  (wpAny_call_entry slot_it_next (it_type hit) entry_it_next ?_ (args_it_next _))))
 unfold Builtin.«set_iterator.__next__»
 refine wpAny_bind (wpAny_pure ?_)
 refine wpAny_bind (wpAny_fieldsOf hit rfl ?_)
 show wpAny (model prog w) _ (setEntries a >>= _) _ _ s
 refine wpAny_bind (wpAny_setEntries_of S.get S.dat S.ft ?_)
 rw [if_neg (by simp)]
 show wpAny (model prog w) _ (seqItems? (.ref tp) >>= _) _ _ s
 refine wpAny_bind (wpAny_seqItems ht rfl ?_)
 have e1 : (ps.map fun (i : Nat) => rawInt i).toArray[i]? = none := by simp; simpa using hp
 dsimp only
 rw [show Int.toNat (i : Int) = i from Int.toNat_natCast i, e1]
 dsimp only
 refine wpAny_bind (wpAny_setField hit rfl (by simp [itObj]) ?_)
 have e2 : (s.heap.update I (Obj.mapFields (·.setIfInBounds 0 (rawInt 0)))).get? I = some (itObj (.int 0 0) a i es.size ep) := by
  rw [Heap.get?_update_self _ hit rfl]; rfl
 refine wpAny_bind (wpAny_setField (s := { s with heap := s.heap.update I (Obj.mapFields (·.setIfInBounds 0 (rawInt 0))) }) e2 rfl (by simp [itObj]) ?_)
 show wpAny _ _ (newExc (.type "StopIteration") [] >>= _) _ _ _
 refine wpAny_bind ?_
 simp only [newExc, newTuple]
 refine wpAny_bind (wpAny_newObj_type ?_ (by size_fits))
 refine wpAny_bind (m := firstArgMember _ _) (wpAny_of_eq (a := Value.none) (by first | rfl | (simp only [firstArgMember]; rfl)) ?_)
 refine wpAny_newObj_type ?_ (by size_fits)
 simp only [raiseNew]
 refine wpAny_bind (wpAny_handled ?_)
 rw [show A.in1.handled = none from hh]
 refine wpAny_bind (wpAny_pure (wpAny_throw ?_))
 refine wpAny_bind (wpAny_isInstance (T := "StopIteration") (b := true) ⟨_, Heap.get?_push_size _ rfl, rfl⟩ isSubtype_stop ?_)
 exact wpAny_pure (hQ _ ((((Heap.SameBut.update ..).trans (Heap.SameBut.update ..)).extBut.push _).push _))
end
end SetP
end PySem
set_option linter.all false
namespace PySem
namespace SetP
open PyProof.Rows
set_option maxRecDepth 100000
section
variable {prog : Program} {w : World} {A : Around} {a : Addr} {L : Bool} {σ : List Int} {o : Obj} {es : Array (Int × Value)} {ep : Nat} {t : SetTable} {I : Addr}
theorem SetI.up {h h' : Heap} (S : SetI prog w h a L σ o es ep t) (k : ∀ o, h.get? a = some o -> h'.get? a = some o) : SetI prog w h' a L σ o es ep t := { S with get := k _ S.get }
theorem moved_but {s : Shared} {h' : Heap} (e : Heap.ExtBut I s.heap h') : Moved [I] Eq s { s with heap := h' } := ⟨fun b o hb g => e b o (fun z => hb (by simp [z])) g, rfl, rfl, rfl, Nat.le_refl _⟩
theorem walk_int (hh : A.handled = none) (hne : a ≠ I) {slot : Nat -> Nat} {ord : Nat -> Option Value}
  (hi : ∀ i (s : Shared), i < es.size -> SetI prog w s.heap a L σ o es ep t -> ∃ x, ord i = some x /\ ∀ (A : Around) (E : Value -> Shared -> Prop) (Q : Option (Value × Nat) -> Shared -> Prop), Q (some (x, slot (i + 1))) s -> wpAny (model prog w) A (setNext a (slot i) i ep) Q E s)
  (hz : ∀ (s : Shared), SetI prog w s.heap a L σ o es ep t -> ∀ (A : Around) (E : Value -> Shared -> Prop) (Q : Option (Value × Nat) -> Shared -> Prop), Q none s -> wpAny (model prog w) A (setNext a (slot es.size) es.size ep) Q E s) :
  WalksS prog w A I [I, a] [I] Eq es.size (fun i v => ord i = some v) (fun i s => s.heap.get? I = some (itObj (.int (slot i) 0) a i es.size ep) /\ SetI prog w s.heap a L σ o es ep t) where
 sub := fun b hb => by simp at hb; simp [hb]
 grefl := fun _ => rfl
 gtrans := fun _ _ _ h1 h2 => h1.trans h2
 frame := fun i s h' tk st _ hk => ⟨hk I (by simp) _ st.1, st.2.up fun o e => hk a (by simp) o e⟩
 item := fun i s Q E hlt st hQ => by
  obtain ⟨x, ex, hn⟩ := hi i s hlt st.2
  refine turn_int st.2 st.1 hn fun h' hit hs => ?_
  exact hQ x _ ex ⟨hit, st.2.up fun o e => hs.extBut a o hne e⟩ (moved_but hs.extBut)
 done := fun s Q E st hQ => turn_int_end hh st.2 st.1 (hz s st.2) fun h' he => hQ _ (moved_but he)
 self := fun i s Q E st hQ => it_self st.1 hQ
theorem walk_tup (hh : A.handled = none) (hne : a ≠ I) {tp : Addr} (hnt : tp ≠ I) {ps : List Nat} (hp : ps.Perm (List.range es.size)) :
  WalksS prog w A I [I, a, tp] [I] Eq es.size (fun i v => (ps[i]?.bind fun p => es[p]?.map Prod.snd) = some v) (fun i s => s.heap.get? I = some (itObj (.ref tp) a i es.size ep) /\ SetI prog w s.heap a L σ o es ep t /\ s.heap.get? tp = some (tupOf ps)) where
 sub := fun b hb => by simp at hb; simp [hb]
 grefl := fun _ => rfl
 gtrans := fun _ _ _ h1 h2 => h1.trans h2
 frame := fun i s h' tk st _ hk => ⟨hk I (by simp) _ st.1, st.2.1.up fun o e => hk a (by simp) o e, hk tp (by simp) _ st.2.2⟩
 item := fun i s Q E hlt st hQ => by
  have hl : ps.length = es.size := by rw [hp.length_eq, List.length_range]
  have e1 : ps[i]? = some (ps[i]'(by omega)) := List.getElem?_eq_getElem (by omega)
  generalize ps[i]'(by omega) = p at e1
  have hpe : p < es.size := List.mem_range.mp (hp.mem_iff.mp (List.mem_of_getElem? e1))
  have e2 : es[p]? = some (es[p].1, es[p].2) := Array.getElem?_eq_getElem hpe
  refine turn_tup st.2.1 st.1 st.2.2 e1 e2 fun h' hit hs => ?_
  exact hQ _ _ (by rw [e1]; show es[p]?.map Prod.snd = _; rw [e2]; rfl) ⟨hit, st.2.1.up fun o e => hs.extBut a o hne e, hs.extBut tp _ hnt st.2.2⟩ (moved_but hs.extBut)
 done := fun s Q E st hQ => turn_tup_end hh st.2.1 st.1 st.2.2 (by rw [List.getElem?_eq_none_iff, hp.length_eq, List.length_range]; exact Nat.le_refl _) fun h' he => hQ _ (moved_but he)
 self := fun i s Q E st hQ => it_self st.1 hQ
theorem items_list {P : Nat -> Value -> Prop} {n : Nat} {acc : Array Value} {l : List Value} (h : ItemsOf P acc n) (hl : l.length = n) (hP : ∀ i v, P i v -> l[i]? = some v) : acc.toList = l := by
 refine List.ext_getElem? fun i => ?_
 by_cases hi : i < n
 · have e : acc[i]? = some (acc[i]'(by rw [h.1]; exact hi)) := Array.getElem?_eq_getElem (by rw [h.1]; exact hi)
   rw [Array.getElem?_toList, e]
   exact (hP i _ (h.2 i _ e)).symm
 · rw [List.getElem?_eq_none (by rw [Array.length_toList, h.1]; omega), List.getElem?_eq_none (by omega)]
theorem ints_of {l : List (Int × Value)} (h : ElemsOf (intKind prog w) l) : IntsAre (l.map Prod.snd) (l.map fun e => intOf e.2) := by
 induction l with
 | nil => exact .nil
 | cons e r ih =>
  obtain ⟨⟨k, hk, _⟩, _⟩ := h.head
  obtain ⟨tk, ek⟩ := is_int hk
  have := ih h.tail
  rw [List.map_cons, List.map_cons, ek]
  exact .cons _ _ this
end
end SetP
end PySem
set_option linter.all false
namespace PySem
namespace SetP
open PyProof.Rows
set_option maxRecDepth 100000
theorem len_set : typeLookup (.type "set") "__len__" = pure (some (.builtin "set.__len__")) := F.slot_set_len.lookup
section
variable {prog : Program} {w : World} {A : Around} {E : Value -> Shared -> Prop} {s : Shared} {a : Addr} {L : Bool} {σ : List Int} {o : Obj} {es : Array (Int × Value)} {ep : Nat} {t : SetTable} {I : Addr}
theorem hint_set {Q : Bool -> Shared -> Prop} (S : SetI prog w s.heap a L σ o es ep t) (h : Q false s) : wpAny (model prog w) A (Builtin.List.listLengthHint (.ref a)) Q E s := by
 unfold Builtin.List.listLengthHint
 refine wpAny_bind (wpAny_specialOf S.typeIs len_set ?_)
 dsimp only
 rw [show splitId "set.__len__" = some ("set", "__len__") by decide +kernel]
 dsimp only
 refine wpAny_bind (wpAny_isInstance S.typeIs sub_set_self ?_)
 rw [if_neg (show ¬ ((!true) = true) from Bool.false_ne_true)]
 rw [if_pos (by decide +kernel)]
 refine wpAny_bind (wpAny_typeOf S.typeIs ?_)
 exact wpAny_pure h
end
end SetP
end PySem
set_option linter.all false
namespace PySem
namespace SetP
open PyProof.Rows
set_option maxRecDepth 100000
section
variable {prog : Program} {w : World} {A : Around} {E : Value -> Shared -> Prop} {s : Shared} {a : Addr} {σ : List Int} {o : Obj} {es : Array (Int × Value)} {ep : Nat} {t : SetTable}
def slotAt (t : SetTable) : Nat -> Nat
 | 0 => 0
 | i + 1 => t.place.getD i 0 + 1
theorem slot_below {t : SetTable} (R : Rise t.place.toList) {i : Nat} (hi : i <= t.place.size) : SetTable.below t.place (slotAt t i) = i := by
 cases i with
 | zero => exact below_zero R
 | succ i => exact below_next R (getD_lt (d := 0) (by omega))
theorem iter_walk {Q : Value -> Shared -> Prop} (hh : A.handled = none) (S : SetI prog w s.heap a (ledOf w) σ o es ep t)
  (h : ∀ (I : Addr) (s' : Shared) (fp : List Addr) (P : Nat -> Value -> Prop) (St : Nat -> Shared -> Prop) (l : List Value) (ns : List Int), WalksS prog w A I fp [I] Eq es.size P St -> St 0 s' ->
   (∀ b ∈ fp, b = a \/ s.heap.objs.size <= b) -> s.heap.objs.size <= I -> (∀ b o, s.heap.get? b = some o -> s'.heap.get? b = some o) -> l.length = es.size -> (∀ i v, P i v -> l[i]? = some v) -> IntsAre l ns -> ns.Perm σ ->
   s'.gens = s.gens -> s'.os = s.os -> s'.toks = s.toks -> Q (.ref I) s') : wpAny (model prog w) A (pyIter (.ref a)) Q E s := by
 have ha : a < s.heap.objs.size := Heap.lt_size S.get
 have intz : ∀ {l : List (Int × Value)}, l.Perm es.toList -> IntsAre (l.map Prod.snd) (l.map fun e => intOf e.2) /\ (l.map fun e => intOf e.2).Perm σ := fun {l} p => ⟨ints_of (S.el.perm p), (p.map _).trans S.pm⟩
 have hsz : ∀ {ob : Obj}, (s.heap.push ob).objs.size = s.heap.objs.size + 1 := Heap.size_push _ _
 refine iter_set S (fun hd => ?_) (fun hd ps d' hp => ?_)
 · have eI : (s.heap.push (itObj (.int 0 0) a 0 es.size ep)).get? s.heap.objs.size = some (itObj (.int 0 0) a 0 es.size ep) := Heap.get?_push_size _ rfl
   have S1 : SetI prog w (s.heap.push (itObj (.int 0 0) a 0 es.size ep)) a (ledOf w) σ o es ep t := S.up fun o e => Heap.get?_push_of_some _ e
   cases hw : w.params.followText "set-order" with
   | true =>
    have pp := pick_perm (w.params.setOrder a ep) es
    have pl : (pickOrder (w.params.setOrder a ep) es).size = es.size := by have := pp.length_eq; simpa using this
    obtain ⟨h1, h2⟩ := intz pp
    refine h _ _ _ _ _ _ _ (walk_int (slot := fun _ => 0) (ord := fun i => ((pickOrder (w.params.setOrder a ep) es)[i]?).map Prod.snd) hh (Nat.ne_of_lt ha) (fun i s hi S => ?_) (fun s S A E Q hq => ?_)) ⟨eI, S1⟩ (fun b hb => ?_) (Nat.le_refl _) (fun b o e => Heap.get?_push_of_some _ e) ?_ (fun i v e => ?_) h1 h2 rfl rfl rfl
    · have e := Array.getElem?_eq_getElem (xs := pickOrder (w.params.setOrder a ep) es) (i := i) (by omega)
      exact ⟨_, by rw [e]; rfl, fun A E Q hq => next_text hw S (by rw [e]; exact hq)⟩
    · exact next_text hw S (by rw [Array.getElem?_eq_none (by omega)]; exact hq)
    · rcases List.mem_cons.mp hb with rfl | hb
      · exact .inr (Nat.le_refl _)
      · exact .inl (List.mem_singleton.mp hb)
    · rw [List.length_map, Array.length_toList, pl]
    · rw [List.getElem?_map, Array.getElem?_toList]; exact e
   | false =>
    have hled : t.led = true := by rw [S.ok.led]; show (!(w.params.followText "set-order")) = true; rw [hw]; rfl
    have pz : t.place.size = es.size := by
     have := S.ft
     simp only [SetTable.fits, Bool.and_eq_true, beq_iff_eq] at this
     exact this.1
    have R : Rise t.place.toList := by
     cases hpl : t.plain with
     | true => exact (S.ok.pl hpl).1
     | false =>
      have : ¬ es.size > 1 := fun q => by
       unfold dr at hd
       rw [hw, hpl] at hd
       simp at hd
       omega
      have hl : t.place.toList.length <= 1 := by rw [Array.length_toList]; omega
      match t.place.toList, hl with
      | [], _ => exact List.Pairwise.nil
      | [x], _ => exact List.pairwise_singleton _ _
    obtain ⟨h1, h2⟩ := intz (.refl _)
    refine h _ _ _ _ _ _ _ (walk_int (slot := slotAt t) (ord := fun i => (es[i]?).map Prod.snd) hh (Nat.ne_of_lt ha) (fun i s hi S => ?_) (fun s S A E Q hq => ?_)) ⟨eI, S1⟩ (fun b hb => ?_) (Nat.le_refl _) (fun b o e => Heap.get?_push_of_some _ e) ?_ (fun i v e => ?_) h1 h2 rfl rfl rfl
    · have e := Array.getElem?_eq_getElem (xs := es) (i := i) hi
      refine ⟨es[i].2, by rw [e]; rfl, fun A E Q hq => next_led hw hd hled S ?_⟩
      have e2 := getD_lt (xs := t.place) (i := i) (d := 0) (by omega)
      rw [slot_below R (by omega), e, e2]
      exact hq
    · refine next_led hw hd hled S ?_
      rw [slot_below R (by omega), Array.getElem?_eq_none (Nat.le_refl _)]
      exact hq
    · rcases List.mem_cons.mp hb with rfl | hb
      · exact .inr (Nat.le_refl _)
      · exact .inl (List.mem_singleton.mp hb)
    · rw [List.length_map, Array.length_toList]
    · rw [List.getElem?_map, Array.getElem?_toList]; exact e
 · have eT : ((s.heap.push (tupOf ps)).push (itObj (.ref s.heap.objs.size) a 0 es.size ep)).get? s.heap.objs.size = some (tupOf ps) := Heap.get?_push_of_some _ (Heap.get?_push_size _ rfl)
   have eI : ((s.heap.push (tupOf ps)).push (itObj (.ref s.heap.objs.size) a 0 es.size ep)).get? (s.heap.objs.size + 1) = some (itObj (.ref s.heap.objs.size) a 0 es.size ep) := by
    rw [← hsz (ob := tupOf ps)]; exact Heap.get?_push_size _ rfl
   have S1 : SetI prog w ((s.heap.push (tupOf ps)).push (itObj (.ref s.heap.objs.size) a 0 es.size ep)) a (ledOf w) σ o es ep t := S.up fun o e => Heap.get?_push_of_some _ (Heap.get?_push_of_some _ e)
   have pl : ps.length = es.size := by rw [hp.length_eq, List.length_range]
   have pe : (ps.map fun p => es.getD p (0, .none)).Perm es.toList := by
    refine (hp.map _).trans (List.Perm.of_eq (List.ext_getElem? fun i => ?_))
    by_cases hi : i < es.size
    · rw [List.getElem?_map, List.getElem?_range hi, Array.getElem?_toList, Array.getElem?_eq_getElem hi]
      simp [Array.getD, hi]
    · rw [List.getElem?_eq_none (by simp; omega), List.getElem?_eq_none (by simp; omega)]
   obtain ⟨h1, h2⟩ := intz pe
   refine h _ _ _ _ _ _ _ (walk_tup (I := s.heap.objs.size + 1) (tp := s.heap.objs.size) hh (Nat.ne_of_lt (Nat.lt_succ_of_lt ha)) (Nat.ne_of_lt (Nat.lt_succ_self _)) hp) ⟨eI, S1, eT⟩ (fun b hb => ?_) (by omega) (fun b o e => Heap.get?_push_of_some _ (Heap.get?_push_of_some _ e)) ?_ (fun i v e => ?_) h1 h2 rfl rfl rfl
   · simp only [List.mem_cons, List.not_mem_nil, or_false] at hb
     rcases hb with rfl | rfl | rfl
     · exact .inr (by omega)
     · exact .inl rfl
     · exact .inr (Nat.le_refl _)
   · rw [List.length_map, List.length_map, pl]
   · rw [List.getElem?_map, List.getElem?_map]
     cases e1 : ps[i]? with
     | none => rw [e1] at e; cases e
     | some p =>
      rw [e1] at e
      have e' : es[p]?.map Prod.snd = some v := e
      cases e2 : es[p]? with
      | none => rw [e2] at e'; cases e'
      | some q =>
       rw [e2] at e'
       cases e'
       have hlt := (Array.getElem?_eq_some_iff.mp e2)
       obtain ⟨hlt, e3⟩ := hlt
       simp [Array.getD, hlt, e3]
end
end SetP
end PySem
set_option linter.all false
namespace PySem
namespace SetP
open PyProof.Rows
set_option maxRecDepth 100000
section
variable {prog : Program} {w : World} {A : Around} {E : Value -> Shared -> Prop} {s : Shared} {a : Addr} {σ : List Int} {o : Obj} {es : Array (Int × Value)} {ep : Nat} {t : SetTable}
theorem collect_set {Q : List Value -> Shared -> Prop} (hh : A.handled = none) (S : SetI prog w s.heap a (ledOf w) σ o es ep t)
  (hQ : ∀ (s' : Shared) (vs : List Value) (ns : List Int), IntsAre vs ns -> ns.Perm σ -> vs.length = es.size -> (∀ b o, s.heap.get? b = some o -> s'.heap.get? b = some o) -> s.heap.objs.size < s'.heap.objs.size -> s'.gens = s.gens -> s'.os = s.os -> s.toks <= s'.toks -> Q vs s') :
  wpAny (model prog w) A (collect (.ref a)) Q E s := by
 have ha : a < s.heap.objs.size := Heap.lt_size S.get
 unfold collect
 refine wpAny_bind (wpAny_runValue (codeAny_builtin F.entry_proto_collect ?_))
 rw [Around.under_plainId F.plain_proto_collect _]
 show wpAny _ A.in1 (newList [] >>= fun l => again (.builtin "list.__iadd__" ⟨[l, .ref a], []⟩)) _ _ s
 refine wpAny_bind (wpAny_newObj_type ?_)
 refine wpAny_pure ⟨plainId_quiet F.plain_list_iadd _, codeAny_builtin F.entry_list_iadd ?_⟩
 rw [Around.under_plainId F.plain_list_iadd _]
 have S1 : SetI prog w (s.heap.push { cls := .type "list", data := .seq ([] : List Value).toArray }) a (ledOf w) σ o es ep t := S.up fun o e => Heap.get?_push_of_some _ e
 have eL : (s.heap.push { cls := .type "list", data := .seq ([] : List Value).toArray }).get? s.heap.objs.size = some { cls := .type "list", data := .seq ([] : List Value).toArray } := Heap.get?_push_size _ rfl
 have zL : (s.heap.push { cls := .type "list", data := .seq ([] : List Value).toArray }).objs.size = s.heap.objs.size + 1 := Heap.size_push _ _
 have kL : ∀ b o, s.heap.get? b = some o -> (s.heap.push { cls := .type "list", data := .seq ([] : List Value).toArray }).get? b = some o := fun b o e => Heap.get?_push_of_some _ e
 generalize s.heap.push { cls := .type "list", data := .seq ([] : List Value).toArray } = H1 at *
 show wpAny _ A.in1 (Builtin.List.listExtendWith (.ref s.heap.objs.size) (.ref a) (.ref s.heap.objs.size)) _ _ _
 unfold Builtin.List.listExtendWith
 refine wpAny_bind (wpAny_typeOf (SetI.typeIs (s := { s with heap := H1 }) S1) ?_)
 have h1 : Builtin.List.listSameRef (.ref s.heap.objs.size) (.ref a) = false := by simp [Builtin.List.listSameRef, Nat.ne_of_gt ha]
 have h2 : (Value.type "set" == Value.type "list") = false := by decide
 have h3 : (Value.type "set" == Value.type "tuple") = false := by decide
 simp only [h1, h2, h3, Bool.or_false, Bool.false_eq_true, if_false]
 have hh1 : A.in1.handled = none := by simp [hh]
 refine wpAny_bind (iter_walk (s := { s with heap := H1 }) hh1 S1 fun I s2 fp P St l ns W hst hfp hI k2 ll hP hin hpm g2 o2 t2 => ?_)
 have S2 : SetI prog w s2.heap a (ledOf w) σ o es ep t := S1.up fun o e => k2 _ _ e
 refine wpAny_bind (wpAny_holding (hint_set S2 ?_))
 rw [if_pos (by decide +kernel)]
 refine wpAny_bind (wpAny_rule ?_)
 refine wpAny_bind ?_
 show wpAny _ A.in1 (updateSeq s.heap.objs.size (·.push .none) >>= fun _ => updateSeq s.heap.objs.size (·.pop)) _ _ _
 have hS1 := k2 _ _ eL
 refine wpAny_bind (wpAny_updateSeq hS1 rfl ?_)
 have hS2 := Heap.get?_update_self (Obj.mapSeq (·.push Value.none)) hS1 rfl
 refine wpAny_updateSeq hS2 rfl ?_
 have hS3 := Heap.get?_update_self (Obj.mapSeq (·.pop)) hS2 rfl
 have nL : s.heap.objs.size ∉ fp := fun hm => by
  rcases hfp _ hm with e | e
  · exact absurd e (Nat.ne_of_gt ha)
  · have : H1.objs.size <= s.heap.objs.size := e
    omega
 have oth : ∀ b o, b ≠ s.heap.objs.size -> s2.heap.get? b = some o -> ((s2.heap.update s.heap.objs.size (Obj.mapSeq (·.push Value.none))).update s.heap.objs.size (Obj.mapSeq (·.pop))).get? b = some o :=
  fun b o hb e => (Heap.get?_update_other _ _ (Ne.symm hb)).trans ((Heap.get?_update_other _ _ (Ne.symm hb)).trans e)
 refine wpAny_pure ⟨plainId_quiet F.plain_extend_loop _, codeAny_extend_loopS W (fits_of_scanBound S.bd) _ nL _ es.size 0 _ _ _ rfl (Nat.zero_le _)
  (W.frame 0 s2 _ s2.toks hst (Nat.le_refl _) fun b hb o e => oth b o (fun h => nL (h ▸ hb)) e) hS3 (ItemsOf.nil P) fun s' acc c hm hS' hacc => ?_⟩
 show wpAny _ A (load s.heap.objs.size >>= _) _ _ s'
 refine wpAny_bind (wpAny_load hS' ?_)
 have el := items_list hacc ll hP
 refine wpAny_pure ?_
 show Q acc.toList s'
 rw [el]
 refine hQ s' l ns hin hpm ll (fun b o e => ?_) (Heap.lt_size hS') (hm.gens.symm.trans g2) (hm.os.trans o2) ?_
 · have hb : b < s.heap.objs.size := Heap.lt_size e
   refine hm.heap b o (fun z => ?_) (oth b o (Nat.ne_of_lt hb) (k2 _ _ (kL _ _ e)))
   simp only [List.mem_cons, List.not_mem_nil, or_false] at z
   have hI' : H1.objs.size <= I := hI
   have sI : s.heap.objs.size <= I := Nat.le_trans (by rw [zL]; exact Nat.le_succ _) hI'
   rcases z with z | z
   · exact absurd z (Nat.ne_of_lt hb)
   · exact absurd z (Nat.ne_of_lt (Nat.lt_of_lt_of_le hb sI))
 · have q1 : s2.toks <= s'.toks := hm.toks
   have q2 : s2.toks = s.toks := t2
   omega
theorem sorted_set {Q : Value -> Shared -> Prop} (hh : A.handled = none) (S : SetI prog w s.heap a (ledOf w) σ o es ep t) (h64 : σ.length < 64)
  (hQ : ∀ (s' : Shared) (l : Addr) (out : Array Value) (ns : List Int) (e : Nat), s'.heap.get? l = some (seqObj "list" out e) -> IntsAre out.toList ns -> ns.Perm σ -> ns.Pairwise (· <= ·) -> s.heap.objs.size <= l -> (∀ b o, s.heap.get? b = some o -> s'.heap.get? b = some o) -> s'.gens = s.gens -> s'.os = s.os -> s.toks <= s'.toks -> Q (.ref l) s') :
  wpAny (model prog w) A (call (.builtin "sorted") [.ref a]) Q E s := by
 refine Calls.call_function_entry kind_sorted plain_sorted entry_sorted (args_sorted1 _) ?_
 unfold Builtin.«sorted»
 refine wpAny_bind (m := checkCount "sorted" 1 1 _) (wpAny_pure ?_)
 have hh1 : A.in1.handled = none := by simp [hh]
 refine wpAny_bind (collect_set hh1 S fun s2 vs ns hin hpm lv k2 z2 g2 o2 t2 => ?_)
 have lz : vs.length = σ.length := by rw [lv, S.size]
 refine wpAny_bind (wpAny_newList ?_)
 have hoL : (s2.heap.push (seqObj "list" vs.toArray 0)).get? s2.heap.objs.size = some (seqObj "list" vs.toArray 0) := Heap.get?_push_size _ rfl
 refine wpAny_bind (wpAny_holding (wpAny_call_entry slot_list_sort ⟨_, hoL, rfl⟩ entry_list_sort (list_sort_tree hoL hin (by omega) fun out ns' a1 a2 a3 => ⟨_, rfl, ?_⟩) (args_list_sort _)))
 obtain ⟨e, he⟩ := sortedHeap_at (out := out) hoL
 refine wpAny_pure ⟨_, rfl, hQ _ _ out ns' e he a1 (a2.trans hpm) a3 (Nat.le_of_lt z2) (fun b o eb => ?_) g2 o2 t2⟩
 have hb : b < s2.heap.objs.size := Heap.lt_size (k2 _ _ eb)
 have hb' : b < (s2.heap.push (seqObj "list" vs.toArray 0)).objs.size := by rw [Heap.size_push]; exact Nat.lt_succ_of_lt hb
 rw [sortedHeap_old (Nat.ne_of_lt hb) hb']
 exact Heap.get?_push_of_some _ (k2 _ _ eb)
end
end SetP
end PySem
set_option linter.all false
set_option maxRecDepth 100000
namespace L2
open PySem PySem.Spec PyProof.Rows
theorem vals_of_ints : ∀ {us : List Value} {ns : List Int}, IntsAre us ns -> Vals (ns.map V.int) us
 | _, _, .nil => .nil
 | _, _, .cons n t h => .cons ⟨t, rfl⟩ (vals_of_ints h)
theorem firstMet_nodup (val : Nat -> Int) : ∀ i, (firstMet val i).Nodup
 | 0 => List.nodup_nil
 | i + 1 => by
  rw [firstMet_succ]
  unfold step_dedup
  split
  · exact firstMet_nodup val i
  · rename_i h
    refine List.nodup_append.mpr ⟨firstMet_nodup val i, by simp, fun x hx y hy e => h ?_⟩
    rw [List.mem_singleton.mp hy] at e
    exact List.any_eq_true.mpr ⟨x, hx, by simp [e]⟩
theorem firstMet_mem (ns : List Int) (k : Int) : k ∈ firstMet (fun i => ns.getD i 0) ns.length ↔ k ∈ ns := by
 have h := firstMet_any (fun i => ns.getD i 0) ns.length k
 have e : (List.range ns.length).map (fun i => ns.getD i 0) = ns := List.ext_getElem? fun i => by
  by_cases hi : i < ns.length
  · rw [List.getElem?_map, List.getElem?_range hi, List.getElem?_eq_getElem hi]
    simp [List.getD, hi]
  · rw [List.getElem?_eq_none (by simp; omega), List.getElem?_eq_none (by omega)]
 rw [e] at h
 have m : ∀ l : List Int, l.any (· == k) = true ↔ k ∈ l := fun l => by
  rw [List.any_eq_true]
  constructor
  · rintro ⟨x, hx, ex⟩
    have : x = k := by simpa using ex
    exact this ▸ hx
  · intro hk
    exact ⟨k, hk, by simp⟩
 rw [← m, ← m, h]
theorem strict_of {l : List Int} (h : l.Pairwise (· <= ·)) (n : l.Nodup) : l.Pairwise (· < ·) := by
 induction l with
 | nil => exact .nil
 | cons x r ih =>
  obtain ⟨h1, h2⟩ := List.pairwise_cons.mp h
  obtain ⟨n1, n2⟩ := List.nodup_cons.mp n
  exact List.pairwise_cons.mpr ⟨fun y hy => by
   have := h1 y hy
   have ne : x ≠ y := fun e => n1 (e ▸ hy)
   omega, ih h2 n2⟩
variable {X : Cx} {pins : List (Addr × Obj)} {σ : St} {H : Hp} {s : Shared}
theorem Inv.redrawn {d' : Drawn} (I : Inv X pins σ H s) : Inv X pins σ H { s with drawn := d' } := ⟨I.ok, I.os, I.bare, I.base, I.loc, I.cell, I.free, I.freeC, I.pin, I.hok, I.len⟩
def tSorted (K : PySem.W.Frag) (te : TA) : TE := fun σ H Q => te σ H fun xs H1 => ∃ (p : Addr) (ns : List Int), xs = [.ref p] /\ SqL K H1 p (ns.map V.int) /\ ns.length < 64 /\
 ∀ (l : Addr) (out : List Int), H1 l = none -> (∀ k, k ∈ out ↔ k ∈ ns) -> out.Pairwise (· < ·) -> Q (.ref l) (upd H1 l (.lst (out.map V.int)))
theorem pe_sortedSet {K : PySem.W.Frag} {x y : Str} {p p2 : Pos} {e : Expr} {pos pos2 : Pos} {t : TA} (hK : X.K = K) (hc : X.calm = true)
  (hg : Gl X x) (hm : X.mg x = none) (hv : bootBuiltins x = some (.builtin "sorted")) (hg2 : Gl X y) (hm2 : X.mg y = none) (hv2 : bootBuiltins y = some (.type "set"))
  (ha : PA X [e] t) (hn : x ≠ "__name__" := by decide) (hdb : (x == ("__debug__" : Str)) = false := by decide) (hn2 : y ≠ "__name__" := by decide) (hdb2 : (y == ("__debug__" : Str)) = false := by decide)
  (he : starEach [e] X.env = (false, eval e X.env) :: starEach [] X.env := by rfl) (hpl : (backTo pos2 (starEach [] X.env)).any (·.1) = false := by rfl) :
  PE X (.Call (.Name x p) [.Call (.Name y p2) [e] [] pos2] [] pos) (tSorted K t) := by
 subst hK
 intro pins s σ H Q I h
 refine wpAny_Call_Name_kw (ld_blt I hg hm hv ?_ hn hdb)
 refine PyProof.Rows.callWith_builtin1 ?_ rfl rfl
 show wpAny _ _ (spliced ((false, eval (.Call (.Name y p2) [e] [] pos2) X.env) :: backTo pos (starEach [] X.env))) _ _ s
 refine Calls.spliced_cons ?_
 refine wpAny_Call_Name_kw (ld_blt I hg2 hm2 hv2 ?_ hn2 hdb2)
 refine PyProof.Rows.callWith_type1 (thn (ha pos2 pins s σ H _ I h) fun us s1 ⟨vs, H1, I1, r1, q1⟩ => ?_) he hpl
 obtain ⟨pa, ns, rfl, sq, l64, q⟩ := q1
 obtain ⟨u, rfl, rx⟩ := vals1 r1
 cases rx
 obtain ⟨its, r, pl, hz⟩ := I1.list sq
 have hin := intsAre_of r
 have hlen : its.length = ns.length := by have := r.length; simpa using this.symm
 have hh := I1.ok.hd hc
 refine SetP.call_set_is hh pl.isList hin (by rw [List.size_toArray, hlen]; unfold scanBound; omega) fun h2 tk hS hk => ?_
 refine Calls.spliced_nil ?_
 have hit : its.toArray.size = ns.length := by rw [List.size_toArray, hlen]
 rw [hit] at hS
 obtain ⟨o, es, ep, tb, S⟩ := hS
 refine SetP.sorted_set (s := { s1 with heap := h2, toks := tk }) hh S (Nat.lt_of_le_of_lt (firstMet_length_le _ _) l64) fun s' l out ns' e' hl hi' hp hs zl k3 g3 o3 t3 => ?_
 have hlt : s1.heap.objs.size <= l := Nat.le_trans (Nat.le_of_lt (Heap.lt_size S.get)) zl
 have kk : ∀ b u, s1.heap.get? b = some u -> s'.heap.get? b = some u := fun b u e => k3 _ _ (hk _ _ (Heap.lt_size e) e)
 obtain ⟨h', g', d', tk', os'⟩ := s'
 have eg : g' = s1.gens := g3
 have eo : os' = s1.os := o3
 subst eg; subst eo
 have lz : ns'.length <= ns.length := by rw [hp.length_eq]; exact firstMet_length_le _ _
 refine ⟨.ref l, upd H1 l (.lst (ns'.map V.int)), Inv.redrawn (s := { s1 with heap := h', toks := tk' }) (I1.laid (t' := tk') kk hlt (show ObjOk X.prog X.w _ h' _ (.lst (ns'.map V.int)) from ⟨by rw [List.length_map]; exact sz _ (by omega), out.toList, e', vals_of_ints hi', hl⟩)), rfl, ?_⟩
 exact q l ns' (I1.hok.fresh hlt) (fun k => (hp.mem_iff).trans (firstMet_mem ns k)) (strict_of hs (hp.nodup_iff.mpr (firstMet_nodup _ _)))
end L2
set_option linter.all false
namespace PySem
namespace RevP
open PyProof.Rows
set_option maxRecDepth 100000
theorem slot_next : Slot "list_reverseiterator" "__next__" "list_reverseiterator.__next__" :=
 .of (owner := "list_reverseiterator") (n := "__next__") (by rw [typeLookup_type, builtinLookup_eq_fast]; kernel_rfl) (by decide +kernel) (by decide +kernel) (by decide +kernel)
  (by first | exact .inl (by decide +kernel) | exact .inr (by decide +kernel)) (by rw [isSubtype_type]; kernel_rfl)
theorem slot_iter : Slot "list_reverseiterator" "__iter__" "list_reverseiterator.__iter__" :=
 .of (owner := "list_reverseiterator") (n := "__iter__") (by rw [typeLookup_type, builtinLookup_eq_fast]; kernel_rfl) (by decide +kernel) (by decide +kernel) (by decide +kernel)
  (by first | exact .inl (by decide +kernel) | exact .inr (by decide +kernel)) (by rw [isSubtype_type]; kernel_rfl)
theorem entry_next : entryFor table "list_reverseiterator.__next__" = some Builtin.«list_reverseiterator.__next__» := entryFor_of_tree (by kernel_rfl)
theorem entry_iter : entryFor table "list_reverseiterator.__iter__" = some Builtin.«dict_keyiterator.__iter__» :=
 entryFor_alias (id' := "dict_keyiterator.__iter__") (by kernel_rfl) rfl (by decide +kernel) (by kernel_rfl)
theorem owner_it : Manifest.owners.lookup (String.ofList ['r', 'o', 't', 'a', 'r', 'e', 't', 'i', 'e', 's', 'r', 'e', 'v', 'e', 'r', '_', 't', 's', 'i', 'l'].reverse) = some Manifest.sig_list_reverseiterator := by kernel_rfl
theorem args_next (a : Value) : argsOk "list_reverseiterator.__next__" ⟨[a], []⟩ := by
 unfold argsOk; rw [signature?_of (id := "list_reverseiterator.__next__") (n := ['_', '_', 't', 'x', 'e', 'n', '_', '_']) (o := ['r', 'o', 't', 'a', 'r', 'e', 't', 'i', 'e', 's', 'r', 'e', 'v', 'e', 'r', '_', 't', 's', 'i', 'l']) (by kernel_rfl) owner_it]; kernel_rfl
theorem args_iter (a : Value) : argsOk "list_reverseiterator.__iter__" ⟨[a], []⟩ := by
 unfold argsOk; rw [signature?_of (id := "list_reverseiterator.__iter__") (n := ['_', '_', 'r', 'e', 't', 'i', '_', '_']) (o := ['r', 'o', 't', 'a', 'r', 'e', 't', 'i', 'e', 's', 'r', 'e', 'v', 'e', 'r', '_', 't', 's', 'i', 'l']) (by kernel_rfl) owner_it]; kernel_rfl
def IsRev (h : Heap) (it l : Addr) (j : Int) : Prop := ∃ o, h.get? it = some o /\ o.cls = .type "list_reverseiterator" /\ o.data = .fields #[.ref l, .int j 0]
section
variable {prog : Program} {w : World} {A : Around} {E : Value -> Shared -> Prop} {s : Shared} {it l : Addr}
theorem IsRev.typeIs {j : Int} (h : IsRev s.heap it l j) : s.TypeIs (.ref it) "list_reverseiterator" := let ⟨o, e, c, _⟩ := h; ⟨o, e, c⟩
theorem IsRev.at_ {h h' : Heap} {j : Int} (x : IsRev h it l j) (k : ∀ o, h.get? it = some o -> h'.get? it = some o) : IsRev h' it l j := let ⟨o, e, r⟩ := x; ⟨o, k _ e, r⟩
theorem self {j : Int} {Q : Value -> Shared -> Prop} (hit : IsRev s.heap it l j) (h : Q (.ref it) s) : wpAny (model prog w) A (pyIter (.ref it)) Q E s := by
 refine wpAny_pyIter_slot hit.typeIs slot_iter (wpAny_call_entry slot_iter hit.typeIs entry_iter ?_ (args_iter _))
 show wpAny _ _ (ret (.ref it)) _ _ s
 exact wpAny_pure ⟨_, rfl, "list_reverseiterator", _, hit.typeIs, slot_next.lookup, h⟩
theorem item {k : Nat} {items : Array Value} {x : Value} {Q : Option Value -> Shared -> Prop} (hit : IsRev s.heap it l k) (hl : s.heap.IsList l items) (hx : items[k]? = some x)
  (hQ : ∀ h', IsRev h' it l ((k : Int) - 1) -> Heap.SameBut it s.heap h' -> Q (some x) { s with heap := h' }) : wpAny (model prog w) A (pyNext (.ref it)) Q E s := by
 obtain ⟨o, ho, hc, hd⟩ := id hit
 obtain ⟨ol, hol, _, nl, hdl⟩ := hl
 unfold pyNext
 refine wpAny_bind (wpAny_attempt (wpAny_callSpecial?_slot (name := Str.ofString "__next__") hit.typeIs slot_next
  (wpAny_call_entry slot_next hit.typeIs entry_next ?_ (args_next _))))
 unfold Builtin.«list_reverseiterator.__next__»
 refine wpAny_bind (wpAny_pure ?_)
 dsimp only
 refine wpAny_bind (wpAny_field ho hd (x := .int k 0) rfl ?_)
 dsimp only
 rw [if_neg (by omega)]
 refine wpAny_bind (wpAny_field ho hd (x := .ref l) rfl ?_)
 refine wpAny_bind (wpAny_seqItems hol hdl ?_)
 simp only [Int.toNat_natCast, hx]
 refine wpAny_bind (wpAny_setField ho hd (by simp) (wpAny_pure ⟨x, rfl, wpAny_pure (hQ _ ?_ (Heap.SameBut.update ..))⟩))
 exact ⟨_, Heap.get?_update_self _ ho (Obj.isFreed_of_fields (Obj.data_mapFields hd _)), (Obj.cls_mapFields ..).trans hc, by
  rw [Obj.data_mapFields hd]; simp [rawInt]⟩
theorem done {Q : Option Value -> Shared -> Prop} (hh : A.handled = none) (hit : IsRev s.heap it l (-1)) (hQ : ∀ h', (∀ b o, s.heap.get? b = some o -> h'.get? b = some o) -> Q none { s with heap := h' }) :
  wpAny (model prog w) A (pyNext (.ref it)) Q E s := by
 obtain ⟨o, ho, hc, hd⟩ := id hit
 unfold pyNext
 refine wpAny_bind (wpAny_attempt (wpAny_callSpecial?_slot (name := Str.ofString "__next__") hit.typeIs slot_next
  (wpAny_call_entry slot_next hit.typeIs entry_next ?_ (args_next _))))
 unfold Builtin.«list_reverseiterator.__next__»
 refine wpAny_bind (wpAny_pure ?_)
 dsimp only
 refine wpAny_bind (wpAny_field ho hd (x := .int (-1) 0) rfl ?_)
 dsimp only
 rw [if_pos (by omega)]
 refine wpAny_bind (wpAny_rule ?_)
 refine wpAny_bind ?_
 unfold Builtin.SmallTypes.stopIteration
 refine wpAny_bind ?_
 simp only [newExc, newTuple]
 refine wpAny_bind (wpAny_newObj_type ?_ (by size_fits))
 refine wpAny_bind (m := firstArgMember _ _) (wpAny_of_eq (a := Value.none) (by first | rfl | (simp only [firstArgMember]; rfl)) ?_)
 refine wpAny_newObj_type ?_ (by size_fits)
 simp only [raiseNew]
 refine wpAny_bind (wpAny_handled ?_)
 rw [show A.in1.handled = none from hh]
 refine wpAny_bind (wpAny_pure (wpAny_throw ?_))
 refine wpAny_bind (wpAny_isInstance (T := "StopIteration") (b := true) ⟨_, Heap.get?_push_size _ rfl, rfl⟩ isSubtype_stop ?_)
 exact wpAny_pure (hQ _ fun b o e => Heap.get?_push_of_some _ (Heap.get?_push_of_some _ e))
end
end RevP
end PySem
set_option linter.all false
namespace PySem
namespace RevP
open PyProof.Rows
set_option maxRecDepth 100000
theorem mro_reversed : mroOf (.type "reversed") = pure [.type "reversed", .type "object"] := by rw [mroOf_type]; kernel_rfl
theorem lookup_new : typeLookup (.type "reversed") "__new__" = pure (some (.builtin "reversed.__new__")) := by rw [typeLookup_type, builtinLookup_eq_fast]; kernel_rfl
theorem made_new : Bind.madeBy (.type "reversed") = pure (some "reversed.__new__") := madeBy_type mro_reversed lookup_new (by decide +kernel)
theorem typeCall (a : Value) : checkTypeCall "reversed" ⟨[a], []⟩ = pure () := by kernel_rfl
theorem newCall (a : Value) : checkBuiltinCall "reversed.__new__" ⟨[.type "reversed", a], []⟩ = pure () := by kernel_rfl
theorem entry_new : entryFor table "reversed.__new__" = some Builtin.«reversed.__new__» := entryFor_of_tree (by kernel_rfl)
theorem plain_new : plainId "reversed.__new__" = true := by decide +kernel
theorem sub_self : isSubtype (.type "reversed") (.type "reversed") = pure true := by rw [isSubtype_type]; kernel_rfl
theorem sub_it : isSubtype (.type "list_reverseiterator") (.type "reversed") = pure false := by rw [isSubtype_type]; kernel_rfl
def revObj (l : Addr) (j : Int) : Obj := { cls := .type "list_reverseiterator", data := .fields #[.ref l, .int j 0] }
section
variable {prog : Program} {w : World} {A : Around} {E : Value -> Shared -> Prop} {s : Shared} {l : Addr} {items : Array Value}
theorem own_call {Q : Value -> Shared -> Prop} (hl : s.heap.IsList l items) (h : Q (.ref s.heap.objs.size) { s with heap := s.heap.push (revObj l ((items.size : Int) - 1)) }) :
  codeAny (model prog w) A (.call (.builtin "list.__reversed__") ⟨[.ref l], []⟩) (wants Q E) s := by
 obtain ⟨ol, hol, hcl, nl, hdl⟩ := id hl
 refine codeAny_call_builtin F.slot_list_reversed.plain F.entry_list_reversed (F.slot_list_reversed.check _ _ _ _ _ _ _ _ hl.typeIs (F.args_list_reversed_1 _) ?_)
 unfold Builtin.«list.__reversed__»
 refine wpAny_bind (wpAny_pure ?_)
 refine wpAny_bind (listItems_at hol hdl ?_)
 exact wpAny_bind (wpAny_newObj_type (wpAny_pure h))
theorem call_reversed {Q : Value -> Shared -> Prop} (hl : s.heap.IsList l items) (h : Q (.ref s.heap.objs.size) { s with heap := s.heap.push (revObj l ((items.size : Int) - 1)) }) :
  wpAny (model prog w) A (call (.type "reversed") [.ref l]) Q E s := by
 have hmro := mro_reversed
 have hmade := made_new
 have hsub := sub_self
 refine wpAny_call (codeAny_of_tree ?_)
 show wpAny _ _ (callAny (.type "reversed") _) _ _ _
 refine wpAny_pure ⟨Code.quiet_builtin _ (by decide +kernel), codeAny_builtin F.entry_type_call ?_⟩
 rw [Around.under_plain (weight_type_call_type "reversed" [.ref l] []) rfl]
 have h1 : (Value.type "reversed" == Value.type "type") = false := by decide +kernel
 have h2 : ((Manifest.find? "reversed").bind (·.mro.findSome? fun t => (Manifest.find? t).bind fun b => if b.noNew then some true else if b.attrs.any (·.1 == "__new__") then some false else none)).getD false = false := by decide +kernel
 have hct := typeCall (.ref l)
 repeat (any_goals (first | assumption | wp_step))
 refine codeAny_mono (codeAny_call_builtin (R := wants (fun obj s₁ => obj = .ref s.heap.objs.size /\ s₁ = { s with heap := s.heap.push (revObj l ((items.size : Int) - 1)) }) E) plain_new entry_new (wpAny_of_eq (newCall (.ref l)) ?_)) fun r s₁ hr => ?_
 · unfold Builtin.«reversed.__new__» Builtin.SmallTypes.newClass Builtin.SmallTypes.refuseKeywords
   refine wpAny_bind ?_
   refine wpAny_bind (wpAny_of_eq (a := true) rfl ?_)
   rw [if_neg (by simp)]
   refine wpAny_bind (wpAny_of_eq hsub ?_)
   rw [if_neg (by simp)]
   refine wpAny_pure ?_
   dsimp only
   refine wpAny_bind (wpAny_pure ?_)
   refine wpAny_bind (m := checkCount "reversed" 1 1 _) (wpAny_pure ?_)
   try dsimp only
   refine wpAny_bind (wpAny_specialOf hl.typeIs F.slot_list_reversed.lookup ?_)
   try dsimp only
   refine wpAny_bind (wpAny_of_eq (F.slot_list_reversed.bind (.ref l)) ?_)
   try dsimp only
   rw [if_neg (by decide)]
   refine wpAny_bind (wpAny_rule ?_)
   refine wpAny_bind (wpAny_runValue ?_)
   refine codeAny_mono (own_call (E := fun _ _ => False) (Q := fun obj s₁ => obj = .ref s.heap.objs.size /\ s₁ = { s with heap := s.heap.push (revObj l ((items.size : Int) - 1)) }) hl ⟨rfl, rfl⟩) fun r s₁ hr => ?_
   cases r with
   | error e => exact hr.elim
   | ok fl =>
    cases fl with
    | ret obj => first | exact wpAny_pure hr | exact wpAny_pure ⟨hr.1, hr.2⟩ | exact wpAny_pure (wpAny_pure hr)
    | _ => exact hr.elim
 · cases r with
   | error e => exact hr
   | ok fl =>
    cases fl with
    | ret obj =>
     obtain ⟨rfl, rfl⟩ := hr
     have hT : Shared.TypeIs { s with heap := s.heap.push (revObj l ((items.size : Int) - 1)) } (.ref s.heap.objs.size) "list_reverseiterator" := ⟨_, Heap.get?_push_size _ rfl, rfl⟩
     have hsi := sub_it
     repeat (any_goals (first | assumption | wp_step))
    | _ => exact hr.elim
end
end RevP
end PySem
set_option linter.all false
set_option maxRecDepth 100000
namespace L2
open PySem PySem.Spec PyProof.Rows
def Itv (K : PySem.W.Frag) (a : Addr) (n : Nat) : It :=
 ⟨fun i H => i < n /\ ∃ xs, SqL K H a xs /\ xs.length = n, fun i H x H' => H' = H /\ ∀ xs, SqL K H a xs -> xs[n - 1 - i]? = some x, fun i H => i = n⟩
theorem turn_rev {P : Program} {w : World} {K : PySem.W.Frag} {tg : Expr} (a it : Addr) (n : Nat) : Turn P w K tg (Itv K a n) [it] it (fun i h => RevP.IsRev h it a ((n : Int) - 1 - i)) where
 mem := by simp
 obj := fun i h st b hb => by
  have e : b = it := by simpa using hb
  subst e
  obtain ⟨o, e, c, d⟩ := st
  exact ⟨o, e, fun v z => by rw [d] at z; cases z⟩
 keep := fun i h h' st k => st.at_ fun o e => k it (by simp) o e
 item := by
  intro X hP hw hK hc i pins s σ H E I hf st hg
  subst hP hw hK
  obtain ⟨hi, xs, hq, hx⟩ := hg
  obtain ⟨its, rv, p, hz⟩ := I.list hq
  have ex : xs[n - 1 - i]? = some (xs[n - 1 - i]'(by omega)) := List.getElem?_eq_getElem (by omega)
  generalize xs[n - 1 - i]'(by omega) = x at ex
  obtain ⟨u, hu, ru⟩ := rv.get ex
  obtain ⟨f0, f1, f2, f3, f4, f5⟩ := hf it (by simp)
  have ej : ((n : Int) - 1 - (i : Int)) = ((n - 1 - i : Nat) : Int) := by omega
  rw [ej] at st
  refine RevP.item st p.isList (x := u) (by simpa using hu) fun h' st' sb => ?_
  have I1 : Inv X pins σ H { s with heap := h' } := I.turned (t' := s.toks) (fun b o hb e => (sb.2 b hb).trans e) f0 f1 f3 f4 f5
  have st2 : RevP.IsRev h' it a ((n : Int) - 1 - ((i + 1 : Nat) : Int)) := by
   rw [show ((n : Int) - 1 - ((i + 1 : Nat) : Int)) = ((n - 1 - i : Nat) : Int) - 1 by omega]
   exact st'
  obtain ⟨o, e, c, d⟩ := id st'
  exact ⟨u, rfl, go_of (s := { s with heap := h' }) e c d (by decide) ⟨x, H, I1, ru, ⟨rfl, fun ys hy => by rw [I.list_inj hy hq]; exact ex⟩, st2, fun b hb => (hf b hb).1⟩⟩
 done := by
  intro X hP hw hK hc i pins s σ H E I hf st hg
  subst hP hw hK
  have hg' : i = n := hg
  subst hg'
  obtain ⟨f0, f1, f2, f3, f4, f5⟩ := hf it (by simp)
  rw [show ((i : Int) - 1 - (i : Int)) = -1 by omega] at st
  exact RevP.done (I.ok.hd hc) st fun h' eb => ⟨rfl, I.turned (t' := s.toks) (fun b o hb e => eb b o e) f0 f1 f3 f4 f5⟩
 self := fun _ _ _ _ _ st h => RevP.self st h
def iRev (K : PySem.W.Frag) (t : TA) : TI := fun σ H R => t σ H fun vs H1 => ∃ a xs, vs = [.ref a] /\ SqL K H1 a xs /\ R (Itv K a xs.length) H1
theorem pi_rev {X : Cx} {K : PySem.W.Frag} {tg e : Expr} {x : Str} {p pos : Pos} {t : TA} (hK : X.K = K) (hg : Gl X x) (hm : X.mg x = none) (hv : bootBuiltins x = some (.type "reversed")) (ha : PA X [e] t)
  (hn : x ≠ "__name__" := by decide) (hdb : (x == ("__debug__" : Str)) = false := by decide)
  (he : starEach [e] X.env = (false, eval e X.env) :: starEach [] X.env := by rfl) (hpl : (backTo pos (starEach [] X.env)).any (·.1) = false := by rfl) : PI X tg (.Call (.Name x p) [e] [] pos) (iRev K t) := by
 subst hK
 intro pins s σ H R I h
 refine wpAny_Call_Name_kw (ld_blt I hg hm hv ?_ hn hdb)
 refine PyProof.Rows.callWith_type1 (thn (ha pos pins s σ H _ I h) fun us s1 ⟨vs, H1, I1, r1, q1⟩ => ?_) he hpl
 obtain ⟨a, xs, rfl, hq, q⟩ := q1
 obtain ⟨u, rfl, rx⟩ := vals1 r1
 cases rx
 obtain ⟨its, rv, pl, hz⟩ := I1.list hq
 have hl := rv.length
 refine RevP.call_reversed pl.isList ?_
 have eo : (s1.heap.push (RevP.revObj a ((its.toArray.size : Int) - 1))).get? s1.heap.objs.size = some (RevP.revObj a ((its.toArray.size : Int) - 1)) := Heap.get?_push_size _ rfl
 have st : RevP.IsRev (s1.heap.push (RevP.revObj a ((its.toArray.size : Int) - 1))) s1.heap.objs.size a ((xs.length : Int) - 1 - (0 : Nat)) := ⟨_, eo, rfl, by
  show Data.fields #[.ref a, .int ((its.toArray.size : Int) - 1) 0] = _
  rw [List.size_toArray, ← hl]
  simp⟩
 refine RevP.self (s := { s1 with heap := s1.heap.push (RevP.revObj a ((its.toArray.size : Int) - 1)) }) st ?_
 refine ⟨s1.heap.objs.size, [s1.heap.objs.size], _, _, H1, rfl, I1.kept (t' := s1.toks) fun b o e => Heap.get?_push_of_some _ e, turn_rev a _ xs.length, st, fun b hb => ?_, q⟩
 have e : b = s1.heap.objs.size := by simpa using hb
 subst e
 exact I1.fpOk (Nat.le_refl _) (I1.hok.fresh (Nat.le_refl _))
theorem for_rev {K : PySem.W.Frag} {a : Addr} {xs : List V} {g : TG} {tb : TS} {D : Ends} {σ : St} {H : Hp} (Pv : Nat -> St -> Hp -> Prop) (h0 : Pv 0 σ H) (hl : ∀ i σ H, i <= xs.length -> Pv i σ H -> SqL K H a xs)
  (hs : ∀ i x σ H, i < xs.length -> xs[xs.length - 1 - i]? = some x -> Pv i σ H -> g x σ H fun σ2 H2 => tb { D with nx := Pv (i + 1), ct := Pv (i + 1), bk := D.nx } σ2 H2) (hd : ∀ σ H, Pv xs.length σ H -> D.nx σ H) :
  ∃ W : Nat -> Nat -> St -> Hp -> Prop, (∃ m, W 0 m σ H) /\ ∀ i m σ H, W i m σ H ->
   ((Itv K a xs.length).stop i H /\ D.nx σ H) \/ ((Itv K a xs.length).go i H /\ ∃ N : St -> Hp -> Prop, (∀ σ' H', N σ' H' -> ∃ m', m' < m /\ W (i + 1) m' σ' H') /\ ∀ x H', (Itv K a xs.length).yld i H x H' -> g x σ H' fun σ2 H2 => tb { D with nx := N, ct := N, bk := D.nx } σ2 H2) := by
 refine ⟨fun i m σ H => m = xs.length - i /\ i <= xs.length /\ Pv i σ H, ⟨xs.length, by simp, Nat.zero_le _, h0⟩, ?_⟩
 rintro i m σ H ⟨rfl, hi, p⟩
 have q := hl i σ H hi p
 by_cases hlt : i < xs.length
 · refine .inr ⟨⟨hlt, xs, q, rfl⟩, Pv (i + 1), fun σ' H' p' => ⟨xs.length - (i + 1), by omega, rfl, hlt, p'⟩, fun x H' y => ?_⟩
   obtain ⟨e, y⟩ := y
   subst e
   exact hs i x σ _ hlt (y xs q) p
 · have e : i = xs.length := by omega
   subst e
   exact .inl ⟨rfl, hd σ H p⟩
structure Bl3 (mg : Str -> Option Value) : Prop extends Bl mg where
 sorted : mg "sorted" = none
 set : mg "set" = none
 reversed : mg "reversed" = none
end L2
namespace L2
open PySem PySem.Spec PyProof.Rows
structure Bl4 (mg : Str -> Option Value) : Prop extends Bl3 mg where
 abs : mg "abs" = none
end L2
set_option linter.all false
set_option maxRecDepth 100000
namespace L2
open PySem PySem.Spec PyProof.Rows
section
variable {X : Cx} {K : PySem.W.Frag} {a b : Expr} {ta tb : TE} {pos : Pos} {rest : List Expr}
def rGetL (K : PySem.W.Frag) : V -> V -> Hp -> VK -> Prop := fun x y H Q => ∃ p xs i v, x = .ref p /\ y = .int i /\ SqL K H p xs /\ 0 <= i /\ atI xs i = some v /\ Q v H
theorem get_listK (hK : X.K = K) : PGet X (rGetL K) := by
 subst hK
 intro pins s σ H x y v u Q I rx ry h
 obtain ⟨p, xs, i, z, rfl, rfl, hq, h0, he, q⟩ := h
 cases rx
 obtain ⟨t, rfl⟩ := ry
 obtain ⟨its, r, pl, hz⟩ := I.list hq
 obtain ⟨j, h1, h2, h3, h4, h5⟩ := atI_get he
 obtain ⟨w, ew, rw'⟩ := r.get h2
 have hl := r.length
 have hn := line63
 have hj : i.toNat = j := by
  rw [seqIndex_of h0 h5] at h1
  exact Option.some.inj h1
 exact wpAny_getItem_list pl.isList h0 (by omega) (by rw [hj]; simpa using ew) ⟨z, H, I, rw', q⟩
def tOrL (K : PySem.W.Frag) (ta tb : TE) : TE := fun σ H Q => ta σ H fun x H1 => ∃ k, TruV K x H1 k /\ if k = true then Q x H1 else tb σ H1 Q
theorem pe_orL (hK : X.K = K) (ha : PE X a ta) (hb : PE X (.BoolOp .Or (b :: rest) pos) tb) : PE X (.BoolOp .Or (a :: b :: rest) pos) (tOrL K ta tb) := by
 subst hK
 intro pins s σ H Q I h
 refine BoolOp_or (thn (ha pins s σ H _ I h) fun v s1 ⟨x, H1, I1, r1, q1⟩ => ?_)
 obtain ⟨k, tk, q1⟩ := q1
 refine thn (tru_ok pins s1 σ H1 x v (fun c H2 => c = k /\ H2 = H1) I1 r1 ⟨k, tk, rfl, rfl⟩) fun c s2 z => ?_
 obtain ⟨H2, I2, e1, e2⟩ := z
 subst e1; subst e2
 cases c with
 | false => exact hb pins s2 σ H2 Q I2 q1
 | true => exact ⟨x, H2, I2, r1, q1⟩
end
end L2
set_option Elab.async false
set_option linter.all false
set_option maxRecDepth 100000
set_option maxHeartbeats 4000000
namespace T
open PySem L2
def top (i : Nat) : Stmt := PySem.Challenge.pw_eightsides_k33_climbs_end.main.body.getD i (.Pass ⟨0, 0, 0, 0⟩)
def clsBody : Stmt -> List Stmt
 | .ClassDef _ _ _ b _ _ _ _ _ _ _ => b
 | _ => []
abbrev s_below : Stmt := top 1
abbrev s_above : Stmt := top 2
abbrev s_lesser : Stmt := top 3
abbrev s_least : Stmt := top 4
abbrev s_summed : Stmt := top 5
abbrev s_half : Stmt := top 6
abbrev s_flipped : Stmt := top 8
abbrev s_wide : Stmt := top 10
abbrev s_wide_row : Stmt := top 11
abbrev s_told_sides : Stmt := top 12
abbrev s_closed : Stmt := top 13
abbrev s_held : Stmt := top 14
abbrev s_held_by_all : Stmt := top 15
abbrev s_lowered : Stmt := top 16
abbrev s_tightened : Stmt := top 17
abbrev s_row_within_halves : Stmt := top 18
abbrev s_linked_through_all : Stmt := top 19
abbrev s_linked_through : Stmt := top 20
abbrev s_linked_row : Stmt := top 21
abbrev s_some_point : Stmt := top 23
abbrev s_some_worth : Stmt := top 24
abbrev s_fixed : Stmt := top 25
abbrev s_greatest : Stmt := top 26
abbrev s_reaching : Stmt := top 28
abbrev s_without_flips : Stmt := top 29
abbrev s_reaching_with_two : Stmt := top 30
abbrev s_apart : Stmt := top 35
abbrev s_within : Stmt := top 36
abbrev s_copied : Stmt := top 38
abbrev s_step_over : Stmt := top 40
abbrev s_widened : Stmt := top 41
abbrev s_widened_row : Stmt := top 42
abbrev s_Climb_init : Stmt := (clsBody (top 44)).getD 0 (.Pass ⟨0, 0, 0, 0⟩)
abbrev s_Climb_take : Stmt := (clsBody (top 44)).getD 1 (.Pass ⟨0, 0, 0, 0⟩)
abbrev s_Climb_next_table : Stmt := (clsBody (top 44)).getD 2 (.Pass ⟨0, 0, 0, 0⟩)
abbrev s_Climb_shape : Stmt := (clsBody (top 44)).getD 3 (.Pass ⟨0, 0, 0, 0⟩)
abbrev s_Climb_rises : Stmt := (clsBody (top 44)).getD 4 (.Pass ⟨0, 0, 0, 0⟩)
abbrev s__law_cell : Stmt := top 46
abbrev s__law_whole : Stmt := top 47
abbrev s__law_worth : Stmt := top 48
abbrev s__law_flip : Stmt := top 49
abbrev s__law_wide : Stmt := top 50
abbrev s__law_entry : Stmt := top 51
abbrev s__law_table : Stmt := top 52
abbrev s__law_points : Stmt := top 53
abbrev s__law_up : Stmt := top 54
abbrev s__law_no_more : Stmt := top 55
abbrev s__law_widened : Stmt := top 56
abbrev s__law_sides : Stmt := top 57
abbrev s__law_alike : Stmt := top 58
abbrev s__law_lies : Stmt := top 59
abbrev s__law_rise : Stmt := top 60
abbrev s__law_take : Stmt := top 61
abbrev s__law_steps : Stmt := top 62
abbrev s__law_patience : Stmt := top 63
abbrev s_law : Stmt := top 64
structure Kl (K : PySem.W.Frag) (mg : Str -> Option Value) (Z_Climb y0 y9 f_Climb_next_table y8 y7 : Addr) : Prop where
 cl_Climb : Cls K Z_Climb
 me_Climb_take : Meth K Z_Climb "take" y9
 me_Climb_next_table : Meth K Z_Climb "next_table" f_Climb_next_table
 me_Climb_shape : Meth K Z_Climb "shape" y8
 me_Climb_rises : Meth K Z_Climb "rises" y7
 mk_Climb : Mk K Z_Climb y0
 mg_Climb : mg "Climb" = some (.ref Z_Climb)
 n_Climb_count : NoAttr K Z_Climb "count"
 n_Climb_steps : NoAttr K Z_Climb "steps"
 n_Climb_patience : NoAttr K Z_Climb "patience"
 n_Climb_kept : NoAttr K Z_Climb "kept"
 n_Climb_reached : NoAttr K Z_Climb "reached"
 n_Climb_risen : NoAttr K Z_Climb "risen"
def sp__law_copy (K : PySem.W.Frag) : Sp := fun vs H Q _ => ∃ (v : V) (n : Nat) (o : Option Tb), vs = [v] /\ ShapeAt H v (2 * n) o /\ n <= 100 /\ ∀ u H', Same H H' -> ShapeNew H H' u (2 * n) o -> Q u H'
def shD : Nat -> Option Tb -> PyData
 | _, none => .none
 | N, some c => tabD (Oct.toT N c)
theorem shape_dt {K : PySem.W.Frag} {H : Hp} {v : V} {N : Nat} : ∀ {o : Option Tb}, ShapeAt H v N o -> Dt K H (shD N o) v
 | none, h => by cases h; exact Dt.non
 | some _, ⟨a, bs, e, T⟩ => by subst e; exact T.dt
theorem depth_shD (N : Nat) (o : Option Tb) : (shD N o).depth <= 60 := by
 cases o with
 | none => simp [shD, PyData.depth]
 | some c => exact depth_tab _
theorem eqv_shD (N : Nat) (o : Option Tb) : PyData.eqv (shD N o) (shD N o) = true := by
 cases o with
 | none => simp [shD, PyData.eqv]
 | some c => rw [shD, eqv_tabs]; exact decide_eq_true rfl
def fI (fs : List Nat) : List Int := fs.map fun (f : Nat) => (f : Int)
abbrev fV (fs : List Nat) : List V := (fI fs).map V.int
theorem fV_len (fs : List Nat) : (fV fs).length = fs.length := by simp [fV, fI]
def grE (c : Tb) : List Nat -> Ent
 | [] => some 0
 | [f] => Oct.hv c f
 | [f, g] => c f g
 | _ => none
def totN (w : Nat -> Int) (fs : List Nat) : Int := (fs.map w).sum
def wofS (acc : List Int) (f : Int) : List Int := if acc.any (· == flipI f) then remF (flipI f) acc else acc ++ [f]
def wofI (fs : List Int) : List Int := fs.foldl wofS []
theorem wofI_snoc (fs : List Int) (f : Int) : wofI (fs ++ [f]) = wofS (wofI fs) f := by simp [wofI]
theorem wofS_len (acc : List Int) (f : Int) : (wofS acc f).length <= acc.length + 1 := by
 have r : ∀ (k : Int) (l : List Int), (remF k l).length <= l.length := fun k l => by
  induction l with
  | nil => simp [remF]
  | cons a l ih => unfold remF; split <;> simp <;> omega
 unfold wofS
 split
 · have := r (flipI f) acc; omega
 · simp
theorem wofI_len (fs : List Int) (i : Nat) : (wofI (fs.take i)).length <= i := by
 induction i with
 | zero => simp [wofI]
 | succ i ih =>
  cases e : fs[i]? with
  | none => rw [List.take_add_one, e]; simp; omega
  | some x =>
   rw [take_succ_of e, wofI_snoc]
   have := wofS_len (wofI (fs.take i)) x
   omega
theorem flI_ne (f g : Nat) : ((f : Int) = flipI (g : Int)) ↔ f = Oct.fl g := by rw [flip_nat]; omega
theorem wof_one (f : Nat) : wofI (fI [f]) = [(f : Int)] := by simp [wofI, fI, wofS]
theorem wof_two (f g : Nat) : wofI (fI [f, g]) = if f = Oct.fl g then [] else [(f : Int), (g : Int)] := by
 by_cases h : f = Oct.fl g
 · rw [if_pos h]
   have e : (f : Int) = flipI (g : Int) := (flI_ne f g).mpr h
   simp [wofI, fI, wofS, e, remF]
 · rw [if_neg h]
   have e : ¬ ((f : Int) = flipI (g : Int)) := fun z => h ((flI_ne f g).mp z)
   simp [wofI, fI, wofS, e]
def sp_greatest (K : PySem.W.Frag) : Sp := fun vs H Q _ => ∃ (a b : Addr) (bs : List Addr) (n : Nat) (c : Tb) (fs : List Nat), vs = [.ref a, .ref b] /\ TabAt H a bs (Oct.toT (2 * n) c) /\ SqL K H b (fV fs) /\ (∀ f ∈ fs, f < 2 * n) /\ fs.length <= 2 /\ Q (eV (grE c fs)) H
def sp_without_flips (K : PySem.W.Frag) : Sp := fun vs H Q _ => ∃ (b : Addr) (ns : List Int), vs = [.ref b] /\ SqL K H b (ns.map V.int) /\ ns.length <= 100 /\ ∀ p H', Same H H' -> H p = none -> H' p = some (.lst ((wofI ns).map V.int)) -> Q (.ref p) H'
def sp_reaching_with_two (K : PySem.W.Frag) : Sp := fun vs H Q _ => ∃ (a : Addr) (bs : List Addr) (n : Nat) (c : Tb) (f g : Nat) (m : Int), vs = [.ref a, .int f, .int g, .int m] /\ TabAt H a bs (Oct.toT (2 * n) c) /\ Oct.Shp c (2 * n) /\ f < 2 * n /\ g < 2 * n /\ g ≠ Oct.fl f /\ Oct.leE (some m) (c f g) /\ n <= 100 /\
 ∀ (nums : List Int) p H', nums.length = n -> Oct.Lies (wN nums) c (2 * n) -> m <= wN nums f + wN nums g -> Same H H' -> H p = none -> H' p = some (.tup (nums.map V.int)) -> Q (.ref p) H'
def sp_reaching (K : PySem.W.Frag) : Sp := fun vs H Q _ => ∃ (v : V) (b : Addr) (n : Nat) (o : Option Tb) (fs : List Nat) (m : Int), vs = [v, .ref b, .int m] /\ ShapeAt H v (2 * n) o /\ ShpO (2 * n) o /\ SqL K H b (fV fs) /\ (∀ f ∈ fs, f < 2 * n) /\ fs.length <= 2 /\ n <= 100 /\
 (o = none -> ∀ H', Same H H' -> Q .non H') /\ (∀ c, o = some c -> belowE (grE c fs) m = true -> ∀ H', Same H H' -> Q .non H') /\
 (∀ c, o = some c -> belowE (grE c fs) m = false -> ∀ (nums : List Int) p H', nums.length = n -> Oct.Lies (wN nums) c (2 * n) -> m <= totN (wN nums) fs -> Same H H' -> H p = none -> H' p = some (.tup (nums.map V.int)) -> Q (.ref p) H')
theorem below_le {e : Ent} {m : Int} (h : belowE e m = false) : Oct.leE (some m) e := by
 revert h
 cases e <;> simp [belowE, Oct.leE]
def LiesO (n : Nat) (w : Nat -> Int) : Option Tb -> Prop
 | none => False
 | some c => Oct.Lies w c (2 * n)
def WithO (n : Nat) (o1 o2 : Option Tb) : Prop := ∀ w, Oct.Pt w (2 * n) -> LiesO n w o1 -> LiesO n w o2
def sp_apart (K : PySem.W.Frag) : Sp := fun vs H Q _ => ∃ (v u : V) (n : Nat) (o1 o2 : Option Tb), vs = [v, u] /\ ShapeAt H v (2 * n) o1 /\ ShapeAt H u (2 * n) o2 /\ ShpO (2 * n) o1 /\ ShpO (2 * n) o2 /\ n <= 6 /\
 (WithO n o1 o2 -> ∀ H', Same H H' -> Q .non H') /\ (∀ (nums : List Int) p H', nums.length = n -> LiesO n (wN nums) o1 -> ¬ LiesO n (wN nums) o2 -> Same H H' -> H p = none -> H' p = some (.tup (nums.map V.int)) -> Q (.ref p) H')
def sp_within (K : PySem.W.Frag) : Sp := fun vs H Q _ => ∃ (v u : V) (n : Nat) (o1 o2 : Option Tb), vs = [v, u] /\ ShapeAt H v (2 * n) o1 /\ ShapeAt H u (2 * n) o2 /\ ShpO (2 * n) o1 /\ ShpO (2 * n) o2 /\ n <= 6 /\
 ∀ b H', Same H H' -> (b = true ↔ WithO n o1 o2) -> Q (.bl b) H'
theorem mem_told {N : Nat} {c : Tb} {i : Nat} {s : Sdn} : s ∈ toldP N c i ↔ s.1 < i /\ s.2.1 < N /\ s.1 <= s.2.1 /\ s.2.1 ≠ Oct.fl s.1 /\ c s.1 s.2.1 = some s.2.2 := by
 unfold toldP toldRow
 simp only [List.mem_flatMap, List.mem_filterMap, List.mem_range]
 constructor
 · rintro ⟨f, hf, g, hg, h⟩
   by_cases hc : f <= g /\ g ≠ Oct.fl f
   · rw [if_pos hc] at h
     cases e : c f g with
     | none => rw [e] at h; cases h
     | some z => rw [e] at h; cases h; exact ⟨hf, hg, hc.1, hc.2, e⟩
   · rw [if_neg hc] at h; cases h
 · rintro ⟨h1, h2, h3, h4, h5⟩
   refine ⟨s.1, h1, s.2.1, h2, ?_⟩
   rw [if_pos ⟨h3, h4⟩, h5]
   rfl
theorem told_with {n : Nat} {c1 c2 : Tb} (S2 : Oct.Shp c2 (2 * n)) (h : ∀ s ∈ toldP (2 * n) c2 (2 * n), Oct.leE (c1 s.1 s.2.1) (some s.2.2)) : WithO n (some c1) (some c2) := by
 intro w pw l f g hf hg
 have key : ∀ f g, f < 2 * n -> g < 2 * n -> f <= g -> Oct.leE (Oct.tab w f g) (c2 f g) := fun f g hf hg hfg => by
  by_cases hfl : g = Oct.fl f
  · rw [hfl, S2.zero f hf]
    have := pw f hf
    simp [Oct.tab, Oct.leE]
    omega
  · cases e : c2 f g with
    | none => trivial
    | some z => exact Oct.leE_trans (l f g hf hg) (h (f, g, z) (mem_told.mpr ⟨hf, hg, hfg, hfl, e⟩))
 by_cases hfg : f <= g
 · exact key f g hf hg hfg
 · have := key g f hg hf (by omega)
   rw [S2.good.tight.sym f g hf hg]
   have e : Oct.tab w f g = Oct.tab w g f := by simp [Oct.tab]; omega
   rw [e]; exact this
theorem below_lt {e : Ent} {z : Int} (h : belowE e (z + 1) = true) : Oct.leE e (some z) := by
 revert h
 cases e <;> simp [belowE, Oct.leE] <;> omega
theorem wN_odd (xs : List Int) (k : Nat) : wN xs (2 * k + 1) = -xs.getD k 0 := by
 have := wN_pt xs (2 * k + 2) (2 * k) (by omega)
 rw [wN_even] at this
 have e1 : Oct.fl (2 * k) = 2 * k + 1 := by unfold Oct.fl; rw [if_pos (by omega)]
 rwa [e1] at this
def numsOf (w : Nat -> Int) (n : Nat) : List Int := (List.range n).map fun k => w (2 * k)
theorem numsOf_len (w : Nat -> Int) (n : Nat) : (numsOf w n).length = n := by simp [numsOf]
theorem numsOf_get (w : Nat -> Int) {n k : Nat} (h : k < n) : (numsOf w n).getD k 0 = w (2 * k) := by simp [numsOf, List.getD_eq_getElem?_getD, h]
theorem numsOf_w {w : Nat -> Int} {n : Nat} (p : Oct.Pt w (2 * n)) : ∀ f, f < 2 * n -> wN (numsOf w n) f = w f := by
 intro f hf
 by_cases h : f % 2 = 0
 · have e : f = 2 * (f / 2) := by omega
   rw [e, wN_even, numsOf_get _ (by omega)]
 · have e : f = 2 * (f / 2) + 1 := by omega
   have := p (2 * (f / 2)) (by omega)
   have e1 : Oct.fl (2 * (f / 2)) = 2 * (f / 2) + 1 := by unfold Oct.fl; rw [if_pos (by omega)]
   rw [e1] at this
   rw [e, wN_odd, numsOf_get _ (by omega), this]
theorem numsOf_lies {w : Nat -> Int} {n : Nat} {c : Tb} (p : Oct.Pt w (2 * n)) (l : Oct.Lies w c (2 * n)) : Oct.Lies (wN (numsOf w n)) c (2 * n) := by
 intro f g hf hg
 have := l f g hf hg
 unfold Oct.tab at this ⊢
 rw [numsOf_w p f hf, numsOf_w p g hg]
 exact this
theorem shp_d {c : Tb} {N : Nat} (S : Oct.Shp c N) : ∀ f, f < N -> Oct.leE (some 0) (c f (Oct.fl f)) := fun f hf => by rw [S.zero f hf]; exact Oct.leE_refl _
theorem le_by {a b : Ent} (h : ∀ m : Int, Oct.leE (some m) a -> Oct.leE (some m) b) : Oct.leE a b := by
 cases b with
 | none => trivial
 | some z =>
  cases a with
  | none => have : z + 1 <= z := h (z + 1) trivial; omega
  | some y => exact h y (Int.le_refl y)
theorem with_le {n : Nat} {c1 c2 : Tb} (S1 : Oct.Shp c1 (2 * n)) (S2 : Oct.Shp c2 (2 * n)) (W : WithO n (some c1) (some c2)) : Oct.Le c1 c2 (2 * n) := by
 intro f g hf hg
 have T1 := S1.good.tight
 have T2 := S2.good.tight
 by_cases e1 : g = Oct.fl f
 · rw [e1, S1.zero f hf, S2.zero f hf]; exact Oct.leE_refl _
 by_cases e2 : f = g
 · subst e2
   rw [← Oct.dbl_hv T1 hf]
   refine le_by fun m hm => ?_
   have hm' : Oct.leE (some (m - m / 2)) (Oct.hv c1 f) := by
    revert hm
    generalize Oct.hv c1 f = z
    cases z <;> simp [Oct.leE, Oct.dbl] <;> omega
   obtain ⟨w, pw, l, hw⟩ := Oct.meet_one T1 (shp_d S1) hf hm'
   have l2 : Oct.leE (some (w f + w f)) (c2 f f) := W w pw l f f hf hf
   exact Oct.leE_trans (show Oct.leE (some m) (some (w f + w f)) from by show m <= w f + w f; omega) l2
 · have ne : f / 2 ≠ g / 2 := fun z => by
    unfold Oct.fl at e1
    split at e1 <;> omega
   refine le_by fun m hm => ?_
   obtain ⟨w, pw, l, hw⟩ := Oct.meet_two T1 (shp_d S1) hf hg ne hm
   have l2 : Oct.leE (some (w f + w g)) (c2 f g) := W w pw l f g hf hg
   exact Oct.leE_trans (show Oct.leE (some m) (some (w f + w g)) from hw) l2
theorem shp_point {n : Nat} {c : Tb} (S : Oct.Shp c (2 * n)) : ∃ x : List Int, x.length = n /\ Oct.Lies (wN x) c (2 * n) := by
 obtain ⟨w, pw, l⟩ := Oct.has_point S.good.tight (shp_d S)
 exact ⟨numsOf w n, numsOf_len w n, numsOf_lies pw l⟩
theorem sup_shp {n : Nat} {t : Tb} {P : (Nat -> Int) -> Prop} (hp : ∀ w, P w -> Oct.Pt w (2 * n)) (up : ∀ w, P w -> Oct.Lies w t (2 * n)) (met : ∀ f g, f < 2 * n -> g < 2 * n -> ∀ m : Int, Oct.leE (some m) (t f g) -> ∃ w, P w /\ m <= w f + w g) : Oct.Shp t (2 * n) := by
 have even : ∀ f, f < 2 * n -> Oct.fl f < 2 * n := fun f hf => Oct.fl_lt hf
 have u : ∀ w, P w -> ∀ f g, f < 2 * n -> g < 2 * n -> Oct.leE (some (w f + w g)) (t f g) := fun w h f g hf hg => up w h f g hf hg
 have sy : Oct.Sym t (2 * n) := fun f g hf hg => by
  refine Oct.leE_antisymm (le_by fun m hm => ?_) (le_by fun m hm => ?_)
  · obtain ⟨w, h, hw⟩ := met f g hf hg m hm
    exact Oct.leE_trans (show Oct.leE (some m) (some (w g + w f)) from by show m <= w g + w f; omega) (u w h g f hg hf)
  · obtain ⟨w, h, hw⟩ := met g f hg hf m hm
    exact Oct.leE_trans (show Oct.leE (some m) (some (w f + w g)) from by show m <= w f + w g; omega) (u w h f g hf hg)
 have add : ∀ {a b : Int} {x y : Ent} {m : Int}, Oct.leE (some a) x -> Oct.leE (some b) y -> m <= a + b -> Oct.leE (some m) (Oct.addE x y) := fun {a b x y m} h1 h2 h3 => by
  revert h1 h2
  cases x <;> cases y <;> simp [Oct.leE, Oct.addE] <;> omega
 have zero : ∀ f, f < 2 * n -> t f (Oct.fl f) = some 0 := fun f hf => by
  refine Oct.leE_antisymm (le_by fun m hm => ?_) ?_
  · obtain ⟨w, h, hw⟩ := met f (Oct.fl f) hf (even f hf) m hm
    have := hp w h f hf
    show m <= 0
    omega
  · obtain ⟨w, h, _⟩ : ∃ w, P w /\ True := by
     cases e : t f (Oct.fl f) with
     | none => obtain ⟨w, h, _⟩ := met f (Oct.fl f) hf (even f hf) 0 (by rw [e]; trivial); exact ⟨w, h, trivial⟩
     | some z => obtain ⟨w, h, _⟩ := met f (Oct.fl f) hf (even f hf) z (by rw [e]; exact Oct.leE_refl _); exact ⟨w, h, trivial⟩
    have e := hp w h f hf
    have := u w h f (Oct.fl f) hf (even f hf)
    rwa [show w f + w (Oct.fl f) = 0 by omega] at this
 have tight : Oct.Tight t (2 * n) := by
  refine ⟨sy, fun h hh f g hf hg => le_by fun m hm => ?_, fun f hf a ea => ?_, fun f g hf hg => le_by fun m hm => ?_⟩
  · obtain ⟨w, q, hw⟩ := met f g hf hg m hm
    have e := hp w q h hh
    exact add (u w q f h hf hh) (u w q (Oct.fl h) g (even h hh) hg) (by omega)
  · obtain ⟨w, q, hw⟩ := met f f hf hf a (by rw [ea]; exact Oct.leE_refl _)
    have := u w q f f hf hf
    rw [ea] at this
    have : w f + w f <= a := this
    omega
  · have hm' : Oct.leE (some (m - m / 2)) (t f g) := by
     revert hm
     generalize t f g = e
     cases e <;> simp [Oct.leE, Oct.dbl] <;> omega
    obtain ⟨w, q, hw⟩ := met f g hf hg _ hm'
    exact add (u w q f f hf hf) (u w q g g hg hg) (by omega)
 exact ⟨⟨tight, fun f hf => by rw [zero f hf]; exact Oct.leE_refl _⟩, zero⟩
def aboveE : Ent -> Ent -> Bool
 | none, b => !decide (b = none)
 | some x, b => belowE b x
def stepE (hs : List Int) (e : Ent) : Ent := Oct.lstE ((hs.filter fun h => !aboveE e (some h)).map some)
def sp_above (K : PySem.W.Frag) : Sp := fun vs H Q _ => ∃ (a b : Ent), vs = [eV a, eV b] /\ Q (.bl (aboveE a b)) H
def sp_least (K : PySem.W.Frag) : Sp := fun vs H Q _ => ∃ (b : Addr) (es : List Ent), vs = [.ref b] /\ SqL K H b (es.map eV) /\ es.length <= 100 /\ ∀ H', Same H H' -> Q (eV (Oct.lstE es)) H'
def sp_step_over (K : PySem.W.Frag) : Sp := fun vs H Q _ => ∃ (a : Addr) (ss : List Int) (f g : Int) (e : Ent), vs = [.ref a, .int f, .int g, eV e] /\ SqL K H a (ss.map V.int) /\ ss.length <= 100 /\
 ∀ H', Same H H' -> Q (eV (stepE (if f = g then ss.map (2 * ·) else ss) e)) H'
theorem nums_snoc (es : List Ent) (i : Nat) (e : Ent) (h : es[i]? = some e) : nums (es.take (i + 1)) = nums (es.take i) ++ (match e with | some z => [z] | none => []) := by
 rw [take_succ_of h]
 unfold nums
 rw [List.filterMap_append]
 cases e <;> simp
theorem filt_succ {ns : List Int} {p : Int -> Bool} {i : Nat} {x : Int} (e : ns[i]? = some x) : (ns.take (i + 1)).filter p = (ns.take i).filter p ++ (if p x then [x] else []) := by
 rw [take_succ_of e, List.filter_append]
 cases h : p x <;> simp [h]
theorem get_of {ns : List Int} {i : Nat} {y : V} (h : (ns.map V.int)[i]? = some y) : ∃ z, ns[i]? = some z /\ y = .int z := by
 rw [List.getElem?_map] at h
 cases e : ns[i]? with
 | none => rw [e] at h; cases h
 | some z => rw [e] at h; exact ⟨z, rfl, (Option.some.inj h).symm⟩
theorem map_eV (hs : List Int) : (hs.map some).map eV = hs.map V.int := by rw [List.map_map]; rfl
theorem filt_len (ns : List Int) (p : Int -> Bool) : (ns.filter p).length <= ns.length := List.length_filter_le _ _
def wE (ss : List Int) (f g : Nat) (e t : Ent) : Ent := if aboveE t e = true then stepE (if (f : Int) = (g : Int) then ss.map (2 * ·) else ss) t else e
def widT (ss : List Int) (c d : Tb) : Tb := fun f g => wE ss f g (c f g) (d f g)
def sp_widened_row (K : PySem.W.Frag) : Sp := fun vs H Q _ => ∃ (r s st : Addr) (f N : Nat) (c d : Nat -> Ent) (ss : List Int), vs = [.int f, .ref r, .ref s, .ref st] /\ SqL K H r ((Oct.ln N c).map eV) /\ SqL K H s ((Oct.ln N d).map eV) /\ SqL K H st (ss.map V.int) /\ ss.length <= 100 /\ N <= 500 /\
 ∀ p H', Same H H' -> H p = none -> H' p = some (.lst ((Oct.ln N fun g => wE ss f g (c g) (d g)).map eV)) -> Q (.ref p) H'
def sp_widened (K : PySem.W.Frag) : Sp := fun vs H Q _ => ∃ (a b st : Addr) (bs ds : List Addr) (N : Nat) (c d : Tb) (ss : List Int), vs = [.ref a, .ref b, .ref st] /\ TabAt H a bs (Oct.toT N c) /\ TabAt H b ds (Oct.toT N d) /\ SqL K H st (ss.map V.int) /\ ss.length <= 100 /\ N <= 500 /\
 ∀ p ws H', Same H H' -> TabNew H H' p ws (Oct.toT N (widT ss c d)) -> Q (.ref p) H'
theorem stepN (hs : List Int) : stepE hs none = none := by
 have : (hs.filter fun h => !aboveE none (some h)) = [] := List.filter_eq_nil_iff.mpr fun h _ => by simp [aboveE]
 unfold stepE
 rw [this]
 rfl
theorem min_first (h : Int) : ∀ (l : List Int), (∀ y ∈ l, h <= y) -> Oct.minE (some h) (Oct.lstE (l.map some)) = some h
 | [], _ => rfl
 | y :: l, k => by
  have ih := min_first h l fun z hz => k z (List.mem_cons_of_mem _ hz)
  have hy := k y List.mem_cons_self
  show Oct.minE (some h) (Oct.minE (some y) (Oct.lstE (l.map some))) = some h
  revert ih
  cases Oct.lstE (l.map some) with
  | none => intro _; simp [Oct.minE]; omega
  | some v => intro ih; simp [Oct.minE] at ih ⊢; omega
theorem step_cons (h : Int) (hs : List Int) (z : Int) (k : ∀ y ∈ hs, h <= y) : stepE (h :: hs) (some z) = if z <= h then some h else stepE hs (some z) := by
 unfold stepE
 have ea : aboveE (some z) (some h) = decide (h < z) := rfl
 by_cases hz : z <= h
 · rw [if_pos hz, List.filter_cons_of_pos (by rw [ea]; simpa using hz), List.map_cons]
   exact min_first h _ fun y hy => k y (List.mem_filter.mp hy).1
 · rw [if_neg hz, List.filter_cons_of_neg (by rw [ea]; simpa using hz)]
theorem step_back {ss : List Int} (hp : ss.Pairwise (· < ·)) {k : Nat} (hk : k < ss.length) {s : Int} (es : ss[ss.length - 1 - k]? = some s) {t : Int} (ht : 0 < t) (z : Int) :
  stepE ((ss.drop (ss.length - (k + 1))).map (t * ·)) (some z) = if z <= t * s then some (t * s) else stepE ((ss.drop (ss.length - k)).map (t * ·)) (some z) := by
 have e1 : ss.length - (k + 1) = ss.length - 1 - k := by omega
 obtain ⟨hlt, ev⟩ := List.getElem?_eq_some_iff.mp es
 have ed : ss.drop (ss.length - (k + 1)) = s :: ss.drop (ss.length - k) := by
  rw [e1, List.drop_eq_getElem_cons hlt, ev, show ss.length - 1 - k + 1 = ss.length - k by omega]
 have hp2 : (s :: ss.drop (ss.length - k)).Pairwise (· < ·) := by rw [← ed]; exact hp.sublist (List.drop_sublist _ _)
 rw [ed, List.map_cons]
 refine step_cons _ _ _ fun y hy => ?_
 obtain ⟨x, hx, rfl⟩ := List.mem_map.mp hy
 have := (List.pairwise_cons.mp hp2).1 x hx
 exact Int.mul_le_mul_of_nonneg_left (by omega) (by omega)
theorem rise_len : ∀ (out ns : List Int), out.Pairwise (· < ·) -> (∀ k ∈ out, k ∈ ns) -> out.length <= ns.length
 | [], _, _, _ => Nat.zero_le _
 | x :: out, ns, hp, hm => by
  obtain ⟨h1, h2⟩ := List.pairwise_cons.mp hp
  have hx := hm x List.mem_cons_self
  have := rise_len out (ns.erase x) h2 fun k hk => by
   have ne : k ≠ x := fun e => by have := h1 k hk; omega
   exact (List.mem_erase_of_ne ne).mpr (hm k (List.mem_cons_of_mem _ hk))
  rw [List.length_erase_of_mem hx] at this
  have := List.length_pos_of_mem hx
  simp
  omega
def sp__law_due (K : PySem.W.Frag) : Sp := fun vs H Q _ => ∃ (a b st : Addr) (bs ds : List Addr) (N : Nat) (c d : Tb) (ss : List Int), vs = [.ref a, .ref b, .ref st] /\ TabAt H a bs (Oct.toT N c) /\ TabAt H b ds (Oct.toT N d) /\ SqL K H st (ss.map V.int) /\ ss.Pairwise (· < ·) /\ ss.length <= 100 /\ N <= 500 /\
 ∀ p ws H', Same H H' -> TabNew H H' p ws (Oct.toT N (widT ss c d)) -> Q (.ref p) H'
def PtAt (n : Nat) (H : Hp) (v : V) (xs : List Int) : Prop := ∃ a, v = .ref a /\ H a = some (.tup (xs.map V.int)) /\ xs.length = n
theorem PtAt.same {n : Nat} {H H' : Hp} (e : Same H H') {v : V} {xs : List Int} (h : PtAt n H v xs) : PtAt n H' v xs := let ⟨a, h1, h2, h3⟩ := h; ⟨a, h1, e _ _ h2, h3⟩
theorem PtAt.put {n : Nat} {H : Hp} {p : Addr} {zs ws : List V} (hp : H p = some (.lst zs)) {v : V} {xs : List Int} (h : PtAt n H v xs) : PtAt n (upd H p (.lst ws)) v xs := let ⟨a, h1, h2, h3⟩ := h; ⟨a, h1, by rw [upd_ne (ne_of h2 hp (by intro z; cases z))]; exact h2, h3⟩
theorem pts_same {n : Nat} {H H' : Hp} (e : Same H H') {xs : List V} {ps : List (List Int)} (h : Paired (PtAt n H) xs ps) : Paired (PtAt n H') xs ps := Paired.mapP h fun _ _ z => z.same e
theorem pts_put {n : Nat} {H : Hp} {p : Addr} {zs ws : List V} (hp : H p = some (.lst zs)) {xs : List V} {ps : List (List Int)} (h : Paired (PtAt n H) xs ps) : Paired (PtAt n (upd H p (.lst ws))) xs ps := Paired.mapP h fun _ _ z => z.put hp
def sumsI (P : List (List Int)) (f g : Nat) : List Int := P.map fun p => worthI p (f : Int) + worthI p (g : Int)
def topI : List Int -> Int
 | [] => 0
 | b :: r => fMax b r
theorem pts_take_succ {P : List (List Int)} {i : Nat} {x : List Int} (h : P[i]? = some x) (f g : Nat) : sumsI (P.take (i + 1)) f g = sumsI (P.take i) f g ++ [worthI x (f : Int) + worthI x (g : Int)] := by
 unfold sumsI
 rw [take_succ_of h, List.map_append]
 rfl
theorem fMax_ge : ∀ (r : List Int) (b : Int), b <= fMax b r /\ ∀ x ∈ r, x <= fMax b r
 | [], b => ⟨Int.le_refl b, fun x hx => by cases hx⟩
 | y :: r, b => by
  obtain ⟨h1, h2⟩ := fMax_ge r (if b < y then y else b)
  have e : fMax b (y :: r) = fMax (if b < y then y else b) r := rfl
  rw [e]
  by_cases hb : b < y
  · rw [if_pos hb] at h1 h2 ⊢
    refine ⟨by omega, fun x hx => ?_⟩
    rcases List.mem_cons.mp hx with z | z
    · subst z; exact h1
    · exact h2 x z
  · rw [if_neg hb] at h1 h2 ⊢
    refine ⟨h1, fun x hx => ?_⟩
    rcases List.mem_cons.mp hx with z | z
    · subst z; omega
    · exact h2 x z
theorem fMax_mem : ∀ (r : List Int) (b : Int), fMax b r = b \/ fMax b r ∈ r
 | [], b => .inl rfl
 | y :: r, b => by
  have e : fMax b (y :: r) = fMax (if b < y then y else b) r := rfl
  rw [e]
  rcases fMax_mem r (if b < y then y else b) with z | z
  · rw [z]
    split
    · exact .inr List.mem_cons_self
    · exact .inl rfl
  · exact .inr (List.mem_cons_of_mem _ z)
theorem topI_ge {l : List Int} {x : Int} (h : x ∈ l) : x <= topI l := by
 cases l with
 | nil => cases h
 | cons b r =>
  rcases List.mem_cons.mp h with z | z
  · rw [z]; exact (fMax_ge r b).1
  · exact (fMax_ge r b).2 x z
theorem topI_mem {l : List Int} (h : l ≠ []) : topI l ∈ l := by
 cases l with
 | nil => exact absurd rfl h
 | cons b r =>
  rcases fMax_mem r b with z | z
  · show fMax b r ∈ b :: r
    rw [z]; exact List.mem_cons_self
  · exact List.mem_cons_of_mem _ z
theorem above_iff {t e : Ent} : aboveE t e = true ↔ ¬ Oct.leE t e := by
 cases t <;> cases e <;> simp [aboveE, belowE, Oct.leE]
theorem lst_low {z : Int} : ∀ {l : List Int}, (∀ y ∈ l, z <= y) -> Oct.leE (some z) (Oct.lstE (l.map some))
 | [], _ => trivial
 | y :: l, h => Oct.le_minE (show Oct.leE (some z) (some y) from h y List.mem_cons_self) (lst_low fun x hx => h x (List.mem_cons_of_mem _ hx))
theorem step_ge (hs : List Int) (t : Ent) : Oct.leE t (stepE hs t) := by
 cases t with
 | none => rw [stepN]; exact Oct.leE_refl _
 | some z =>
  refine lst_low fun y hy => ?_
  have := (List.mem_filter.mp hy).2
  simp [aboveE, belowE] at this
  exact this
theorem wE_l (ss : List Int) (f g : Nat) (e t : Ent) : Oct.leE e (wE ss f g e t) := by
 unfold wE
 by_cases h : aboveE t e = true
 · rw [if_pos h]
   have le : Oct.leE e t := by
    have := above_iff.mp h
    revert this
    cases e <;> cases t <;> simp [Oct.leE] <;> omega
   exact Oct.leE_trans le (step_ge _ _)
 · rw [if_neg h]; exact Oct.leE_refl _
theorem wE_r (ss : List Int) (f g : Nat) (e t : Ent) : Oct.leE t (wE ss f g e t) := by
 unfold wE
 by_cases h : aboveE t e = true
 · rw [if_pos h]; exact step_ge _ _
 · rw [if_neg h]
   exact Classical.byContradiction fun z => h (above_iff.mpr z)
theorem wid_l (ss : List Int) (c d : Tb) (N : Nat) : Oct.Le c (widT ss c d) N := fun f g _ _ => wE_l ss f g _ _
theorem wid_r (ss : List Int) (c d : Tb) (N : Nat) : Oct.Le d (widT ss c d) N := fun f g _ _ => wE_r ss f g _ _
theorem wid_sym {ss : List Int} {c d : Tb} {N : Nat} (h : Oct.Sym c N) (k : Oct.Sym d N) : Oct.Sym (widT ss c d) N := fun f g hf hg => by
 show wE ss f g (c f g) (d f g) = wE ss g f (c g f) (d g f)
 rw [h f g hf hg, k f g hf hg]
 unfold wE
 by_cases e : f = g
 · subst e; rfl
 · have e1 : ¬ (f : Int) = (g : Int) := by omega
   have e2 : ¬ (g : Int) = (f : Int) := by omega
   rw [if_neg e1, if_neg e2]
theorem wid_zero {ss : List Int} {c d : Tb} {f g : Nat} (h : c f g = some 0) (k : d f g = some 0) : widT ss c d f g = some 0 := by
 show wE ss f g (c f g) (d f g) = some 0
 rw [h, k]
 unfold wE
 rw [if_neg (by simp [aboveE, belowE])]
theorem wide_shp (n : Nat) : Oct.Shp Oct.wideT (2 * n) := by
 have zero : ∀ f, f < 2 * n -> Oct.wideT f (Oct.fl f) = some 0 := fun f _ => by unfold Oct.wideT; rw [if_pos rfl]
 refine ⟨⟨⟨Oct.wide_sym _, fun h hh f g hf hg => ?_, fun f hf a e => ?_, fun f g hf hg => ?_⟩, fun f hf => by rw [zero f hf]; exact Oct.leE_refl _⟩, zero⟩
 · unfold Oct.wideT
   by_cases h1 : h = Oct.fl f
   · by_cases h2 : g = Oct.fl (Oct.fl h)
     · rw [if_pos h1, if_pos h2, if_pos (by rw [h2, h1, Oct.fl_fl])]
       exact Oct.leE_refl _
     · rw [if_neg h2]
       cases (if h = Oct.fl f then some 0 else none : Ent) <;> trivial
   · rw [if_neg h1]
     cases (if g = Oct.fl (Oct.fl h) then some 0 else none : Ent) <;> trivial
 · unfold Oct.wideT at e
   rw [if_neg (by unfold Oct.fl; split <;> omega)] at e
   cases e
 · have : Oct.wideT f f = none := by unfold Oct.wideT; rw [if_neg (by unfold Oct.fl; split <;> omega)]
   rw [this]
   cases Oct.wideT g g <;> trivial
structure Rch (n : Nat) (k s : Tb) : Prop where
 sym : Oct.Sym k (2 * n)
 zero : ∀ f, f < 2 * n -> k f (Oct.fl f) = some 0
 shp : Oct.Shp s (2 * n)
 le : Oct.Le s k (2 * n)
 most : ∀ c, Oct.Tight c (2 * n) -> Oct.Le c k (2 * n) -> Oct.Le c s (2 * n)
theorem rch_of {n : Nat} {k g : Tb} (sy : Oct.Sym k (2 * n)) (z : ∀ f, f < 2 * n -> k f (Oct.fl f) = some 0) (G : Oct.Good g (2 * n)) (l : Oct.Le g k (2 * n)) : ∃ s, Oct.shapeO (2 * n) k = some s /\ Rch n k s := by
 have even : ∀ f, f < 2 * n -> Oct.fl f < 2 * n := fun f hf => Oct.fl_lt hf
 obtain ⟨s, es⟩ := Oct.shape_of_good even G l
 obtain ⟨_, h2, h3⟩ := Oct.shape_good even sy es
 exact ⟨s, es, sy, z, Oct.shape_shp even (fun f hf => by rw [z f hf]; exact Oct.leE_refl _) sy es, h2, h3⟩
theorem Rch.self {n : Nat} {k s : Tb} (r : Rch n k s) (S : Oct.Shp k (2 * n)) : Oct.Agree s k (2 * n) := Oct.Le.antisymm r.le (r.most k S.good.tight (Oct.Le.refl _ _))
theorem rch_shp {n : Nat} {k : Tb} (S : Oct.Shp k (2 * n)) : ∃ s, Oct.shapeO (2 * n) k = some s /\ Rch n k s := rch_of S.good.tight.sym S.zero S.good (Oct.Le.refl _ _)
theorem with_iff {n : Nat} {c d : Tb} (S1 : Oct.Shp c (2 * n)) (S2 : Oct.Shp d (2 * n)) : WithO n (some c) (some d) ↔ Oct.Le c d (2 * n) := ⟨with_le S1 S2, fun h w _ l => Oct.Le.trans l h⟩
theorem not_with_none {n : Nat} {c : Tb} (S : Oct.Shp c (2 * n)) : ¬ WithO n (some c) none := fun W => by
 obtain ⟨x, _, l⟩ := shp_point S
 exact W _ (wN_pt x _) l
theorem with_none (n : Nat) (o : Option Tb) : WithO n none o := fun _ _ l => l.elim
def nextT (pat m : Int) (k : Option Tb) (ss : List Int) (c : Tb) : Tb := if pat <= m then Oct.wideT else match k with
 | none => c
 | some d => widT ss d c
def ZeroO (n : Nat) : Option Tb -> Prop
 | none => True
 | some k => ∀ f, f < 2 * n -> k f (Oct.fl f) = some 0
theorem next_zero {n : Nat} {pat m : Int} {k : Option Tb} {ss : List Int} {c : Tb} (hk : ZeroO n k) (hc : ∀ f, f < 2 * n -> c f (Oct.fl f) = some 0) : ∀ f, f < 2 * n -> nextT pat m k ss c f (Oct.fl f) = some 0 := fun f hf => by
 unfold nextT
 split
 · exact (wide_shp n).zero f hf
 · cases k with
   | none => exact hc f hf
   | some d => exact wid_zero (hk f hf) (hc f hf)
abbrev fC (n st pa kv rv ri : V) : List (Str × V) := [("count", n), ("steps", st), ("patience", pa), ("kept", kv), ("reached", rv), ("risen", ri)]
theorem putF_nil (f : Str) (y : V) : putF f y [] = [(f, y)] := rfl
theorem putF_hit (f : Str) (y v : V) (r : List (Str × V)) : putF f y ((f, v) :: r) = (f, y) :: r := by
 show (if f = f then (f, y) :: r else (f, v) :: putF f y r) = _
 rw [if_pos rfl]
theorem putF_miss {f g : Str} (h : g ≠ f) (y v : V) (r : List (Str × V)) : putF f y ((g, v) :: r) = (g, v) :: putF f y r := by
 show (if g = f then (g, y) :: r else (g, v) :: putF f y r) = _
 rw [if_neg h]
theorem lk_hit (f : Str) (v : V) (r : List (Str × V)) : ((f, v) :: r).lookup f = some v := by simp [List.lookup]
theorem lk_miss {f g : Str} (h : (f == g) = false) (v : V) (r : List (Str × V)) : ((g, v) :: r).lookup f = r.lookup f := by simp [List.lookup, h]
theorem pC_kept (n st pa kv rv ri y : V) : putF "kept" y (fC n st pa kv rv ri) = fC n st pa y rv ri := by
 rw [putF_miss (by decide +kernel), putF_miss (by decide +kernel), putF_miss (by decide +kernel), putF_hit]
theorem pC_reached (n st pa kv rv ri y : V) : putF "reached" y (fC n st pa kv rv ri) = fC n st pa kv y ri := by
 rw [putF_miss (by decide +kernel), putF_miss (by decide +kernel), putF_miss (by decide +kernel), putF_miss (by decide +kernel), putF_hit]
theorem pC_risen (n st pa kv rv ri y : V) : putF "risen" y (fC n st pa kv rv ri) = fC n st pa kv rv y := by
 rw [putF_miss (by decide +kernel), putF_miss (by decide +kernel), putF_miss (by decide +kernel), putF_miss (by decide +kernel), putF_miss (by decide +kernel), putF_hit]
section
variable (n st pa kv rv ri : V)
theorem p1 : putF "count" n [] = [(("count" : Str), n)] := rfl
theorem p2 : putF "steps" st [(("count" : Str), n)] = [(("count" : Str), n), ("steps", st)] := by rw [putF_miss (by decide +kernel), putF_nil]
theorem p3 : putF "patience" pa [(("count" : Str), n), ("steps", st)] = [(("count" : Str), n), ("steps", st), ("patience", pa)] := by rw [putF_miss (by decide +kernel), putF_miss (by decide +kernel), putF_nil]
theorem p4 : putF "kept" kv [(("count" : Str), n), ("steps", st), ("patience", pa)] = [(("count" : Str), n), ("steps", st), ("patience", pa), ("kept", kv)] := by rw [putF_miss (by decide +kernel), putF_miss (by decide +kernel), putF_miss (by decide +kernel), putF_nil]
theorem p5 : putF "reached" rv [(("count" : Str), n), ("steps", st), ("patience", pa), ("kept", kv)] = [(("count" : Str), n), ("steps", st), ("patience", pa), ("kept", kv), ("reached", rv)] := by rw [putF_miss (by decide +kernel), putF_miss (by decide +kernel), putF_miss (by decide +kernel), putF_miss (by decide +kernel), putF_nil]
theorem p6 : putF "risen" ri [(("count" : Str), n), ("steps", st), ("patience", pa), ("kept", kv), ("reached", rv)] = fC n st pa kv rv ri := by rw [putF_miss (by decide +kernel), putF_miss (by decide +kernel), putF_miss (by decide +kernel), putF_miss (by decide +kernel), putF_miss (by decide +kernel), putF_nil]
theorem lC1 : (fC n st pa kv rv ri).lookup ("count" : Str) = some n := lk_hit _ _ _
theorem lC2 : (fC n st pa kv rv ri).lookup ("steps" : Str) = some st := by rw [lk_miss (by decide +kernel), lk_hit]
theorem lC3 : (fC n st pa kv rv ri).lookup ("patience" : Str) = some pa := by rw [lk_miss (by decide +kernel), lk_miss (by decide +kernel), lk_hit]
theorem lC4 : (fC n st pa kv rv ri).lookup ("kept" : Str) = some kv := by rw [lk_miss (by decide +kernel), lk_miss (by decide +kernel), lk_miss (by decide +kernel), lk_hit]
theorem lC5 : (fC n st pa kv rv ri).lookup ("reached" : Str) = some rv := by rw [lk_miss (by decide +kernel), lk_miss (by decide +kernel), lk_miss (by decide +kernel), lk_miss (by decide +kernel), lk_hit]
theorem lC6 : (fC n st pa kv rv ri).lookup ("risen" : Str) = some ri := by rw [lk_miss (by decide +kernel), lk_miss (by decide +kernel), lk_miss (by decide +kernel), lk_miss (by decide +kernel), lk_miss (by decide +kernel), lk_hit]
end
def offC (m : Str) : Prop := (m == "count") = false /\ (m == "steps") = false /\ (m == "patience") = false /\ (m == "kept") = false /\ (m == "reached") = false /\ (m == "risen") = false
theorem noC {m : Str} (h : offC m) (n st pa kv rv ri : V) : (fC n st pa kv rv ri).lookup m = none := by
 rw [lk_miss h.1, lk_miss h.2.1, lk_miss h.2.2.1, lk_miss h.2.2.2.1, lk_miss h.2.2.2.2.1, lk_miss h.2.2.2.2.2]
 rfl
theorem off_take : offC "take" := ⟨by decide +kernel, by decide +kernel, by decide +kernel, by decide +kernel, by decide +kernel, by decide +kernel⟩
theorem off_next : offC "next_table" := ⟨by decide +kernel, by decide +kernel, by decide +kernel, by decide +kernel, by decide +kernel, by decide +kernel⟩
theorem off_shape : offC "shape" := ⟨by decide +kernel, by decide +kernel, by decide +kernel, by decide +kernel, by decide +kernel, by decide +kernel⟩
theorem off_rises : offC "rises" := ⟨by decide +kernel, by decide +kernel, by decide +kernel, by decide +kernel, by decide +kernel, by decide +kernel⟩
def SameX (x : Addr) (H H' : Hp) : Prop := ∀ b o, b ≠ x -> H b = some o -> H' b = some o
theorem SameX.of {x : Addr} {H H' : Hp} (e : Same H H') : SameX x H H' := fun b o _ h => e b o h
theorem SameX.trans {x : Addr} {H H1 H2 : Hp} (e : SameX x H H1) (d : SameX x H1 H2) : SameX x H H2 := fun b o n h => d b o n (e b o n h)
theorem SameX.upd {x : Addr} {H : Hp} {o : HO} : SameX x H (upd H x o) := fun b u n h => by rw [upd_ne n]; exact h
def IsIns (H : Hp) (x : Addr) : Prop := ∃ C dx fs, H x = some (.ins C dx fs)
theorem ins_lst {H : Hp} {x b : Addr} {xs : List V} (I : IsIns H x) (h : H b = some (.lst xs)) : b ≠ x := fun e => by obtain ⟨C, dx, fs, hx⟩ := I; rw [e, hx] at h; cases h
section
variable {K : PySem.W.Frag} {x a b : Addr} {H H' : Hp} {xs : List V} {t : Tbl} {bs : List Addr} {v : V} {N n : Nat} {o : Option Tb} {ys : List (List Int)}
theorem SameX.lst (I : IsIns H x) (e : SameX x H H') (h : H a = some (.lst xs)) : H' a = some (.lst xs) := e _ _ (ins_lst I h) h
theorem SameX.seq (I : IsIns H x) (e : SameX x H H') (h : SqL K H a xs) : SqL K H' a xs := by
 obtain ⟨C, dx, fs, hx⟩ := I
 rcases h with (h | ⟨o, h⟩) | h
 · exact .inl (.inl (e _ _ (fun z => by rw [z, hx] at h; cases h) h))
 · exact .inl (.inr ⟨o, e _ _ (fun z => by rw [z, hx] at h; cases h) h⟩)
 · exact .inr h
theorem SameX.tab (I : IsIns H x) (e : SameX x H H') (T : TabAt H a bs t) : TabAt H' a bs t := ⟨e.lst I T.at_, T.nd, T.ne, Paired.mapP T.lines fun _ _ z => e.lst I z⟩
theorem SameX.shape (I : IsIns H x) (e : SameX x H H') (h : ShapeAt H v N o) : ShapeAt H' v N o := by
 cases o with
 | none => exact h
 | some c => obtain ⟨a, bs, e1, T⟩ := h; exact ⟨a, bs, e1, e.tab I T⟩
end
def ShapeIn (as : List Addr) (H : Hp) (v : V) (N : Nat) : Option Tb -> Prop
 | none => v = .non
 | some c => ∃ a bs, v = .ref a /\ TabAt H a bs (Oct.toT N c) /\ a ∈ as /\ ∀ b ∈ bs, b ∈ as
theorem ShapeIn.at {as : List Addr} {H : Hp} {v : V} {N : Nat} : ∀ {o : Option Tb}, ShapeIn as H v N o -> ShapeAt H v N o
 | none, h => h
 | some _, ⟨a, bs, e, T, _⟩ => ⟨a, bs, e, T⟩
def KeepA (as : List Addr) (H H' : Hp) : Prop := ∀ b o, b ∈ as -> H b = some o -> H' b = some o
theorem ShapeIn.keep {as as' : List Addr} {H H' : Hp} (k : KeepA as H H') (s : ∀ b ∈ as, b ∈ as') {v : V} {N : Nat} : ∀ {o : Option Tb}, ShapeIn as H v N o -> ShapeIn as' H' v N o
 | none, h => h
 | some _, ⟨a, bs, e, T, h1, h2⟩ => ⟨a, bs, e, ⟨k _ _ h1 T.at_, T.nd, T.ne, paired_of T.len fun i x y ex ey => by
   obtain ⟨y', ey', hy⟩ := paired_get' T.lines ex
   rw [ey] at ey'; cases ey'
   exact k _ _ (h2 x (List.mem_of_getElem? ex)) hy⟩, s _ h1, fun b hb => s _ (h2 b hb)⟩
structure ClimbAt (Z : Addr) (as : List Addr) (H : Hp) (x : Addr) (n : Nat) (ss : List Int) (pat : Int) (k r : Option Tb) (m : Int) : Prop where
 obj : ∃ dx st kv rv, H x = some (.ins Z dx (fC (.int n) (.ref st) (.int pat) kv rv (.int m))) /\ H st = some (.lst (ss.map V.int)) /\ st ∈ as /\ ShapeIn as H kv (2 * n) k /\ ShapeIn as H rv (2 * n) r
 all : ∀ b ∈ as, ∃ xs, H b = some (.lst xs)
theorem ClimbAt.ins {Z : Addr} {as : List Addr} {H : Hp} {x : Addr} {n : Nat} {ss : List Int} {pat : Int} {k r : Option Tb} {m : Int} (C : ClimbAt Z as H x n ss pat k r m) : IsIns H x := let ⟨dx, st, kv, rv, h, _⟩ := C.obj; ⟨_, _, _, h⟩
theorem ClimbAt.keep {Z : Addr} {as : List Addr} {H H' : Hp} {x : Addr} {n : Nat} {ss : List Int} {pat : Int} {k r : Option Tb} {m : Int} (C : ClimbAt Z as H x n ss pat k r m) (ka : KeepA as H H') (kx : ∀ o, H x = some o -> H' x = some o) : ClimbAt Z as H' x n ss pat k r m := by
 obtain ⟨⟨dx, st, kv, rv, h1, h2, h3, h4, h5⟩, al⟩ := C
 exact ⟨⟨dx, st, kv, rv, kx _ h1, ka _ _ h3 h2, h3, h4.keep ka fun _ z => z, h5.keep ka fun _ z => z⟩, fun b hb => let ⟨xs, e⟩ := al b hb; ⟨xs, ka _ _ hb e⟩⟩
theorem ClimbAt.same {Z : Addr} {as : List Addr} {H H' : Hp} {x : Addr} {n : Nat} {ss : List Int} {pat : Int} {k r : Option Tb} {m : Int} (C : ClimbAt Z as H x n ss pat k r m) (e : Same H H') : ClimbAt Z as H' x n ss pat k r m := C.keep (fun b o _ h => e b o h) fun o h => e _ o h
def sp_Climb_init (K : PySem.W.Frag) (Z : Addr) : Sp := fun vs H Q _ => ∃ (x dx st : Addr) (n : Nat) (ss : List Int) (pat : Int), vs = [.ref x, .int n, .ref st, .int pat] /\ H x = some (.ins Z dx []) /\ SqL K H st (ss.map V.int) /\
 ∀ l H', SameX x H H' -> H l = none -> l ≠ x -> H' l = some (.lst (ss.map V.int)) -> H' x = some (.ins Z dx (fC (.int n) (.ref l) (.int pat) .non .non (.int 0))) -> Q .non H'
def sp_Climb_next_table (K : PySem.W.Frag) (Z : Addr) : Sp := fun vs H Q _ => ∃ (x : Addr) (v : V) (as : List Addr) (n : Nat) (ss : List Int) (pat : Int) (k r : Option Tb) (m : Int) (c : Tb), vs = [.ref x, v] /\ ClimbAt Z as H x n ss pat k r m /\ ShapeAt H v (2 * n) (some c) /\ ss.length <= 100 /\ n <= 100 /\
 ∀ p bs H', Same H H' -> TabNew H H' p bs (Oct.toT (2 * n) (nextT pat m k ss c)) -> Q (.ref p) H'
def sp_Climb_take (K : PySem.W.Frag) (Z : Addr) : Sp := fun vs H Q _ => ∃ (x : Addr) (v : V) (as : List Addr) (n : Nat) (ss : List Int) (pat : Int) (k r : Option Tb) (m : Int) (o : Option Tb), vs = [.ref x, v] /\ ClimbAt Z as H x n ss pat k r m /\ ShapeAt H v (2 * n) o /\ ShpO (2 * n) o /\ ShpO (2 * n) r /\ ZeroO n k /\ ss.length <= 100 /\ n <= 6 /\
 (WithO n o r -> ∀ H', Same H H' -> Q (.bl false) H') /\
 (¬ WithO n o r -> ∀ c, o = some c -> ∀ as' H', SameX x H H' -> (∀ b ∈ as', b ∈ as \/ H b = none) -> ClimbAt Z as' H' x n ss pat (some (nextT pat (m + 1) k ss c)) (Oct.shapeO (2 * n) (nextT pat (m + 1) k ss c)) (m + 1) -> Q (.bl true) H')
def sp_Climb_shape (K : PySem.W.Frag) (Z : Addr) : Sp := fun vs H Q _ => ∃ (x : Addr) (as : List Addr) (n : Nat) (ss : List Int) (pat : Int) (k r : Option Tb) (m : Int), vs = [.ref x] /\ ClimbAt Z as H x n ss pat k r m /\ n <= 100 /\ ∀ u H', Same H H' -> ShapeNew H H' u (2 * n) r -> Q u H'
def sp_Climb_rises (K : PySem.W.Frag) (Z : Addr) : Sp := fun vs H Q _ => ∃ (x : Addr) (as : List Addr) (n : Nat) (ss : List Int) (pat : Int) (k r : Option Tb) (m : Int), vs = [.ref x] /\ ClimbAt Z as H x n ss pat k r m /\ Q (.int m) H
def dirU (u f : Nat) : Int := if f = u then 1 else if f = Oct.fl u then -1 else 0
def dirO : Option Nat -> Nat -> Int
 | none, _ => 0
 | some u, f => dirU u f
def uV : Option Nat -> V
 | none => .non
 | some u => .int u
def entU (P : List (List Int)) (up : Option Nat) : Tb := fun f g => if 0 < dirO up f + dirO up g then none else some (topI (sumsI P f g))
theorem fl_ne (u : Nat) : Oct.fl u ≠ u := by unfold Oct.fl; split <;> omega
theorem dir_pt (up : Option Nat) (N : Nat) : Oct.Pt (dirO up) N := fun f _ => by
 cases up with
 | none => rfl
 | some u =>
  show dirU u (Oct.fl f) = -dirU u f
  unfold dirU
  by_cases h1 : f = u
  · subst h1
    rw [if_neg (fl_ne f), if_pos rfl, if_pos rfl]
  · by_cases h2 : f = Oct.fl u
    · subst h2
      rw [Oct.fl_fl, if_pos rfl, if_neg h1, if_pos rfl]; rfl
    · have e1 : ¬ Oct.fl f = u := fun e => h2 (by rw [← e, Oct.fl_fl])
      have e2 : ¬ Oct.fl f = Oct.fl u := fun e => h1 (by have := congrArg Oct.fl e; rwa [Oct.fl_fl, Oct.fl_fl] at this)
      rw [if_neg e1, if_neg e2, if_neg h1, if_neg h2]; rfl
theorem dir_yes {u f g : Nat} (h : (f = u /\ g ≠ Oct.fl u) \/ (g = u /\ f ≠ Oct.fl u)) : 0 < dirU u f + dirU u g := by
 have := fl_ne u
 unfold dirU
 generalize Oct.fl u = v at *
 rcases h with ⟨h1, h2⟩ | ⟨h1, h2⟩
 · rw [if_pos h1]
   split
   · omega
   · first | omega | (rw [if_neg h2]; omega)
 · rw [if_pos h1]
   split
   · omega
   · first | omega | (rw [if_neg h2]; omega)
theorem dir_no {u f g : Nat} (h1 : ¬ (f = u /\ g ≠ Oct.fl u)) (h2 : ¬ (g = u /\ f ≠ Oct.fl u)) : ¬ 0 < dirU u f + dirU u g := by
 have := fl_ne u
 unfold dirU
 generalize Oct.fl u = v at *
 by_cases a : f = u
 · have b : g = v := Classical.byContradiction fun z => h1 ⟨a, z⟩
   rw [if_pos a, if_neg (by omega), if_pos b]; omega
 · by_cases b : g = u
   · have d : f = v := Classical.byContradiction fun z => h2 ⟨b, z⟩
     rw [if_neg a, if_pos d, if_pos b]; omega
   · rw [if_neg a, if_neg b]
     split <;> split <;> omega
theorem entU_lies {n : Nat} {P : List (List Int)} {up : Option Nat} {p : List Int} (hp : p ∈ P) (t : Nat) : Oct.Lies (fun f => wN p f + t * dirO up f) (entU P up) (2 * n) := by
 intro f g hf hg
 show Oct.leE (some ((wN p f + t * dirO up f) + (wN p g + t * dirO up g))) (entU P up f g)
 unfold entU
 by_cases h : 0 < dirO up f + dirO up g
 · rw [if_pos h]; trivial
 · rw [if_neg h]
   show (wN p f + t * dirO up f) + (wN p g + t * dirO up g) <= topI (sumsI P f g)
   have top : wN p f + wN p g <= topI (sumsI P f g) := topI_ge (List.mem_map.mpr ⟨p, hp, rfl⟩)
   have : (t : Int) * (dirO up f + dirO up g) <= 0 := Int.mul_nonpos_of_nonneg_of_nonpos (by omega) (by omega)
   rw [Int.mul_add] at this
   omega
theorem entU_has {n : Nat} {P : List (List Int)} {up : Option Nat} {p : List Int} (hp : p ∈ P) : Oct.Lies (wN p) (entU P up) (2 * n) := by
 have := entU_lies (n := n) (up := up) hp 0
 intro f g hf hg
 have z := this f g hf hg
 simpa [Oct.tab] using z
theorem entU_shp {n : Nat} {P : List (List Int)} {up : Option Nat} (hP : P ≠ []) : Oct.Shp (entU P up) (2 * n) := by
 refine sup_shp (P := fun w => ∃ p ∈ P, ∃ t : Nat, w = fun f => wN p f + t * dirO up f) (fun w h => ?_) (fun w h => ?_) fun f g hf hg m hm => ?_
 · obtain ⟨p, hp, t, rfl⟩ := h
   intro f hf
   show wN p (Oct.fl f) + t * dirO up (Oct.fl f) = -(wN p f + t * dirO up f)
   rw [wN_pt p _ f hf, dir_pt up _ f hf, Int.mul_neg]; omega
 · obtain ⟨p, hp, t, rfl⟩ := h
   exact entU_lies hp t
 · unfold entU at hm
   by_cases h : 0 < dirO up f + dirO up g
   · obtain ⟨p, hp⟩ := List.exists_mem_of_ne_nil P hP
     refine ⟨_, ⟨p, hp, (m - (wN p f + wN p g)).toNat, rfl⟩, ?_⟩
     show m <= wN p f + ((m - (wN p f + wN p g)).toNat : Int) * dirO up f + (wN p g + ((m - (wN p f + wN p g)).toNat : Int) * dirO up g)
     have t1 : (0 : Int) <= ((m - (wN p f + wN p g)).toNat : Int) := by omega
     have t2 : m - (wN p f + wN p g) <= ((m - (wN p f + wN p g)).toNat : Int) := by omega
     generalize ((m - (wN p f + wN p g)).toNat : Int) = u at *
     have : u * 1 <= u * (dirO up f + dirO up g) := Int.mul_le_mul_of_nonneg_left (by omega) t1
     rw [Int.mul_add] at this
     omega
   · rw [if_neg h] at hm
     have hm : m <= topI (sumsI P f g) := hm
     obtain ⟨p, hp, e⟩ := List.mem_map.mp (topI_mem (l := sumsI P f g) (by unfold sumsI; simpa using hP))
     refine ⟨_, ⟨p, hp, 0, rfl⟩, ?_⟩
     have e : wN p f + wN p g = topI (sumsI P f g) := e
     show m <= wN p f + ((0 : Nat) : Int) * dirO up f + (wN p g + ((0 : Nat) : Int) * dirO up g)
     simp
     omega
theorem le_wide {n : Nat} {c : Tb} (S : Oct.Shp c (2 * n)) : Oct.Le c Oct.wideT (2 * n) := fun f g hf hg => by
 unfold Oct.wideT
 by_cases h : g = Oct.fl f
 · rw [if_pos h, h, S.zero f hf]; exact Oct.leE_refl _
 · rw [if_neg h]; trivial
theorem told_in {n : Nat} {c : Tb} : ∀ s ∈ toldP (2 * n) c (2 * n), s.1 < 2 * n /\ s.2.1 < 2 * n := fun s hs => by
 obtain ⟨h1, h2, _⟩ := mem_told.mp hs
 exact ⟨h1, h2⟩
theorem told_shape {n : Nat} {k s : Tb} (R : Rch n k s) : ∃ s', closedO n (toldP (2 * n) k (2 * n)) = some s' /\ Oct.Agree s s' (2 * n) := by
 have even : ∀ f, f < 2 * n -> Oct.fl f < 2 * n := fun f hf => Oct.fl_lt hf
 have kp : ∀ c : Tb, Oct.Sym c (2 * n) -> Oct.Le c k (2 * n) -> ∀ t ∈ toldP (2 * n) k (2 * n), Oct.Keeps c t := fun c sy l t ht => by
  obtain ⟨h1, h2, h3, h4, h5⟩ := mem_told.mp ht
  have l1 := l t.1 t.2.1 h1 h2
  rw [h5] at l1
  exact ⟨l1, by rw [sy t.2.1 t.1 h2 h1]; exact l1⟩
 have below : ∀ c : Tb, Oct.Shp c (2 * n) -> (∀ t ∈ toldP (2 * n) k (2 * n), Oct.Keeps c t) -> Oct.Le c k (2 * n) := fun c S kc => by
  have key : ∀ f g, f < 2 * n -> g < 2 * n -> f <= g -> Oct.leE (c f g) (k f g) := fun f g hf hg hfg => by
   by_cases e : g = Oct.fl f
   · rw [e, R.zero f hf, S.zero f hf]; exact Oct.leE_refl _
   · cases ek : k f g with
     | none => trivial
     | some z => exact (kc (f, g, z) (mem_told.mpr ⟨hf, hg, hfg, e, ek⟩)).1
  intro f g hf hg
  by_cases h : f <= g
  · exact key f g hf hg h
  · have := key g f hg hf (by omega)
    rwa [S.good.tight.sym g f hg hf, R.sym g f hg hf] at this
 have sy := Oct.lowL_sym (toldP (2 * n) k (2 * n)) _ (Oct.wide_sym (2 * n))
 have l1 : Oct.Le s (Oct.lowL Oct.wideT (toldP (2 * n) k (2 * n))) (2 * n) := Oct.le_lowL _ _ (le_wide R.shp) (kp s R.shp.good.tight.sym R.le)
 obtain ⟨s', es⟩ := Oct.shape_of_good even R.shp.good l1
 obtain ⟨g1, g2, g3⟩ := Oct.shape_good even sy es
 have es' : closedO n (toldP (2 * n) k (2 * n)) = some s' := es
 obtain ⟨S', k'⟩ := closed_facts told_in es'
 exact ⟨s', es', Oct.Le.antisymm (g3 s R.shp.good.tight l1) (R.most s' S'.good.tight (below s' S' k'))⟩
def lawK (k : Option Tb) (ss : List Int) (c : Tb) : Tb := match k with
 | none => c
 | some d => widT ss d c
def LR (n : Nat) (pat m : Int) (k r k' r' : Option Tb) : Prop :=
 (m = 0 /\ k = none /\ r = none /\ k' = none /\ r' = none) \/
 (∃ kc s s', 1 <= m /\ m < pat /\ k = some kc /\ k' = some kc /\ r = some s /\ r' = some s' /\ Oct.Agree s s' (2 * n) /\ Rch n kc s) \/
 (∃ kc s, m = pat /\ 1 <= m /\ k = some Oct.wideT /\ k' = some kc /\ r = some s /\ r' = some Oct.wideT /\ Oct.Agree s Oct.wideT (2 * n) /\ Rch n Oct.wideT s)
theorem LR.shp {n : Nat} {pat m : Int} {k r k' r' : Option Tb} (h : LR n pat m k r k' r') : ShpO (2 * n) r := by
 rcases h with ⟨_, _, e, _⟩ | ⟨kc, s, s', _, _, _, _, e, _, _, R⟩ | ⟨kc, s, _, _, _, _, e, _, _, R⟩ <;> subst e
 · trivial
 · exact R.shp
 · exact R.shp
theorem LR.zero {n : Nat} {pat m : Int} {k r k' r' : Option Tb} (h : LR n pat m k r k' r') : ZeroO n k := by
 rcases h with ⟨_, e, _⟩ | ⟨kc, s, s', _, _, e, _, _, _, _, R⟩ | ⟨kc, s, _, _, e, _, _, _, _, R⟩ <;> subst e
 · trivial
 · exact R.zero
 · exact R.zero
theorem LR.most {n : Nat} {pat m : Int} {k r k' r' : Option Tb} (h : LR n pat m k r k' r') (p1 : 1 <= pat) : 0 <= m /\ m <= pat := by
 rcases h with ⟨e, _⟩ | ⟨kc, s, s', h1, h2, _⟩ | ⟨kc, s, h1, h2, _⟩ <;> omega
theorem LR.same {n : Nat} {pat m : Int} {k r k' r' : Option Tb} (h : LR n pat m k r k' r') : Oct.SameO (2 * n) r r' := by
 rcases h with ⟨_, _, e1, _, e2⟩ | ⟨kc, s, s', _, _, _, _, e1, e2, a, _⟩ | ⟨kc, s, _, _, _, _, e1, e2, a, _⟩ <;> subst e1 e2
 · exact .none
 · exact .some a
 · exact .some a
def NoRise (n : Nat) (o r' : Option Tb) : Prop := ∀ c, o = some c -> ∃ s', r' = some s' /\ Oct.Le c s' (2 * n)
theorem LR.rise {n : Nat} {pat m : Int} {k r k' r' o : Option Tb} (h : LR n pat m k r k' r') (So : ShpO (2 * n) o) : WithO n o r ↔ NoRise n o r' := by
 cases o with
 | none => exact ⟨fun _ c e => (by cases e), fun _ => with_none _ _⟩
 | some c =>
  have S : Oct.Shp c (2 * n) := So
  have key : ∀ {s s' : Tb}, Oct.Shp s (2 * n) -> Oct.Agree s s' (2 * n) -> (WithO n (some c) (some s) ↔ NoRise n (some c) (some s')) := fun {s s'} Ss a => by
   rw [with_iff S Ss]
   constructor
   · intro l d e
     cases e
     exact ⟨s', rfl, fun f g hf hg => by rw [← a f g hf hg]; exact l f g hf hg⟩
   · intro l
     obtain ⟨t, e, l⟩ := l c rfl
     cases e
     intro f g hf hg
     rw [a f g hf hg]; exact l f g hf hg
  rcases h with ⟨_, _, e1, _, e2⟩ | ⟨kc, s, s', _, _, _, _, e1, e2, a, R⟩ | ⟨kc, s, _, _, _, _, e1, e2, a, R⟩ <;> subst e1 e2
  · exact ⟨fun W => absurd W (not_with_none S), fun W => by obtain ⟨t, e, _⟩ := W c rfl; cases e⟩
  · exact key R.shp a
  · exact key R.shp a
theorem LR.next {n : Nat} {pat m : Int} {k r k' r' : Option Tb} {ss : List Int} {c : Tb} (h : LR n pat m k r k' r') (p1 : 1 <= pat) (S : Oct.Shp c (2 * n)) (W : ¬ WithO n (some c) r) :
  ∃ sn, Oct.shapeO (2 * n) (nextT pat (m + 1) k ss c) = some sn /\ Oct.Le c sn (2 * n) /\ (∀ s, r = some s -> Oct.Le s sn (2 * n)) /\ m + 1 <= pat /\
   LR n pat (m + 1) (some (nextT pat (m + 1) k ss c)) (some sn) (some (lawK k' ss c)) (if m + 1 = pat then some Oct.wideT else closedO n (toldP (2 * n) (lawK k' ss c) (2 * n))) := by
 have full : m + 1 <= pat := by
  rcases h with ⟨e, _⟩ | ⟨kc, s, s', h1, h2, _⟩ | ⟨kc, s, h1, h2, _, _, e, _, a, R⟩
  · omega
  · omega
  · subst e
    exact absurd ((with_iff S R.shp).mpr fun f g hf hg => by rw [a f g hf hg]; exact le_wide S f g hf hg) W
 have sle : ∀ s, r = some s -> Oct.Shp s (2 * n) := fun s e => by have := h.shp; rw [e] at this; exact this
 by_cases hp : m + 1 = pat
 · have en : nextT pat (m + 1) k ss c = Oct.wideT := by unfold nextT; rw [if_pos (by omega)]
   rw [en, if_pos hp]
   obtain ⟨sn, es, R⟩ := rch_shp (wide_shp n)
   refine ⟨sn, es, R.most c S.good.tight (le_wide S), fun s e => R.most s (sle s e).good.tight (le_wide (sle s e)), full, .inr (.inr ⟨_, sn, hp, ?_, rfl, rfl, rfl, rfl, R.self (wide_shp n), R⟩)⟩
   have := (h.most p1).1
   omega
 · rw [if_neg hp]
   have m0 := (h.most p1).1
   have step : ∀ kn, nextT pat (m + 1) k ss c = kn -> lawK k' ss c = kn -> Oct.Sym kn (2 * n) -> (∀ f, f < 2 * n -> kn f (Oct.fl f) = some 0) -> Oct.Le c kn (2 * n) -> (∀ s, r = some s -> Oct.Le s kn (2 * n)) ->
     ∃ sn, Oct.shapeO (2 * n) (nextT pat (m + 1) k ss c) = some sn /\ Oct.Le c sn (2 * n) /\ (∀ s, r = some s -> Oct.Le s sn (2 * n)) /\ m + 1 <= pat /\ LR n pat (m + 1) (some (nextT pat (m + 1) k ss c)) (some sn) (some (lawK k' ss c)) (closedO n (toldP (2 * n) (lawK k' ss c) (2 * n))) := by
    intro kn e1 e2 sy z l1 l2
    rw [e1, e2]
    obtain ⟨sn, es, R⟩ := rch_of sy z S.good l1
    obtain ⟨s', ec, a⟩ := told_shape R
    rw [ec]
    exact ⟨sn, es, R.most c S.good.tight l1, fun s e => R.most s (sle s e).good.tight (l2 s e), full, .inr (.inl ⟨kn, sn, s', by omega, by omega, rfl, rfl, rfl, rfl, a, R⟩)⟩
   have ne : ¬ pat <= m + 1 := by omega
   rcases h with ⟨_, e1, e2, e3, _⟩ | ⟨kc, s, s', h1, h2, e1, e3, e2, e4, a, R⟩ | ⟨kc, s, h1, h2, _⟩
   · subst e1 e2 e3
     refine step c ?_ rfl S.good.tight.sym S.zero (Oct.Le.refl _ _) (fun s e => by cases e)
     unfold nextT; rw [if_neg ne]
   · subst e1 e2 e3
     refine step (widT ss kc c) ?_ rfl (wid_sym R.sym S.good.tight.sym) (fun f hf => wid_zero (R.zero f hf) (S.zero f hf)) (wid_r _ _ _ _) (fun t e => by cases e; exact Oct.Le.trans R.le (wid_l _ _ _ _))
     unfold nextT; rw [if_neg ne]
   · omega
def StepE (E : List Addr) (H H' : Hp) : Prop := ∀ b o, b ∉ E -> H b = some o -> H' b = some o
theorem StepE.of {E : List Addr} {H H' : Hp} (e : Same H H') : StepE E H H' := fun b o _ h => e b o h
theorem StepE.trans {E : List Addr} {H H1 H2 : Hp} (e : StepE E H H1) (d : StepE E H1 H2) : StepE E H H2 := fun b o n h => d b o n (e b o n h)
theorem StepE.mono {E F : List Addr} {H H' : Hp} (s : ∀ b ∈ E, b ∈ F) (e : StepE E H H') : StepE F H H' := fun b o n h => e b o (fun z => n (s b z)) h
theorem StepE.free {E : List Addr} {H H' : Hp} (e : StepE E H H') {p : Addr} (h : H' p = none) (n : p ∉ E) : H p = none := by
 cases z : H p with
 | none => rfl
 | some o => have := e p o n z; rw [h] at this; cases this
theorem StepE.put {E : List Addr} {H : Hp} {p : Addr} {o : HO} (h : p ∈ E) : StepE E H (upd H p o) := fun b u n e => by rw [upd_ne (fun z => n (by rw [z]; exact h))]; exact e
theorem KeepA.step {E as : List Addr} {H H' : Hp} (e : StepE E H H') (h : ∀ b ∈ as, b ∉ E) : KeepA as H H' := fun b o hb z => e b o (h b hb) z
structure PairAt (Z : Addr) (F as bs : List Addr) (H : Hp) (x sa : Addr) (n : Nat) (ss : List Int) (pat : Int) (r : Option Tb) : Prop where
 ex : ∃ k k' r' m kv rv, ClimbAt Z as H x n ss pat k r m /\ H sa = some (.lst [kv, rv, .int m]) /\ ShapeIn bs H kv (2 * n) k' /\ ShapeIn bs H rv (2 * n) r' /\ LR n pat m k r k' r'
 all : ∀ b ∈ bs, ∃ xs, H b = some (.lst xs)
 offa : ∀ f ∈ F, f ∉ as
 offb : ∀ f ∈ F, f ∉ bs
theorem PairAt.ins {Z : Addr} {F as bs : List Addr} {H : Hp} {x sa : Addr} {n : Nat} {ss : List Int} {pat : Int} {r : Option Tb} (P : PairAt Z F as bs H x sa n ss pat r) : IsIns H x := let ⟨_, _, _, _, _, _, C, _⟩ := P.ex; C.ins
theorem PairAt.keep {Z : Addr} {F as bs : List Addr} {H H' : Hp} {x sa : Addr} {n : Nat} {ss : List Int} {pat : Int} {r : Option Tb} (P : PairAt Z F as bs H x sa n ss pat r) (ka : KeepA as H H') (kb : KeepA bs H H') (kx : ∀ o, H x = some o -> H' x = some o) (ks : ∀ o, H sa = some o -> H' sa = some o) : PairAt Z F as bs H' x sa n ss pat r := by
 obtain ⟨⟨k, k', r', m, kv, rv, C, hs, h1, h2, L⟩, al, oa, ob⟩ := P
 exact ⟨⟨k, k', r', m, kv, rv, C.keep ka kx, ks _ hs, h1.keep kb fun _ z => z, h2.keep kb fun _ z => z, L⟩, fun b hb => let ⟨xs, e⟩ := al b hb; ⟨xs, kb _ _ hb e⟩, oa, ob⟩
theorem PairAt.same {Z : Addr} {F as bs : List Addr} {H H' : Hp} {x sa : Addr} {n : Nat} {ss : List Int} {pat : Int} {r : Option Tb} (P : PairAt Z F as bs H x sa n ss pat r) (e : Same H H') : PairAt Z F as bs H' x sa n ss pat r := P.keep (fun b o _ h => e b o h) (fun b o _ h => e b o h) (fun o h => e _ o h) fun o h => e _ o h
theorem PairAt.step {Z : Addr} {F as bs : List Addr} {H H' : Hp} {x sa y sb : Addr} {n : Nat} {ss : List Int} {pat : Int} {r : Option Tb} (P : PairAt Z F as bs H x sa n ss pat r) (e : StepE [y, sb] H H') (I : IsIns H y) (h1 : x ≠ y) (h2 : sa ≠ sb) (h3 : sb ∈ F) (h4 : ∃ zs, H sb = some (.lst zs)) : PairAt Z F as bs H' x sa n ss pat r := by
 obtain ⟨k, k', r', m, kv, rv, C, hs, _⟩ := id P.ex
 refine P.keep (KeepA.step e fun b hb z => ?_) (KeepA.step e fun b hb z => ?_) (fun o h => e _ _ (fun z => ?_) h) (fun o h => e _ _ (fun z => ?_) h)
 · rcases List.mem_cons.mp z with z | z
   · obtain ⟨xs, hx⟩ := C.all b hb
     exact ins_lst I hx z
   · rw [List.mem_singleton.mp z] at hb
     exact P.offa sb h3 hb
 · rcases List.mem_cons.mp z with z | z
   · obtain ⟨xs, hx⟩ := P.all b hb
     exact ins_lst I hx z
   · rw [List.mem_singleton.mp z] at hb
     exact P.offb sb h3 hb
 · rcases List.mem_cons.mp z with z | z
   · exact h1 z
   · obtain ⟨zs, hz⟩ := h4
     exact ins_lst P.ins hz (List.mem_singleton.mp z).symm
 · rcases List.mem_cons.mp z with z | z
   · exact ins_lst I hs z
   · exact h2 (List.mem_singleton.mp z)
def sp_copied := sp__law_copy
abbrev sp__law_sides := sp_told_sides
def sp__law_widened := sp__law_due
def sp__law_no_more (K : PySem.W.Frag) : Sp := fun vs H Q _ => ∃ (a b : Addr) (bs ds : List Addr) (N : Nat) (c d : Tb), vs = [.ref a, .ref b] /\ TabAt H a bs (Oct.toT N c) /\ TabAt H b ds (Oct.toT N d) /\ N <= 500 /\ ∀ bo, (bo = true ↔ Oct.Le c d N) -> Q (.bl bo) H
def sp__law_entry (K : PySem.W.Frag) : Sp := fun vs H Q _ => ∃ (a : Addr) (up : Option Nat) (ys : List V) (P : List (List Int)) (n f g : Nat), vs = [.ref a, uV up, .int f, .int g] /\ SqL K H a ys /\ Paired (PtAt n H) ys P /\ P ≠ [] /\ P.length <= 500 /\ f < 2 * n /\ g < 2 * n /\ ∀ H', Same H H' -> Q (eV (entU P up f g)) H'
def sp__law_table (K : PySem.W.Frag) : Sp := fun vs H Q _ => ∃ (a : Addr) (up : Option Nat) (ys : List V) (P : List (List Int)) (n : Nat), vs = [.ref a, uV up, .int n] /\ SqL K H a ys /\ Paired (PtAt n H) ys P /\ P ≠ [] /\ P.length <= 500 /\ n <= 100 /\
 ∀ p ws H', Same H H' -> TabNew H H' p ws (Oct.toT (2 * n) (entU P up)) -> Q (.ref p) H'
def sp__law_points (K : PySem.W.Frag) : Sp := fun vs H Q _ => ∃ (c t : Int) (dr : Addr) (ds : List Int), vs = [.int c, .int t, .ref dr] /\ SqL K H dr (ds.map V.int) /\ 1 <= ds.length /\ ds.length <= 3 /\ 0 <= t /\ t <= 1000 /\
 ∀ p H' ys P, Same H H' -> H p = none -> H' p = some (.lst ys) -> Paired (PtAt ds.length H') ys P -> P.length <= 2 -> Q (.ref p) H'
def sp__law_up (K : PySem.W.Frag) : Sp := fun vs H Q _ => ∃ (c : Int) (n : Nat), vs = [.int c, .int n] /\ 1 <= n /\ n <= 100 /\ ∀ up : Option Nat, Q (uV up) H
def sp__law_alike (K : PySem.W.Frag) : Sp := fun vs H Q _ => ∃ (v w : V) (n : Nat) (o1 o2 : Option Tb), vs = [v, w] /\ ShapeAt H v (2 * n) o1 /\ ShapeAt H w (2 * n) o2 /\ Oct.SameO (2 * n) o1 o2 /\ n <= 100 /\ Q (.bl true) H
def sp__law_rise (K : PySem.W.Frag) : Sp := fun vs H Q _ => ∃ (sa st : Addr) (v kv rv : V) (n : Nat) (ss : List Int) (pat m : Int) (k' r' o : Option Tb) (bs ts : List Addr), vs = [.ref sa, v, .ref st, .int pat] /\ H sa = some (.lst [kv, rv, .int m]) /\ ShapeIn bs H kv (2 * n) k' /\ ShapeIn bs H rv (2 * n) r' /\ sa ∉ bs /\ ShapeIn ts H v (2 * n) o /\ sa ∉ ts /\ SqL K H st (ss.map V.int) /\ st ≠ sa /\ ss.Pairwise (· < ·) /\ ss.length <= 100 /\ 1 <= n /\ n <= 6 /\
 (NoRise n o r' -> Q (.bl false) H) /\
 (¬ NoRise n o r' -> ∀ c, o = some c -> ∀ kv2 rv2 bs2 H', StepE [sa] H H' -> H' sa = some (.lst [kv2, rv2, .int (m + 1)]) -> ShapeIn bs2 H' kv2 (2 * n) (some (lawK k' ss c)) -> ShapeIn bs2 H' rv2 (2 * n) (if m + 1 = pat then some Oct.wideT else closedO n (toldP (2 * n) (lawK k' ss c) (2 * n))) -> (∀ b ∈ bs2, H b = none) -> (∀ b ∈ bs2, ∃ xs, H' b = some (.lst xs)) -> Q (.bl true) H')
def sp__law_take (K : PySem.W.Frag) (Z : Addr) : Sp := fun vs H Q _ => ∃ (x sa st : Addr) (v : V) (F as bs : List Addr) (n : Nat) (ss : List Int) (pat : Int) (r o : Option Tb) (ts : List Addr), vs = [.ref x, .ref sa, v, .ref st, .int pat] /\ PairAt Z F as bs H x sa n ss pat r /\ sa ∈ F /\ (∀ f ∈ F, H f ≠ none) /\ ShapeIn ts H v (2 * n) o /\ (∀ f ∈ F, f ∉ ts) /\ (∀ b ∈ ts, ∃ xs, H b = some (.lst xs)) /\ ShpO (2 * n) o /\ SqL K H st (ss.map V.int) /\ st ∉ F /\ ss.Pairwise (· < ·) /\ ss.length <= 100 /\ 1 <= pat /\ 1 <= n /\ n <= 6 /\
 ∀ as' bs' r2 H', StepE [x, sa] H H' -> PairAt Z F as' bs' H' x sa n ss pat r2 -> (∀ s, r = some s -> ∃ s2, r2 = some s2 /\ Oct.Le s s2 (2 * n)) -> (∀ c, o = some c -> ∃ s2, r2 = some s2 /\ Oct.Le c s2 (2 * n)) -> Q (.bl true) H'
theorem StepE.seq {K : PySem.W.Frag} {E : List Addr} {H H' : Hp} {a : Addr} {xs : List V} (e : StepE E H H') (n : a ∉ E) (h : SqL K H a xs) : SqL K H' a xs := by
 rcases h with (h | ⟨o, h⟩) | h
 · exact .inl (.inl (e _ _ n h))
 · exact .inl (.inr ⟨o, e _ _ n h⟩)
 · exact .inr h
theorem tab_lists {H : Hp} {a : Addr} {bs : List Addr} {t : Tbl} (T : TabAt H a bs t) : ∀ b ∈ a :: bs, ∃ xs, H b = some (.lst xs) := fun b hb => by
 rcases List.mem_cons.mp hb with z | z
 · exact ⟨bs.map V.ref, by rw [z]; exact T.at_⟩
 · obtain ⟨i, hi, ei⟩ := List.getElem_of_mem z
   obtain ⟨y, _, hy⟩ := paired_get' T.lines (i := i) (x := b) (by rw [List.getElem?_eq_getElem hi, ei])
   exact ⟨_, hy⟩
theorem ShapeNew.inn {H H' : Hp} {u : V} {N : Nat} {o : Option Tb} (h : ShapeNew H H' u N o) : ∃ ub, ShapeIn ub H' u N o /\ ∀ b ∈ ub, H b = none /\ ∃ xs, H' b = some (.lst xs) := by
 cases o with
 | none => exact ⟨[], h, fun b hb => by cases hb⟩
 | some c =>
  obtain ⟨a, bs, e, T⟩ := h
  refine ⟨a :: bs, ⟨a, bs, e, T.tab, by simp, fun b hb => by simp [hb]⟩, fun b hb => ⟨?_, tab_lists T.tab b hb⟩⟩
  rcases List.mem_cons.mp hb with z | z
  · rw [z]; exact T.newT
  · exact T.newL b z
theorem ShapeIn.sub {as as' : List Addr} {H : Hp} {v : V} {N : Nat} {o : Option Tb} (h : ShapeIn as H v N o) (s : ∀ b ∈ as, b ∈ as') : ShapeIn as' H v N o := h.keep (fun _ _ _ z => z) s
theorem part_seven {k : Nat} (h : k < 3) : ∃ m : Int, atI ([.int 7, .int 63, .int 567] : List V) ((k : Nat) : Int) = some (.int m) /\ 0 < m /\ m < 1073741824 := by
 match k, h with
 | 0, _ => exact ⟨7, rfl, by decide, by decide⟩
 | 1, _ => exact ⟨63, rfl, by decide, by decide⟩
 | 2, _ => exact ⟨567, rfl, by decide, by decide⟩
theorem part_five {k : Nat} (h : k < 3) : ∃ m : Int, atI ([.int 1, .int 5, .int 25] : List V) ((k : Nat) : Int) = some (.int m) /\ 0 < m /\ m < 1073741824 := by
 match k, h with
 | 0, _ => exact ⟨1, rfl, by decide, by decide⟩
 | 1, _ => exact ⟨5, rfl, by decide, by decide⟩
 | 2, _ => exact ⟨25, rfl, by decide, by decide⟩
theorem mod_natN (c : Int) {n : Nat} (h : 1 <= n) : ∃ f : Nat, c % (n : Int) = (f : Int) /\ f < n :=
 ⟨(c % (n : Int)).toNat, by have := Int.emod_nonneg c (b := (n : Int)) (by omega); omega, by have := Int.emod_nonneg c (b := (n : Int)) (by omega); have := Int.emod_lt_of_pos c (b := (n : Int)) (by omega); omega⟩
def sp__law_steps (K : PySem.W.Frag) : Sp := fun vs H Q _ => ∃ (a : Addr) (ns : List Int), vs = [.ref a] /\ SqL K H a (ns.map V.int) /\
 ∀ p H' (out : List Int), Same H H' -> H p = none -> H' p = some (.lst (out.map V.int)) -> out.Pairwise (· < ·) -> out.length <= 8 -> Q (.ref p) H'
def sp__law_patience (K : PySem.W.Frag) : Sp := fun vs H Q _ => ∃ c : Int, vs = [.int c] /\ ∀ z : Int, 1 <= z -> Q (.int z) H
theorem pick6n (c : Int) : ∃ n : Nat, atI ([.int 2, .int 1, .int 2, .int 2, .int 3, .int 2] : List V) (c % 6) = some (.int (n : Int)) /\ 1 <= n /\ n <= 3 := by
 have : c % 6 = 0 \/ c % 6 = 1 \/ c % 6 = 2 \/ c % 6 = 3 \/ c % 6 = 4 \/ c % 6 = 5 := by omega
 rcases this with h | h | h | h | h | h <;> rw [h]
 · exact ⟨2, rfl, by decide, by decide⟩
 · exact ⟨1, rfl, by decide, by decide⟩
 · exact ⟨2, rfl, by decide, by decide⟩
 · exact ⟨2, rfl, by decide, by decide⟩
 · exact ⟨3, rfl, by decide, by decide⟩
 · exact ⟨2, rfl, by decide, by decide⟩
def HalfAt (F : List Addr) (H : Hp) (hw : Addr) (N : Nat) : Prop := ∃ (o : Option Tb) (u w : V) (us : List Addr), H hw = some (.lst [u, w]) /\ ShapeIn us H u N o /\ (∀ c, o = some c -> ShapeIn us H w N (some c)) /\ (∀ b ∈ us, ∃ xs, H b = some (.lst xs)) /\ (∀ f ∈ F, f ∉ us) /\ hw ∉ F
theorem HalfAt.keep {F : List Addr} {H H' : Hp} {hw : Addr} {N : Nat} (h : HalfAt F H hw N) {E : List Addr} (e : StepE E H H') (hE : ∀ b ∈ E, b ∈ F \/ IsIns H b) : HalfAt F H' hw N := by
 obtain ⟨o, u, w, us, h1, h2, h3, h4, h5, h6⟩ := h
 have off : ∀ b, (∃ xs, H b = some (.lst xs)) -> b ∉ F -> b ∉ E := fun b ⟨xs, hb⟩ nf z => by
  rcases hE b z with z | z
  · exact nf z
  · exact ins_lst z hb rfl
 have ku : KeepA us H H' := KeepA.step e fun b hb => off b (h4 b hb) fun z => h5 b z hb
 exact ⟨o, u, w, us, e _ _ (off _ ⟨_, h1⟩ h6) h1, h2.keep ku fun _ z => z, fun c ec => (h3 c ec).keep ku fun _ z => z, fun b hb => let ⟨xs, z⟩ := h4 b hb; ⟨xs, ku _ _ hb z⟩, h5, h6⟩
theorem StepE.pts {E F : List Addr} {n : Nat} {H H' : Hp} (e : StepE E H H') (hE : ∀ b ∈ E, (∃ xs, H b = some (.lst xs)) \/ IsIns H b) {ys : List V} {P : List (List Int)} (h : Paired (PtAt n H) ys P) : Paired (PtAt n H') ys P :=
 Paired.mapP h fun _ _ z => let ⟨a, h1, h2, h3⟩ := z; ⟨a, h1, e _ _ (fun m => by
  rcases hE a m with ⟨xs, z⟩ | ⟨C, dx, fs, z⟩
  · rw [z] at h2; cases h2
  · rw [z] at h2; cases h2) h2, h3⟩
def InShp (n : Nat) (M : List (List Int)) (r : Option Tb) : Prop := ∀ p ∈ M, ∃ s, r = some s /\ Oct.Lies (wN p) s (2 * n)
theorem InShp.grow {n : Nat} {M : List (List Int)} {r r2 : Option Tb} (h : InShp n M r) (m : ∀ s, r = some s -> ∃ s2, r2 = some s2 /\ Oct.Le s s2 (2 * n)) : InShp n M r2 := fun p hp => by
 obtain ⟨s, e, l⟩ := h p hp
 obtain ⟨s2, e2, l2⟩ := m s e
 exact ⟨s2, e2, Oct.Le.trans l l2⟩
theorem InShp.app {n : Nat} {M P : List (List Int)} {r : Option Tb} (h : InShp n M r) (k : InShp n P r) : InShp n (M ++ P) r := fun p hp => (List.mem_append.mp hp).elim (h p) (k p)
theorem pts_app {n : Nat} {H : Hp} : ∀ {xs ys : List V} {P R : List (List Int)}, Paired (PtAt n H) xs P -> Paired (PtAt n H) ys R -> Paired (PtAt n H) (xs ++ ys) (P ++ R)
 | _, _, _, _, .nil, h => h
 | _, _, _, _, .cons a t, h => .cons a (pts_app t h)
theorem tru_tab {K : PySem.W.Frag} {H : Hp} {a : Addr} {bs : List Addr} {n : Nat} {c : Tb} (T : TabAt H a bs (Oct.toT (2 * n) c)) (n1 : 1 <= n) : TruV K (.ref a) H true := by
 refine .inl ⟨_, SqL.of T.at_, ?_⟩
 have := T.lenN
 cases bs with
 | nil => simp at this; omega
 | cons b r => rfl
structure Lp (Z : Addr) (H0 H : Hp) (cl sl ce me x0 x1 s0 s1 hw : Addr) (n : Nat) (out cs : List Int) (q0 q1 : Int) (ys : List V) (M : List (List Int)) (r0 r1 : Option Tb) : Prop where
 same : Same H0 H
 hcl : H cl = some (.lst [.ref x0, .ref x1])
 hsl : H sl = some (.lst [.ref s0, .ref s1])
 hce : H ce = some (.lst (cs.map V.int))
 hme : H me = some (.lst ys)
 pts : Paired (PtAt n H) ys M
 p0 : ∃ as bs, PairAt Z [s0, s1] as bs H x0 s0 n out q0 r0
 p1 : ∃ as bs, PairAt Z [s0, s1] as bs H x1 s1 n out q1 r1
 in0 : InShp n M r0
 in1 : InShp n M r1
 half : HalfAt [s0, s1] H hw (2 * n)
 l0 : ∃ xs, H s0 = some (.lst xs)
 l1 : ∃ xs, H s1 = some (.lst xs)
 off : cl ∉ [s0, s1] /\ sl ∉ [s0, s1] /\ ce ∉ [s0, s1] /\ me ∉ [s0, s1]
 nx : x0 ≠ x1
 ns : s0 ≠ s1
 new : H0 x0 = none /\ H0 x1 = none /\ H0 s0 = none /\ H0 s1 = none
section
variable {Z : Addr} {H0 H H' : Hp} {cl sl ce me x0 x1 s0 s1 hw : Addr} {n : Nat} {out cs : List Int} {q0 q1 : Int} {ys : List V} {M : List (List Int)} {r0 r1 : Option Tb}
theorem Lp.sm (L : Lp Z H0 H cl sl ce me x0 x1 s0 s1 hw n out cs q0 q1 ys M r0 r1) (e : Same H H') : Lp Z H0 H' cl sl ce me x0 x1 s0 s1 hw n out cs q0 q1 ys M r0 r1 where
 same := L.same.trans e
 hcl := e _ _ L.hcl
 hsl := e _ _ L.hsl
 hce := e _ _ L.hce
 hme := e _ _ L.hme
 pts := pts_same e L.pts
 p0 := let ⟨as, bs, P⟩ := L.p0; ⟨as, bs, P.same e⟩
 p1 := let ⟨as, bs, P⟩ := L.p1; ⟨as, bs, P.same e⟩
 in0 := L.in0
 in1 := L.in1
 half := L.half.keep (StepE.of (E := []) e) (fun b hb => by cases hb)
 l0 := let ⟨xs, h⟩ := L.l0; ⟨xs, e _ _ h⟩
 l1 := let ⟨xs, h⟩ := L.l1; ⟨xs, e _ _ h⟩
 off := L.off
 nx := L.nx
 ns := L.ns
 new := L.new
theorem Lp.i0 (L : Lp Z H0 H cl sl ce me x0 x1 s0 s1 hw n out cs q0 q1 ys M r0 r1) : IsIns H x0 := let ⟨_, _, P⟩ := L.p0; P.ins
theorem Lp.i1 (L : Lp Z H0 H cl sl ce me x0 x1 s0 s1 hw n out cs q0 q1 ys M r0 r1) : IsIns H x1 := let ⟨_, _, P⟩ := L.p1; P.ins
theorem step_same {E : List Addr} {H0 H H' : Hp} (s : Same H0 H) (e : StepE E H H') (h : ∀ b ∈ E, H0 b = none) : Same H0 H' := fun b u hb => e _ _ (fun z => by rw [h b z] at hb; cases hb) (s _ _ hb)
theorem lst_off {H : Hp} {a x s : Addr} {xs : List V} {F : List Addr} (h : H a = some (.lst xs)) (I : IsIns H x) (n : a ∉ F) (m : s ∈ F) : a ∉ [x, s] := fun z => by
 rcases List.mem_cons.mp z with z | z
 · exact ins_lst I h z
 · exact n (by rw [List.mem_singleton.mp z]; exact m)
theorem Lp.up0 (L : Lp Z H0 H cl sl ce me x0 x1 s0 s1 hw n out cs q0 q1 ys M r0 r1) {r2 : Option Tb} {as bs : List Addr} (e : StepE [x0, s0] H H') (P : PairAt Z [s0, s1] as bs H' x0 s0 n out q0 r2) (mo : ∀ s, r0 = some s -> ∃ s2, r2 = some s2 /\ Oct.Le s s2 (2 * n)) : Lp Z H0 H' cl sl ce me x0 x1 s0 s1 hw n out cs q0 q1 ys M r2 r1 := by
 have I := L.i0
 have mem : s0 ∈ [s0, s1] := by simp
 obtain ⟨xs0, hs0⟩ := L.l0
 obtain ⟨xs1, hs1⟩ := L.l1
 refine ⟨step_same L.same e fun b hb => ?_, e _ _ (lst_off L.hcl I L.off.1 mem) L.hcl, e _ _ (lst_off L.hsl I L.off.2.1 mem) L.hsl, e _ _ (lst_off L.hce I L.off.2.2.1 mem) L.hce, e _ _ (lst_off L.hme I L.off.2.2.2 mem) L.hme, e.pts (F := []) (fun b hb => ?_) L.pts, ⟨as, bs, P⟩, ?_, L.in0.grow mo, L.in1, L.half.keep e (fun b hb => ?_), ?_, ⟨xs1, e _ _ (fun z => ?_) hs1⟩, L.off, L.nx, L.ns, L.new⟩
 · rcases List.mem_cons.mp hb with z | z
   · rw [z]; exact L.new.1
   · rw [List.mem_singleton.mp z]; exact L.new.2.2.1
 · rcases List.mem_cons.mp hb with z | z
   · rw [z]; exact .inr I
   · rw [List.mem_singleton.mp z]; exact .inl ⟨xs0, hs0⟩
 · obtain ⟨as1, bs1, P1⟩ := L.p1
   exact ⟨as1, bs1, P1.step e I (Ne.symm L.nx) (Ne.symm L.ns) mem L.l0⟩
 · rcases List.mem_cons.mp hb with z | z
   · rw [z]; exact .inr I
   · rw [List.mem_singleton.mp z]; exact .inl mem
 · obtain ⟨_, _, _, _, _, _, _, h, _⟩ := P.ex
   exact ⟨_, h⟩
 · rcases List.mem_cons.mp z with z | z
   · exact ins_lst I hs1 z
   · exact L.ns (List.mem_singleton.mp z).symm
theorem Lp.up1 (L : Lp Z H0 H cl sl ce me x0 x1 s0 s1 hw n out cs q0 q1 ys M r0 r1) {r2 : Option Tb} {as bs : List Addr} (e : StepE [x1, s1] H H') (P : PairAt Z [s0, s1] as bs H' x1 s1 n out q1 r2) (mo : ∀ s, r1 = some s -> ∃ s2, r2 = some s2 /\ Oct.Le s s2 (2 * n)) : Lp Z H0 H' cl sl ce me x0 x1 s0 s1 hw n out cs q0 q1 ys M r0 r2 := by
 have I := L.i1
 have mem : s1 ∈ [s0, s1] := by simp
 obtain ⟨xs0, hs0⟩ := L.l0
 obtain ⟨xs1, hs1⟩ := L.l1
 refine ⟨step_same L.same e fun b hb => ?_, e _ _ (lst_off L.hcl I L.off.1 mem) L.hcl, e _ _ (lst_off L.hsl I L.off.2.1 mem) L.hsl, e _ _ (lst_off L.hce I L.off.2.2.1 mem) L.hce, e _ _ (lst_off L.hme I L.off.2.2.2 mem) L.hme, e.pts (F := []) (fun b hb => ?_) L.pts, ?_, ⟨as, bs, P⟩, L.in0, L.in1.grow mo, L.half.keep e (fun b hb => ?_), ⟨xs0, e _ _ (fun z => ?_) hs0⟩, ?_, L.off, L.nx, L.ns, L.new⟩
 · rcases List.mem_cons.mp hb with z | z
   · rw [z]; exact L.new.2.1
   · rw [List.mem_singleton.mp z]; exact L.new.2.2.2
 · rcases List.mem_cons.mp hb with z | z
   · rw [z]; exact .inr I
   · rw [List.mem_singleton.mp z]; exact .inl ⟨xs1, hs1⟩
 · obtain ⟨as1, bs1, P1⟩ := L.p0
   exact ⟨as1, bs1, P1.step e I L.nx L.ns mem L.l1⟩
 · rcases List.mem_cons.mp hb with z | z
   · rw [z]; exact .inr I
   · rw [List.mem_singleton.mp z]; exact .inl mem
 · rcases List.mem_cons.mp z with z | z
   · exact ins_lst I hs0 z
   · exact L.ns (List.mem_singleton.mp z)
 · obtain ⟨_, _, _, _, _, _, _, h, _⟩ := P.ex
   exact ⟨_, h⟩
end
theorem us1 {α : Type} : ∀ {us : List α}, us.length = 1 -> ∃ b0, us = [b0]
 | [b0], _ => ⟨b0, rfl⟩
theorem us2 {α : Type} : ∀ {us : List α}, us.length = 2 -> ∃ b0 b1, us = [b0, b1]
 | [b0, b1], _ => ⟨b0, b1, rfl⟩
theorem us3 {α : Type} : ∀ {us : List α}, us.length = 3 -> ∃ b0 b1 b2, us = [b0, b1, b2]
 | [b0, b1, b2], _ => ⟨b0, b1, b2, rfl⟩
theorem us4 {α : Type} : ∀ {us : List α}, us.length = 4 -> ∃ b0 b1 b2 b3, us = [b0, b1, b2, b3]
 | [b0, b1, b2, b3], _ => ⟨b0, b1, b2, b3, rfl⟩
theorem us5 {α : Type} : ∀ {us : List α}, us.length = 5 -> ∃ b0 b1 b2 b3 b4, us = [b0, b1, b2, b3, b4]
 | [b0, b1, b2, b3, b4], _ => ⟨b0, b1, b2, b3, b4, rfl⟩
section
variable {P : Program} {w : World} {K : PySem.W.Frag} {mg : Str -> Option Value} {base : Heap}
theorem sc_below : FnScope ["entry", "number"] ["entry", "number"] (defScope s_below) := ⟨rfl, rfl, rfl, by decide +kernel, rfl, by decide +kernel, by decide +kernel⟩
theorem sc_above : FnScope ["one", "other"] ["one", "other"] (defScope s_above) := ⟨rfl, rfl, rfl, by decide +kernel, rfl, by decide +kernel, by decide +kernel⟩
theorem sc_lesser : FnScope ["one", "other"] ["one", "other"] (defScope s_lesser) := ⟨rfl, rfl, rfl, by decide +kernel, rfl, by decide +kernel, by decide +kernel⟩
theorem sc_least : FnScope ["entries"] ["entries"] (defScope s_least) := ⟨rfl, rfl, rfl, by decide +kernel, rfl, by decide +kernel, by decide +kernel⟩
theorem sc_summed : FnScope ["one", "other"] ["one", "other"] (defScope s_summed) := ⟨rfl, rfl, rfl, by decide +kernel, rfl, by decide +kernel, by decide +kernel⟩
theorem sc_half : FnScope ["entry"] ["entry"] (defScope s_half) := ⟨rfl, rfl, rfl, by decide +kernel, rfl, by decide +kernel, by decide +kernel⟩
theorem sc_flipped : FnScope ["f"] ["f"] (defScope s_flipped) := ⟨rfl, rfl, rfl, by decide +kernel, rfl, by decide +kernel, by decide +kernel⟩
theorem sc_wide : FnScope ["count"] ["count"] (defScope s_wide) := ⟨rfl, rfl, rfl, by decide +kernel, rfl, by decide +kernel, by decide +kernel⟩
theorem sc_wide_row : FnScope ["f", "length"] ["f", "length"] (defScope s_wide_row) := ⟨rfl, rfl, rfl, by decide +kernel, rfl, by decide +kernel, by decide +kernel⟩
theorem sc_told_sides : FnScope ["table", "told", "f", "row", "g", "entry"] ["table"] (defScope s_told_sides) := ⟨rfl, rfl, rfl, by decide +kernel, rfl, by decide +kernel, by decide +kernel⟩
theorem sc_closed : FnScope ["count", "sides"] ["count", "sides"] (defScope s_closed) := ⟨rfl, rfl, rfl, by decide +kernel, rfl, by decide +kernel, by decide +kernel⟩
theorem sc_held : FnScope ["shape", "side"] ["shape", "side"] (defScope s_held) := ⟨rfl, rfl, rfl, by decide +kernel, rfl, by decide +kernel, by decide +kernel⟩
theorem sc_held_by_all : FnScope ["shape", "sides"] ["shape", "sides"] (defScope s_held_by_all) := ⟨rfl, rfl, rfl, by decide +kernel, rfl, by decide +kernel, by decide +kernel⟩
theorem sc_lowered : FnScope ["table", "sides", "new", "side", "f", "g"] ["table", "sides"] (defScope s_lowered) := ⟨rfl, rfl, rfl, by decide +kernel, rfl, by decide +kernel, by decide +kernel⟩
theorem sc_tightened : FnScope ["table", "whole", "halves", "f"] ["table"] (defScope s_tightened) := ⟨rfl, rfl, rfl, by decide +kernel, rfl, by decide +kernel, by decide +kernel⟩
theorem sc_row_within_halves : FnScope ["row", "own_half", "halves"] ["row", "own_half", "halves"] (defScope s_row_within_halves) := ⟨rfl, rfl, rfl, by decide +kernel, rfl, by decide +kernel, by decide +kernel⟩
theorem sc_linked_through_all : FnScope ["table", "whole", "m"] ["table"] (defScope s_linked_through_all) := ⟨rfl, rfl, rfl, by decide +kernel, rfl, by decide +kernel, by decide +kernel⟩
theorem sc_linked_through : FnScope ["table", "m"] ["table", "m"] (defScope s_linked_through) := ⟨rfl, rfl, rfl, by decide +kernel, rfl, by decide +kernel, by decide +kernel⟩
theorem sc_linked_row : FnScope ["row", "ahead", "onward"] ["row", "ahead", "onward"] (defScope s_linked_row) := ⟨rfl, rfl, rfl, by decide +kernel, rfl, by decide +kernel, by decide +kernel⟩
theorem sc_some_point : FnScope ["shape", "left", "numbers", "k", "number"] ["shape"] (defScope s_some_point) := ⟨rfl, rfl, rfl, by decide +kernel, rfl, by decide +kernel, by decide +kernel⟩
theorem sc_some_worth : FnScope ["shape", "f", "most", "turned_most"] ["shape", "f"] (defScope s_some_worth) := ⟨rfl, rfl, rfl, by decide +kernel, rfl, by decide +kernel, by decide +kernel⟩
theorem sc_fixed : FnScope ["shape", "f", "number"] ["shape", "f", "number"] (defScope s_fixed) := ⟨rfl, rfl, rfl, by decide +kernel, rfl, by decide +kernel, by decide +kernel⟩
theorem sc_greatest : FnScope ["shape", "forms"] ["shape", "forms"] (defScope s_greatest) := ⟨rfl, rfl, rfl, by decide +kernel, rfl, by decide +kernel, by decide +kernel⟩
theorem sc_reaching : FnScope ["shape", "forms", "number", "left"] ["shape", "forms", "number"] (defScope s_reaching) := ⟨rfl, rfl, rfl, by decide +kernel, rfl, by decide +kernel, by decide +kernel⟩
theorem sc_without_flips : FnScope ["forms", "left", "f"] ["forms"] (defScope s_without_flips) := ⟨rfl, rfl, rfl, by decide +kernel, rfl, by decide +kernel, by decide +kernel⟩
theorem sc_reaching_with_two : FnScope ["shape", "f", "g", "number"] ["shape", "f", "g", "number"] (defScope s_reaching_with_two) := ⟨rfl, rfl, rfl, by decide +kernel, rfl, by decide +kernel, by decide +kernel⟩
theorem sc_apart : FnScope ["one", "other", "side", "point"] ["one", "other"] (defScope s_apart) := ⟨rfl, rfl, rfl, by decide +kernel, rfl, by decide +kernel, by decide +kernel⟩
theorem sc_within : FnScope ["one", "other"] ["one", "other"] (defScope s_within) := ⟨rfl, rfl, rfl, by decide +kernel, rfl, by decide +kernel, by decide +kernel⟩
theorem sc_copied : FnScope ["shape"] ["shape"] (defScope s_copied) := ⟨rfl, rfl, rfl, by decide +kernel, rfl, by decide +kernel, by decide +kernel⟩
theorem sc_step_over : FnScope ["steps", "f", "g", "entry", "heights"] ["steps", "f", "g", "entry"] (defScope s_step_over) := ⟨rfl, rfl, rfl, by decide +kernel, rfl, by decide +kernel, by decide +kernel⟩
theorem sc_widened : FnScope ["table", "shape", "steps"] ["table", "shape", "steps"] (defScope s_widened) := ⟨rfl, rfl, rfl, by decide +kernel, rfl, by decide +kernel, by decide +kernel⟩
theorem sc_widened_row : FnScope ["f", "row", "shape_row", "steps", "new", "g", "entry"] ["f", "row", "shape_row", "steps"] (defScope s_widened_row) := ⟨rfl, rfl, rfl, by decide +kernel, rfl, by decide +kernel, by decide +kernel⟩
theorem sc_Climb_init : FnScope ["self", "count", "steps", "patience"] ["self", "count", "steps", "patience"] (defScope s_Climb_init) := ⟨rfl, rfl, rfl, by decide +kernel, rfl, by decide +kernel, by decide +kernel⟩
theorem sc_Climb_take : FnScope ["self", "shape"] ["self", "shape"] (defScope s_Climb_take) := ⟨rfl, rfl, rfl, by decide +kernel, rfl, by decide +kernel, by decide +kernel⟩
theorem sc_Climb_next_table : FnScope ["self", "shape"] ["self", "shape"] (defScope s_Climb_next_table) := ⟨rfl, rfl, rfl, by decide +kernel, rfl, by decide +kernel, by decide +kernel⟩
theorem sc_Climb_shape : FnScope ["self"] ["self"] (defScope s_Climb_shape) := ⟨rfl, rfl, rfl, by decide +kernel, rfl, by decide +kernel, by decide +kernel⟩
theorem sc_Climb_rises : FnScope ["self"] ["self"] (defScope s_Climb_rises) := ⟨rfl, rfl, rfl, by decide +kernel, rfl, by decide +kernel, by decide +kernel⟩
theorem sc__law_cell : FnScope ["_law_script", "_law_k", "_law_seed", "_law_some"] ["_law_script", "_law_k"] (defScope s__law_cell) := ⟨rfl, rfl, rfl, by decide +kernel, rfl, by decide +kernel, by decide +kernel⟩
theorem sc__law_whole : FnScope ["_law_found"] ["_law_found"] (defScope s__law_whole) := ⟨rfl, rfl, rfl, by decide +kernel, rfl, by decide +kernel, by decide +kernel⟩
theorem sc__law_worth : FnScope ["_law_point", "_law_f"] ["_law_point", "_law_f"] (defScope s__law_worth) := ⟨rfl, rfl, rfl, by decide +kernel, rfl, by decide +kernel, by decide +kernel⟩
theorem sc__law_flip : FnScope ["_law_f"] ["_law_f"] (defScope s__law_flip) := ⟨rfl, rfl, rfl, by decide +kernel, rfl, by decide +kernel, by decide +kernel⟩
theorem sc__law_wide : FnScope ["_law_count", "_law_table_here", "_law_f", "_law_line"] ["_law_count"] (defScope s__law_wide) := ⟨rfl, rfl, rfl, by decide +kernel, rfl, by decide +kernel, by decide +kernel⟩
theorem sc__law_entry : FnScope ["_law_points_here", "_law_up_here", "_law_f", "_law_g"] ["_law_points_here", "_law_up_here", "_law_f", "_law_g"] (defScope s__law_entry) := ⟨rfl, rfl, rfl, by decide +kernel, rfl, by decide +kernel, by decide +kernel⟩
theorem sc__law_table : FnScope ["_law_points_here", "_law_up_here", "_law_count", "_law_table_here", "_law_f"] ["_law_points_here", "_law_up_here", "_law_count"] (defScope s__law_table) := ⟨rfl, rfl, rfl, by decide +kernel, rfl, by decide +kernel, by decide +kernel⟩
theorem sc__law_points : FnScope ["_law_cell_here", "_law_turn", "_law_drift", "_law_parts", "_law_point", "_law_far", "_law_points_here"] ["_law_cell_here", "_law_turn", "_law_drift"] (defScope s__law_points) := ⟨rfl, rfl, rfl, by decide +kernel, rfl, by decide +kernel, by decide +kernel⟩
theorem sc__law_up : FnScope ["_law_cell_here", "_law_count"] ["_law_cell_here", "_law_count"] (defScope s__law_up) := ⟨rfl, rfl, rfl, by decide +kernel, rfl, by decide +kernel, by decide +kernel⟩
theorem sc__law_no_more : FnScope ["_law_one", "_law_other", "_law_f", "_law_g"] ["_law_one", "_law_other"] (defScope s__law_no_more) := ⟨rfl, rfl, rfl, by decide +kernel, rfl, by decide +kernel, by decide +kernel⟩
theorem sc__law_widened : FnScope ["_law_table_here", "_law_shape", "_law_steps_here", "_law_due", "_law_f", "_law_line", "_law_g", "_law_entry_here", "_law_told", "_law_times", "_law_step"] ["_law_table_here", "_law_shape", "_law_steps_here"] (defScope s__law_widened) := ⟨rfl, rfl, rfl, by decide +kernel, rfl, by decide +kernel, by decide +kernel⟩
theorem sc__law_sides : FnScope ["_law_table_here", "_law_sides_here", "_law_f", "_law_g"] ["_law_table_here"] (defScope s__law_sides) := ⟨rfl, rfl, rfl, by decide +kernel, rfl, by decide +kernel, by decide +kernel⟩
theorem sc__law_alike : FnScope ["_law_found", "_law_due", "_law_line", "_law_entry_here"] ["_law_found", "_law_due"] (defScope s__law_alike) := ⟨rfl, rfl, rfl, by decide +kernel, rfl, by decide +kernel, by decide +kernel⟩
theorem sc__law_lies : FnScope ["_law_table_here", "_law_point", "_law_f", "_law_g", "_law_some"] ["_law_table_here", "_law_point"] (defScope s__law_lies) := ⟨rfl, rfl, rfl, by decide +kernel, rfl, by decide +kernel, by decide +kernel⟩
theorem sc__law_rise : FnScope ["_law_state", "_law_shape", "_law_steps_here", "_law_patience_here"] ["_law_state", "_law_shape", "_law_steps_here", "_law_patience_here"] (defScope s__law_rise) := ⟨rfl, rfl, rfl, by decide +kernel, rfl, by decide +kernel, by decide +kernel⟩
theorem sc__law_take : FnScope ["_law_climb", "_law_state", "_law_shape", "_law_steps_here", "_law_patience_here", "_law_due", "_law_handed", "_law_found", "_law_many"] ["_law_climb", "_law_state", "_law_shape", "_law_steps_here", "_law_patience_here"] (defScope s__law_take) := ⟨rfl, rfl, rfl, by decide +kernel, rfl, by decide +kernel, by decide +kernel⟩
theorem sc__law_steps : FnScope ["_law_script", "_law_steps_here"] ["_law_script"] (defScope s__law_steps) := ⟨rfl, rfl, rfl, by decide +kernel, rfl, by decide +kernel, by decide +kernel⟩
theorem sc__law_patience : FnScope ["_law_cell_here"] ["_law_cell_here"] (defScope s__law_patience) := ⟨rfl, rfl, rfl, by decide +kernel, rfl, by decide +kernel, by decide +kernel⟩
variable {Z_Climb y0 y9 f_Climb_next_table y8 y7 : Addr} (T : Kl K mg Z_Climb y0 y9 f_Climb_next_table y8 y7)
include T
theorem ok_below {f : Addr} {fd : FuncData} (F : Fun K "below" "below" s_below f fd) (m : mg "below" = some (.ref f)) (B : Bl4 mg)  : Def P w K mg base CX0 "below" 1 ["entry", "number"] (sp_below K) := by
 refine ⟨f, fd, F.ok sc_below (fun vs H Q E h => ?_) (fun cdv A outer s H vs Q E hr h => ?_), F.binds (ps := ["entry", "number"]) fun _ _ _ _ _ _ us hl => (by obtain ⟨b0, b1, rfl⟩ := us2 hl; rfl), F.kp, m⟩
 · obtain ⟨e, z, rfl, _⟩ := h
   rfl
 obtain ⟨e, z, rfl, q⟩ := h
 refine ⟨_, (pss_one (ps_ret (pe_and (pe_cmpR op_notN (pv 0) pe_non (nomark _)) (pe_one (pe_cmpR op_lt (pv 0) (pv 1) (nomark _)))))), ?_⟩
 cases e with
 | none =>
  refine ⟨_, rfl, rfl, _, rfl, ?_⟩
  refine iteF ?_
  exact q
 | some x =>
  refine ⟨_, rfl, rfl, _, rfl, ?_⟩
  refine iteT ?_
  exact ⟨_, rfl, _, rfl, _, _, rfl, rfl, q⟩
theorem ok_above {f : Addr} {fd : FuncData} (F : Fun K "above" "above" s_above f fd) (m : mg "above" = some (.ref f)) (B : Bl4 mg) (D_below : Def P w K mg base CX0 "below" 1 ["entry", "number"] (sp_below K)) : Def P w K mg base CX0 "above" 2 ["one", "other"] (sp_above K) := by
 refine ⟨f, fd, F.ok sc_above (fun vs H Q E h => ?_) (fun cdv A outer s H vs Q E hr h => ?_), F.binds (ps := ["one", "other"]) fun _ _ _ _ _ _ us hl => (by obtain ⟨b0, b1, rfl⟩ := us2 hl; rfl), F.kp, m⟩
 · obtain ⟨a, b, rfl, _⟩ := h
   rfl
 obtain ⟨a, b, rfl, q⟩ := h
 refine ⟨_, (@pss_cons _ _ _ _ _ (ps_if (pt_cmpR op_isN (pv 0) pe_non (nomark _)) (pss_one (ps_ret (pe_cmpR op_notN (pv 1) pe_non (nomark _)))) pss_nil)
  (pss_one (ps_ret (pe_dz D_below hr (pa_Name (pv 1) (pa_Name (pv 0) pa_nil)))))), ?_⟩
 refine seq_step fun U hU => ?_
 refine ⟨_, rfl, rfl, _, rfl, ?_⟩
 cases a with
 | none =>
  refine iteT ?_
  refine ⟨_, rfl, rfl, ?_⟩
  have : (!decide (eV b = V.non)) = aboveE none b := by cases b <;> rfl
  rw [this]
  exact q
 | some x =>
  refine iteF ?_
  show U _ _
  subst hU
  exact ⟨_, rfl, _, rfl, b, x, rfl, q⟩
theorem ok_lesser {f : Addr} {fd : FuncData} (F : Fun K "lesser" "lesser" s_lesser f fd) (m : mg "lesser" = some (.ref f)) (B : Bl4 mg)  : Def P w K mg base CX0 "lesser" 1 ["one", "other"] (sp_lesser K) := by
 refine ⟨f, fd, F.ok sc_lesser (fun vs H Q E h => ?_) (fun cdv A outer s H vs Q E hr h => ?_), F.binds (ps := ["one", "other"]) fun _ _ _ _ _ _ us hl => (by obtain ⟨b0, b1, rfl⟩ := us2 hl; rfl), F.kp, m⟩
 · obtain ⟨a, b, rfl, _⟩ := h
   rfl
 obtain ⟨a, b, rfl, q⟩ := h
 refine ⟨_, (@pss_cons _ _ _ _ _ (ps_if (pt_cmpR op_isN (pv 0) pe_non (nomark _)) (pss_one (ps_ret (pv 1))) pss_nil)
  (@pss_cons _ _ _ _ _ (ps_if (pw_or (pt_cmpR op_isN (pv 1) pe_non (nomark _)) (pw_or1 (pt_cmpR op_le (pv 0) (pv 1) (nomark _)))).pt (pss_one (ps_ret (pv 0))) pss_nil)
  (pss_one (ps_ret (pv 1))))), ?_⟩
 refine seq_step fun U hU => ?_
 refine ⟨_, rfl, rfl, _, rfl, ?_⟩
 cases a with
 | none =>
  refine iteT ?_
  exact ⟨_, rfl, q⟩
 | some x =>
  refine iteF ?_
  show U _ _
  subst hU
  refine seq_step fun U hU => ?_
  refine ⟨_, rfl, rfl, _, rfl, ?_⟩
  cases b with
  | none =>
   refine iteT ?_
   refine iteT ?_
   exact ⟨_, rfl, q⟩
  | some y =>
   refine iteF ?_
   refine ⟨_, rfl, _, rfl, x, y, rfl, rfl, _, rfl, ?_⟩
   by_cases h : x <= y
   · have e : Oct.minE (some x) (some y) = some x := by simp [Oct.minE]; omega
     rw [e] at q
     rw [decide_eq_true h]
     refine iteT ?_
     exact ⟨_, rfl, q⟩
   · have e : Oct.minE (some x) (some y) = some y := by simp [Oct.minE]; omega
     rw [e] at q
     rw [decide_eq_false h]
     refine iteF ?_
     show U _ _
     subst hU
     exact ⟨_, rfl, q⟩
theorem ok_least {f : Addr} {fd : FuncData} (F : Fun K "least" "least" s_least f fd) (m : mg "least" = some (.ref f)) (B : Bl4 mg)  : Def P w K mg base CX0 "least" 1 ["entries"] (sp_least K) := by
 refine ⟨f, fd, F.ok sc_least (fun vs H Q E h => ?_) (fun cdv A outer s H vs Q E hr h => ?_), F.binds (ps := ["entries"]) fun _ _ _ _ _ _ us hl => (by obtain ⟨b0, rfl⟩ := us1 hl; rfl), F.kp, m⟩
 · obtain ⟨b, es, rfl, _⟩ := h
   rfl
 obtain ⟨b, es, rfl, hB, hz, q⟩ := h
 refine ⟨_, (pss_one (ps_ret (pe_minD (K := K) rfl rfl (by rfl) B.min (pa_cons (pe_comp (CompScope.of sc_least.nd (by rfl)) rfl (pi_listK (K := K) rfl (pv 0)) (fun _ _ _ => pif_one (pt_cmpR op_notN (pv 0) pe_non (nomark _))) (fun _ _ _ => (pv 0))) pa_nil) (pk_cons pe_non pk_nil)))), ?_⟩
 refine ⟨_, rfl, b, rfl, ⟨_, hB⟩, fun p hp => comp_listN (K := K) (a := b) (xs := es.map eV) (fun i ys H' => ys = (nums (es.take i)).map V.int /\ H' p = some (.lst ys) /\ Same H H') ⟨rfl, upd_same, same_new hp _⟩ (fun i ys H' _ ⟨_, _, sm⟩ => sm.seq hB) ?_ ?_⟩
 · rintro i x ys H' hx ⟨rfl, hp', sm⟩
   rw [List.getElem?_map] at hx
   cases ei : es[i]? with
   | none => rw [ei] at hx; cases hx
   | some e1 =>
    rw [ei] at hx
    have ex : eV e1 = x := Option.some.inj hx
    subst ex
    have hi : i < (es.map eV).length := by rw [List.length_map]; exact (List.getElem?_eq_some_iff.mp ei).1
    have es' := nums_snoc es i e1 ei
    refine ⟨_, rfl, rfl, _, rfl, ?_⟩
    cases e1 with
    | none =>
     refine iteF ?_
     exact again hi ⟨by rw [es']; simp, hp', sm⟩
    | some z =>
     refine iteT ?_
     have ll : (nums (es.take i)).length <= i := Nat.le_trans (List.length_filterMap_le _ _) (by rw [List.length_take]; omega)
     rw [List.length_map] at hi
     refine ⟨_, rfl, hp', by rw [List.length_map]; exact small1000 (by omega), again (by rw [List.length_map]; exact hi) ⟨by rw [es']; simp [eV], upd_same, same_over hp sm⟩⟩
 · rintro ys H' ⟨rfl, hp', sm⟩
   rw [List.length_map, List.take_length] at hp'
   have q1 := q H' sm
   rw [lstE_nums] at q1
   refine ⟨p, nums es, .non, rfl, rfl, SqL.of hp', fun e => ?_, fun b1 r1 e => ?_⟩
   · rw [e] at q1; exact q1
   · rw [e] at q1; exact q1
theorem ok_summed {f : Addr} {fd : FuncData} (F : Fun K "summed" "summed" s_summed f fd) (m : mg "summed" = some (.ref f)) (B : Bl4 mg)  : Def P w K mg base CX0 "summed" 1 ["one", "other"] (sp_summed K) := by
 refine ⟨f, fd, F.ok sc_summed (fun vs H Q E h => ?_) (fun cdv A outer s H vs Q E hr h => ?_), F.binds (ps := ["one", "other"]) fun _ _ _ _ _ _ us hl => (by obtain ⟨b0, b1, rfl⟩ := us2 hl; rfl), F.kp, m⟩
 · obtain ⟨a, b, rfl, _⟩ := h
   rfl
 obtain ⟨a, b, rfl, q⟩ := h
 refine ⟨_, (@pss_cons _ _ _ _ _ (ps_if (pw_or (pt_cmpR op_isN (pv 0) pe_non (nomark _)) (pw_or1 (pt_cmpR op_isN (pv 1) pe_non (nomark _)))).pt (pss_one (ps_ret pe_non)) pss_nil)
  (pss_one (ps_ret (pe_op op_add (pv 0) (pv 1))))), ?_⟩
 refine seq_step fun U hU => ?_
 refine ⟨_, rfl, rfl, _, rfl, ?_⟩
 cases a with
 | none =>
  refine iteT ?_
  refine iteT ?_
  exact q
 | some x =>
  refine iteF ?_
  refine ⟨_, rfl, rfl, _, rfl, ?_⟩
  cases b with
  | none =>
   refine iteT ?_
   exact q
  | some y =>
   refine iteF ?_
   show U _ _
   subst hU
   exact ⟨_, rfl, _, rfl, x, y, rfl, rfl, q⟩
theorem ok_half {f : Addr} {fd : FuncData} (F : Fun K "half" "half" s_half f fd) (m : mg "half" = some (.ref f)) (B : Bl4 mg)  : Def P w K mg base CX0 "half" 1 ["entry"] (sp_half K) := by
 refine ⟨f, fd, F.ok sc_half (fun vs H Q E h => ?_) (fun cdv A outer s H vs Q E hr h => ?_), F.binds (ps := ["entry"]) fun _ _ _ _ _ _ us hl => (by obtain ⟨b0, rfl⟩ := us1 hl; rfl), F.kp, m⟩
 · obtain ⟨a, rfl, _⟩ := h
   rfl
 obtain ⟨a, rfl, q⟩ := h
 refine ⟨_, (@pss_cons _ _ _ _ _ (ps_if (pt_cmpR op_isN (pv 0) pe_non (nomark _)) (pss_one (ps_ret pe_non)) pss_nil)
  (pss_one (ps_ret (pe_op op_fdiv (pv 0) pe_int)))), ?_⟩
 refine seq_step fun U hU => ?_
 refine ⟨_, rfl, rfl, _, rfl, ?_⟩
 cases a with
 | none =>
  refine iteT ?_
  exact q
 | some x =>
  refine iteF ?_
  show U _ _
  subst hU
  exact ⟨_, rfl, x, 2, rfl, rfl, ⟨by decide, by decide⟩, q⟩
theorem ok_flipped {f : Addr} {fd : FuncData} (F : Fun K "flipped" "flipped" s_flipped f fd) (m : mg "flipped" = some (.ref f)) (B : Bl4 mg)  : Def P w K mg base CX0 "flipped" 1 ["f"] (sp_flipped K) := by
 refine ⟨f, fd, F.ok sc_flipped (fun vs H Q E h => ?_) (fun cdv A outer s H vs Q E hr h => ?_), F.binds (ps := ["f"]) fun _ _ _ _ _ _ us hl => (by obtain ⟨b0, rfl⟩ := us1 hl; rfl), F.kp, m⟩
 · obtain ⟨f, rfl, _⟩ := h
   rfl
 obtain ⟨f, rfl, q⟩ := h
 refine ⟨_, (@pss_cons _ _ _ _ _ (ps_if (pt_cmpR op_eq (pe_op op_mod (pv 0) pe_int) pe_int (nomark _)) (pss_one (ps_ret (pe_op op_add (pv 0) pe_int))) pss_nil)
  (pss_one (ps_ret (pe_op op_sub (pv 0) pe_int)))), ?_⟩
 refine seq_step fun U hU => ?_
 refine ⟨_, rfl, _, _, rfl, rfl, (by show (0 : Int) < 2; decide), rfl, _, rfl, ?_⟩
 unfold flipI at q
 refine ite2 (fun h => ?_) (fun h => ?_)
 · rw [if_pos (V.int.inj (of_decide_eq_true h))] at q
   exact ⟨_, rfl, _, _, rfl, rfl, q⟩
 · show U _ _
   subst hU
   rw [if_neg (fun e => h (decide_eq_true (congrArg V.int e)))] at q
   exact ⟨_, rfl, _, _, rfl, rfl, q⟩
theorem ok_wide {f : Addr} {fd : FuncData} (F : Fun K "wide" "wide" s_wide f fd) (m : mg "wide" = some (.ref f)) (B : Bl4 mg) (D_wide_row : Def P w K mg base CX0 "wide_row" 2 ["f", "length"] (sp_wide_row K)) : Def P w K mg base CX0 "wide" 3 ["count"] (sp_wide K) := by
 refine ⟨f, fd, F.ok sc_wide (fun vs H Q E h => ?_) (fun cdv A outer s H vs Q E hr h => ?_), F.binds (ps := ["count"]) fun _ _ _ _ _ _ us hl => (by obtain ⟨b0, rfl⟩ := us1 hl; rfl), F.kp, m⟩
 · obtain ⟨n, rfl, _⟩ := h
   rfl
 obtain ⟨n, rfl, hn, q⟩ := h
 refine ⟨_, (pss_one (ps_ret (pe_comp (CompScope.of sc_wide.nd (by rfl)) rfl (pi_range1 (by rfl) B.range (pa_BinOp (pe_op op_mul pe_int (pv 0)) pa_nil)) (fun _ _ _ => pif_nil) (fun _ _ _ => (pe_dz D_wide_row hr (pa_Name (pv 0) (pa_BinOp (pe_op op_mul pe_int (pv 1)) pa_nil))))))), ?_⟩
 refine ⟨_, rfl, _, _, rfl, rfl, .inl ⟨by decide, by decide⟩, (2 * (n : Int)), rfl, by omega, by omega, fun p hp => comp_rangeN (lo := 0) (n := (2 * (n : Int)).toNat) (fun i ys H' => Grow H H' p ys (Oct.rows i (2 * n) Oct.wideT)) (Grow.start hp) ?_ ?_⟩
 · rintro i ys H' hi G
   simp only [tYes, ↓reduceIte]
   refine ⟨_, rfl, _, rfl, _, _, rfl, rfl, .inl ⟨by decide, by decide⟩, i, 2 * n, by simp, by omega, fun b H2 hb sm eb => ?_⟩
   have st := G.step hb sm eb
   refine ⟨st.1, by rw [G.len, Oct.rows_len]; exact small1000 (by omega), again hi ?_⟩
   rw [Oct.rows_succ]
   exact st.2
 · rintro ys H' ⟨bs, rfl, T, sm⟩
   have en : (2 * (n : Int)).toNat = 2 * n := by omega
   rw [en] at T
   exact q p bs H' sm T
theorem ok_wide_row {f : Addr} {fd : FuncData} (F : Fun K "wide_row" "wide_row" s_wide_row f fd) (m : mg "wide_row" = some (.ref f)) (B : Bl4 mg) (D_flipped : Def P w K mg base CX0 "flipped" 1 ["f"] (sp_flipped K)) : Def P w K mg base CX0 "wide_row" 2 ["f", "length"] (sp_wide_row K) := by
 refine ⟨f, fd, F.ok sc_wide_row (fun vs H Q E h => ?_) (fun cdv A outer s H vs Q E hr h => ?_), F.binds (ps := ["f", "length"]) fun _ _ _ _ _ _ us hl => (by obtain ⟨b0, b1, rfl⟩ := us2 hl; rfl), F.kp, m⟩
 · obtain ⟨f, N, rfl, _⟩ := h
   rfl
 obtain ⟨f, N, rfl, hN, q⟩ := h
 refine ⟨_, (pss_one (ps_ret (pe_comp (CompScope.of sc_wide_row.nd (by rfl)) rfl (pi_range1 (by rfl) B.range (pa_Name (pv 1) pa_nil)) (fun _ _ _ => pif_nil) (fun _ _ _ => (pe_ifExp (pt_cmpR op_eq (pv 0) (pe_dz D_flipped hr (pa_Name (pv 1) pa_nil)) (nomark _)) pe_int pe_non))))), ?_⟩
 refine ⟨_, rfl, (N : Int), rfl, by omega, by omega, fun p hp => comp_rangeN (lo := 0) (n := (N : Int).toNat) (fun i ys H' => ys = (Oct.ln i (Oct.wideT f)).map eV /\ H' p = some (.lst ys) /\ Same H H') ⟨rfl, upd_same, same_new hp _⟩ ?_ ?_⟩
 · rintro i ys H' hi ⟨rfl, hp', sm⟩
   have fin : H' p = some (.lst ((Oct.ln i (Oct.wideT f)).map eV)) /\ ((Oct.ln i (Oct.wideT f)).map eV).length < sizeLine /\ ∃ m', m' < (N : Int).toNat - i /\ m' = (N : Int).toNat - (i + 1) /\ i + 1 <= (N : Int).toNat /\ ((Oct.ln i (Oct.wideT f)).map eV ++ [eV (Oct.wideT f i)] = (Oct.ln (i + 1) (Oct.wideT f)).map eV /\ upd H' p (.lst ((Oct.ln i (Oct.wideT f)).map eV ++ [eV (Oct.wideT f i)])) p = some (.lst ((Oct.ln i (Oct.wideT f)).map eV ++ [eV (Oct.wideT f i)])) /\ Same H (upd H' p (.lst ((Oct.ln i (Oct.wideT f)).map eV ++ [eV (Oct.wideT f i)])))) :=
    ⟨hp', by rw [ln_lenV]; exact small1000 (by omega), again hi ⟨ln_snocV i _, upd_same, same_over hp sm⟩⟩
   simp only [tYes, ↓reduceIte]
   refine ⟨_, rfl, _, rfl, (f : Int), rfl, rfl, _, rfl, ?_⟩
   refine ite2 (fun h => ?_) (fun h => ?_)
   · have e : i = Oct.fl f := by have := V.int.inj (of_decide_eq_true h); rw [flip_nat] at this; omega
     have ew : eV (Oct.wideT f i) = V.int 0 := by unfold Oct.wideT; rw [if_pos e]; rfl
     rw [ew] at fin
     exact fin
   · have e : i ≠ Oct.fl f := fun e => h (decide_eq_true (by rw [flip_nat, ← e, Int.zero_add]))
     have ew : eV (Oct.wideT f i) = V.non := by unfold Oct.wideT; rw [if_neg e]; rfl
     rw [ew] at fin
     exact fin
 · rintro ys H' ⟨rfl, hp', sm⟩
   have en : (N : Int).toNat = N := Int.toNat_natCast N
   rw [en] at hp'
   exact q p H' hp sm hp'
theorem ok_told_sides {f : Addr} {fd : FuncData} (F : Fun K "told_sides" "told_sides" s_told_sides f fd) (m : mg "told_sides" = some (.ref f)) (B : Bl4 mg) (D_flipped : Def P w K mg base CX0 "flipped" 1 ["f"] (sp_flipped K)) : Def P w K mg base CX0 "told_sides" 2 ["table"] (sp_told_sides K) := by
 refine ⟨f, fd, F.ok sc_told_sides (fun vs H Q E h => ?_) (fun cdv A outer s H vs Q E hr h => ?_), F.binds (ps := ["table"]) fun _ _ _ _ _ _ us hl => (by obtain ⟨b0, rfl⟩ := us1 hl; rfl), F.kp, m⟩
 · obtain ⟨a, bs, N, c, rfl, _⟩ := h
   rfl
 obtain ⟨a, bs, N, c, rfl, T, hN, q⟩ := h
 refine ⟨_, (@pss_cons _ _ _ _ _ (ps_sz 1 sc_told_sides.nd (pe_lst pa_nil))
  (@pss_cons _ _ _ _ _ (ps_for PassesOwn.never rfl (pi_enumK (K := K) rfl (by rfl) B.enumerate (pa_Name (pv 0) pa_nil)) (pg_pairK (K := K) rfl rfl (pg_nz 2 sc_told_sides.nd) (pg_nz 3 sc_told_sides.nd)) (pss_one (ps_for PassesOwn.never rfl (pi_enumK (K := K) rfl (by rfl) B.enumerate (pa_Name (pv 3) pa_nil)) (pg_pairK (K := K) rfl rfl (pg_nz 4 sc_told_sides.nd) (pg_nz 5 sc_told_sides.nd)) (pss_one (ps_if (pw_and (pt_cmpR op_le (pv 2) (pv 4) (nomark _)) (pw_and (pt_cmpR op_ne (pv 4) (pe_dz D_flipped hr (pa_Name (pv 2) pa_nil)) (nomark _)) (pw_and1 (pt_cmpR op_notN (pv 5) pe_non (nomark _))))).pt (pss_one (ps_expr (pe_bm PySem.F.plainAttrs_list PySem.F.slot_list_append PySem.F.type_list_append mt_append (pv 1) (pa_Tuple (pe_tup (pa_Name (pv 2) (pa_Name (pv 4) (pa_Name (pv 5) pa_nil)))) pa_nil)))) pss_nil)))))
  (pss_one (ps_ret (pv 1))))), ?_⟩
 refine seq_step fun U hU => ?_
 refine ⟨sz 0, fun p hp => ?_⟩
 show U _ _
 subst hU
 have hL : (bs.map V.ref).length = N := by rw [List.length_map, T.lenN]
 refine seq_step fun U hU => ?_
 refine ⟨_, rfl, a, rfl, ⟨_, (same_new hp _).seq (SqL.of T.at_)⟩, for_enum (K := K) (a := a) (xs := bs.map V.ref) (fun i σ H' => ∃ x y z w ys, σ = [some (.ref a), some (.ref p), x, y, z, w] /\ Same H H' /\ H' p = some (.lst ys) /\ Paired (SideAt H') ys (toldP N c i)) ⟨none, none, none, none, [], rfl, same_new hp _, upd_same, .nil⟩ (fun i σ H' _ ⟨_, _, _, _, _, _, sm, _⟩ => sm.seq (SqL.of T.at_)) ?_ ?_⟩
 · rintro i v σ H1 H2 hv ⟨x, y, z, w, ys, rfl, sm1, hp1, hP1⟩ sm12
   have sm2 := sm1.trans sm12
   have T2 := T.same sm2
   obtain ⟨hi, b, rfl, eb, hb⟩ := T2.rowN hv
   have hb0 : H b = some (.lst ((Oct.ln N (c i)).map eV)) := by
    obtain ⟨_, b', e', eb', hb'⟩ := T.rowN hv
    cases e'
    exact hb'
   refine ⟨_, rfl, b, rfl, ⟨_, SqL.of hb⟩, for_enum (K := K) (a := b) (xs := (Oct.ln N (c i)).map eV) (fun j σ H' => ∃ z w ys, σ = [some (.ref a), some (.ref p), some (.int i), some (.ref b), z, w] /\ Same H H' /\ H' p = some (.lst ys) /\ Paired (SideAt H') ys (toldP N c i ++ toldRow c i j)) ⟨z, w, ys, rfl, sm2, sm12 _ _ hp1, by rw [show toldRow c i 0 = [] from rfl, List.append_nil]; exact sides_same sm12 hP1⟩ (fun j σ H' _ ⟨_, _, _, _, sm, _⟩ => sm.seq (SqL.of hb0)) ?_ ?_⟩
   · rintro j u σ H3 H4 hu ⟨z, w, ys, rfl, sm3, hp3, hP3⟩ sm34
     obtain ⟨hj, rfl⟩ := ln_item hu
     have hp4 := sm34 _ _ hp3
     have hP4 := sides_same sm34 hP3
     have sm4 := sm3.trans sm34
     have lz : ys.length < sizeLine := by
      rw [paired_len hP3, List.length_append]
      have e1 := toldP_len N c i
      have e2 := toldRow_len c i j
      have e3 : N * i <= 12 * 12 := Nat.mul_le_mul hN (by omega)
      exact small1000 (by omega)
     have skip : (toldRow c i (j + 1) = toldRow c i j) -> ∃ z w ys, [some (V.ref a), some (.ref p), some (.int i), some (.ref b), some (.int j), some (eV (c i j))] = [some (.ref a), some (.ref p), some (.int i), some (.ref b), z, w] /\ Same H H4 /\ H4 p = some (.lst ys) /\ Paired (SideAt H4) ys (toldP N c i ++ toldRow c i (j + 1)) := fun e => ⟨_, _, ys, rfl, sm4, hp4, by rw [e]; exact hP4⟩
     have tr := toldRow_succ c i j
     refine ⟨_, rfl, _, rfl, _, _, rfl, rfl, _, rfl, ?_⟩
     refine ite2 (fun h => ?_) (fun h => ?_)
     · have hij : i <= j := by simpa using h
       refine ⟨_, rfl, _, rfl, (i : Int), rfl, ?_⟩
       rw [flip_nat]
       refine ⟨rfl, _, rfl, ?_⟩
       by_cases hfl : j = Oct.fl i
       · have e0 : decide (V.int (j : Int) = V.int ((Oct.fl i : Nat) : Int)) = true := by simp [hfl]
         rw [e0]
         refine iteF ?_
         refine iteF ?_
         refine skip ?_
         rw [tr, if_neg (fun q => q.2 hfl), List.append_nil]
       · have e0 : decide (V.int (j : Int) = V.int ((Oct.fl i : Nat) : Int)) = false := by simp; omega
         rw [e0]
         refine iteT ?_
         rw [if_pos ⟨hij, hfl⟩] at tr
         refine ⟨_, rfl, rfl, _, rfl, ?_⟩
         cases ec : c i j with
         | none =>
          rw [ec] at tr
          refine iteF ?_
          have := skip (by rw [tr]; simp)
          rw [ec] at this
          exact this
         | some zz =>
          rw [ec] at tr
          refine iteT ?_
          refine ⟨_, rfl, .inl ⟨rfl, _, SqL.of hp4⟩, _, rfl, _, rfl, _, rfl, sz 3, fun t ht => ⟨p, _, _, rfl, rfl, same_new ht _ _ _ hp4, lz, ?_⟩⟩
          have smt := same_new ht (.tup [.int i, .int j, eV (some zz)])
          refine ⟨_, _, _, rfl, same_over hp (sm4.trans smt), upd_same, ?_⟩
          rw [tr, ← List.append_assoc]
          exact paired_snoc (sides_put (smt _ _ hp4) (sides_same smt hP4)) (SideAt.put (smt _ _ hp4) ⟨t, rfl, upd_same⟩)
     · refine iteF ?_
       refine skip ?_
       rw [tr, if_neg (fun q => h (by simpa using q.1)), List.append_nil]
   · rintro σ H3 ⟨z, w, ys, rfl, sm3, hp3, hP3⟩
     rw [ln_lenV] at hP3
     refine ⟨_, _, _, _, ys, rfl, sm3, hp3, ?_⟩
     rw [toldP_succ]
     exact hP3
 · rintro σ H1 ⟨x, y, z, w, ys, rfl, sm1, hp1, hP1⟩
   show U _ _
   subst hU
   rw [hL] at hP1
   exact ⟨_, rfl, q p ys H1 sm1 hp hp1 hP1⟩
theorem ok_closed {f : Addr} {fd : FuncData} (F : Fun K "closed" "closed" s_closed f fd) (m : mg "closed" = some (.ref f)) (B : Bl4 mg) (D_held_by_all : Def P w K mg base CX0 "held_by_all" 6 ["shape", "sides"] (sp_held_by_all K)) (D_wide : Def P w K mg base CX0 "wide" 3 ["count"] (sp_wide K)) : Def P w K mg base CX0 "closed" 7 ["count", "sides"] (sp_closed K) := by
 refine ⟨f, fd, F.ok sc_closed (fun vs H Q E h => ?_) (fun cdv A outer s H vs Q E hr h => ?_), F.binds (ps := ["count", "sides"]) fun _ _ _ _ _ _ us hl => (by obtain ⟨b0, b1, rfl⟩ := us2 hl; rfl), F.kp, m⟩
 · obtain ⟨b, n, ys, ss, rfl, _⟩ := h
   rfl
 obtain ⟨b, n, ys, ss, rfl, hS, hP, hin, hn, q⟩ := h
 refine ⟨_, (pss_one (ps_ret (pe_dz D_held_by_all hr (pa_Call (pe_dz D_wide hr (pa_Name (pv 0) pa_nil)) (pa_Name (pv 1) pa_nil))))), ?_⟩
 refine ⟨_, rfl, n, rfl, hn, fun p bs H1 sm1 N1 => ?_⟩
 refine ⟨_, rfl, .ref p, b, n, some Oct.wideT, ys, ss, rfl, ⟨p, bs, rfl, N1.tab⟩, fun f _ => ?_, sm1.seq hS, sides_same sm1 hP, hin, hn, fun u H2 sm2 N2 => q u H2 (sm1.trans sm2) (N2.of sm1)⟩
 unfold Oct.wideT
 rw [if_pos rfl]
 exact Oct.leE_refl _
theorem ok_held {f : Addr} {fd : FuncData} (F : Fun K "held" "held" s_held f fd) (m : mg "held" = some (.ref f)) (B : Bl4 mg) (D_held_by_all : Def P w K mg base CX0 "held_by_all" 6 ["shape", "sides"] (sp_held_by_all K)) : Def P w K mg base CX0 "held" 7 ["shape", "side"] (sp_held K) := by
 refine ⟨f, fd, F.ok sc_held (fun vs H Q E h => ?_) (fun cdv A outer s H vs Q E hr h => ?_), F.binds (ps := ["shape", "side"]) fun _ _ _ _ _ _ us hl => (by obtain ⟨b0, b1, rfl⟩ := us2 hl; rfl), F.kp, m⟩
 · obtain ⟨v, w1, n, o, s1, rfl, _⟩ := h
   rfl
 obtain ⟨v, w1, n, o, s1, rfl, hV, hD, hS, hf, hg, hn, q⟩ := h
 refine ⟨_, (pss_one (ps_ret (pe_dz D_held_by_all hr (pa_Name (pv 0) (pa_List (pe_lst (pa_Name (pv 1) pa_nil)) pa_nil))))), ?_⟩
 refine ⟨_, rfl, _, rfl, sz 1, fun p hp => ?_⟩
 have sm := same_new hp (.lst [w1])
 refine ⟨v, p, n, o, [w1], [s1], rfl, hV.same sm, hD, SqL.of upd_same, .cons (hS.same sm) .nil, fun s hs => ?_, hn, fun u H2 sm2 N2 => q u H2 (sm.trans sm2) (N2.of sm)⟩
 rw [List.mem_singleton.mp hs]
 exact ⟨hf, hg⟩
theorem ok_held_by_all {f : Addr} {fd : FuncData} (F : Fun K "held_by_all" "held_by_all" s_held_by_all f fd) (m : mg "held_by_all" = some (.ref f)) (B : Bl4 mg) (D_tightened : Def P w K mg base CX0 "tightened" 5 ["table"] (sp_tightened K)) (D_lowered : Def P w K mg base CX0 "lowered" 2 ["table", "sides"] (sp_lowered K)) : Def P w K mg base CX0 "held_by_all" 6 ["shape", "sides"] (sp_held_by_all K) := by
 refine ⟨f, fd, F.ok sc_held_by_all (fun vs H Q E h => ?_) (fun cdv A outer s H vs Q E hr h => ?_), F.binds (ps := ["shape", "sides"]) fun _ _ _ _ _ _ us hl => (by obtain ⟨b0, b1, rfl⟩ := us2 hl; rfl), F.kp, m⟩
 · obtain ⟨v, b, n, o, ys, ss, rfl, _⟩ := h
   rfl
 obtain ⟨v, b, n, o, ys, ss, rfl, hV, hD, hS, hP, hin, hn, q⟩ := h
 refine ⟨_, (@pss_cons _ _ _ _ _ (ps_if (pt_cmpR op_isN (pv 0) pe_non (nomark _)) (pss_one (ps_ret pe_non)) pss_nil)
  (pss_one (ps_ret (pe_dz D_tightened hr (pa_Call (pe_dz D_lowered hr (pa_Name (pv 0) (pa_Name (pv 1) pa_nil))) pa_nil))))), ?_⟩
 refine seq_step fun U hU => ?_
 cases o with
 | none =>
  cases hV
  refine ⟨_, rfl, rfl, _, rfl, ?_⟩
  refine iteT ?_
  exact q _ _ (Same.refl H) rfl
 | some c =>
  obtain ⟨a, bs, rfl, T⟩ := hV
  refine ⟨_, rfl, rfl, _, rfl, ?_⟩
  refine iteF ?_
  show U _ _
  subst hU
  refine ⟨_, rfl, _, rfl, a, b, bs, n, c, ys, ss, rfl, T, hS, hP, hin, hn, fun p bs' H1 sm1 T1 => ?_⟩
  refine ⟨p, bs', n, Oct.lowL c ss, rfl, T1.tab, hn, fun f hf => Oct.leE_trans (Oct.lowL_le ss c f _) (hD f hf), fun u H2 sm2 N2 => ?_⟩
  exact q u H2 (sm1.trans sm2) (N2.of sm1)
theorem ok_lowered {f : Addr} {fd : FuncData} (F : Fun K "lowered" "lowered" s_lowered f fd) (m : mg "lowered" = some (.ref f)) (B : Bl4 mg) (D_lesser : Def P w K mg base CX0 "lesser" 1 ["one", "other"] (sp_lesser K)) : Def P w K mg base CX0 "lowered" 2 ["table", "sides"] (sp_lowered K) := by
 refine ⟨f, fd, F.ok sc_lowered (fun vs H Q E h => ?_) (fun cdv A outer s H vs Q E hr h => ?_), F.binds (ps := ["table", "sides"]) fun _ _ _ _ _ _ us hl => (by obtain ⟨b0, b1, rfl⟩ := us2 hl; rfl), F.kp, m⟩
 · obtain ⟨a, b, bs, n, c, ys, ss, rfl, _⟩ := h
   rfl
 obtain ⟨a, b, bs, n, c, ys, ss, rfl, T, hS, hP, hin, hn, q⟩ := h
 refine ⟨_, (@pss_cons _ _ _ _ _ (ps_setC (i := 2) (CompScope.of sc_lowered.nd (by rfl)) rfl (pi_listK (K := K) rfl (pv 0)) (fun _ _ _ => pif_nil) (fun _ _ _ => (pe_callTy (call_list_ofK (K := K) rfl) (by rfl) B.list (by decide +kernel) (pa_Name (pv 0) pa_nil))) sc_lowered.nd rfl (by first | exact Or.inl rfl | exact Or.inr rfl) rfl)
  (@pss_cons _ _ _ _ _ (ps_for PassesOwn.never rfl (pi_listK (K := K) rfl (pv 1)) (pg_nz 3 sc_lowered.nd) (@pss_cons _ _ _ _ _ (ps_sz 4 sc_lowered.nd (pe_xT (K := K) (pv 3) pe_int))
  (@pss_cons _ _ _ _ _ (ps_sz 5 sc_lowered.nd (pe_xT (K := K) (pv 3) pe_int))
  (@pss_cons _ _ _ _ _ (ps_asg (pe_dz D_lesser hr (pa_Subscript (pe_xL (K := K) (pe_xL (K := K) (pv 2) (pv 4)) (pv 5)) (pa_Subscript (pe_xT (K := K) (pv 3) pe_int) pa_nil))) (pg_sub (pe_xL (K := K) (pv 2) (pv 4)) (pv 5) set_list))
  (pss_one (ps_asg (pe_dz D_lesser hr (pa_Subscript (pe_xL (K := K) (pe_xL (K := K) (pv 2) (pv 5)) (pv 4)) (pa_Subscript (pe_xT (K := K) (pv 3) pe_int) pa_nil))) (pg_sub (pe_xL (K := K) (pv 2) (pv 5)) (pv 4) set_list)))))))
  (pss_one (ps_ret (pv 2))))), ?_⟩
 refine seq_step fun U hU => ?_
 have hL : (bs.map V.ref).length = 2 * n := by rw [List.length_map, T.lenN]
 refine ⟨_, rfl, a, rfl, ⟨_, SqL.of T.at_⟩, fun p hp => comp_listN (K := K) (a := a) (xs := bs.map V.ref) (fun i zs H' => Grow H H' p zs (Oct.rows i (2 * n) c)) (Grow.start hp) (fun i ys H' _ G => G.same.seq (SqL.of T.at_)) ?_ ?_⟩
 · rintro i x zs H' hx G
   have T' := T.same G.same
   obtain ⟨hi, d, rfl, ed, hd⟩ := T'.rowN hx
   simp only [tYes, ↓reduceIte]
   refine ⟨_, rfl, d, _, rfl, .inl (SqL.of hd), fun l hl => ?_⟩
   have st := G.step hl (same_new hl (.lst ((Oct.ln (2 * n) (c i)).map eV))) upd_same
   have hlt : i < (bs.map V.ref).length := (List.getElem?_eq_some_iff.mp hx).1
   refine ⟨st.1, by rw [G.len, Oct.rows_len]; exact small1000 (by omega), again hlt ?_⟩
   rw [Oct.rows_succ]
   exact st.2
 · rintro zs H1 ⟨bs1, rfl, T1, sm1⟩
   rw [hL] at T1
   show U _ _
   subst hU
   have lx := paired_len hP
   refine seq_step fun U hU => ?_
   refine ⟨_, rfl, b, rfl, ⟨_, sm1.seq hS⟩, for_list (K := K) (a := b) (xs := ys) (fun i σ H' => ∃ x y z, σ = [some (.ref a), some (.ref b), some (.ref p), x, y, z] /\ Same H H' /\ TabAt H' p bs1 (Oct.toT (2 * n) (Oct.lowL c (ss.take i)))) ⟨none, none, none, rfl, sm1, T1.tab⟩ (fun i σ H' _ ⟨_, _, _, _, sm, _⟩ => sm.seq hS) ?_ ?_⟩
   · rintro i v σ H' hv ⟨x, y, z, rfl, sm, T2⟩
     obtain ⟨s1, es, sa, rfl, hsa⟩ := paired_get' hP hv
     have hsa' : SqT K H' sa [.int (s1.1 : Nat), .int (s1.2.1 : Nat), .int s1.2.2] := SqT.of (sm _ _ hsa)
     obtain ⟨hf, hg⟩ := hin s1 (List.mem_of_getElem? es)
     refine seq_step fun U hU => ?_
     refine ⟨_, rfl, sa, _, 0, _, rfl, rfl, hsa', rfl, ?_⟩
     show U _ _
     subst hU
     refine seq_step fun U hU => ?_
     refine ⟨_, rfl, sa, _, 1, _, rfl, rfl, hsa', rfl, ?_⟩
     show U _ _
     subst hU
     generalize hcc : Oct.lowL c (ss.take i) = cc at *
     obtain ⟨b1, e1, h1, a1⟩ := T2.rd hf
     obtain ⟨b2, r2, e2, h2, TT, Tm⟩ := low1_tab (z := s1.2.2) T2 hf hg e1
     have nb1 : H b1 = none := T1.newL b1 (List.mem_of_getElem? e1)
     have nb2 : H b2 = none := T1.newL b2 (List.mem_of_getElem? e2)
     refine seq_step fun U hU => ?_
     refine ⟨_, rfl, _, rfl, p, _, _, _, rfl, rfl, SqL.of T2.at_, a1, _, rfl, b1, _, _, _, rfl, rfl, SqL.of h1, ln_at hg, _, rfl, sa, _, 2, _, rfl, rfl, hsa', rfl, cc s1.1 s1.2.1, some s1.2.2, rfl, _, rfl, _, rfl, p, _, _, _, rfl, rfl, SqL.of T2.at_, a1, _, rfl, b1, _, _, s1.2.1, rfl, rfl, h1, by rw [ln_lenV]; exact ixN_nat hg, ?_⟩
     rw [map_set_eV, Oct.ln_set]
     show U _ _
     subst hU
     have sm2 : Same H (upd H' b1 (.lst ((Oct.ln (2 * n) fun y => if y = s1.2.1 then Oct.minE (cc s1.1 s1.2.1) (some s1.2.2) else cc s1.1 y).map eV))) := same_over nb1 sm
     have hsa2 := sm2 _ _ hsa
     generalize upd H' b1 (.lst ((Oct.ln (2 * n) fun y => if y = s1.2.1 then Oct.minE (cc s1.1 s1.2.1) (some s1.2.2) else cc s1.1 y).map eV)) = H2 at *
     have hsa2' : SqT K H2 sa [.int (s1.1 : Nat), .int (s1.2.1 : Nat), .int s1.2.2] := SqT.of hsa2
     have a2 : atI (bs1.map V.ref) (s1.2.1 : Int) = some (.ref b2) := atI_nat (by rw [List.getElem?_map, e2]; rfl)
     refine ⟨_, rfl, _, rfl, p, _, _, _, rfl, rfl, SqL.of Tm.at_, a2, _, rfl, b2, _, _, _, rfl, rfl, SqL.of h2, ln_at hf, _, rfl, sa, _, 2, _, rfl, rfl, hsa2', rfl, r2 s1.1, some s1.2.2, rfl, _, rfl, _, rfl, p, _, _, _, rfl, rfl, SqL.of Tm.at_, a2, _, rfl, b2, _, _, s1.1, rfl, rfl, h2, by rw [ln_lenV]; exact ixN_nat hf, ?_⟩
     rw [map_set_eV, Oct.ln_set]
     refine ⟨_, _, _, rfl, same_over nb2 sm2, ?_⟩
     rw [take_succ_of es, lowL_snoc, hcc]
     exact TT
   · rintro σ H' ⟨x, y, z, rfl, sm, T2⟩
     show U _ _
     subst hU
     rw [lx, List.take_length] at T2
     exact ⟨_, rfl, q p bs1 H' sm ⟨T2, T1.newT, T1.newL⟩⟩
theorem ok_tightened {f : Addr} {fd : FuncData} (F : Fun K "tightened" "tightened" s_tightened f fd) (m : mg "tightened" = some (.ref f)) (B : Bl4 mg) (D_linked_through_all : Def P w K mg base CX0 "linked_through_all" 4 ["table"] (sp_linked_through_all K)) (D_half : Def P w K mg base CX0 "half" 1 ["entry"] (sp_half K)) (D_row_within_halves : Def P w K mg base CX0 "row_within_halves" 2 ["row", "own_half", "halves"] (sp_row_within_halves K)) (D_below : Def P w K mg base CX0 "below" 1 ["entry", "number"] (sp_below K)) (D_summed : Def P w K mg base CX0 "summed" 1 ["one", "other"] (sp_summed K)) (D_flipped : Def P w K mg base CX0 "flipped" 1 ["f"] (sp_flipped K)) : Def P w K mg base CX0 "tightened" 5 ["table"] (sp_tightened K) := by
 refine ⟨f, fd, F.ok sc_tightened (fun vs H Q E h => ?_) (fun cdv A outer s H vs Q E hr h => ?_), F.binds (ps := ["table"]) fun _ _ _ _ _ _ us hl => (by obtain ⟨b0, rfl⟩ := us1 hl; rfl), F.kp, m⟩
 · obtain ⟨a, bs, n, c, rfl, _⟩ := h
   rfl
 obtain ⟨a, bs, n, c, rfl, T, hn, hd, q⟩ := h
 refine ⟨_, (@pss_cons _ _ _ _ _ (ps_sz 1 sc_tightened.nd (pe_dz D_linked_through_all hr (pa_Name (pv 0) pa_nil)))
  (@pss_cons _ _ _ _ _ (ps_sz 2 sc_tightened.nd (pe_comp1 (CompScope1.of (M := ["table", "whole", "halves", "?f"]) (by decide +kernel) (by rfl)) rfl (pi_range1 (by rfl) B.range (pa_Call (pe_callB (call_lenK (K := K) rfl) (by rfl) B.len (by decide +kernel) (pa_Name (pv 1) pa_nil)) pa_nil)) (fun _ _ _ => (pe_dz D_half hr (pa_Subscript (pe_xL (K := K) (pe_xL (K := K) (pv 2) (pv 0)) (pv 0)) pa_nil)))))
  (@pss_cons _ _ _ _ _ (ps_for PassesOwn.never rfl (pi_range1 (by rfl) B.range (pa_Call (pe_callB (call_lenK (K := K) rfl) (by rfl) B.len (by decide +kernel) (pa_Name (pv 1) pa_nil)) pa_nil)) (pg_nz 3 sc_tightened.nd) (pss_one (ps_if (pw_or (pt_cmpR op_lt (pe_xL (K := K) (pe_xL (K := K) (pv 1) (pv 3)) (pe_dz D_flipped hr (pa_Name (pv 3) pa_nil))) pe_int (nomark _)) (pw_or1 (pt_val (pe_dz D_below hr (pa_Call (pe_dz D_summed hr (pa_Subscript (pe_xL (K := K) (pv 2) (pv 3)) (pa_Subscript (pe_xL (K := K) (pv 2) (pe_dz D_flipped hr (pa_Name (pv 3) pa_nil))) pa_nil))) (pa_Constant pe_int pa_nil)))))).pt (pss_one (ps_ret pe_non)) pss_nil)))
  (pss_one (ps_ret (pe_comp2K (K := K) rfl (CompScope2.of (M := ["table", "whole", "halves", "?f"]) (by decide +kernel) (by rfl)) rfl (pi_enumK (K := K) rfl (by rfl) B.enumerate (pa_Name (pv 1) pa_nil)) (fun _ _ _ => (pe_dz D_row_within_halves hr (pa_Name (pv 1) (pa_Subscript (pe_xL (K := K) (pv 4) (pv 0)) (pa_Name (pv 4) pa_nil))))))))))), ?_⟩
 refine seq_step fun U hU => ?_
 refine ⟨_, rfl, a, bs, n, c, rfl, T, hn, fun p bs1 H1 sm1 T1 => ?_⟩
 show U _ _
 subst hU
 have hd1 : ∀ f, f < 2 * n -> ∃ z : Int, Oct.links c (Oct.hsOf (2 * n)) f (Oct.fl f) = some z := fun f hf => by
  have l := Oct.leE_trans (Oct.links_le (Oct.hsOf (2 * n)) c f (Oct.fl f)) (hd f hf)
  revert l
  cases Oct.links c (Oct.hsOf (2 * n)) f (Oct.fl f) with
  | none => intro l; exact l.elim
  | some z => intro _; exact ⟨z, rfl⟩
 have hsh : Oct.shapeO (2 * n) c = if (List.range (2 * n)).any (Oct.badAt (Oct.links c (Oct.hsOf (2 * n)))) then none else some (Oct.strong (Oct.links c (Oct.hsOf (2 * n)))) := rfl
 rw [hsh] at q
 generalize Oct.links c (Oct.hsOf (2 * n)) = u at *
 have hL : (bs1.map V.ref).length = 2 * n := by rw [List.length_map, T1.lenN]
 refine seq_step fun U hU => ?_
 refine ⟨_, rfl, p, _, rfl, .inl (SqL.of T1.at_), ((bs1.map V.ref).length : Int), rfl, by omega, by omega, fun q1 hq1 => comp_range1 (lo := 0) (n := ((bs1.map V.ref).length : Int).toNat) (fun i ys H' => ys = (Oct.ln i (Oct.hv u)).map eV /\ H' q1 = some (.lst ys) /\ Same H1 H') ⟨rfl, upd_same, same_new hq1 _⟩ ?_ ?_⟩
 · rintro i ys H' hi ⟨rfl, hp', sm⟩
   have hi' : i < 2 * n := by omega
   have T2 := T1.same sm
   obtain ⟨b, eb, hb, ab⟩ := T2.rd hi'
   rw [Int.zero_add]
   refine ⟨_, rfl, _, rfl, p, _, _, _, rfl, rfl, SqL.of T2.at_, ab, _, rfl, b, _, _, _, rfl, rfl, SqL.of hb, ln_at hi', u i i, rfl, hp', by rw [ln_lenV]; exact small1000 (by omega), again hi ⟨ln_snocV i (Oct.hv u), upd_same, same_over hq1 sm⟩⟩
 · rintro ys H2 ⟨rfl, hq2, sm2⟩
   show U _ _
   subst hU
   have en : ((bs1.map V.ref).length : Int).toNat = 2 * n := by omega
   rw [en] at hq2
   have T2 := T1.same sm2
   have sm := sm1.trans sm2
   have sqh : SqL K H2 q1 ((Oct.ln (2 * n) (Oct.hv u)).map eV) := SqL.of hq2
   refine seq_step fun U hU => ?_
   refine ⟨_, rfl, p, _, rfl, .inl (SqL.of T2.at_), ((bs1.map V.ref).length : Int), rfl, by omega, by omega, for_range (lo := 0) (n := ((bs1.map V.ref).length : Int).toNat) (fun i σ H' => ∃ v, σ = [some (.ref a), some (.ref p), some (.ref q1), v] /\ H' = H2 /\ ∀ f, f < i -> Oct.badAt u f = false) ⟨none, rfl, rfl, fun f hf => absurd hf (Nat.not_lt_zero f)⟩ ?_ ?_⟩
   · rintro i σ H' hi ⟨v, rfl, rfl, hb0⟩
     have hi' : i < 2 * n := by omega
     have hfi : Oct.fl i < 2 * n := Oct.fl_lt hi'
     obtain ⟨z, ez⟩ := hd1 i hi'
     obtain ⟨b, eb, hb, ab⟩ := T2.rd hi'
     have bad : Oct.badAt u i = true -> ShapeNew H H' .non (2 * n) (if (List.range (2 * n)).any (Oct.badAt u) then none else some (Oct.strong u)) := fun h => by
      rw [if_pos (List.any_eq_true.mpr ⟨i, List.mem_range.mpr hi', h⟩)]
      rfl
     rw [Int.zero_add]
     refine ⟨_, rfl, _, rfl, p, _, _, _, rfl, rfl, SqL.of T2.at_, ab, _, rfl, (i : Int), rfl, b, _, _, eV (u i (Oct.fl i)), rfl, rfl, SqL.of hb, by rw [flip_nat]; exact ln_at hfi, z, 0, by rw [ez]; rfl, rfl, _, rfl, ?_⟩
     refine ite2 (fun h => ?_) (fun h => ?_)
     · refine iteT ?_
       refine q _ _ sm (bad ?_)
       unfold Oct.badAt
       rw [ez]
       simp only [Oct.neg0, h, Bool.true_or]
     · refine ⟨_, rfl, _, rfl, q1, _, _, _, rfl, rfl, sqh, ln_at hi', _, rfl, _, rfl, (i : Int), rfl, q1, _, _, _, rfl, rfl, sqh, by rw [flip_nat]; exact ln_at hfi, Oct.hv u i, Oct.hv u (Oct.fl i), rfl, Oct.addE (Oct.hv u i) (Oct.hv u (Oct.fl i)), 0, rfl, _, rfl, ?_⟩
       have eb2 : Oct.badAt u i = belowE (Oct.addE (Oct.hv u i) (Oct.hv u (Oct.fl i))) 0 := by
        unfold Oct.badAt
        rw [ez, belowE_neg0]
        have : decide (z < 0) = false := by simpa using h
        simp only [Oct.neg0, this, Bool.false_or]
       cases hbb : belowE (Oct.addE (Oct.hv u i) (Oct.hv u (Oct.fl i))) 0 with
       | true =>
        refine iteT ?_
        exact q _ _ sm (bad (eb2.trans hbb))
       | false =>
        refine iteF ?_
        refine ⟨_, rfl, rfl, fun f hf => ?_⟩
        by_cases hfi : f = i
        · subst hfi; exact eb2.trans hbb
        · exact hb0 f (by omega)
   · rintro σ H' ⟨v, rfl, rfl, hb0⟩
     show U _ _
     subst hU
     have nb : (List.range (2 * n)).any (Oct.badAt u) = false := by
      rw [List.any_eq_false]
      intro f hf
      have := hb0 f (by have := List.mem_range.mp hf; omega)
      simp [this]
     rw [nb] at q
     refine ⟨_, rfl, p, rfl, ⟨_, SqL.of T2.at_⟩, fun l hl => comp_enumN (K := K) (a := p) (xs := bs1.map V.ref) (fun i ys H3 => Grow H' H3 l ys (Oct.rows i (2 * n) (Oct.strong u))) (Grow.start hl) (fun i ys H3 _ G => G.same.seq (SqL.of T2.at_)) ?_ ?_⟩
     · rintro i x ys H3 H4 hx G sm4
       have s4 := G.same.trans sm4
       have T4 := T2.same s4
       obtain ⟨hi, b, rfl, eb, hb⟩ := T4.rowN hx
       have sqh4 := s4.seq sqh
       refine ⟨_, rfl, _, rfl, _, rfl, q1, _, _, _, rfl, rfl, sqh4, ln_at hi, _, rfl, b, Oct.hv u i, q1, 2 * n, u i, Oct.hv u, rfl, SqL.of hb, sqh4, by omega, fun l2 H5 hl2 sm5 el => ?_⟩
       have e1 : (fun g => Oct.minE (u i g) (Oct.addE (Oct.hv u i) (Oct.hv u g))) = Oct.strong u i := by
        funext g; exact Oct.strong_eq u i g
       rw [e1] at el
       have st := G.step (sm4.free hl2) (sm4.trans sm5) el
       have hlt : i < (bs1.map V.ref).length := (List.getElem?_eq_some_iff.mp hx).1
       refine ⟨st.1, by rw [G.len, Oct.rows_len]; exact small1000 (by omega), again hlt ?_⟩
       rw [Oct.rows_succ]
       exact st.2
     · rintro ys H3 ⟨bs', rfl, T3, sm3⟩
       rw [hL] at T3
       exact q _ _ (sm.trans sm3) ⟨l, bs', rfl, T3.of sm⟩
theorem ok_row_within_halves {f : Addr} {fd : FuncData} (F : Fun K "row_within_halves" "row_within_halves" s_row_within_halves f fd) (m : mg "row_within_halves" = some (.ref f)) (B : Bl4 mg) (D_lesser : Def P w K mg base CX0 "lesser" 1 ["one", "other"] (sp_lesser K)) (D_summed : Def P w K mg base CX0 "summed" 1 ["one", "other"] (sp_summed K)) : Def P w K mg base CX0 "row_within_halves" 2 ["row", "own_half", "halves"] (sp_row_within_halves K) := by
 refine ⟨f, fd, F.ok sc_row_within_halves (fun vs H Q E h => ?_) (fun cdv A outer s H vs Q E hr h => ?_), F.binds (ps := ["row", "own_half", "halves"]) fun _ _ _ _ _ _ us hl => (by obtain ⟨b0, b1, b2, rfl⟩ := us3 hl; rfl), F.kp, m⟩
 · obtain ⟨a, e, b, N, r, o, rfl, _⟩ := h
   rfl
 obtain ⟨a, e, b, N, r, o, rfl, hA, hB, hN, q⟩ := h
 refine ⟨_, (pss_one (ps_ret (pe_comp2K (K := K) rfl (CompScope2.of (M := ["row", "own_half", "halves"]) sc_row_within_halves.nd (by rfl)) rfl (pi_zipK (K := K) rfl (by rfl) B.zip (pa_Name (pv 0) (pa_Name (pv 2) pa_nil))) (fun _ _ _ => (pe_dz D_lesser hr (pa_Name (pv 0) (pa_Call (pe_dz D_summed hr (pa_Name (pv 3) (pa_Name (pv 1) pa_nil))) pa_nil))))))), ?_⟩
 refine ⟨_, rfl, _, rfl, a, b, rfl, ⟨_, hA⟩, ⟨_, hB⟩, fun p hp => comp_zipN (K := K) (a := a) (b := b) (xs := (Oct.ln N r).map eV) (zs := (Oct.ln N o).map eV) (by rw [ln_lenV, ln_lenV]) (fun i ys H' => ys = (Oct.ln i fun g => Oct.minE (r g) (Oct.addE e (o g))).map eV /\ H' p = some (.lst ys) /\ Same H H') ⟨rfl, upd_same, same_new hp _⟩ (fun i ys H' _ ⟨_, _, sm⟩ => ⟨sm.seq hA, sm.seq hB⟩) ?_ ?_⟩
 · rintro i x z ys H' H1 hx hz ⟨rfl, hp', sm⟩ sm1
   obtain ⟨hi, rfl⟩ := ln_item hx
   obtain ⟨_, rfl⟩ := ln_item hz
   refine ⟨_, rfl, _, rfl, _, rfl, e, o i, rfl, r i, Oct.addE e (o i), rfl, sm1 _ _ hp', by rw [ln_lenV]; exact small1000 (by omega), ?_⟩
   rw [ln_lenV]
   exact again hi ⟨ln_snocV i (fun g => Oct.minE (r g) (Oct.addE e (o g))), upd_same, same_over hp (sm.trans sm1)⟩
 · rintro ys H' ⟨rfl, hp', sm⟩
   rw [ln_lenV] at hp'
   exact q p H' hp sm hp'
theorem ok_linked_through_all {f : Addr} {fd : FuncData} (F : Fun K "linked_through_all" "linked_through_all" s_linked_through_all f fd) (m : mg "linked_through_all" = some (.ref f)) (B : Bl4 mg) (D_linked_through : Def P w K mg base CX0 "linked_through" 3 ["table", "m"] (sp_linked_through K)) : Def P w K mg base CX0 "linked_through_all" 4 ["table"] (sp_linked_through_all K) := by
 refine ⟨f, fd, F.ok sc_linked_through_all (fun vs H Q E h => ?_) (fun cdv A outer s H vs Q E hr h => ?_), F.binds (ps := ["table"]) fun _ _ _ _ _ _ us hl => (by obtain ⟨b0, rfl⟩ := us1 hl; rfl), F.kp, m⟩
 · obtain ⟨a, bs, n, c, rfl, _⟩ := h
   rfl
 obtain ⟨a, bs, n, c, rfl, T, hn, q⟩ := h
 refine ⟨_, (@pss_cons _ _ _ _ _ (ps_sz 1 sc_linked_through_all.nd (pv 0))
  (@pss_cons _ _ _ _ _ (ps_for PassesOwn.never rfl (pi_range1 (by rfl) B.range (pa_Call (pe_callB (call_lenK (K := K) rfl) (by rfl) B.len (by decide +kernel) (pa_Name (pv 0) pa_nil)) pa_nil)) (pg_nz 2 sc_linked_through_all.nd) (pss_one (ps_sz 1 sc_linked_through_all.nd (pe_dz D_linked_through hr (pa_Name (pv 1) (pa_Name (pv 2) pa_nil))))))
  (pss_one (ps_ret (pv 1))))), ?_⟩
 refine seq_step fun U hU => ?_
 refine ⟨_, rfl, ?_⟩
 show U _ _
 subst hU
 have hL : (bs.map V.ref).length = 2 * n := by rw [List.length_map, T.lenN]
 refine seq_step fun U hU => ?_
 refine ⟨_, rfl, a, _, rfl, .inl (SqL.of T.at_), ((bs.map V.ref).length : Int), rfl, by omega, by omega, for_range (lo := 0) (n := ((bs.map V.ref).length : Int).toNat) (fun i σ H' => ∃ v p bs', σ = [some (.ref a), some (.ref p), v] /\ Same H H' /\ TabAt H' p bs' (Oct.toT (2 * n) (Oct.links c (Oct.hsOf i)))) ⟨none, a, bs, rfl, Same.refl _, T⟩ ?_ ?_⟩
 · rintro i σ H' hi ⟨v, p, bs', rfl, sm, T'⟩
   have hi' : i < 2 * n := by omega
   refine ⟨_, rfl, _, rfl, p, bs', 2 * n, Oct.links c (Oct.hsOf i), i, by simp, T', by omega, hi', Oct.fl_lt hi', fun p2 bs2 H2 sm2 N2 => ?_⟩
   refine ⟨_, p2, bs2, rfl, sm.trans sm2, ?_⟩
   rw [hsOf_succ, links_snoc]
   exact N2.tab
 · rintro σ H' ⟨v, p, bs', rfl, sm, T'⟩
   show U _ _
   subst hU
   have e : ((bs.map V.ref).length : Int).toNat = 2 * n := by omega
   rw [e] at T'
   exact ⟨_, rfl, q p bs' H' sm T'⟩
theorem ok_linked_through {f : Addr} {fd : FuncData} (F : Fun K "linked_through" "linked_through" s_linked_through f fd) (m : mg "linked_through" = some (.ref f)) (B : Bl4 mg) (D_linked_row : Def P w K mg base CX0 "linked_row" 2 ["row", "ahead", "onward"] (sp_linked_row K)) (D_flipped : Def P w K mg base CX0 "flipped" 1 ["f"] (sp_flipped K)) : Def P w K mg base CX0 "linked_through" 3 ["table", "m"] (sp_linked_through K) := by
 refine ⟨f, fd, F.ok sc_linked_through (fun vs H Q E h => ?_) (fun cdv A outer s H vs Q E hr h => ?_), F.binds (ps := ["table", "m"]) fun _ _ _ _ _ _ us hl => (by obtain ⟨b0, b1, rfl⟩ := us2 hl; rfl), F.kp, m⟩
 · obtain ⟨a, bs, N, c, m1, rfl, _⟩ := h
   rfl
 obtain ⟨a, bs, N, c, m1, rfl, T, hN, hm, hfm, q⟩ := h
 refine ⟨_, (pss_one (ps_ret (pe_comp (CompScope.of sc_linked_through.nd (by rfl)) rfl (pi_listK (K := K) rfl (pv 0)) (fun _ _ _ => pif_nil) (fun _ _ _ => (pe_dz D_linked_row hr (pa_Name (pv 0) (pa_Subscript (pe_xL (K := K) (pv 0) (pe_dz D_flipped hr (pa_Name (pv 2) pa_nil))) (pa_Subscript (pe_xL (K := K) (pv 1) (pv 2)) pa_nil)))))))), ?_⟩
 refine ⟨_, rfl, a, rfl, ⟨_, SqL.of T.at_⟩, fun p hp => comp_listN (K := K) (a := a) (xs := bs.map V.ref) (fun i ys H' => Grow H H' p ys (Oct.rows i N (Oct.lnk c (Oct.fl m1)))) (Grow.start hp) (fun i ys H' _ G => G.same.seq (SqL.of T.at_)) ?_ ?_⟩
 · rintro i x ys H' hx G
   have T' := T.same G.same
   obtain ⟨hi, b, rfl, eb, hb⟩ := T'.rowN hx
   obtain ⟨d, ed, hd, ad⟩ := T'.rd hm
   simp only [tYes, ↓reduceIte]
   refine ⟨_, rfl, _, rfl, _, rfl, (m1 : Int), rfl, b, _, _, _, rfl, rfl, SqL.of hb, by rw [flip_nat]; exact ln_at hfm, _, rfl, _, rfl, a, _, _, _, rfl, rfl, SqL.of T'.at_, ad, b, c i (Oct.fl m1), d, N, c i, c m1, rfl, SqL.of hb, SqL.of hd, hN, fun l H2 hl sm el => ?_⟩
   have e1 : (fun g => Oct.minE (c i g) (Oct.addE (c i (Oct.fl m1)) (c m1 g))) = Oct.lnk c (Oct.fl m1) i := by
    funext g; unfold Oct.lnk; rw [Oct.fl_fl]
   rw [e1] at el
   have st := G.step hl sm el
   have hlt : i < (bs.map V.ref).length := (List.getElem?_eq_some_iff.mp hx).1
   refine ⟨st.1, by rw [G.len, Oct.rows_len]; exact small1000 (by omega), again hlt ?_⟩
   rw [Oct.rows_succ]
   exact st.2
 · rintro ys H' ⟨bs', rfl, T', sm⟩
   rw [List.length_map, T.lenN] at T'
   exact q p bs' H' sm T'
theorem ok_linked_row {f : Addr} {fd : FuncData} (F : Fun K "linked_row" "linked_row" s_linked_row f fd) (m : mg "linked_row" = some (.ref f)) (B : Bl4 mg) (D_lesser : Def P w K mg base CX0 "lesser" 1 ["one", "other"] (sp_lesser K)) (D_summed : Def P w K mg base CX0 "summed" 1 ["one", "other"] (sp_summed K)) : Def P w K mg base CX0 "linked_row" 2 ["row", "ahead", "onward"] (sp_linked_row K) := by
 refine ⟨f, fd, F.ok sc_linked_row (fun vs H Q E h => ?_) (fun cdv A outer s H vs Q E hr h => ?_), F.binds (ps := ["row", "ahead", "onward"]) fun _ _ _ _ _ _ us hl => (by obtain ⟨b0, b1, b2, rfl⟩ := us3 hl; rfl), F.kp, m⟩
 · obtain ⟨a, e, b, N, r, o, rfl, _⟩ := h
   rfl
 obtain ⟨a, e, b, N, r, o, rfl, hA, hB, hN, q⟩ := h
 refine ⟨_, (pss_one (ps_ret (pe_comp2K (K := K) rfl (CompScope2.of (M := ["row", "ahead", "onward"]) sc_linked_row.nd (by rfl)) rfl (pi_zipK (K := K) rfl (by rfl) B.zip (pa_Name (pv 0) (pa_Name (pv 2) pa_nil))) (fun _ _ _ => (pe_dz D_lesser hr (pa_Name (pv 0) (pa_Call (pe_dz D_summed hr (pa_Name (pv 3) (pa_Name (pv 1) pa_nil))) pa_nil))))))), ?_⟩
 refine ⟨_, rfl, _, rfl, a, b, rfl, ⟨_, hA⟩, ⟨_, hB⟩, fun p hp => comp_zipN (K := K) (a := a) (b := b) (xs := (Oct.ln N r).map eV) (zs := (Oct.ln N o).map eV) (by rw [ln_lenV, ln_lenV]) (fun i ys H' => ys = (Oct.ln i fun g => Oct.minE (r g) (Oct.addE e (o g))).map eV /\ H' p = some (.lst ys) /\ Same H H') ⟨rfl, upd_same, same_new hp _⟩ (fun i ys H' _ ⟨_, _, sm⟩ => ⟨sm.seq hA, sm.seq hB⟩) ?_ ?_⟩
 · rintro i x z ys H' H1 hx hz ⟨rfl, hp', sm⟩ sm1
   obtain ⟨hi, rfl⟩ := ln_item hx
   obtain ⟨_, rfl⟩ := ln_item hz
   refine ⟨_, rfl, _, rfl, _, rfl, e, o i, rfl, r i, Oct.addE e (o i), rfl, sm1 _ _ hp', by rw [ln_lenV]; exact small1000 (by omega), ?_⟩
   rw [ln_lenV]
   exact again hi ⟨ln_snocV i (fun g => Oct.minE (r g) (Oct.addE e (o g))), upd_same, same_over hp (sm.trans sm1)⟩
 · rintro ys H' ⟨rfl, hp', sm⟩
   rw [ln_lenV] at hp'
   exact q p H' hp sm hp'
theorem ok_some_point {f : Addr} {fd : FuncData} (F : Fun K "some_point" "some_point" s_some_point f fd) (m : mg "some_point" = some (.ref f)) (B : Bl4 mg) (D_some_worth : Def P w K mg base CX0 "some_worth" 2 ["shape", "f"] (sp_some_worth K)) (D_fixed : Def P w K mg base CX0 "fixed" 7 ["shape", "f", "number"] (sp_fixed K)) : Def P w K mg base CX0 "some_point" 8 ["shape"] (sp_some_point K) := by
 refine ⟨f, fd, F.ok sc_some_point (fun vs H Q E h => ?_) (fun cdv A outer s H vs Q E hr h => ?_), F.binds (ps := ["shape"]) fun _ _ _ _ _ _ us hl => (by obtain ⟨b0, rfl⟩ := us1 hl; rfl), F.kp, m⟩
 · obtain ⟨v, n, o, rfl, _⟩ := h
   rfl
 obtain ⟨v, n, o, rfl, hV, hSh, hn, q0, q⟩ := h
 refine ⟨_, (@pss_cons _ _ _ _ _ (ps_if (pt_cmpR op_isN (pv 0) pe_non (nomark _)) (pss_one (ps_ret pe_non)) pss_nil)
  (@pss_cons _ _ _ _ _ (ps_sz 1 sc_some_point.nd (pv 0))
  (@pss_cons _ _ _ _ _ (ps_sz 2 sc_some_point.nd (pe_lst pa_nil))
  (@pss_cons _ _ _ _ _ (ps_for PassesOwn.never rfl (pi_range1 (by rfl) B.range (pa_BinOp (pe_op op_fdiv (pe_callB (call_lenK (K := K) rfl) (by rfl) B.len (by decide +kernel) (pa_Name (pv 0) pa_nil)) pe_int) pa_nil)) (pg_nz 3 sc_some_point.nd) (@pss_cons _ _ _ _ _ (ps_sz 4 sc_some_point.nd (pe_dz D_some_worth hr (pa_Name (pv 1) (pa_BinOp (pe_op op_mul pe_int (pv 3)) pa_nil))))
  (@pss_cons _ _ _ _ _ (ps_sz 1 sc_some_point.nd (pe_dz D_fixed hr (pa_Name (pv 1) (pa_BinOp (pe_op op_mul pe_int (pv 3)) (pa_Name (pv 4) pa_nil)))))
  (pss_one (ps_expr (pe_bm PySem.F.plainAttrs_list PySem.F.slot_list_append PySem.F.type_list_append mt_append (pv 2) (pa_Name (pv 4) pa_nil)))))))
  (pss_one (ps_ret (pe_callTy (call_tuple_ofK (K := K) rfl) (by rfl) B.tuple (by decide +kernel) (pa_Name (pv 2) pa_nil)))))))), ?_⟩
 refine seq_step fun U hU => ?_
 cases o with
 | none =>
  cases hV
  refine ⟨_, rfl, rfl, _, rfl, ?_⟩
  refine iteT ?_
  exact q0 rfl _ (Same.refl H)
 | some c =>
  obtain ⟨a, bs, rfl, T⟩ := hV
  refine ⟨_, rfl, rfl, _, rfl, ?_⟩
  refine iteF ?_
  show U _ _
  subst hU
  refine seq_step fun U hU => ?_
  refine ⟨_, rfl, ?_⟩
  show U _ _
  subst hU
  refine seq_step fun U hU => ?_
  refine ⟨sz 0, fun p hp => ?_⟩
  show U _ _
  subst hU
  have s0 := same_new hp (.lst [])
  have hL : (bs.map V.ref).length = 2 * n := by rw [List.length_map, T.lenN]
  refine seq_step fun U hU => ?_
  refine ⟨_, rfl, a, _, rfl, .inl (s0.seq (SqL.of T.at_)), _, _, rfl, rfl, ⟨by decide, by decide⟩, (((bs.map V.ref).length : Int) / 2), rfl, by omega, by omega, for_range (lo := 0) (n := (((bs.map V.ref).length : Int) / 2).toNat) (fun k σ H' => ∃ (x y : Option V) (la : Addr) (lbs : List Addr) (lc : Tb) (nums : List Int), σ = [some (.ref a), some (.ref la), some (.ref p), x, y] /\ Same H H' /\ H' p = some (.lst (nums.map V.int)) /\ nums.length = k /\ TabAt H' la lbs (Oct.toT (2 * n) lc) /\ Oct.Shp lc (2 * n) /\ Oct.Le lc c (2 * n) /\ ∀ j, j < k -> Oct.leE (lc (2 * j) (2 * j)) (some (2 * nums.getD j 0)) /\ Oct.leE (lc (2 * j + 1) (2 * j + 1)) (some (-2 * nums.getD j 0)))
   ⟨none, none, a, bs, c, [], rfl, s0, upd_same, rfl, T.same s0, hSh, Oct.Le.refl _ _, fun j hj => absurd hj (Nat.not_lt_zero j)⟩ ?_ ?_⟩
  · rintro k σ H1 hk ⟨x, y, la, lbs, lc, nums, rfl, sm1, hp1, ln1, T1, S1, L1, hj1⟩
    have hk' : k < n := by omega
    have h2k : 2 * k < 2 * n := by omega
    rw [Int.zero_add]
    refine seq_step fun U hU => ?_
    refine ⟨_, rfl, _, rfl, _, _, rfl, rfl, .inl ⟨by decide, by decide⟩, la, lbs, n, lc, 2 * k, by simp, T1, h2k, ?_⟩
    show U _ _
    subst hU
    obtain ⟨z1, z2⟩ := Oct.worthO_ok S1 h2k
    obtain ⟨s, es, Ss, Ls, l1, l2⟩ := Oct.fix_some S1 h2k z1 z2
    generalize Oct.worthO lc (2 * k) = z at *
    refine seq_step fun U hU => ?_
    refine ⟨_, rfl, _, rfl, _, _, rfl, rfl, .inl ⟨by decide, by decide⟩, _, rfl, la, lbs, n, lc, 2 * k, z, by simp, T1, shp_diag S1, h2k, hn, fun u H2 sm2 N2 => ?_⟩
    rw [es] at N2
    obtain ⟨lb, lbs2, rfl, N2⟩ := N2
    show U _ _
    subst hU
    refine ⟨_, rfl, .inl ⟨rfl, _, SqL.of (sm2 _ _ hp1)⟩, _, rfl, p, _, _, rfl, rfl, sm2 _ _ hp1, by rw [List.length_map, ln1]; exact small1000 (by omega), ?_⟩
    have np : p ≠ lb /\ p ∉ lbs2 := N2.off hp1
    refine ⟨_, _, lb, lbs2, s, nums ++ [z], rfl, same_over hp (sm1.trans sm2), by rw [upd_same]; simp, by simp [ln1], N2.tab.other np.1 np.2, Ss, Ls.trans L1, fun j hj => ?_⟩
    by_cases hjk : j = k
    · subst hjk
      rw [show (nums ++ [z]).getD j 0 = z by rw [List.getD_eq_getElem?_getD, List.getElem?_append_right (by omega), ln1]; simp]
      have e1 : Oct.fl (2 * j) = 2 * j + 1 := by unfold Oct.fl; rw [if_pos (by omega)]
      rw [e1] at l2
      exact ⟨l1, l2⟩
    · rw [show (nums ++ [z]).getD j 0 = nums.getD j 0 by rw [List.getD_eq_getElem?_getD, List.getD_eq_getElem?_getD, List.getElem?_append_left (by omega)]]
      obtain ⟨b1, b2⟩ := hj1 j (by omega)
      exact ⟨Oct.leE_trans (Ls _ _ (by omega) (by omega)) b1, Oct.leE_trans (Ls _ _ (by omega) (by omega)) b2⟩
  · rintro σ H1 ⟨x, y, la, lbs, lc, nums, rfl, sm1, hp1, ln1, T1, S1, L1, hj1⟩
    show U _ _
    subst hU
    have en : (((bs.map V.ref).length : Int) / 2).toNat = n := by omega
    rw [en] at ln1 hj1
    refine ⟨_, rfl, p, _, rfl, .inl ⟨SqL.of hp1, fun l hl => ?_⟩⟩
    have li : Oct.Lies (wN nums) lc (2 * n) := Oct.held_point S1 (wN_pt nums _) fun k hk => by rw [wN_even]; exact hj1 k hk
    exact q c rfl nums l _ ln1 (li.trans L1) (sm1.trans (same_new hl _)) (sm1.free hl) upd_same
theorem ok_some_worth {f : Addr} {fd : FuncData} (F : Fun K "some_worth" "some_worth" s_some_worth f fd) (m : mg "some_worth" = some (.ref f)) (B : Bl4 mg) (D_half : Def P w K mg base CX0 "half" 1 ["entry"] (sp_half K)) (D_flipped : Def P w K mg base CX0 "flipped" 1 ["f"] (sp_flipped K)) : Def P w K mg base CX0 "some_worth" 2 ["shape", "f"] (sp_some_worth K) := by
 refine ⟨f, fd, F.ok sc_some_worth (fun vs H Q E h => ?_) (fun cdv A outer s H vs Q E hr h => ?_), F.binds (ps := ["shape", "f"]) fun _ _ _ _ _ _ us hl => (by obtain ⟨b0, b1, rfl⟩ := us2 hl; rfl), F.kp, m⟩
 · obtain ⟨a, bs, n, c, f1, rfl, _⟩ := h
   rfl
 obtain ⟨a, bs, n, c, f1, rfl, T, hf, q⟩ := h
 refine ⟨_, (@pss_cons _ _ _ _ _ (ps_sz 2 sc_some_worth.nd (pe_dz D_half hr (pa_Subscript (pe_xL (K := K) (pe_xL (K := K) (pv 0) (pv 1)) (pv 1)) pa_nil)))
  (@pss_cons _ _ _ _ _ (ps_if (pt_cmpR op_notN (pv 2) pe_non (nomark _)) (pss_one (ps_ret (pv 2))) pss_nil)
  (@pss_cons _ _ _ _ _ (ps_sz 3 sc_some_worth.nd (pe_dz D_half hr (pa_Subscript (pe_xL (K := K) (pe_xL (K := K) (pv 0) (pe_dz D_flipped hr (pa_Name (pv 1) pa_nil))) (pe_dz D_flipped hr (pa_Name (pv 1) pa_nil))) pa_nil)))
  (@pss_cons _ _ _ _ _ (ps_if (pt_cmpR op_notN (pv 3) pe_non (nomark _)) (pss_one (ps_ret (pe_un un_neg (pv 3)))) pss_nil)
  (pss_one (ps_ret pe_int)))))), ?_⟩
 obtain ⟨d, ed, hd, ad⟩ := T.rd hf
 have hff : Oct.fl f1 < 2 * n := Oct.fl_lt hf
 obtain ⟨d2, ed2, hd2, ad2⟩ := T.rd hff
 have sq := SqL.of (K := K) T.at_
 refine seq_step fun U hU => ?_
 refine ⟨_, rfl, _, rfl, a, _, _, _, rfl, rfl, sq, ad, _, rfl, d, _, _, _, rfl, rfl, SqL.of hd, ln_at hf, c f1 f1, rfl, ?_⟩
 show U _ _
 subst hU
 refine seq_step fun U hU => ?_
 refine ⟨_, rfl, rfl, _, rfl, ?_⟩
 unfold Oct.worthO Oct.hv at q
 cases e1 : Oct.hlf (c f1 f1) with
 | some m =>
  rw [e1] at q
  refine iteT ?_
  exact ⟨_, rfl, q⟩
 | none =>
  rw [e1] at q
  refine iteF ?_
  show U _ _
  subst hU
  refine seq_step fun U hU => ?_
  refine ⟨_, rfl, _, rfl, (f1 : Int), rfl, a, _, _, _, rfl, rfl, sq, by rw [flip_nat]; exact ad2, _, rfl, (f1 : Int), rfl, d2, _, _, _, rfl, rfl, SqL.of hd2, by rw [flip_nat]; exact ln_at hff, c (Oct.fl f1) (Oct.fl f1), rfl, ?_⟩
  show U _ _
  subst hU
  refine seq_step fun U hU => ?_
  refine ⟨_, rfl, rfl, _, rfl, ?_⟩
  cases e2 : Oct.hlf (c (Oct.fl f1) (Oct.fl f1)) with
  | some m =>
   rw [e2] at q
   refine iteT ?_
   exact ⟨_, rfl, _, rfl, q⟩
  | none =>
   rw [e2] at q
   refine iteF ?_
   show U _ _
   subst hU
   exact q
theorem ok_fixed {f : Addr} {fd : FuncData} (F : Fun K "fixed" "fixed" s_fixed f fd) (m : mg "fixed" = some (.ref f)) (B : Bl4 mg) (D_held_by_all : Def P w K mg base CX0 "held_by_all" 6 ["shape", "sides"] (sp_held_by_all K)) (D_flipped : Def P w K mg base CX0 "flipped" 1 ["f"] (sp_flipped K)) : Def P w K mg base CX0 "fixed" 7 ["shape", "f", "number"] (sp_fixed K) := by
 refine ⟨f, fd, F.ok sc_fixed (fun vs H Q E h => ?_) (fun cdv A outer s H vs Q E hr h => ?_), F.binds (ps := ["shape", "f", "number"]) fun _ _ _ _ _ _ us hl => (by obtain ⟨b0, b1, b2, rfl⟩ := us3 hl; rfl), F.kp, m⟩
 · obtain ⟨a, bs, n, c, f1, z, rfl, _⟩ := h
   rfl
 obtain ⟨a, bs, n, c, f1, z, rfl, T, hD, hf, hn, q⟩ := h
 refine ⟨_, (pss_one (ps_ret (pe_dz D_held_by_all hr (pa_Name (pv 0) (pa_List (pe_lst (pa_Tuple (pe_tup (pa_Name (pv 1) (pa_Name (pv 1) (pa_BinOp (pe_op op_mul pe_int (pv 2)) pa_nil)))) (pa_Tuple (pe_tup (pa_Call (pe_dz D_flipped hr (pa_Name (pv 1) pa_nil)) (pa_Call (pe_dz D_flipped hr (pa_Name (pv 1) pa_nil)) (pa_BinOp (pe_op op_mul (pe_un un_neg pe_int) (pv 2)) pa_nil)))) pa_nil))) pa_nil))))), ?_⟩
 refine ⟨_, rfl, _, rfl, _, rfl, _, rfl, _, _, rfl, rfl, .inl ⟨by decide, by decide⟩, sz 3, fun t1 ht1 => ?_⟩
 have s1 := same_new ht1 (.tup [.int f1, .int f1, .int (2 * z)])
 refine ⟨_, rfl, (f1 : Int), rfl, _, rfl, (f1 : Int), rfl, _, rfl, _, rfl, _, _, rfl, rfl, .inl ⟨by decide, by decide⟩, sz 3, fun t2 ht2 => ?_⟩
 have s2 := same_new ht2 (.tup [.int (flipI f1), .int (flipI f1), .int (-2 * z)])
 refine ⟨sz 2, fun l hl => ?_⟩
 have s3 := same_new hl (.lst [.ref t1, .ref t2])
 have s := (s1.trans s2).trans s3
 refine ⟨.ref a, l, n, some c, [.ref t1, .ref t2], Oct.fixL f1 z, rfl, ⟨a, bs, rfl, T.same s⟩, hD, SqL.of upd_same, .cons ⟨t1, rfl, s3 _ _ (s2 _ _ upd_same)⟩ (.cons ⟨t2, rfl, s3 _ _ (by rw [upd_same, flip_nat]; rfl)⟩ .nil), fun x hx => ?_, hn, fun u H' sm N' => q u H' (s.trans sm) (N'.of s)⟩
 have : x = (f1, f1, 2 * z) \/ x = (Oct.fl f1, Oct.fl f1, -2 * z) := by simpa [Oct.fixL] using hx
 rcases this with e | e <;> subst e
 · exact ⟨hf, hf⟩
 · exact ⟨Oct.fl_lt hf, Oct.fl_lt hf⟩
theorem ok_greatest {f : Addr} {fd : FuncData} (F : Fun K "greatest" "greatest" s_greatest f fd) (m : mg "greatest" = some (.ref f)) (B : Bl4 mg) (D_half : Def P w K mg base CX0 "half" 1 ["entry"] (sp_half K)) : Def P w K mg base CX0 "greatest" 2 ["shape", "forms"] (sp_greatest K) := by
 refine ⟨f, fd, F.ok sc_greatest (fun vs H Q E h => ?_) (fun cdv A outer s H vs Q E hr h => ?_), F.binds (ps := ["shape", "forms"]) fun _ _ _ _ _ _ us hl => (by obtain ⟨b0, b1, rfl⟩ := us2 hl; rfl), F.kp, m⟩
 · obtain ⟨a, b, bs, n, c, fs, rfl, _⟩ := h
   rfl
 obtain ⟨a, b, bs, n, c, fs, rfl, T, hB, hin, h2, q⟩ := h
 refine ⟨_, (@pss_cons _ _ _ _ _ (ps_if (pt_cmpR op_eq (pe_callB (call_lenK (K := K) rfl) (by rfl) B.len (by decide +kernel) (pa_Name (pv 1) pa_nil)) pe_int (nomark _)) (pss_one (ps_ret pe_int)) pss_nil)
  (@pss_cons _ _ _ _ _ (ps_if (pt_cmpR op_eq (pe_callB (call_lenK (K := K) rfl) (by rfl) B.len (by decide +kernel) (pa_Name (pv 1) pa_nil)) pe_int (nomark _)) (pss_one (ps_ret (pe_dz D_half hr (pa_Subscript (pe_xL (K := K) (pe_xL (K := K) (pv 0) (pe_xL (K := K) (pv 1) pe_int)) (pe_xL (K := K) (pv 1) pe_int)) pa_nil)))) pss_nil)
  (@pss_cons _ _ _ _ _ (ps_if (pt_cmpR op_eq (pe_callB (call_lenK (K := K) rfl) (by rfl) B.len (by decide +kernel) (pa_Name (pv 1) pa_nil)) pe_int (nomark _)) (pss_one (ps_ret (pe_xL (K := K) (pe_xL (K := K) (pv 0) (pe_xL (K := K) (pv 1) pe_int)) (pe_xL (K := K) (pv 1) pe_int)))) pss_nil)
  pss_never))), ?_⟩
 have sq := SqL.of (K := K) T.at_
 have hl := fV_len fs
 refine seq_step fun U hU => ?_
 refine ⟨_, rfl, b, _, rfl, .inl hB, rfl, _, rfl, ?_⟩
 rw [hl]
 refine ite2 (fun h => ?_) (fun h => ?_)
 · have h0 : fs.length = 0 := by have := V.int.inj (of_decide_eq_true h); omega
   have : fs = [] := List.eq_nil_of_length_eq_zero h0
   subst this
   exact q
 show U _ _
 subst hU
 refine seq_step fun U hU => ?_
 refine ⟨_, rfl, b, _, rfl, .inl hB, rfl, _, rfl, ?_⟩
 rw [hl]
 refine ite2 (fun h1 => ?_) (fun h1 => ?_)
 · match fs, hin, hB, q, h1 with
   | [f1], hin, hB, q, _ =>
    have hf := hin f1 (by simp)
    obtain ⟨d, ed, hd, ad⟩ := T.rd hf
    exact ⟨_, rfl, _, rfl, b, _, 0, _, rfl, rfl, hB, rfl, a, _, _, _, rfl, rfl, sq, ad, _, rfl, b, _, 0, _, rfl, rfl, hB, rfl, d, _, _, _, rfl, rfl, SqL.of hd, ln_at hf, c f1 f1, rfl, q⟩
   | [], _, _, _, h1 => exact absurd h1 (by simp)
   | _ :: _ :: _, _, _, _, h1 => exact absurd h1 (by simp; omega)
 show U _ _
 subst hU
 refine seq_step fun U hU => ?_
 refine ⟨_, rfl, b, _, rfl, .inl hB, rfl, _, rfl, ?_⟩
 rw [hl]
 refine ite2 (fun h1 => ?_) (fun h3 => ?_)
 · match fs, hin, hB, q, h1 with
   | [f1, f2], hin, hB, q, _ =>
    have hf := hin f1 (by simp)
    have hg := hin f2 (by simp)
    obtain ⟨d, ed, hd, ad⟩ := T.rd hf
    exact ⟨_, rfl, _, rfl, b, _, 0, _, rfl, rfl, hB, rfl, a, _, _, _, rfl, rfl, sq, ad, _, rfl, b, _, 1, _, rfl, rfl, hB, rfl, d, _, _, _, rfl, rfl, SqL.of hd, ln_at hg, q⟩
   | [], _, _, _, h1 => exact absurd h1 (by simp)
   | [_], _, _, _, h1 => exact absurd h1 (by simp)
   | _ :: _ :: _ :: _, _, _, _, h1 => exact absurd h1 (by simp; omega)
 · exfalso
   have a0 : fs.length ≠ 0 := fun e => h (by rw [e]; simp)
   have a1 : fs.length ≠ 1 := fun e => h1 (by rw [e]; simp)
   have a2 : fs.length ≠ 2 := fun e => h3 (by rw [e]; simp)
   omega
theorem ok_reaching {f : Addr} {fd : FuncData} (F : Fun K "reaching" "reaching" s_reaching f fd) (m : mg "reaching" = some (.ref f)) (B : Bl4 mg) (D_without_flips : Def P w K mg base CX0 "without_flips" 2 ["forms"] (sp_without_flips K)) (D_below : Def P w K mg base CX0 "below" 1 ["entry", "number"] (sp_below K)) (D_some_point : Def P w K mg base CX0 "some_point" 8 ["shape"] (sp_some_point K)) (D_reaching_with_two : Def P w K mg base CX0 "reaching_with_two" 9 ["shape", "f", "g", "number"] (sp_reaching_with_two K)) (D_greatest : Def P w K mg base CX0 "greatest" 2 ["shape", "forms"] (sp_greatest K)) : Def P w K mg base CX0 "reaching" 10 ["shape", "forms", "number"] (sp_reaching K) := by
 refine ⟨f, fd, F.ok sc_reaching (fun vs H Q E h => ?_) (fun cdv A outer s H vs Q E hr h => ?_), F.binds (ps := ["shape", "forms", "number"]) fun _ _ _ _ _ _ us hl => (by obtain ⟨b0, b1, b2, rfl⟩ := us3 hl; rfl), F.kp, m⟩
 · obtain ⟨v, b, n, o, fs, m1, rfl, _⟩ := h
   rfl
 obtain ⟨v, b, n, o, fs, m1, rfl, hV, hSh, hB, hin, h2, hn, q0, q1, q2⟩ := h
 refine ⟨_, (@pss_cons _ _ _ _ _ (ps_if (pw_or (pt_cmpR op_isN (pv 0) pe_non (nomark _)) (pw_or1 (pt_val (pe_dz D_below hr (pa_Call (pe_dz D_greatest hr (pa_Name (pv 0) (pa_Name (pv 1) pa_nil))) (pa_Name (pv 2) pa_nil)))))).pt (pss_one (ps_ret pe_non)) pss_nil)
  (@pss_cons _ _ _ _ _ (ps_sz 3 sc_reaching.nd (pe_dz D_without_flips hr (pa_Name (pv 1) pa_nil)))
  (@pss_cons _ _ _ _ _ (ps_if (pt_cmpR op_eq (pe_callB (call_lenK (K := K) rfl) (by rfl) B.len (by decide +kernel) (pa_Name (pv 3) pa_nil)) pe_int (nomark _)) (pss_one (ps_ret (pe_dz D_some_point hr (pa_Name (pv 0) pa_nil)))) pss_nil)
  (@pss_cons _ _ _ _ _ (ps_if (pt_cmpR op_eq (pe_callB (call_lenK (K := K) rfl) (by rfl) B.len (by decide +kernel) (pa_Name (pv 3) pa_nil)) pe_int (nomark _)) (pss_one (ps_ret (pe_dz D_reaching_with_two hr (pa_Name (pv 0) (pa_Subscript (pe_xL (K := K) (pv 3) pe_int) (pa_Subscript (pe_xL (K := K) (pv 3) pe_int) (pa_BinOp (pe_op op_mul pe_int (pv 2)) pa_nil))))))) pss_nil)
  (@pss_cons _ _ _ _ _ (ps_if (pt_cmpR op_eq (pe_callB (call_lenK (K := K) rfl) (by rfl) B.len (by decide +kernel) (pa_Name (pv 3) pa_nil)) pe_int (nomark _)) (pss_one (ps_ret (pe_dz D_reaching_with_two hr (pa_Name (pv 0) (pa_Subscript (pe_xL (K := K) (pv 3) pe_int) (pa_Subscript (pe_xL (K := K) (pv 3) pe_int) (pa_Name (pv 2) pa_nil))))))) pss_nil)
  pss_never))))), ?_⟩
 refine seq_step fun U hU => ?_
 cases o with
 | none =>
  cases hV
  refine ⟨_, rfl, rfl, _, rfl, ?_⟩
  refine iteT ?_
  refine iteT ?_
  exact q0 rfl _ (Same.refl H)
 | some c =>
  obtain ⟨a, bs, rfl, T⟩ := hV
  have S : Oct.Shp c (2 * n) := hSh
  refine ⟨_, rfl, rfl, _, rfl, ?_⟩
  refine iteF ?_
  refine ⟨_, rfl, _, rfl, a, b, bs, n, c, fs, rfl, T, hB, hin, h2, _, rfl, grE c fs, m1, rfl, _, rfl, ?_⟩
  cases hb : belowE (grE c fs) m1 with
  | true =>
   refine iteT ?_
   exact q1 c rfl hb _ (Same.refl H)
  | false =>
   refine iteF ?_
   show U _ _
   subst hU
   have q := q2 c rfl hb
   have hle := below_le hb
   refine seq_step fun U hU => ?_
   refine ⟨_, rfl, b, fI fs, rfl, hB, by simp [fI]; omega, fun p H1 sm1 hp ep => ?_⟩
   show U _ _
   subst hU
   have T1 := T.same sm1
   have zero : ∀ (hw : wofI (fI fs) = []), (∀ w : Nat -> Int, Oct.Pt w (2 * n) -> m1 <= totN w fs) -> ∃ v, some (some (V.ref p)) = some (some v) /\ ∃ p1 ys, [v] = [V.ref p1] /\ (SqL K H1 p1 ys \/ SqT K H1 p1 ys) /\ ys.length = 0 := fun hw _ => ⟨_, rfl, p, _, rfl, .inl (SqL.of ep), by rw [hw]; rfl⟩
   have done0 : wofI (fI fs) = [] -> (∀ w : Nat -> Int, Oct.Pt w (2 * n) -> m1 <= totN w fs) -> ∃ (v1 : V) (n1 : Nat) (o1 : Option Tb), [V.ref a] = [v1] /\ ShapeAt H1 v1 (2 * n1) o1 /\ ShpO (2 * n1) o1 /\ n1 <= 100 /\ (o1 = none -> ∀ H', Same H1 H' -> Q .non H') /\ (∀ c, o1 = some c -> ∀ (nums : List Int) p H', nums.length = n1 -> Oct.Lies (wN nums) c (2 * n1) -> Same H1 H' -> H1 p = none -> H' p = some (.tup (nums.map V.int)) -> Q (.ref p) H') := fun _ hw =>
    ⟨.ref a, n, some c, rfl, ⟨a, bs, rfl, T1⟩, S, hn, fun e => (by cases e), fun c' e nums p2 H' ln li sm hp2 ep2 => (by cases e; exact q nums p2 H' ln li (hw _ (wN_pt nums _)) (sm1.trans sm) (sm1.free hp2) ep2)⟩
   refine seq_step fun U hU => ?_
   refine ⟨_, rfl, p, _, rfl, .inl (SqL.of ep), rfl, _, rfl, ?_⟩
   match fs, hin, h2, hle, ep, q, done0 with
   | [], hin, h2, hle, ep, q, done0 =>
    refine iteT ?_
    exact ⟨_, rfl, done0 rfl fun w _ => hle⟩
   | [f1], hin, h2, hle, ep, q, _ =>
    rw [wof_one] at ep ⊢
    refine iteF ?_
    show U _ _
    subst hU
    refine seq_step fun U hU => ?_
    refine ⟨_, rfl, p, _, rfl, .inl (SqL.of ep), rfl, _, rfl, ?_⟩
    refine iteT ?_
    have hf := hin f1 (by simp)
    refine ⟨_, rfl, _, rfl, p, _, 0, _, rfl, rfl, SqL.of ep, rfl, _, rfl, p, _, 0, _, rfl, rfl, SqL.of ep, rfl, _, rfl, _, _, rfl, rfl, .inl ⟨by decide, by decide⟩, a, bs, n, c, f1, f1, 2 * m1, rfl, T1, S, hf, hf, Ne.symm (Oct.fl_ne f1), ?_, hn, fun nums p2 H' ln li hk sm hp2 ep2 => ?_⟩
    · have ev := S.good.tight.even f1 hf
      have hle' : Oct.leE (some m1) (Oct.hlf (c f1 f1)) := hle
      revert hle' ev
      generalize c f1 f1 = x
      cases x <;> simp [Oct.leE, Oct.hlf] <;> omega
    · exact q nums p2 H' ln li (by simp [totN]; omega) (sm1.trans sm) (sm1.free hp2) ep2
   | [f1, f2], hin, h2, hle, ep, q, done0 =>
    have hf := hin f1 (by simp)
    have hg := hin f2 (by simp)
    rw [wof_two] at ep ⊢
    by_cases hfl : f1 = Oct.fl f2
    · rw [if_pos hfl] at ep ⊢
      refine iteT ?_
      refine ⟨_, rfl, done0 (by rw [wof_two, if_pos hfl]) fun w pw => ?_⟩
      have z := S.zero' (fun f hf => Oct.fl_lt hf) hg
      rw [← hfl] at z
      have hle' : Oct.leE (some m1) (c f1 f2) := hle
      rw [z] at hle'
      have p2 := pw f2 hg
      rw [← hfl] at p2
      have : m1 <= 0 := hle'
      simp [totN]
      omega
    · rw [if_neg hfl] at ep ⊢
      refine iteF ?_
      show U _ _
      subst hU
      refine seq_step fun U hU => ?_
      refine ⟨_, rfl, p, _, rfl, .inl (SqL.of ep), rfl, _, rfl, ?_⟩
      refine iteF ?_
      show U _ _
      subst hU
      refine seq_step fun U hU => ?_
      refine ⟨_, rfl, p, _, rfl, .inl (SqL.of ep), rfl, _, rfl, ?_⟩
      refine iteT ?_
      refine ⟨_, rfl, _, rfl, p, _, 0, _, rfl, rfl, SqL.of ep, rfl, _, rfl, p, _, 1, _, rfl, rfl, SqL.of ep, rfl, _, rfl, a, bs, n, c, f1, f2, m1, rfl, T1, S, hf, hg, fun e => hfl (by rw [e, Oct.fl_fl]), hle, hn, fun nums p2 H' ln li hk sm hp2 ep2 => ?_⟩
      exact q nums p2 H' ln li (by simp [totN]; omega) (sm1.trans sm) (sm1.free hp2) ep2
   | _ :: _ :: _ :: _, _, h2, _, _, _, _ => exact absurd h2 (by simp)
theorem ok_without_flips {f : Addr} {fd : FuncData} (F : Fun K "without_flips" "without_flips" s_without_flips f fd) (m : mg "without_flips" = some (.ref f)) (B : Bl4 mg) (D_flipped : Def P w K mg base CX0 "flipped" 1 ["f"] (sp_flipped K)) : Def P w K mg base CX0 "without_flips" 2 ["forms"] (sp_without_flips K) := by
 refine ⟨f, fd, F.ok sc_without_flips (fun vs H Q E h => ?_) (fun cdv A outer s H vs Q E hr h => ?_), F.binds (ps := ["forms"]) fun _ _ _ _ _ _ us hl => (by obtain ⟨b0, rfl⟩ := us1 hl; rfl), F.kp, m⟩
 · obtain ⟨b, ns, rfl, _⟩ := h
   rfl
 obtain ⟨b, ns, rfl, hB, hz, q⟩ := h
 refine ⟨_, (@pss_cons _ _ _ _ _ (ps_sz 1 sc_without_flips.nd (pe_lst pa_nil))
  (@pss_cons _ _ _ _ _ (ps_for PassesOwn.never rfl (pi_listK (K := K) rfl (pv 0)) (pg_nz 2 sc_without_flips.nd) (pss_one (ps_if (pt_cmpR (op_inIK (K := K) rfl) (pe_dz D_flipped hr (pa_Name (pv 2) pa_nil)) (pv 1) (by rfl)) (pss_one (ps_expr (pe_bm PySem.F.plainAttrs_list PySem.F.slot_list_remove PySem.F.type_list_remove mt_remove (pv 1) (pa_Call (pe_dz D_flipped hr (pa_Name (pv 2) pa_nil)) pa_nil)))) (pss_one (ps_expr (pe_bm PySem.F.plainAttrs_list PySem.F.slot_list_append PySem.F.type_list_append mt_append (pv 1) (pa_Name (pv 2) pa_nil)))))))
  (pss_one (ps_ret (pv 1))))), ?_⟩
 refine seq_step fun U hU => ?_
 refine ⟨sz 0, fun p hp => ?_⟩
 show U _ _
 subst hU
 refine seq_step fun U hU => ?_
 refine ⟨_, rfl, b, rfl, ⟨_, (same_new hp _).seq hB⟩, for_list (K := K) (a := b) (xs := ns.map V.int) (fun i σ H' => ∃ x, σ = [some (.ref b), some (.ref p), x] /\ Same H H' /\ H' p = some (.lst ((wofI (ns.take i)).map V.int))) ⟨none, rfl, same_new hp _, upd_same⟩ (fun i σ H' _ ⟨_, _, sm, _⟩ => sm.seq hB) ?_ ?_⟩
 · rintro i v σ H' hv ⟨x, rfl, sm, hp'⟩
   obtain ⟨hi, rfl⟩ := at_of hv
   have ei : ns[i]? = some ns[i] := List.getElem?_eq_getElem hi
   have es := take_succ_of ei
   have ew : wofI (ns.take (i + 1)) = wofS (wofI (ns.take i)) ns[i] := by rw [es, wofI_snoc]
   have lw := wofI_len ns i
   generalize ns[i] = f1 at *
   refine ⟨_, rfl, f1, rfl, _, rfl, p, wofI (ns.take i), flipI f1, rfl, rfl, SqL.of hp', _, rfl, ?_⟩
   unfold wofS at ew
   refine ite2 (fun h => ?_) (fun h => ?_)
   · rw [if_pos h] at ew
     have hm : flipI f1 ∈ wofI (ns.take i) := by
      obtain ⟨y, hy, e⟩ := List.any_eq_true.mp h
      have : y = flipI f1 := by simpa using e
      rw [← this]; exact hy
     refine ⟨_, rfl, .inl ⟨rfl, _, SqL.of hp'⟩, _, rfl, f1, rfl, p, wofI (ns.take i), flipI f1, rfl, rfl, hp', hm, ?_⟩
     exact ⟨_, rfl, same_over hp sm, by rw [upd_same, ew]⟩
   · rw [if_neg h] at ew
     refine ⟨_, rfl, .inl ⟨rfl, _, SqL.of hp'⟩, _, rfl, p, _, _, rfl, rfl, hp', by rw [List.length_map]; exact small1000 (by omega), ?_⟩
     exact ⟨_, rfl, same_over hp sm, by rw [upd_same, ew]; simp⟩
 · rintro σ H' ⟨x, rfl, sm, hp'⟩
   show U _ _
   subst hU
   rw [List.length_map, List.take_length] at hp'
   exact ⟨_, rfl, q p H' sm hp hp'⟩
theorem ok_reaching_with_two {f : Addr} {fd : FuncData} (F : Fun K "reaching_with_two" "reaching_with_two" s_reaching_with_two f fd) (m : mg "reaching_with_two" = some (.ref f)) (B : Bl4 mg) (D_some_point : Def P w K mg base CX0 "some_point" 8 ["shape"] (sp_some_point K)) (D_held : Def P w K mg base CX0 "held" 7 ["shape", "side"] (sp_held K)) (D_flipped : Def P w K mg base CX0 "flipped" 1 ["f"] (sp_flipped K)) : Def P w K mg base CX0 "reaching_with_two" 9 ["shape", "f", "g", "number"] (sp_reaching_with_two K) := by
 refine ⟨f, fd, F.ok sc_reaching_with_two (fun vs H Q E h => ?_) (fun cdv A outer s H vs Q E hr h => ?_), F.binds (ps := ["shape", "f", "g", "number"]) fun _ _ _ _ _ _ us hl => (by obtain ⟨b0, b1, b2, b3, rfl⟩ := us4 hl; rfl), F.kp, m⟩
 · obtain ⟨a, bs, n, c, f1, g1, m1, rfl, _⟩ := h
   rfl
 obtain ⟨a, bs, n, c, f1, g1, m1, rfl, T, S, hf, hg, ne, hm, hn, q⟩ := h
 refine ⟨_, (pss_one (ps_ret (pe_dz D_some_point hr (pa_Call (pe_dz D_held hr (pa_Name (pv 0) (pa_Tuple (pe_tup (pa_Call (pe_dz D_flipped hr (pa_Name (pv 1) pa_nil)) (pa_Call (pe_dz D_flipped hr (pa_Name (pv 2) pa_nil)) (pa_UnaryOp (pe_un un_neg (pv 3)) pa_nil)))) pa_nil))) pa_nil)))), ?_⟩
 obtain ⟨s1, es, Ss, Ls, lk⟩ := Oct.reach2_some S hf hg ne hm
 refine ⟨_, rfl, _, rfl, (f1 : Int), rfl, _, rfl, (g1 : Int), rfl, _, rfl, _, rfl, sz 3, fun t ht => ?_⟩
 rw [flip_nat, flip_nat]
 have st := same_new ht (.tup [.int ((Oct.fl f1 : Nat) : Int), .int ((Oct.fl g1 : Nat) : Int), .int (-m1)])
 refine ⟨.ref a, .ref t, n, some c, (Oct.fl f1, Oct.fl g1, -m1), rfl, ⟨a, bs, rfl, T.same st⟩, shp_diag S, ⟨t, rfl, upd_same⟩, Oct.fl_lt hf, Oct.fl_lt hg, hn, fun u H2 sm2 N2 => ?_⟩
 have e2 : heldO (2 * n) (some c) [(Oct.fl f1, Oct.fl g1, -m1)] = some s1 := es
 rw [e2] at N2
 have A2 := N2.at
 refine ⟨u, n, some s1, rfl, A2, Ss, hn, fun e => (by cases e), fun c' e nums p H' ln li sm hp ep => ?_⟩
 cases e
 have k1 := Oct.leE_trans (li _ _ (Oct.fl_lt hf) (Oct.fl_lt hg)) lk
 have p1 := wN_pt nums (2 * n) f1 hf
 have p2 := wN_pt nums (2 * n) g1 hg
 have k2 : wN nums (Oct.fl f1) + wN nums (Oct.fl g1) <= -m1 := k1
 exact q nums p H' ln (li.trans Ls) (by omega) ((st.trans sm2).trans sm) ((st.trans sm2).free hp) ep
theorem ok_apart {f : Addr} {fd : FuncData} (F : Fun K "apart" "apart" s_apart f fd) (m : mg "apart" = some (.ref f)) (B : Bl4 mg) (D_told_sides : Def P w K mg base CX0 "told_sides" 2 ["table"] (sp_told_sides K)) (D_some_point : Def P w K mg base CX0 "some_point" 8 ["shape"] (sp_some_point K)) (D_reaching : Def P w K mg base CX0 "reaching" 10 ["shape", "forms", "number"] (sp_reaching K)) : Def P w K mg base CX0 "apart" 11 ["one", "other"] (sp_apart K) := by
 refine ⟨f, fd, F.ok sc_apart (fun vs H Q E h => ?_) (fun cdv A outer s H vs Q E hr h => ?_), F.binds (ps := ["one", "other"]) fun _ _ _ _ _ _ us hl => (by obtain ⟨b0, b1, rfl⟩ := us2 hl; rfl), F.kp, m⟩
 · obtain ⟨v, u, n, o1, o2, rfl, _⟩ := h
   rfl
 obtain ⟨v, u, n, o1, o2, rfl, hV, hW, hS1, hS2, hn, q1, q2⟩ := h
 refine ⟨_, (@pss_cons _ _ _ _ _ (ps_if (pt_cmpR op_isN (pv 1) pe_non (nomark _)) (pss_one (ps_ret (pe_dz D_some_point hr (pa_Name (pv 0) pa_nil)))) pss_nil)
  (@pss_cons _ _ _ _ _ (ps_for PassesOwn.never rfl (pi_listK (K := K) rfl (pe_dz D_told_sides hr (pa_Name (pv 1) pa_nil))) (pg_nz 2 sc_apart.nd) (@pss_cons _ _ _ _ _ (ps_sz 3 sc_apart.nd (pe_dz D_reaching hr (pa_Name (pv 0) (pa_List (pe_lst (pa_Subscript (pe_xT (K := K) (pv 2) pe_int) (pa_Subscript (pe_xT (K := K) (pv 2) pe_int) pa_nil))) (pa_BinOp (pe_op op_add (pe_xT (K := K) (pv 2) pe_int) pe_int) pa_nil)))))
  (pss_one (ps_if (pt_cmpR op_notN (pv 3) pe_non (nomark _)) (pss_one (ps_ret (pv 3))) pss_nil))))
  (pss_one (ps_ret pe_non)))), ?_⟩
 refine seq_step fun U hU => ?_
 cases o2 with
 | none =>
  cases hW
  refine ⟨_, rfl, rfl, _, rfl, ?_⟩
  refine iteT ?_
  refine ⟨_, rfl, v, n, o1, rfl, hV, hS1, by omega, fun e H' sm => ?_, fun c e nums p H' ln li sm hp ep => ?_⟩
  · exact q1 (fun w _ l => by rw [e] at l; exact l) H' sm
  · exact q2 nums p H' ln (by rw [e]; exact li) (fun z => z) sm hp ep
 | some c2 =>
  obtain ⟨a2, bs2, rfl, T2⟩ := hW
  have S2 : Oct.Shp c2 (2 * n) := hS2
  refine ⟨_, rfl, rfl, _, rfl, ?_⟩
  refine iteF ?_
  show U _ _
  subst hU
  refine seq_step fun U hU => ?_
  refine ⟨_, rfl, a2, bs2, 2 * n, c2, rfl, T2, by omega, fun tl ys H1 sm1 htl etl ptl => ?_⟩
  refine ⟨tl, rfl, ⟨_, SqL.of etl⟩, for_list (K := K) (a := tl) (xs := ys) (fun i σ H' => ∃ x y, σ = [some v, some (.ref a2), x, y] /\ Same H1 H' /\ ∀ s ∈ (toldP (2 * n) c2 (2 * n)).take i, ∀ c1, o1 = some c1 -> Oct.leE (c1 s.1 s.2.1) (some s.2.2)) ⟨none, none, rfl, Same.refl _, fun s hs => by simp at hs⟩ (fun i σ H' _ ⟨_, _, _, sm, _⟩ => SqL.of (sm _ _ etl)) ?_ ?_⟩
  · rintro i x σ H2 hx ⟨x1, y1, rfl, sm2, hk⟩
    obtain ⟨s1, es, sa, rfl, hsa⟩ := paired_get' ptl hx
    have hsa2 : SqT K H2 sa [.int (s1.1 : Nat), .int (s1.2.1 : Nat), .int s1.2.2] := SqT.of (sm2 _ _ hsa)
    obtain ⟨m1, m2, m3, m4, m5⟩ := mem_told.mp (List.mem_of_getElem? es)
    refine seq_step fun U hU => ?_
    refine ⟨_, rfl, _, rfl, sa, _, 0, _, rfl, rfl, hsa2, rfl, _, rfl, sa, _, 1, _, rfl, rfl, hsa2, rfl, sz 2, fun l hl => ?_⟩
    have sl := same_new hl (.lst [.int (s1.1 : Nat), .int (s1.2.1 : Nat)])
    have s3 := (sm1.trans sm2).trans sl
    have none' : ∀ H3, Same (upd H2 l (.lst [.int (s1.1 : Nat), .int (s1.2.1 : Nat)])) H3 -> (∀ c1, o1 = some c1 -> Oct.leE (c1 s1.1 s1.2.1) (some s1.2.2)) -> U [some v, some (.ref a2), some (.ref sa), some .non] H3 := by
     intro H3 sm3 hc
     subst hU
     refine ⟨_, rfl, rfl, _, rfl, ?_⟩
     refine iteF ?_
     refine ⟨_, _, rfl, (sm2.trans sl).trans sm3, fun s hs => ?_⟩
     rw [take_succ_of es] at hs
     rcases List.mem_append.mp hs with z | z
     · exact hk s z
     · rw [List.mem_singleton.mp z]; exact hc
    refine ⟨_, rfl, sa, _, 2, _, rfl, rfl, sl.sqT hsa2, rfl, _, _, rfl, rfl, v, l, n, o1, [s1.1, s1.2.1], s1.2.2 + 1, rfl, hV.same s3, hS1, SqL.of upd_same, fun f hf => ?_, by simp, by omega, fun e H' sm => ?_, fun c e hb H' sm => ?_, fun c e hb nums p H' ln li ht sm hp ep => ?_⟩
    · have : f = s1.1 \/ f = s1.2.1 := by simpa using hf
      rcases this with z | z <;> rw [z] <;> assumption
    · exact none' H' sm fun c1 e1 => by rw [e] at e1; cases e1
    · exact none' H' sm fun c1 e1 => by
       rw [e] at e1
       cases e1
       exact below_lt hb
    · show U _ _
      subst hU
      refine ⟨_, rfl, rfl, _, rfl, ?_⟩
      refine iteT ?_
      refine ⟨_, rfl, q2 nums p H' ln (by rw [e]; exact li) (fun l2 => ?_) (s3.trans sm) (s3.free hp) ep⟩
      have l3 := l2 s1.1 s1.2.1 m1 m2
      rw [m5] at l3
      have l4 : wN nums s1.1 + wN nums s1.2.1 <= s1.2.2 := l3
      simp [totN] at ht
      omega
  · rintro σ H2 ⟨x1, y1, rfl, sm2, hk⟩
    show U _ _
    subst hU
    rw [paired_len ptl, List.take_length] at hk
    refine q1 ?_ H2 (sm1.trans sm2)
    cases o1 with
    | none => exact fun w _ l => l.elim
    | some c1 => exact told_with S2 fun s hs => hk s hs c1 rfl
theorem ok_within {f : Addr} {fd : FuncData} (F : Fun K "within" "within" s_within f fd) (m : mg "within" = some (.ref f)) (B : Bl4 mg) (D_apart : Def P w K mg base CX0 "apart" 11 ["one", "other"] (sp_apart K)) : Def P w K mg base CX0 "within" 12 ["one", "other"] (sp_within K) := by
 refine ⟨f, fd, F.ok sc_within (fun vs H Q E h => ?_) (fun cdv A outer s H vs Q E hr h => ?_), F.binds (ps := ["one", "other"]) fun _ _ _ _ _ _ us hl => (by obtain ⟨b0, b1, rfl⟩ := us2 hl; rfl), F.kp, m⟩
 · obtain ⟨v, u, n, o1, o2, rfl, _⟩ := h
   rfl
 obtain ⟨v, u, n, o1, o2, rfl, hV, hW, hS1, hS2, hn, q⟩ := h
 refine ⟨_, (pss_one (ps_ret (pe_cmpR op_isN (pe_dz D_apart hr (pa_Name (pv 0) (pa_Name (pv 1) pa_nil))) pe_non (nomark _)))), ?_⟩
 refine ⟨_, rfl, _, rfl, v, u, n, o1, o2, rfl, hV, hW, hS1, hS2, hn, fun W H' sm => ?_, fun nums p H' ln l1 l2 sm hp ep => ?_⟩
 · exact ⟨rfl, q true H' sm ⟨fun _ => W, fun _ => rfl⟩⟩
 · exact ⟨rfl, q false H' sm ⟨fun z => (by cases z), fun W => absurd (W _ (wN_pt nums _) l1) l2⟩⟩
theorem ok_copied {f : Addr} {fd : FuncData} (F : Fun K "copied" "copied" s_copied f fd) (m : mg "copied" = some (.ref f)) (B : Bl4 mg)  : Def P w K mg base CX0 "copied" 1 ["shape"] (sp_copied K) := by
 refine ⟨f, fd, F.ok sc_copied (fun vs H Q E h => ?_) (fun cdv A outer s H vs Q E hr h => ?_), F.binds (ps := ["shape"]) fun _ _ _ _ _ _ us hl => (by obtain ⟨b0, rfl⟩ := us1 hl; rfl), F.kp, m⟩
 · obtain ⟨v, n, o, rfl, _⟩ := h
   rfl
 obtain ⟨v, n, o, rfl, hV, hn, q⟩ := h
 refine ⟨_, (@pss_cons _ _ _ _ _ (ps_if (pt_cmpR op_isN (pv 0) pe_non (nomark _)) (pss_one (ps_ret pe_non)) pss_nil)
  (pss_one (ps_ret (pe_comp (CompScope.of sc_copied.nd (by rfl)) rfl (pi_listK (K := K) rfl (pv 0)) (fun _ _ _ => pif_nil) (fun _ _ _ => (pe_callTy (call_list_ofK (K := K) rfl) (by rfl) B.list (by decide +kernel) (pa_Name (pv 0) pa_nil))))))), ?_⟩
 refine seq_step fun U hU => ?_
 cases o with
 | none =>
  cases hV
  refine ⟨_, rfl, rfl, _, rfl, ?_⟩
  refine iteT ?_
  exact q _ _ (Same.refl H) rfl
 | some c =>
  obtain ⟨tb, bs, rfl, T⟩ := hV
  refine ⟨_, rfl, rfl, _, rfl, ?_⟩
  refine iteF ?_
  show U _ _
  subst hU
  have hL : (bs.map V.ref).length = 2 * n := by rw [List.length_map, T.lenN]
  refine ⟨_, rfl, tb, rfl, ⟨_, SqL.of T.at_⟩, fun kp hkp => comp_listN (K := K) (a := tb) (xs := bs.map V.ref) (fun i zs H' => Grow H H' kp zs (Oct.rows i (2 * n) c)) (Grow.start hkp) (fun i ys H' _ G => G.same.seq (SqL.of T.at_)) ?_ ?_⟩
  · rintro i x zs H' hx G
    have T' := T.same G.same
    obtain ⟨hi, d, rfl, ed, hd⟩ := T'.rowN hx
    simp only [tYes, ↓reduceIte]
    refine ⟨_, rfl, d, _, rfl, .inl (SqL.of hd), fun l hl => ?_⟩
    have st := G.step hl (same_new hl (.lst ((Oct.ln (2 * n) (c i)).map eV))) upd_same
    have hlt : i < (bs.map V.ref).length := (List.getElem?_eq_some_iff.mp hx).1
    refine ⟨st.1, by rw [G.len, Oct.rows_len]; exact small1000 (by omega), again hlt ?_⟩
    rw [Oct.rows_succ]
    exact st.2
  · rintro zs H1 ⟨bs1, rfl, T1, sm1⟩
    rw [hL] at T1
    exact q _ _ sm1 ⟨kp, bs1, rfl, T1⟩
theorem ok_step_over {f : Addr} {fd : FuncData} (F : Fun K "step_over" "step_over" s_step_over f fd) (m : mg "step_over" = some (.ref f)) (B : Bl4 mg) (D_least : Def P w K mg base CX0 "least" 1 ["entries"] (sp_least K)) (D_above : Def P w K mg base CX0 "above" 2 ["one", "other"] (sp_above K)) : Def P w K mg base CX0 "step_over" 3 ["steps", "f", "g", "entry"] (sp_step_over K) := by
 refine ⟨f, fd, F.ok sc_step_over (fun vs H Q E h => ?_) (fun cdv A outer s H vs Q E hr h => ?_), F.binds (ps := ["steps", "f", "g", "entry"]) fun _ _ _ _ _ _ us hl => (by obtain ⟨b0, b1, b2, b3, rfl⟩ := us4 hl; rfl), F.kp, m⟩
 · obtain ⟨a, ss, f, g, e, rfl, _⟩ := h
   rfl
 obtain ⟨a, ss, f, g, e, rfl, hA, hl, q⟩ := h
 refine ⟨_, (@pss_cons _ _ _ _ _ (ps_sz 4 sc_step_over.nd (pe_ifExp (pt_cmpR op_eq (pv 1) (pv 2) (nomark _)) (pe_comp (CompScope.of sc_step_over.nd (by rfl)) rfl (pi_listK (K := K) rfl (pv 0)) (fun _ _ _ => pif_nil) (fun _ _ _ => (pe_op op_mul pe_int (pv 0)))) (pv 0)))
  (pss_one (ps_ret (pe_dz D_least hr (pa_cons (pe_comp (CompScope.of sc_step_over.nd (by rfl)) rfl (pi_listK (K := K) rfl (pv 4)) (fun _ _ _ => pif_one (pt_not (pt_val (pe_dz D_above hr (pa_Name (pv 4) (pa_Name (pv 0) pa_nil)))))) (fun _ _ _ => (pv 0))) pa_nil))))), ?_⟩
 refine seq_step fun U hU => ?_
 have key : ∀ (h : Addr) (hs : List Int) (H1 : Hp), Same H H1 -> SqL K H1 h (hs.map V.int) -> hs.length <= 100 -> hs = (if f = g then ss.map (2 * ·) else ss) -> U [some (V.ref a), some (.int f), some (.int g), some (eV e), some (.ref h)] H1 := by
  intro h hs H1 sm1 hh lh eh
  subst hU
  rw [← eh] at q
  refine ⟨_, rfl, h, rfl, ⟨_, hh⟩, fun p hp => comp_listN (K := K) (a := h) (xs := hs.map V.int) (fun i ys H' => ys = ((hs.take i).filter fun h => !aboveE e (some h)).map V.int /\ H' p = some (.lst ys) /\ Same H1 H') ⟨rfl, upd_same, same_new hp _⟩ (fun i ys H' _ ⟨_, _, sm⟩ => sm.seq hh) ?_ ?_⟩
  · rintro i y ys H' hy ⟨rfl, hp', sm⟩
    obtain ⟨z, ez, rfl⟩ := get_of hy
    have hi : i < hs.length := (List.getElem?_eq_some_iff.mp ez).1
    have es' := filt_succ (p := fun h => !aboveE e (some h)) ez
    refine ⟨_, rfl, _, rfl, e, some z, rfl, ?_⟩
    refine ⟨_, rfl, ?_⟩
    cases hb : aboveE e (some z) with
    | true =>
     refine iteF ?_
     exact again (by rw [List.length_map]; exact hi) ⟨by rw [es', hb]; simp, hp', sm⟩
    | false =>
     refine iteT ?_
     refine ⟨_, rfl, hp', by rw [List.length_map]; exact small1000 (by have := filt_len (hs.take i) (fun h => !aboveE e (some h)); rw [List.length_take] at this; omega), again (by rw [List.length_map]; exact hi) ⟨by rw [es', hb]; simp, upd_same, same_over hp sm⟩⟩
  · rintro ys H' ⟨rfl, hp', sm⟩
    rw [List.length_map, List.take_length] at hp'
    refine ⟨p, (hs.filter fun h => !aboveE e (some h)).map some, rfl, ?_, ?_, fun H2 sm2 => q H2 ((sm1.trans sm).trans sm2)⟩
    · rw [map_eV]; exact SqL.of hp'
    · rw [List.length_map]; exact Nat.le_trans (filt_len _ _) lh
 refine ⟨_, rfl, _, rfl, rfl, _, rfl, ?_⟩
 refine ite2 (fun h => ?_) (fun h => ?_)
 · have ef : f = g := V.int.inj (of_decide_eq_true h)
   refine ⟨_, rfl, a, rfl, ⟨_, hA⟩, fun p hp => comp_listN (K := K) (a := a) (xs := ss.map V.int) (fun i ys H' => ys = ((ss.take i).map (2 * ·)).map V.int /\ H' p = some (.lst ys) /\ Same H H') ⟨rfl, upd_same, same_new hp _⟩ (fun i ys H' _ ⟨_, _, sm⟩ => sm.seq hA) ?_ ?_⟩
   · rintro i y ys H' hy ⟨rfl, hp', sm⟩
     obtain ⟨z, ez, rfl⟩ := get_of hy
     have hi : i < ss.length := (List.getElem?_eq_some_iff.mp ez).1
     simp only [tYes, ↓reduceIte]
     refine ⟨_, rfl, _, _, rfl, rfl, .inl ⟨by decide, by decide⟩, hp', by rw [List.length_map, List.length_map]; exact small1000 (by rw [List.length_take]; omega), again (by rw [List.length_map]; exact hi) ⟨by rw [take_succ_of ez]; simp, upd_same, same_over hp sm⟩⟩
   · rintro ys H' ⟨rfl, hp', sm⟩
     rw [List.length_map, List.take_length] at hp'
     show U _ _
     exact key p _ H' sm (SqL.of hp') (by rw [List.length_map]; exact hl) (by rw [if_pos ef])
 · have ef : ¬ f = g := fun z => h (decide_eq_true (by rw [z]))
   refine ⟨_, rfl, ?_⟩
   show U _ _
   exact key a ss H (Same.refl H) hA hl (by rw [if_neg ef])
theorem ok_widened {f : Addr} {fd : FuncData} (F : Fun K "widened" "widened" s_widened f fd) (m : mg "widened" = some (.ref f)) (B : Bl4 mg) (D_widened_row : Def P w K mg base CX0 "widened_row" 4 ["f", "row", "shape_row", "steps"] (sp_widened_row K)) : Def P w K mg base CX0 "widened" 5 ["table", "shape", "steps"] (sp_widened K) := by
 refine ⟨f, fd, F.ok sc_widened (fun vs H Q E h => ?_) (fun cdv A outer s H vs Q E hr h => ?_), F.binds (ps := ["table", "shape", "steps"]) fun _ _ _ _ _ _ us hl => (by obtain ⟨b0, b1, b2, rfl⟩ := us3 hl; rfl), F.kp, m⟩
 · obtain ⟨a, b, st, bs, ds, N, c, d, ss, rfl, _⟩ := h
   rfl
 obtain ⟨a, b, st, bs, ds, N, c, d, ss, rfl, T, D, hT, hl, hN, q⟩ := h
 refine ⟨_, (pss_one (ps_ret (pe_comp2K (K := K) rfl (CompScope2.of (M := ["table", "shape", "steps"]) sc_widened.nd (by rfl)) rfl (pi_enumK (K := K) rfl (by rfl) B.enumerate (pa_Name (pv 0) pa_nil)) (fun _ _ _ => (pe_dz D_widened_row hr (pa_Name (pv 0) (pa_Name (pv 1) (pa_Subscript (pe_xL (K := K) (pv 3) (pv 0)) (pa_Name (pv 4) pa_nil))))))))), ?_⟩
 refine ⟨_, rfl, a, rfl, ⟨_, SqL.of T.at_⟩, fun p hp => comp_enumN (K := K) (a := a) (xs := bs.map V.ref) (fun i ys H' => Grow H H' p ys (Oct.rows i N (widT ss c d))) (Grow.start hp) (fun i ys H' _ G => G.same.seq (SqL.of T.at_)) ?_ ?_⟩
 · rintro i x ys H1 H2 hx G sm2
   have s2 := G.same.trans sm2
   have T2 := T.same s2
   have D2 := D.same s2
   obtain ⟨hi, l1, rfl, e1, h1⟩ := T2.rowN hx
   obtain ⟨l2, e2, h2, a2⟩ := D2.rd hi
   refine ⟨_, rfl, _, rfl, _, rfl, _, rfl, b, _, _, _, rfl, rfl, SqL.of D2.at_, a2, _, rfl, l1, l2, st, i, N, c i, d i, ss, rfl, SqL.of h1, SqL.of h2, s2.seq hT, hl, hN, fun l H3 sm3 hl3 e3 => ?_⟩
   have st3 := G.step (sm2.free hl3) (sm2.trans sm3) e3
   have hlt : i < (bs.map V.ref).length := (List.getElem?_eq_some_iff.mp hx).1
   refine ⟨st3.1, by rw [G.len, Oct.rows_len]; exact small1000 (by omega), again hlt ?_⟩
   rw [Oct.rows_succ]
   exact st3.2
 · rintro ys H1 ⟨bs', rfl, T1, sm⟩
   rw [List.length_map, T.lenN] at T1
   exact q p bs' H1 sm T1
theorem ok_widened_row {f : Addr} {fd : FuncData} (F : Fun K "widened_row" "widened_row" s_widened_row f fd) (m : mg "widened_row" = some (.ref f)) (B : Bl4 mg) (D_above : Def P w K mg base CX0 "above" 2 ["one", "other"] (sp_above K)) (D_step_over : Def P w K mg base CX0 "step_over" 3 ["steps", "f", "g", "entry"] (sp_step_over K)) : Def P w K mg base CX0 "widened_row" 4 ["f", "row", "shape_row", "steps"] (sp_widened_row K) := by
 refine ⟨f, fd, F.ok sc_widened_row (fun vs H Q E h => ?_) (fun cdv A outer s H vs Q E hr h => ?_), F.binds (ps := ["f", "row", "shape_row", "steps"]) fun _ _ _ _ _ _ us hl => (by obtain ⟨b0, b1, b2, b3, rfl⟩ := us4 hl; rfl), F.kp, m⟩
 · obtain ⟨r, s1, st, f, N, c, d, ss, rfl, _⟩ := h
   rfl
 obtain ⟨r, s1, st, f, N, c, d, ss, rfl, hR, hS, hT, hl, hN, q⟩ := h
 refine ⟨_, (@pss_cons _ _ _ _ _ (ps_sz 4 sc_widened_row.nd (pe_lst pa_nil))
  (@pss_cons _ _ _ _ _ (ps_for PassesOwn.never rfl (pi_enumK (K := K) rfl (by rfl) B.enumerate (pa_Name (pv 1) pa_nil)) (pg_pairK (K := K) rfl rfl (pg_nz 5 sc_widened_row.nd) (pg_nz 6 sc_widened_row.nd)) (pss_one (ps_if (pt_val (pe_dz D_above hr (pa_Subscript (pe_xL (K := K) (pv 2) (pv 5)) (pa_Name (pv 6) pa_nil)))) (pss_one (ps_expr (pe_bm PySem.F.plainAttrs_list PySem.F.slot_list_append PySem.F.type_list_append mt_append (pv 4) (pa_Call (pe_dz D_step_over hr (pa_Name (pv 3) (pa_Name (pv 0) (pa_Name (pv 5) (pa_Subscript (pe_xL (K := K) (pv 2) (pv 5)) pa_nil))))) pa_nil)))) (pss_one (ps_expr (pe_bm PySem.F.plainAttrs_list PySem.F.slot_list_append PySem.F.type_list_append mt_append (pv 4) (pa_Name (pv 6) pa_nil)))))))
  (pss_one (ps_ret (pv 4))))), ?_⟩
 refine seq_step fun U hU => ?_
 refine ⟨sz 0, fun p hp => ?_⟩
 show U _ _
 subst hU
 refine seq_step fun U hU => ?_
 have s0 := same_new hp (.lst [])
 refine ⟨_, rfl, r, rfl, ⟨_, s0.seq hR⟩, for_enum (K := K) (a := r) (xs := (Oct.ln N c).map eV) (fun i σ H' => ∃ x y, σ = [some (.int f), some (.ref r), some (.ref s1), some (.ref st), some (.ref p), x, y] /\ Same H H' /\ H' p = some (.lst ((Oct.ln i fun g => wE ss f g (c g) (d g)).map eV))) ⟨none, none, rfl, s0, upd_same⟩ (fun i σ H' _ ⟨_, _, _, sm, _⟩ => sm.seq hR) ?_ ?_⟩
 · rintro i v σ H1 H2 hv ⟨x, y, rfl, sm, ep⟩ sm2
   obtain ⟨hi, rfl⟩ := ln_item hv
   have s2 := sm.trans sm2
   have ep2 := sm2 _ _ ep
   refine ⟨_, rfl, _, rfl, s1, _, _, _, rfl, rfl, s2.seq hS, ln_at hi, _, rfl, d i, c i, rfl, _, rfl, ?_⟩
   have ew : wE ss f i (c i) (d i) = if aboveE (d i) (c i) = true then stepE (if (f : Int) = (i : Int) then ss.map (2 * ·) else ss) (d i) else c i := rfl
   cases ha : aboveE (d i) (c i) with
   | true =>
    refine iteT ?_
    rw [ha, if_pos rfl] at ew
    refine ⟨_, rfl, .inl ⟨rfl, _, SqL.of ep2⟩, _, rfl, _, rfl, _, rfl, _, rfl, _, rfl, s1, _, _, _, rfl, rfl, s2.seq hS, ln_at hi, st, ss, (f : Int), (i : Int), d i, rfl, s2.seq hT, hl, fun H3 sm3 => ?_⟩
    refine ⟨p, _, _, rfl, rfl, sm3 _ _ ep2, by rw [ln_lenV]; exact small1000 (by omega), ?_⟩
    refine ⟨_, _, rfl, same_over hp (s2.trans sm3), ?_⟩
    rw [upd_same, ← ew, ln_snocV i (fun g => wE ss f g (c g) (d g))]
   | false =>
    refine iteF ?_
    rw [ha, if_neg Bool.false_ne_true] at ew
    refine ⟨_, rfl, .inl ⟨rfl, _, SqL.of ep2⟩, _, rfl, p, _, _, rfl, rfl, ep2, by rw [ln_lenV]; exact small1000 (by omega), ?_⟩
    refine ⟨_, _, rfl, same_over hp s2, ?_⟩
    rw [upd_same, ← ew, ln_snocV i (fun g => wE ss f g (c g) (d g))]
 · rintro σ H1 ⟨x, y, rfl, sm, ep⟩
   show U _ _
   subst hU
   rw [ln_lenV] at ep
   exact ⟨_, rfl, q p H1 sm hp ep⟩
theorem ok_Climb_init {f : Addr} {fd : FuncData} (F : Fun K "__init__" "Climb.__init__" s_Climb_init f fd) (B : Bl4 mg)  : FDef P w K mg base CX0 1 ["self", "count", "steps", "patience"] (sp_Climb_init K Z_Climb) f := by
 refine ⟨fd, F.ok sc_Climb_init (fun vs H Q E h => ?_) (fun cdv A outer s H vs Q E hr h => ?_), F.binds (ps := ["self", "count", "steps", "patience"]) fun _ _ _ _ _ _ us hl => (by obtain ⟨b0, b1, b2, b3, rfl⟩ := us4 hl; rfl)⟩
 · obtain ⟨x, dx, st, n, ss, pat, rfl, _⟩ := h
   rfl
 obtain ⟨x, dx, st, n, ss, pat, rfl, hx, hS, q⟩ := h
 refine ⟨_, (@pss_cons _ _ _ _ _ (ps_fldK (K := K) rfl (pv 0) (pv 1))
  (@pss_cons _ _ _ _ _ (ps_fldK (K := K) rfl (pv 0) (pe_callTy (call_list_ofK (K := K) rfl) (by rfl) B.list (by decide +kernel) (pa_Name (pv 2) pa_nil)))
  (@pss_cons _ _ _ _ _ (ps_fldK (K := K) rfl (pv 0) (pv 3))
  (@pss_cons _ _ _ _ _ (ps_fldK (K := K) rfl (pv 0) pe_non)
  (@pss_cons _ _ _ _ _ (ps_fldK (K := K) rfl (pv 0) pe_non)
  (pss_one (ps_fldK (K := K) rfl (pv 0) pe_int))))))), ?_⟩
 have I0 : IsIns H x := ⟨_, _, _, hx⟩
 refine ⟨_, rfl, _, rfl, x, Z_Climb, dx, _, rfl, hx, T.cl_Climb, T.n_Climb_count, (by decide), ?_⟩
 rw [p1]
 have k1 : SameX x H (upd H x (.ins Z_Climb dx [("count", .int n)])) := SameX.upd
 have e1 : upd H x (.ins Z_Climb dx [("count", .int n)]) x = some (.ins Z_Climb dx [("count", .int n)]) := upd_same
 generalize upd H x (.ins Z_Climb dx [("count", .int n)]) = H1 at *
 refine ⟨_, rfl, st, _, rfl, .inl (k1.seq I0 hS), fun l hl => ?_⟩
 have nl : l ≠ x := fun z => by rw [z, e1] at hl; cases hl
 have nl0 : H l = none := by
  cases e : H l with
  | none => rfl
  | some o => have := k1 l o nl e; rw [hl] at this; cases this
 have s2 := same_new hl (.lst (ss.map V.int))
 have el : upd H1 l (.lst (ss.map V.int)) l = some (.lst (ss.map V.int)) := upd_same
 have e2 := s2 _ _ e1
 generalize upd H1 l (.lst (ss.map V.int)) = H2 at *
 have k2 : SameX x H H2 := k1.trans (SameX.of s2)
 refine ⟨_, rfl, x, Z_Climb, dx, _, rfl, e2, T.cl_Climb, T.n_Climb_steps, (by show 1 < 1000; decide), ?_⟩
 rw [p2]
 refine ⟨_, rfl, _, rfl, x, Z_Climb, dx, _, rfl, upd_same, T.cl_Climb, T.n_Climb_patience, (by show 2 < 1000; decide), ?_⟩
 rw [p3]
 refine ⟨_, rfl, x, Z_Climb, dx, _, rfl, upd_same, T.cl_Climb, T.n_Climb_kept, (by show 3 < 1000; decide), ?_⟩
 rw [p4]
 refine ⟨_, rfl, x, Z_Climb, dx, _, rfl, upd_same, T.cl_Climb, T.n_Climb_reached, (by show 4 < 1000; decide), ?_⟩
 rw [p5]
 refine ⟨_, rfl, x, Z_Climb, dx, _, rfl, upd_same, T.cl_Climb, T.n_Climb_risen, (by show 5 < 1000; decide), ?_⟩
 rw [p6]
 refine q l _ (((((k2.trans SameX.upd).trans SameX.upd).trans SameX.upd).trans SameX.upd).trans SameX.upd) nl0 nl ?_ upd_same
 rw [upd_ne nl, upd_ne nl, upd_ne nl, upd_ne nl, upd_ne nl]
 exact el
theorem ok_Climb_take {f : Addr} {fd : FuncData} (F : Fun K "take" "Climb.take" s_Climb_take f fd) (B : Bl4 mg) (D_within : Def P w K mg base CX0 "within" 12 ["one", "other"] (sp_within K)) (D_Climb_next_table : FDef P w K mg base CX0 6 ["self", "shape"] (sp_Climb_next_table K Z_Climb) f_Climb_next_table) (D_tightened : Def P w K mg base CX0 "tightened" 5 ["table"] (sp_tightened K)) : FDef P w K mg base CX0 13 ["self", "shape"] (sp_Climb_take K Z_Climb) f := by
 refine ⟨fd, F.ok sc_Climb_take (fun vs H Q E h => ?_) (fun cdv A outer s H vs Q E hr h => ?_), F.binds (ps := ["self", "shape"]) fun _ _ _ _ _ _ us hl => (by obtain ⟨b0, b1, rfl⟩ := us2 hl; rfl)⟩
 · obtain ⟨x, v, as, n, ss, pat, k, r, m1, o, rfl, _⟩ := h
   rfl
 obtain ⟨x, v, as, n, ss, pat, k, r, m1, o, rfl, C, hV, hSo, hSr, hZ, hss, hn, q0, q1⟩ := h
 refine ⟨_, (@pss_cons _ _ _ _ _ (ps_if (pt_val (pe_dz D_within hr (pa_Name (pv 1) (pa_cons (pe_fldK (K := K) rfl (pv 0)) pa_nil)))) (pss_one (ps_ret pe_bl)) pss_nil)
  (@pss_cons _ _ _ _ _ (ps_fldK (K := K) rfl (pv 0) (pe_op op_add (pe_fldK (K := K) rfl (pv 0)) pe_int))
  (@pss_cons _ _ _ _ _ (ps_fldK (K := K) rfl (pv 0) (pe_mdef D_Climb_next_table T.cl_Climb T.me_Climb_next_table (pv 0) (hr.mono (by decide)) pass0 (pa_Name (pv 1) pa_nil)))
  (@pss_cons _ _ _ _ _ (ps_fldK (K := K) rfl (pv 0) (pe_dz D_tightened hr (pa_cons (pe_fldK (K := K) rfl (pv 0)) pa_nil)))
  (pss_one (ps_ret pe_bl)))))), ?_⟩
 obtain ⟨dx, st, kv, rv, hx, hst, hsta, hk, hr⟩ := C.obj
 refine seq_step fun U hU => ?_
 refine ⟨_, rfl, _, rfl, x, Z_Climb, dx, _, _, rfl, hx, T.cl_Climb, T.n_Climb_reached, lC5 _ _ _ _ _ _, v, rv, n, o, r, rfl, hV, hr.at, hSo, hSr, hn, fun b H1 sm1 hb => ?_⟩
 refine ⟨b, rfl, ?_⟩
 refine ite2 (fun h => ?_) (fun h => ?_)
 · exact q0 (hb.mp h) H1 sm1
 have hW : ¬ WithO n o r := fun z => h (hb.mpr z)
 obtain ⟨c, rfl⟩ : ∃ c, o = some c := by
  cases o with
  | none => exact absurd (with_none n r) hW
  | some c => exact ⟨c, rfl⟩
 have q1 := q1 hW c rfl
 have Sc : Oct.Shp c (2 * n) := hSo
 show U _ _
 subst hU
 have C1 := C.same sm1
 have hx1 := sm1 _ _ hx
 refine seq_step fun U hU => ?_
 refine ⟨_, rfl, x, Z_Climb, dx, _, _, rfl, hx1, T.cl_Climb, T.n_Climb_risen, lC6 _ _ _ _ _ _, _, _, rfl, rfl, _, rfl, x, Z_Climb, dx, _, rfl, hx1, T.cl_Climb, T.n_Climb_risen, (by show 6 < 1000; decide), ?_⟩
 rw [pC_risen]
 show U _ _
 subst hU
 have k2 : SameX x H1 (upd H1 x (.ins Z_Climb dx (fC (.int n) (.ref st) (.int pat) kv rv (.int (m1 + 1))))) := SameX.upd
 have hx2 : upd H1 x (.ins Z_Climb dx (fC (.int n) (.ref st) (.int pat) kv rv (.int (m1 + 1)))) x = some (.ins Z_Climb dx (fC (.int n) (.ref st) (.int pat) kv rv (.int (m1 + 1)))) := upd_same
 generalize upd H1 x (.ins Z_Climb dx (fC (.int n) (.ref st) (.int pat) kv rv (.int (m1 + 1)))) = H2 at *
 have I1 : IsIns H1 x := ⟨_, _, _, hx1⟩
 have ka2 : KeepA as H H2 := fun b u hb h => by
  obtain ⟨xs, e⟩ := C.all b hb
  exact k2 b u (ins_lst I1 (sm1 _ _ e)) (sm1 _ _ h)
 have C2 : ClimbAt Z_Climb as H2 x n ss pat k r (m1 + 1) := ⟨⟨dx, st, kv, rv, hx2, ka2 _ _ hsta hst, hsta, hk.keep ka2 fun _ z => z, hr.keep ka2 fun _ z => z⟩, fun b hb => let ⟨xs, e⟩ := C.all b hb; ⟨xs, ka2 _ _ hb e⟩⟩
 have hV2 : ShapeAt H2 v (2 * n) (some c) := k2.shape I1 (hV.same sm1)
 refine seq_step fun U hU => ?_
 refine ⟨_, rfl, x, dx, _, rfl, hx2, noC off_next _ _ _ _ _ _, _, rfl, x, v, as, n, ss, pat, k, r, m1 + 1, c, rfl, C2, hV2, hss, by omega, fun p3 bs3 H3 sm3 N3 => ?_⟩
 have hx3 := sm3 _ _ hx2
 refine ⟨_, rfl, x, Z_Climb, dx, _, rfl, hx3, T.cl_Climb, T.n_Climb_kept, (by show 6 < 1000; decide), ?_⟩
 rw [pC_kept]
 show U _ _
 subst hU
 have hz := next_zero (pat := pat) (m := m1 + 1) (ss := ss) hZ Sc.zero
 generalize nextT pat (m1 + 1) k ss c = nt at *
 have k4 : SameX x H3 (upd H3 x (.ins Z_Climb dx (fC (.int n) (.ref st) (.int pat) (.ref p3) rv (.int (m1 + 1))))) := SameX.upd
 have hx4 : upd H3 x (.ins Z_Climb dx (fC (.int n) (.ref st) (.int pat) (.ref p3) rv (.int (m1 + 1)))) x = some (.ins Z_Climb dx (fC (.int n) (.ref st) (.int pat) (.ref p3) rv (.int (m1 + 1)))) := upd_same
 generalize upd H3 x (.ins Z_Climb dx (fC (.int n) (.ref st) (.int pat) (.ref p3) rv (.int (m1 + 1)))) = H4 at *
 have I3 : IsIns H3 x := ⟨_, _, _, hx3⟩
 have T4 := k4.tab I3 N3.tab
 refine seq_step fun U hU => ?_
 refine ⟨_, rfl, x, Z_Climb, dx, _, _, rfl, hx4, T.cl_Climb, T.n_Climb_kept, lC4 _ _ _ _ _ _, p3, bs3, n, nt, rfl, T4, by omega, fun f hf => by rw [hz f hf]; exact Oct.leE_refl _, fun u H5 sm5 N5 => ?_⟩
 have hx5 := sm5 _ _ hx4
 refine ⟨_, rfl, x, Z_Climb, dx, _, rfl, hx5, T.cl_Climb, T.n_Climb_reached, (by show 6 < 1000; decide), ?_⟩
 rw [pC_reached]
 show U _ _
 subst hU
 have k6 : SameX x H5 (upd H5 x (.ins Z_Climb dx (fC (.int n) (.ref st) (.int pat) (.ref p3) u (.int (m1 + 1))))) := SameX.upd
 have hx6 : upd H5 x (.ins Z_Climb dx (fC (.int n) (.ref st) (.int pat) (.ref p3) u (.int (m1 + 1)))) x = some (.ins Z_Climb dx (fC (.int n) (.ref st) (.int pat) (.ref p3) u (.int (m1 + 1)))) := upd_same
 generalize upd H5 x (.ins Z_Climb dx (fC (.int n) (.ref st) (.int pat) (.ref p3) u (.int (m1 + 1)))) = H6 at *
 have I5 : IsIns H5 x := ⟨_, _, _, hx5⟩
 have K02 : SameX x H H2 := (SameX.of sm1).trans k2
 have K24 : SameX x H2 H4 := (SameX.of sm3).trans k4
 have K46 : SameX x H4 H6 := (SameX.of sm5).trans k6
 have I2 : IsIns H2 x := ⟨_, _, _, hx2⟩
 have I4 : IsIns H4 x := ⟨_, _, _, hx4⟩
 have I0 : IsIns H x := ⟨_, _, _, hx⟩
 have K06 := (K02.trans K24).trans K46
 have back : ∀ b, b ≠ x -> H2 b = none -> H b = none := fun b nb h => by
  cases e : H b with
  | none => rfl
  | some o => have := K02 b o nb e; rw [h] at this; cases this
 have back4 : ∀ b, b ≠ x -> H4 b = none -> H b = none := fun b nb h => by
  cases e : H b with
  | none => rfl
  | some o => have := (K02.trans K24) b o nb e; rw [h] at this; cases this
 have nx : ∀ b, H2 b = none -> b ≠ x := fun b h e => by rw [e, hx2] at h; cases h
 have nx4 : ∀ b, H4 b = none -> b ≠ x := fun b h e => by rw [e, hx4] at h; cases h
 have T6 := K46.tab I4 T4
 have st6 : H6 st = some (.lst (ss.map V.int)) := K06.lst I0 hst
 cases e : Oct.shapeO (2 * n) nt with
 | none =>
  rw [e] at N5
  cases N5
  rw [e] at q1
  refine q1 (st :: p3 :: bs3) H6 K06 (fun b hb => ?_) ⟨⟨dx, st, .ref p3, .non, hx6, st6, List.mem_cons_self, ⟨p3, bs3, rfl, T6, by simp, fun b hb => by simp [hb]⟩, rfl⟩, fun b hb => ?_⟩
  · rcases List.mem_cons.mp hb with z | z
    · rw [z]; exact .inl hsta
    rcases List.mem_cons.mp z with z | z
    · rw [z]; exact .inr (back _ (nx _ N3.newT) N3.newT)
    · exact .inr (back _ (nx _ (N3.newL b z)) (N3.newL b z))
  · rcases List.mem_cons.mp hb with z | z
    · rw [z]; exact ⟨_, st6⟩
    rcases List.mem_cons.mp z with z | z
    · rw [z]; exact ⟨_, T6.at_⟩
    · obtain ⟨i, hi, ei⟩ := List.getElem_of_mem z
      obtain ⟨y, _, hy⟩ := paired_get' T6.lines (i := i) (x := b) (by rw [List.getElem?_eq_getElem hi, ei])
      exact ⟨_, hy⟩
 | some s =>
  rw [e] at N5
  obtain ⟨p5, bs5, rfl, N5⟩ := N5
  rw [e] at q1
  have T56 := k6.tab I5 N5.tab
  refine q1 (st :: p3 :: p5 :: (bs3 ++ bs5)) H6 K06 (fun b hb => ?_) ⟨⟨dx, st, .ref p3, .ref p5, hx6, st6, List.mem_cons_self, ⟨p3, bs3, rfl, T6, by simp, fun b hb => by simp [hb]⟩, ⟨p5, bs5, rfl, T56, by simp, fun b hb => by simp [hb]⟩⟩, fun b hb => ?_⟩
  · rcases List.mem_cons.mp hb with z | z
    · rw [z]; exact .inl hsta
    rcases List.mem_cons.mp z with z | z
    · rw [z]; exact .inr (back _ (nx _ N3.newT) N3.newT)
    rcases List.mem_cons.mp z with z | z
    · rw [z]; exact .inr (back4 _ (nx4 _ N5.newT) N5.newT)
    rcases List.mem_append.mp z with z | z
    · exact .inr (back _ (nx _ (N3.newL b z)) (N3.newL b z))
    · exact .inr (back4 _ (nx4 _ (N5.newL b z)) (N5.newL b z))
  · rcases List.mem_cons.mp hb with z | z
    · rw [z]; exact ⟨_, st6⟩
    rcases List.mem_cons.mp z with z | z
    · rw [z]; exact ⟨_, T6.at_⟩
    rcases List.mem_cons.mp z with z | z
    · rw [z]; exact ⟨_, T56.at_⟩
    rcases List.mem_append.mp z with z | z
    · obtain ⟨i, hi, ei⟩ := List.getElem_of_mem z
      obtain ⟨y, _, hy⟩ := paired_get' T6.lines (i := i) (x := b) (by rw [List.getElem?_eq_getElem hi, ei])
      exact ⟨_, hy⟩
    · obtain ⟨i, hi, ei⟩ := List.getElem_of_mem z
      obtain ⟨y, _, hy⟩ := paired_get' T56.lines (i := i) (x := b) (by rw [List.getElem?_eq_getElem hi, ei])
      exact ⟨_, hy⟩
theorem ok_Climb_next_table {f : Addr} {fd : FuncData} (F : Fun K "next_table" "Climb.next_table" s_Climb_next_table f fd) (B : Bl4 mg) (D_widened : Def P w K mg base CX0 "widened" 5 ["table", "shape", "steps"] (sp_widened K)) (D_wide : Def P w K mg base CX0 "wide" 3 ["count"] (sp_wide K)) (D_copied : Def P w K mg base CX0 "copied" 1 ["shape"] (sp_copied K)) : FDef P w K mg base CX0 6 ["self", "shape"] (sp_Climb_next_table K Z_Climb) f := by
 refine ⟨fd, F.ok sc_Climb_next_table (fun vs H Q E h => ?_) (fun cdv A outer s H vs Q E hr h => ?_), F.binds (ps := ["self", "shape"]) fun _ _ _ _ _ _ us hl => (by obtain ⟨b0, b1, rfl⟩ := us2 hl; rfl)⟩
 · obtain ⟨x, v, as, n, ss, pat, k, r, m1, c, rfl, _⟩ := h
   rfl
 obtain ⟨x, v, as, n, ss, pat, k, r, m1, c, rfl, C, hV, hss, hn, q⟩ := h
 refine ⟨_, (@pss_cons _ _ _ _ _ (ps_if (pt_cmpR op_ge (pe_fldK (K := K) rfl (pv 0)) (pe_fldK (K := K) rfl (pv 0)) (nomark _)) (pss_one (ps_ret (pe_dz D_wide hr (pa_cons (pe_fldK (K := K) rfl (pv 0)) pa_nil)))) pss_nil)
  (@pss_cons _ _ _ _ _ (ps_if (pt_cmpR op_isN (pe_fldK (K := K) rfl (pv 0)) pe_non (nomark _)) (pss_one (ps_ret (pe_dz D_copied hr (pa_Name (pv 1) pa_nil)))) pss_nil)
  (pss_one (ps_ret (pe_dz D_widened hr (pa_cons (pe_fldK (K := K) rfl (pv 0)) (pa_Name (pv 1) (pa_cons (pe_fldK (K := K) rfl (pv 0)) pa_nil)))))))), ?_⟩
 obtain ⟨dx, st, kv, rv, hx, hst, _, hk, hr⟩ := C.obj
 refine seq_step fun U hU => ?_
 refine ⟨_, rfl, x, Z_Climb, dx, _, _, rfl, hx, T.cl_Climb, T.n_Climb_risen, lC6 _ _ _ _ _ _, _, rfl, x, Z_Climb, dx, _, _, rfl, hx, T.cl_Climb, T.n_Climb_patience, lC3 _ _ _ _ _ _, _, _, rfl, rfl, _, rfl, ?_⟩
 refine ite2 (fun h => ?_) (fun h => ?_)
 · have hle := of_decide_eq_true h
   refine ⟨_, rfl, x, Z_Climb, dx, _, _, rfl, hx, T.cl_Climb, T.n_Climb_count, lC1 _ _ _ _ _ _, n, rfl, hn, fun p bs H' sm N1 => ?_⟩
   have e : nextT pat m1 k ss c = Oct.wideT := by unfold nextT; rw [if_pos hle]
   rw [e] at q
   exact q p bs H' sm N1
 have hle : ¬ pat <= m1 := fun z => h (decide_eq_true z)
 show U _ _
 subst hU
 refine seq_step fun U hU => ?_
 refine ⟨_, rfl, x, Z_Climb, dx, _, _, rfl, hx, T.cl_Climb, T.n_Climb_kept, lC4 _ _ _ _ _ _, rfl, _, rfl, ?_⟩
 cases k with
 | none =>
  cases hk
  refine iteT ?_
  refine ⟨_, rfl, v, n, some c, rfl, hV, hn, fun u H' sm N1 => ?_⟩
  obtain ⟨p, bs, rfl, N1⟩ := N1
  have e : nextT pat m1 none ss c = c := by unfold nextT; rw [if_neg hle]
  rw [e] at q
  exact q p bs H' sm N1
 | some d =>
  obtain ⟨ka, kb, rfl, Tk, _⟩ := hk
  obtain ⟨va, vb, rfl, Tv⟩ := hV
  refine iteF ?_
  show U _ _
  subst hU
  refine ⟨_, rfl, x, Z_Climb, dx, _, _, rfl, hx, T.cl_Climb, T.n_Climb_kept, lC4 _ _ _ _ _ _, _, rfl, _, rfl, x, Z_Climb, dx, _, _, rfl, hx, T.cl_Climb, T.n_Climb_steps, lC2 _ _ _ _ _ _, ka, va, st, kb, vb, 2 * n, d, c, ss, rfl, Tk, Tv, SqL.of hst, hss, by omega, fun p bs H' sm N1 => ?_⟩
  have e : nextT pat m1 (some d) ss c = widT ss d c := by unfold nextT; rw [if_neg hle]
  rw [e] at q
  exact q p bs H' sm N1
theorem ok_Climb_shape {f : Addr} {fd : FuncData} (F : Fun K "shape" "Climb.shape" s_Climb_shape f fd) (B : Bl4 mg) (D_copied : Def P w K mg base CX0 "copied" 1 ["shape"] (sp_copied K)) : FDef P w K mg base CX0 2 ["self"] (sp_Climb_shape K Z_Climb) f := by
 refine ⟨fd, F.ok sc_Climb_shape (fun vs H Q E h => ?_) (fun cdv A outer s H vs Q E hr h => ?_), F.binds (ps := ["self"]) fun _ _ _ _ _ _ us hl => (by obtain ⟨b0, rfl⟩ := us1 hl; rfl)⟩
 · obtain ⟨x, as, n, ss, pat, k, r, m1, rfl, _⟩ := h
   rfl
 obtain ⟨x, as, n, ss, pat, k, r, m1, rfl, C, hn, q⟩ := h
 refine ⟨_, (pss_one (ps_ret (pe_dz D_copied hr (pa_cons (pe_fldK (K := K) rfl (pv 0)) pa_nil)))), ?_⟩
 obtain ⟨dx, st, kv, rv, hx, _, _, _, hr⟩ := C.obj
 exact ⟨_, rfl, x, Z_Climb, dx, _, _, rfl, hx, T.cl_Climb, T.n_Climb_reached, lC5 _ _ _ _ _ _, rv, n, r, rfl, hr.at, hn, q⟩
theorem ok_Climb_rises {f : Addr} {fd : FuncData} (F : Fun K "rises" "Climb.rises" s_Climb_rises f fd) (B : Bl4 mg)  : FDef P w K mg base CX0 1 ["self"] (sp_Climb_rises K Z_Climb) f := by
 refine ⟨fd, F.ok sc_Climb_rises (fun vs H Q E h => ?_) (fun cdv A outer s H vs Q E hr h => ?_), F.binds (ps := ["self"]) fun _ _ _ _ _ _ us hl => (by obtain ⟨b0, rfl⟩ := us1 hl; rfl)⟩
 · obtain ⟨x, as, n, ss, pat, k, r, m1, rfl, _⟩ := h
   rfl
 obtain ⟨x, as, n, ss, pat, k, r, m1, rfl, C, q⟩ := h
 refine ⟨_, (pss_one (ps_ret (pe_fldK (K := K) rfl (pv 0)))), ?_⟩
 obtain ⟨dx, st, kv, rv, hx, _⟩ := C.obj
 exact ⟨_, rfl, x, Z_Climb, dx, _, _, rfl, hx, T.cl_Climb, T.n_Climb_risen, lC6 _ _ _ _ _ _, q⟩
theorem ok__law_cell {f : Addr} {fd : FuncData} (F : Fun K "_law_cell" "_law_cell" s__law_cell f fd) (m : mg "_law_cell" = some (.ref f)) (B : Bl4 mg)  : Def P w K mg base CX0 "_law_cell" 1 ["_law_script", "_law_k"] (sp__law_cell K) := by
 refine ⟨f, fd, F.ok sc__law_cell (fun vs H Q E h => ?_) (fun cdv A outer s H vs Q E hr h => ?_), F.binds (ps := ["_law_script", "_law_k"]) fun _ _ _ _ _ _ us hl => (by obtain ⟨b0, b1, rfl⟩ := us2 hl; rfl), F.kp, m⟩
 · obtain ⟨a, ns, k, rfl, _⟩ := h
   rfl
 obtain ⟨a, ns, k, rfl, hS, h0, q⟩ := h
 refine ⟨_, (@pss_cons _ _ _ _ _ (ps_if (pt_cmpR op_lt (pv 1) (pe_callB (call_lenK (K := K) rfl) (by rfl) B.len (by decide +kernel) (pa_Name (pv 0) pa_nil)) (nomark _)) (pss_one (ps_ret (pe_xL (K := K) (pv 0) (pv 1)))) pss_nil)
  (@pss_cons _ _ _ _ _ (ps_sz 2 sc__law_cell.nd (pe_op op_mul (pv 1) pe_int))
  (@pss_cons _ _ _ _ _ (ps_if (pt_cmpR op_gt (pe_callB (call_lenK (K := K) rfl) (by rfl) B.len (by decide +kernel) (pa_Name (pv 0) pa_nil)) pe_int (nomark _)) (pss_one (ps_sz 2 sc__law_cell.nd (pe_op op_add (pv 2) (pe_op op_mod (pe_xL (K := K) (pv 0) (pe_op op_mod (pv 1) (pe_callB (call_lenK (K := K) rfl) (by rfl) B.len (by decide +kernel) (pa_Name (pv 0) pa_nil)))) pe_int)))) pss_nil)
  (@pss_cons _ _ _ _ _ (ps_sz 3 sc__law_cell.nd (pe_op op_mod (pe_op op_mul (pv 2) pe_int) pe_int))
  (pss_one (ps_ret (pe_op op_mod (pe_op op_fdiv (pe_op op_mul (pv 3) (pe_op op_add (pe_op op_add (pv 3) (pe_op op_mul pe_int (pv 1))) pe_int)) pe_int) pe_int))))))), ?_⟩
 have hl : (ns.map V.int).length = ns.length := List.length_map _
 refine seq_step fun U hU => ?_
 refine ⟨_, rfl, _, rfl, a, _, rfl, .inl hS, _, _, rfl, rfl, _, rfl, ?_⟩
 rw [hl]
 unfold cellI at q
 refine ite2 (fun h => ?_) (fun h => ?_)
 · have c := of_decide_eq_true h
   rw [if_pos c] at q
   exact ⟨_, rfl, _, rfl, a, _, k, _, rfl, rfl, hS, atI_int h0 c, q⟩
 have c := fun z => h (decide_eq_true z)
 rw [if_neg c] at q
 show U _ _
 subst hU
 refine seq_step fun U hU => ?_
 refine ⟨_, rfl, _, _, rfl, rfl, .inr ⟨by decide, by decide⟩, ?_⟩
 show U _ _
 subst hU
 refine seq_step fun U hU => ?_
 have last : ∀ sd : Int, Q (.int (hashI k sd)) H -> U [some (V.ref a), some (.int k), some (.int sd), none] H := fun sd q => by
  subst hU
  refine seq_step fun U hU => ?_
  refine ⟨_, rfl, _, _, rfl, rfl, .inr ⟨by decide, by decide⟩, _, _, rfl, rfl, (by show (0 : Int) < 65537; decide), ?_⟩
  show U _ _
  dsimp only
  subst hU
  have m1 := Int.emod_nonneg (sd * 48271) (b := 65537) (by decide)
  have m2 := Int.emod_lt_of_pos (sd * 48271) (b := 65537) (by decide)
  unfold hashI at q
  generalize sd * 48271 % 65537 = t at *
  exact ⟨_, rfl, _, rfl, _, rfl, _, _, rfl, rfl, .inl ⟨by decide, by decide⟩, _, _, rfl, rfl, _, _, rfl, rfl, _, _, rfl, rfl, .inl ⟨by show -(2 ^ 64) < t; omega, by show t < 2 ^ 64; omega⟩, _, _, rfl, rfl, ⟨by decide, by decide⟩, _, _, rfl, rfl, (by show (0 : Int) < 65521; decide), q⟩
 refine ⟨_, rfl, a, _, rfl, .inl hS, _, _, rfl, rfl, _, rfl, ?_⟩
 rw [hl]
 refine ite2 (fun d => ?_) (fun d => ?_)
 · have d' : 0 < ns.length := by have := of_decide_eq_true d; omega
   rw [if_pos d'] at q
   have m1 := Int.emod_nonneg k (b := (ns.length : Int)) (by omega)
   have m2 := Int.emod_lt_of_pos k (b := (ns.length : Int)) (by omega)
   refine ⟨_, rfl, _, rfl, _, rfl, _, rfl, a, _, rfl, .inl hS, _, _, rfl, rfl, (by show (0 : Int) < ((ns.map V.int).length : Int); rw [hl]; omega), a, _, _, _, rfl, rfl, hS, (by show atI _ (k % ((ns.map V.int).length : Int)) = _; rw [hl]; exact atI_int m1 m2), _, _, rfl, rfl, (by show (0 : Int) < 65537; decide), _, _, rfl, rfl, ?_⟩
   exact last _ q
 · have d' : ¬ 0 < ns.length := fun z => d (decide_eq_true (by omega))
   rw [if_neg d'] at q
   exact last _ q
theorem ok__law_whole {f : Addr} {fd : FuncData} (F : Fun K "_law_whole" "_law_whole" s__law_whole f fd) (m : mg "_law_whole" = some (.ref f)) (B : Bl4 mg)  : Def P w K mg base CX0 "_law_whole" 1 ["_law_found"] (sp__law_whole K) := by
 refine ⟨f, fd, F.ok sc__law_whole (fun vs H Q E h => ?_) (fun cdv A outer s H vs Q E hr h => ?_), F.binds (ps := ["_law_found"]) fun _ _ _ _ _ _ us hl => (by obtain ⟨b0, rfl⟩ := us1 hl; rfl), F.kp, m⟩
 · obtain ⟨i, rfl, _⟩ := h
   rfl
 obtain ⟨i, rfl, q⟩ := h
 refine ⟨_, (pss_one (ps_ret (pe_and (pe_callB (call_isTyK (K := K) rfl) (by rfl) B.isinstance (by decide +kernel) (pa_Name (pv 0) (pa_Name (pe_bltn (v := .ty "int") (u := .type "int") (by rfl) B.int (by decide +kernel) rfl) pa_nil))) (pe_one (pe_not (pe_callB (call_isTyK (K := K) rfl) (by rfl) B.isinstance (by decide +kernel) (pa_Name (pv 0) (pa_Name (pe_bltn (v := .ty "bool") (u := .type "bool") (by rfl) B.bool (by decide +kernel) rfl) pa_nil)))))))), ?_⟩
 refine ⟨_, rfl, true, isT_int_int, true, rfl, ?_⟩
 refine iteT ?_
 exact ⟨_, rfl, false, isT_int_bool, false, rfl, q⟩
theorem ok__law_worth {f : Addr} {fd : FuncData} (F : Fun K "_law_worth" "_law_worth" s__law_worth f fd) (m : mg "_law_worth" = some (.ref f)) (B : Bl4 mg)  : Def P w K mg base CX0 "_law_worth" 1 ["_law_point", "_law_f"] (sp__law_worth K) := by
 refine ⟨f, fd, F.ok sc__law_worth (fun vs H Q E h => ?_) (fun cdv A outer s H vs Q E hr h => ?_), F.binds (ps := ["_law_point", "_law_f"]) fun _ _ _ _ _ _ us hl => (by obtain ⟨b0, b1, rfl⟩ := us2 hl; rfl), F.kp, m⟩
 · obtain ⟨a, ns, f, rfl, _⟩ := h
   rfl
 obtain ⟨a, ns, f, rfl, hS, h0, h1, q⟩ := h
 refine ⟨_, (pss_one (ps_ret (pe_op op_mul (pe_xT (K := K) (pv 0) (pe_op op_fdiv (pv 1) pe_int)) (pe_op op_sub pe_int (pe_op op_mul (pe_op op_mod (pv 1) pe_int) pe_int))))), ?_⟩
 refine ⟨_, rfl, _, rfl, _, _, rfl, rfl, ⟨by decide, by decide⟩, a, _, _, _, rfl, rfl, hS, atI_int (by omega) (by omega), _, rfl, _, _, rfl, rfl, (by show (0 : Int) < 2; decide), _, _, rfl, rfl, .inr ⟨by decide, by decide⟩, _, _, rfl, rfl, _, _, rfl, rfl, .inr ⟨by show -(2 ^ 64) < 1 - f % 2 * 2; omega, by show 1 - f % 2 * 2 < 2 ^ 64; omega⟩, ?_⟩
 show Q (.int (ns.getD (f / 2).toNat 0 * (1 - f % 2 * 2))) H
 rw [worthI_eq]
 exact q
theorem ok__law_flip {f : Addr} {fd : FuncData} (F : Fun K "_law_flip" "_law_flip" s__law_flip f fd) (m : mg "_law_flip" = some (.ref f)) (B : Bl4 mg)  : Def P w K mg base CX0 "_law_flip" 1 ["_law_f"] (sp__law_flip K) := by
 refine ⟨f, fd, F.ok sc__law_flip (fun vs H Q E h => ?_) (fun cdv A outer s H vs Q E hr h => ?_), F.binds (ps := ["_law_f"]) fun _ _ _ _ _ _ us hl => (by obtain ⟨b0, rfl⟩ := us1 hl; rfl), F.kp, m⟩
 · obtain ⟨f, rfl, _⟩ := h
   rfl
 obtain ⟨f, rfl, q⟩ := h
 refine ⟨_, (pss_one (ps_ret (pe_op op_sub (pe_op op_add (pv 0) pe_int) (pe_op op_mul (pe_op op_mod (pv 0) pe_int) pe_int)))), ?_⟩
 simp [tSeq, tNext, tIfS, tRet, tAsg, gName, tTest, tOp, tUn, tVar, tC, rI, rI0, rU, rEq, rNe, scal, L2.start, tCall, tCB, tNil, tCons, tTup, tLst, tNot, tAnd, tOr, tAndV, tOrV, tNotV, tIf, tDrop, CDiv, tB, rIxT, rIxL, tSl, tPart, tNoPart, tYes, CPow, CMul]
 rw [← flipI_eq] at q
 exact q
theorem ok__law_wide {f : Addr} {fd : FuncData} (F : Fun K "_law_wide" "_law_wide" s__law_wide f fd) (m : mg "_law_wide" = some (.ref f)) (B : Bl4 mg) (D__law_flip : Def P w K mg base CX0 "_law_flip" 1 ["_law_f"] (sp__law_flip K)) : Def P w K mg base CX0 "_law_wide" 2 ["_law_count"] (sp__law_wide K) := by
 refine ⟨f, fd, F.ok sc__law_wide (fun vs H Q E h => ?_) (fun cdv A outer s H vs Q E hr h => ?_), F.binds (ps := ["_law_count"]) fun _ _ _ _ _ _ us hl => (by obtain ⟨b0, rfl⟩ := us1 hl; rfl), F.kp, m⟩
 · obtain ⟨n, rfl, _⟩ := h
   rfl
 obtain ⟨n, rfl, hn, q⟩ := h
 refine ⟨_, (@pss_cons _ _ _ _ _ (ps_sz 1 sc__law_wide.nd (pe_lst pa_nil))
  (@pss_cons _ _ _ _ _ (ps_for PassesOwn.never rfl (pi_range1 (by rfl) B.range (pa_BinOp (pe_op op_mul pe_int (pv 0)) pa_nil)) (pg_nz 2 sc__law_wide.nd) (@pss_cons _ _ _ _ _ (ps_setC (i := 3) (CompScope.of sc__law_wide.nd (by rfl)) rfl (pi_range1 (by rfl) B.range (pa_BinOp (pe_op op_mul pe_int (pv 0)) pa_nil)) (fun _ _ _ => pif_nil) (fun _ _ _ => pe_non) sc__law_wide.nd rfl (by first | exact Or.inl rfl | exact Or.inr rfl) rfl)
  (@pss_cons _ _ _ _ _ (ps_asg pe_int (pg_sub (pv 3) (pe_dz D__law_flip hr (pa_Name (pv 2) pa_nil)) set_list))
  (pss_one (ps_expr (pe_bm PySem.F.plainAttrs_list PySem.F.slot_list_append PySem.F.type_list_append mt_append (pv 1) (pa_Name (pv 3) pa_nil)))))))
  (pss_one (ps_ret (pv 1))))), ?_⟩
 refine seq_step fun U hU => ?_
 refine ⟨sz 0, fun p hp => ?_⟩
 show U _ _
 subst hU
 refine seq_step fun U hU => ?_
 refine ⟨_, rfl, _, _, rfl, rfl, .inl ⟨by decide, by decide⟩, (2 * (n : Int)), rfl, by omega, by omega, for_range (lo := 0) (n := (2 * (n : Int)).toNat) (fun i σ H' => ∃ x y vs, σ = [some (.int n), some (.ref p), x, y] /\ Grow H H' p vs (Oct.rows i (2 * n) Oct.wideT)) ⟨none, none, [], rfl, Grow.start hp⟩ ?_ ?_⟩
 · rintro i σ H1 hi ⟨x, y, vs, rfl, G⟩
   have hi' : i < 2 * n := by omega
   rw [Int.zero_add]
   have ep : H1 p = some (.lst vs) := by obtain ⟨bs, rfl, T, _⟩ := G; exact T.tab.at_
   refine seq_step fun U hU => ?_
   refine ⟨_, rfl, _, _, rfl, rfl, .inl ⟨by decide, by decide⟩, (2 * (n : Int)), rfl, by omega, by omega, fun l hl => comp_rangeN (lo := 0) (n := (2 * (n : Int)).toNat) (fun j ws H2 => ws = (Oct.ln j fun _ => none).map eV /\ H2 l = some (.lst ws) /\ Same H1 H2) ⟨rfl, upd_same, same_new hl _⟩ ?_ ?_⟩
   · rintro j ws H2 hj ⟨rfl, hl', sm⟩
     simp only [tYes, ↓reduceIte]
     exact ⟨hl', by rw [ln_lenV]; exact small1000 (by omega), again hj ⟨ln_snocV j (fun _ => none), upd_same, same_over hl sm⟩⟩
   · rintro ws H2 ⟨rfl, hl', sm⟩
     rw [show (2 * (n : Int)).toNat = 2 * n by omega] at hl'
     show U _ _
     subst hU
     refine seq_step fun U hU => ?_
     have hfl : Oct.fl i < 2 * n := Oct.fl_lt hi'
     refine ⟨_, rfl, _, rfl, (i : Int), rfl, l, _, _, Oct.fl i, rfl, rfl, hl', by rw [flip_nat, ln_lenV]; exact ixN_nat hfl, ?_⟩
     show U _ _
     subst hU
     have ew : ((Oct.ln (2 * n) fun _ => none).map eV).set (Oct.fl i) (.int 0) = (Oct.ln (2 * n) (Oct.wideT i)).map eV := by
      rw [show (V.int 0) = eV (some 0) from rfl, map_set_eV, Oct.ln_set]
      rfl
     rw [ew]
     have hl3 : upd H2 l (.lst ((Oct.ln (2 * n) (Oct.wideT i)).map eV)) l = some (.lst ((Oct.ln (2 * n) (Oct.wideT i)).map eV)) := upd_same
     have s3 : Same H1 (upd H2 l (.lst ((Oct.ln (2 * n) (Oct.wideT i)).map eV))) := same_over hl sm
     generalize upd H2 l (.lst ((Oct.ln (2 * n) (Oct.wideT i)).map eV)) = H3 at *
     have st := G.step hl s3 hl3
     refine ⟨_, rfl, .inl ⟨rfl, _, SqL.of st.1⟩, _, rfl, p, _, _, rfl, rfl, st.1, by rw [G.len, Oct.rows_len]; exact small1000 (by omega), ?_⟩
     refine ⟨_, _, vs ++ [.ref l], rfl, ?_⟩
     rw [Oct.rows_succ]
     exact st.2
 · rintro σ H1 ⟨x, y, vs, rfl, bs', evs, T1, sm⟩
   show U _ _
   subst hU
   rw [show (2 * (n : Int)).toNat = 2 * n by omega] at T1
   exact ⟨_, rfl, q p bs' H1 sm T1⟩
theorem ok__law_entry {f : Addr} {fd : FuncData} (F : Fun K "_law_entry" "_law_entry" s__law_entry f fd) (m : mg "_law_entry" = some (.ref f)) (B : Bl4 mg) (D__law_flip : Def P w K mg base CX0 "_law_flip" 1 ["_law_f"] (sp__law_flip K)) (D__law_worth : Def P w K mg base CX0 "_law_worth" 1 ["_law_point", "_law_f"] (sp__law_worth K)) : Def P w K mg base CX0 "_law_entry" 2 ["_law_points_here", "_law_up_here", "_law_f", "_law_g"] (sp__law_entry K) := by
 refine ⟨f, fd, F.ok sc__law_entry (fun vs H Q E h => ?_) (fun cdv A outer s H vs Q E hr h => ?_), F.binds (ps := ["_law_points_here", "_law_up_here", "_law_f", "_law_g"]) fun _ _ _ _ _ _ us hl => (by obtain ⟨b0, b1, b2, b3, rfl⟩ := us4 hl; rfl), F.kp, m⟩
 · obtain ⟨a, up, ys, P1, n, f, g, rfl, _⟩ := h
   rfl
 obtain ⟨a, up, ys, P1, n, f, g, rfl, hA, hP, hne, hPl, hf, hg, q⟩ := h
 refine ⟨_, (@pss_cons _ _ _ _ _ (ps_if (pw_and (pt_cmpR op_notN (pv 1) pe_non (nomark _)) (pw_and (pt_cmpR op_eq (pv 2) (pv 1) (nomark _)) (pw_and1 (pt_cmpR op_ne (pv 3) (pe_dz D__law_flip hr (pa_Name (pv 1) pa_nil)) (nomark _))))).pt (pss_one (ps_ret pe_non)) pss_nil)
  (@pss_cons _ _ _ _ _ (ps_if (pw_and (pt_cmpR op_notN (pv 1) pe_non (nomark _)) (pw_and (pt_cmpR op_eq (pv 3) (pv 1) (nomark _)) (pw_and1 (pt_cmpR op_ne (pv 2) (pe_dz D__law_flip hr (pa_Name (pv 1) pa_nil)) (nomark _))))).pt (pss_one (ps_ret pe_non)) pss_nil)
  (pss_one (ps_ret (pe_callB (call_max1 (K := K) rfl rfl) (by rfl) B.max (by decide +kernel) (pa_cons (pe_comp (CompScope.of sc__law_entry.nd (by rfl)) rfl (pi_listK (K := K) rfl (pv 0)) (fun _ _ _ => pif_nil) (fun _ _ _ => (pe_op op_add (pe_dz D__law_worth hr (pa_Name (pv 0) (pa_Name (pv 3) pa_nil))) (pe_dz D__law_worth hr (pa_Name (pv 0) (pa_Name (pv 4) pa_nil)))))) pa_nil)))))), ?_⟩
 have lP := paired_len hP
 have noneQ : 0 < dirO up f + dirO up g -> Q .non H := fun z => by
  have e : entU P1 up f g = none := by unfold entU; rw [if_pos z]
  have q0 := q H (Same.refl _)
  rw [e] at q0
  exact q0
 refine seq_step fun U hU => ?_
 have second : (∀ u, up = some u -> ¬ (f = u /\ g ≠ Oct.fl u)) -> U [some (V.ref a), some (uV up), some (.int f), some (.int g)] H := by
  intro n1
  subst hU
  refine seq_step fun U hU => ?_
  have third : (∀ u, up = some u -> ¬ (g = u /\ f ≠ Oct.fl u)) -> U [some (V.ref a), some (uV up), some (.int f), some (.int g)] H := by
   intro n2
   subst hU
   have hr : ¬ 0 < dirO up f + dirO up g := by
    cases up with
    | none => simp [dirO]
    | some u => exact dir_no (n1 u rfl) (n2 u rfl)
   refine ⟨_, rfl, a, rfl, ⟨_, hA⟩, fun p hp => comp_listN (K := K) (a := a) (xs := ys) (fun i ws H2 => ws = (sumsI (P1.take i) f g).map V.int /\ H2 p = some (.lst ws) /\ Same H H2) ⟨rfl, upd_same, same_new hp _⟩ (fun i ws H2 _ ⟨_, _, sm⟩ => sm.seq hA) ?_ ?_⟩
   · rintro i v ws H2 hv ⟨rfl, hp', sm⟩
     obtain ⟨pt, ep, pa, rfl, hpa, lp⟩ := paired_get' hP hv
     have hq : SqT K H2 pa (pt.map V.int) := SqT.of (sm _ _ hpa)
     have hi : i < P1.length := (List.getElem?_eq_some_iff.mp ep).1
     simp only [tYes, ↓reduceIte]
     refine ⟨_, rfl, _, rfl, pa, pt, (f : Int), rfl, hq, by omega, by omega, _, rfl, _, rfl, pa, pt, (g : Int), rfl, hq, by omega, by omega, _, _, rfl, rfl, hp', by rw [List.length_map, sumsI, List.length_map, List.length_take]; exact small1000 (by omega), again (by omega) ⟨by rw [pts_take_succ ep, List.map_append]; rfl, upd_same, same_over hp sm⟩⟩
   · rintro ws H2 ⟨rfl, hp', sm⟩
     rw [lP, List.take_length] at hp'
     cases P1 with
     | nil => exact absurd rfl hne
     | cons b0 r0 =>
      refine ⟨p, _, _, rfl, SqL.of hp', ?_⟩
      have e : entU (b0 :: r0) up f g = some (topI (sumsI (b0 :: r0) f g)) := by unfold entU; rw [if_neg hr]
      have q0 := q H2 sm
      rw [e] at q0
      exact q0
  refine ⟨_, rfl, rfl, _, rfl, ?_⟩
  cases up with
  | none =>
   refine iteF ?_
   refine iteF ?_
   exact third (fun u e => by cases e)
  | some u =>
   refine iteT ?_
   refine ⟨_, rfl, _, rfl, rfl, _, rfl, ?_⟩
   refine ite2 (fun h => ?_) (fun h => ?_)
   · have e1 : g = u := by have := V.int.inj (of_decide_eq_true h); omega
     refine ⟨_, rfl, _, rfl, (u : Int), rfl, rfl, _, rfl, ?_⟩
     rw [flip_nat]
     by_cases e2 : f = Oct.fl u
     · refine iteNS (by rw [e2]) ?_
       exact third (fun w e z => by cases e; exact z.2 e2)
     · rw [decide_eq_false (show ¬ V.int (f : Int) = V.int ((Oct.fl u : Nat) : Int) from fun z => e2 (by have := V.int.inj z; omega))]
       refine iteT ?_
       exact noneQ (dir_yes (.inr ⟨e1, e2⟩))
   · refine iteF ?_
     exact third (fun w e z => by cases e; exact h (decide_eq_true (by rw [z.1]; rfl)))
 refine ⟨_, rfl, rfl, _, rfl, ?_⟩
 cases up with
 | none =>
  refine iteF ?_
  refine iteF ?_
  exact second (fun u e => by cases e)
 | some u =>
  refine iteT ?_
  refine ⟨_, rfl, _, rfl, rfl, _, rfl, ?_⟩
  refine ite2 (fun h => ?_) (fun h => ?_)
  · have e1 : f = u := by have := V.int.inj (of_decide_eq_true h); omega
    refine ⟨_, rfl, _, rfl, (u : Int), rfl, rfl, _, rfl, ?_⟩
    rw [flip_nat]
    by_cases e2 : g = Oct.fl u
    · refine iteNS (by rw [e2]) ?_
      exact second (fun w e z => by cases e; exact z.2 e2)
    · rw [decide_eq_false (show ¬ V.int (g : Int) = V.int ((Oct.fl u : Nat) : Int) from fun z => e2 (by have := V.int.inj z; omega))]
      refine iteT ?_
      exact noneQ (dir_yes (.inl ⟨e1, e2⟩))
  · refine iteF ?_
    exact second (fun w e z => by cases e; exact h (decide_eq_true (by rw [z.1]; rfl)))
theorem ok__law_table {f : Addr} {fd : FuncData} (F : Fun K "_law_table" "_law_table" s__law_table f fd) (m : mg "_law_table" = some (.ref f)) (B : Bl4 mg) (D__law_entry : Def P w K mg base CX0 "_law_entry" 2 ["_law_points_here", "_law_up_here", "_law_f", "_law_g"] (sp__law_entry K)) : Def P w K mg base CX0 "_law_table" 3 ["_law_points_here", "_law_up_here", "_law_count"] (sp__law_table K) := by
 refine ⟨f, fd, F.ok sc__law_table (fun vs H Q E h => ?_) (fun cdv A outer s H vs Q E hr h => ?_), F.binds (ps := ["_law_points_here", "_law_up_here", "_law_count"]) fun _ _ _ _ _ _ us hl => (by obtain ⟨b0, b1, b2, rfl⟩ := us3 hl; rfl), F.kp, m⟩
 · obtain ⟨a, up, ys, P1, n, rfl, _⟩ := h
   rfl
 obtain ⟨a, up, ys, P1, n, rfl, hA, hP, hne, hPl, hn, q⟩ := h
 refine ⟨_, (@pss_cons _ _ _ _ _ (ps_sz 3 sc__law_table.nd (pe_lst pa_nil))
  (@pss_cons _ _ _ _ _ (ps_for PassesOwn.never rfl (pi_range1 (by rfl) B.range (pa_BinOp (pe_op op_mul pe_int (pv 2)) pa_nil)) (pg_nz 4 sc__law_table.nd) (pss_one (ps_expr (pe_bm PySem.F.plainAttrs_list PySem.F.slot_list_append PySem.F.type_list_append mt_append (pv 3) (pa_cons (pe_comp (CompScope.of sc__law_table.nd (by rfl)) rfl (pi_range1 (by rfl) B.range (pa_BinOp (pe_op op_mul pe_int (pv 2)) pa_nil)) (fun _ _ _ => pif_nil) (fun _ _ _ => (pe_dz D__law_entry hr (pa_Name (pv 1) (pa_Name (pv 2) (pa_Name (pv 5) (pa_Name (pv 0) pa_nil))))))) pa_nil)))))
  (pss_one (ps_ret (pv 3))))), ?_⟩
 refine seq_step fun U hU => ?_
 refine ⟨sz 0, fun p hp => ?_⟩
 show U _ _
 subst hU
 refine seq_step fun U hU => ?_
 refine ⟨_, rfl, _, _, rfl, rfl, .inl ⟨by decide, by decide⟩, (2 * (n : Int)), rfl, by omega, by omega, for_range (lo := 0) (n := (2 * (n : Int)).toNat) (fun i σ H' => ∃ x vs, σ = [some (.ref a), some (uV up), some (.int n), some (.ref p), x] /\ Grow H H' p vs (Oct.rows i (2 * n) (entU P1 up))) ⟨none, [], rfl, Grow.start hp⟩ ?_ ?_⟩
 · rintro i σ H1 hi ⟨x, vs, rfl, G⟩
   have s1 := G.same
   obtain ⟨bs', evs, T1, _⟩ := id G
   have ep : H1 p = some (.lst vs) := by rw [evs]; exact T1.tab.at_
   refine ⟨_, rfl, .inl ⟨rfl, _, SqL.of ep⟩, _, rfl, _, _, rfl, rfl, .inl ⟨by decide, by decide⟩, (2 * (n : Int)), rfl, by omega, by omega, fun l hl => comp_rangeN (lo := 0) (n := (2 * (n : Int)).toNat) (fun j ws H2 => ws = (Oct.ln j (entU P1 up i)).map eV /\ H2 l = some (.lst ws) /\ Same H1 H2) ⟨rfl, upd_same, same_new hl _⟩ ?_ ?_⟩
   · rintro j ws H2 hj ⟨rfl, hl', sm⟩
     have s2 := s1.trans sm
     simp only [tYes, ↓reduceIte]
     refine ⟨_, rfl, _, rfl, _, rfl, _, rfl, a, up, ys, P1, n, i, j, by simp, s2.seq hA, pts_same s2 hP, hne, hPl, by omega, by omega, fun H3 sm3 => ?_⟩
     exact ⟨sm3 _ _ hl', by rw [ln_lenV]; exact small1000 (by omega), again hj ⟨ln_snocV j (entU P1 up i), upd_same, same_over hl (sm.trans sm3)⟩⟩
   · rintro ws H2 ⟨rfl, hl', sm⟩
     rw [show (2 * (n : Int)).toNat = 2 * n by omega] at hl'
     have st := G.step hl sm hl'
     refine ⟨p, _, _, rfl, rfl, st.1, by rw [G.len, Oct.rows_len]; exact small1000 (by omega), ?_⟩
     refine ⟨_, vs ++ [.ref l], rfl, ?_⟩
     rw [Oct.rows_succ]
     exact st.2
 · rintro σ H1 ⟨x, vs, rfl, bs', evs, T1, sm⟩
   show U _ _
   subst hU
   rw [show (2 * (n : Int)).toNat = 2 * n by omega] at T1
   exact ⟨_, rfl, q p bs' H1 sm T1⟩
theorem ok__law_points {f : Addr} {fd : FuncData} (F : Fun K "_law_points" "_law_points" s__law_points f fd) (m : mg "_law_points" = some (.ref f)) (B : Bl4 mg)  : Def P w K mg base CX0 "_law_points" 1 ["_law_cell_here", "_law_turn", "_law_drift"] (sp__law_points K) := by
 refine ⟨f, fd, F.ok sc__law_points (fun vs H Q E h => ?_) (fun cdv A outer s H vs Q E hr h => ?_), F.binds (ps := ["_law_cell_here", "_law_turn", "_law_drift"]) fun _ _ _ _ _ _ us hl => (by obtain ⟨b0, b1, b2, rfl⟩ := us3 hl; rfl), F.kp, m⟩
 · obtain ⟨c, t, dr, ds, rfl, _⟩ := h
   rfl
 obtain ⟨c, t, dr, ds, rfl, hD, d1, d3, t0, t1, q⟩ := h
 refine ⟨_, (@pss_cons _ _ _ _ _ (ps_if (pt_cmpR op_eq (pe_op op_mod (pv 0) pe_int) pe_int (nomark _)) (pss_one (ps_ret (pe_lst pa_nil))) pss_nil)
  (@pss_cons _ _ _ _ _ (ps_sz 3 sc__law_points.nd (pe_lst (pa_Constant pe_int (pa_Constant pe_int (pa_Constant pe_int pa_nil)))))
  (@pss_cons _ _ _ _ _ (ps_sz 4 sc__law_points.nd (pe_comp (CompScope.of sc__law_points.nd (by rfl)) rfl (pi_range1 (by rfl) B.range (pa_Call (pe_callB (call_lenK (K := K) rfl) (by rfl) B.len (by decide +kernel) (pa_Name (pv 2) pa_nil)) pa_nil)) (fun _ _ _ => pif_nil) (fun _ _ _ => (pe_op op_sub (pe_op op_add (pe_op op_mul (pv 2) (pe_xL (K := K) (pv 3) (pv 0))) (pe_op op_mod (pe_op op_fdiv (pv 1) (pe_xL (K := K) (pv 4) (pv 0))) pe_int)) pe_int))))
  (@pss_cons _ _ _ _ _ (ps_if (pt_cmpR op_eq (pe_op op_mod (pv 0) pe_int) pe_int (nomark _)) (@pss_cons _ _ _ _ _ (ps_sz 5 sc__law_points.nd (pe_op op_sub (pe_op op_mod (pe_op op_fdiv (pv 0) pe_int) (pe_op op_add (pe_op op_mul pe_int (pe_op op_pow pe_int pe_int)) pe_int)) (pe_op op_pow pe_int pe_int)))
  (pss_one (ps_augS (pv 4) (pe_op op_mod (pe_op op_fdiv (pv 0) pe_int) (pe_callB (call_lenK (K := K) rfl) (by rfl) B.len (by decide +kernel) (pa_Name (pv 2) pa_nil))) (get_listK (K := K) rfl) (pv 5) ip_add set_list))) pss_nil)
  (@pss_cons _ _ _ _ _ (ps_sz 6 sc__law_points.nd (pe_lst (pa_Call (pe_callTy (call_tuple_ofK (K := K) rfl) (by rfl) B.tuple (by decide +kernel) (pa_Name (pv 4) pa_nil)) pa_nil)))
  (@pss_cons _ _ _ _ _ (ps_if (pw_or (pt_cmpR op_eq (pe_op op_mod (pv 0) pe_int) pe_int (nomark _)) (pw_or1 (pt_cmpR op_eq (pe_op op_mod (pv 0) pe_int) pe_int (nomark _)))).pt (pss_one (ps_expr (pe_bm PySem.F.plainAttrs_list PySem.F.slot_list_append PySem.F.type_list_append mt_append (pv 6) (pa_Call (pe_callTy (call_tuple_ofK (K := K) rfl) (by rfl) B.tuple (by decide +kernel) (pa_cons (pe_comp (CompScope.of sc__law_points.nd (by rfl)) rfl (pi_range1 (by rfl) B.range (pa_Call (pe_callB (call_lenK (K := K) rfl) (by rfl) B.len (by decide +kernel) (pa_Name (pv 2) pa_nil)) pa_nil)) (fun _ _ _ => pif_nil) (fun _ _ _ => (pe_op op_sub (pe_op op_add (pe_xL (K := K) (pv 5) (pv 0)) (pe_op op_mod (pe_op op_fdiv (pv 1) (pe_xL (K := K) (pv 4) (pv 0))) pe_int)) pe_int))) pa_nil)) pa_nil)))) pss_nil)
  (pss_one (ps_ret (pv 6))))))))), ?_⟩
 have lD : (ds.map V.int).length = ds.length := List.length_map _
 have ct : ∀ z : Int, CMul t z := fun z => .inl ⟨by omega, by omega⟩
 refine seq_step fun U hU => ?_
 refine ⟨_, rfl, _, _, rfl, rfl, (by show (0 : Int) < 7; decide), rfl, _, rfl, ?_⟩
 refine ite2 (fun h => ?_) (fun h => ?_)
 · refine ⟨sz 0, fun l hl => ?_⟩
   exact q l _ [] [] (same_new hl _) hl upd_same .nil (by simp)
 show U _ _
 subst hU
 refine seq_step fun U hU => ?_
 refine ⟨sz 3, fun pa hpa => ?_⟩
 show U _ _
 subst hU
 have s0 := same_new hpa (.lst [.int 7, .int 63, .int 567])
 have e0 : upd H pa (.lst [.int 7, .int 63, .int 567]) pa = some (.lst [.int 7, .int 63, .int 567]) := upd_same
 generalize upd H pa (.lst [.int 7, .int 63, .int 567]) = H0 at *
 refine seq_step fun U hU => ?_
 refine ⟨_, rfl, dr, _, rfl, .inl (s0.seq hD), ((ds.map V.int).length : Int), rfl, by omega, by omega, fun p hp => comp_rangeN (lo := 0) (n := ((ds.map V.int).length : Int).toNat) (fun i ys H' => ∃ zs : List Int, ys = zs.map V.int /\ zs.length = i /\ H' p = some (.lst ys) /\ Same H0 H') ⟨[], rfl, rfl, upd_same, same_new hp _⟩ ?_ ?_⟩
 · rintro i ys H1 hi ⟨zs, rfl, lz, hp', sm⟩
   obtain ⟨m, em, m0, m1⟩ := part_seven (k := i) (by omega)
   simp only [tYes, ↓reduceIte]
   rw [Int.zero_add]
   refine ⟨_, rfl, _, rfl, _, rfl, dr, _, _, _, rfl, rfl, (s0.trans sm).seq hD, atI_int (by omega) (by omega), _, _, rfl, rfl, ct _, _, rfl, _, rfl, _, rfl, pa, _, _, _, rfl, rfl, SqL.of (sm _ _ e0), em, _, _, rfl, rfl, ⟨m0, m1⟩, _, _, rfl, rfl, (by show (0 : Int) < 9; decide), _, _, rfl, rfl, _, _, rfl, rfl, hp', by rw [List.length_map]; exact small1000 (by omega), again hi ⟨zs ++ [_], by rw [List.map_append]; rfl, by simp [lz], upd_same, same_over hp sm⟩⟩
 rintro ys H1 ⟨zs, rfl, lz, hp', sm⟩
 have lz : zs.length = ds.length := by omega
 show U _ _
 subst hU
 have hp0 : H p = none := s0.free hp
 have s1 := s0.trans sm
 have e1 := sm _ _ e0
 have npa : p ≠ pa := fun e => by rw [e, e0] at hp; cases hp
 refine seq_step fun U hU => ?_
 have rest : ∀ (ws : List Int) (y : Option V) (H2 : Hp), Same H H2 -> H2 pa = some (.lst [.int 7, .int 63, .int 567]) -> H2 p = some (.lst (ws.map V.int)) -> ws.length = ds.length -> U [some (V.int c), some (.int t), some (.ref dr), some (.ref pa), some (.ref p), y, none] H2 := by
  intro ws y H2 s2 epa ep lw
  subst hU
  refine seq_step fun U hU => ?_
  refine ⟨_, rfl, p, _, rfl, .inl ⟨SqL.of ep, fun tp htp => ?_⟩⟩
  have s3 := same_new htp (.tup (ws.map V.int))
  have etp : upd H2 tp (.tup (ws.map V.int)) tp = some (.tup (ws.map V.int)) := upd_same
  generalize upd H2 tp (.tup (ws.map V.int)) = H3 at *
  refine ⟨sz 1, fun l hl => ?_⟩
  show U _ _
  subst hU
  have s4 := same_new hl (.lst [.ref tp])
  have el : upd H3 l (.lst [.ref tp]) l = some (.lst [.ref tp]) := upd_same
  have hl0 : H l = none := (s2.trans s3).free hl
  generalize upd H3 l (.lst [.ref tp]) = H4 at *
  have s34 := s3.trans s4
  have s04 := s2.trans s34
  have P4 : Paired (PtAt ds.length H4) [.ref tp] [ws] := .cons ⟨tp, rfl, s4 _ _ etp, lw⟩ .nil
  have ep4 := s34 _ _ ep
  refine seq_step fun U hU => ?_
  have fin : U [some (V.int c), some (.int t), some (.ref dr), some (.ref pa), some (.ref p), y, some (.ref l)] H4 := by
   subst hU
   exact ⟨_, rfl, q l H4 _ _ s04 hl0 el P4 (by simp)⟩
  refine ⟨_, rfl, _, _, rfl, rfl, (by show (0 : Int) < 7; decide), rfl, _, rfl, ?_⟩
  refine ite2 (fun h2 => ?_) (fun h2 => ?_)
  · refine iteT ?_
    refine ⟨_, rfl, .inl ⟨rfl, _, SqL.of el⟩, _, rfl, dr, _, rfl, .inl (s04.seq hD), ((ds.map V.int).length : Int), rfl, by omega, by omega, fun p5 hp5 => comp_rangeN (lo := 0) (n := ((ds.map V.int).length : Int).toNat) (fun i ys H' => ∃ zs : List Int, ys = zs.map V.int /\ zs.length = i /\ H' p5 = some (.lst ys) /\ Same H4 H') ⟨[], rfl, rfl, upd_same, same_new hp5 _⟩ ?_ ?_⟩
    · rintro i ys H5 hi ⟨us, rfl, lu, hp5', sm5⟩
      obtain ⟨m, em, m0, m1⟩ := part_seven (k := i) (by omega)
      simp only [tYes, ↓reduceIte]
      rw [Int.zero_add]
      refine ⟨_, rfl, _, rfl, p, _, _, _, rfl, rfl, SqL.of (sm5 _ _ ep4), atI_int (by omega) (by omega), _, rfl, _, rfl, _, rfl, pa, _, _, _, rfl, rfl, SqL.of (sm5 _ _ (s34 _ _ epa)), em, _, _, rfl, rfl, ⟨m0, m1⟩, _, _, rfl, rfl, (by show (0 : Int) < 5; decide), _, _, rfl, rfl, _, _, rfl, rfl, hp5', by rw [List.length_map]; exact small1000 (by omega), again hi ⟨us ++ [_], by rw [List.map_append]; rfl, by simp [lu], upd_same, same_over hp5 sm5⟩⟩
    · rintro ys H5 ⟨us, rfl, lu, hp5', sm5⟩
      refine ⟨p5, _, rfl, .inl ⟨SqL.of hp5', fun tq htq => ?_⟩⟩
      have s6 := same_new htq (.tup (us.map V.int))
      have etq : upd H5 tq (.tup (us.map V.int)) tq = some (.tup (us.map V.int)) := upd_same
      generalize upd H5 tq (.tup (us.map V.int)) = H6 at *
      have s46 := sm5.trans s6
      have el6 := s46 _ _ el
      refine ⟨l, _, _, rfl, rfl, el6, small1000 (by simp), ?_⟩
      show U _ _
      subst hU
      exact ⟨_, rfl, q l _ _ [ws, us] (same_over hl0 (s04.trans s46)) hl0 upd_same (paired_snoc (pts_put el6 (pts_same s46 P4)) (PtAt.put el6 ⟨tq, rfl, etq, by omega⟩)) (by simp)⟩
  · refine ⟨_, rfl, _, _, rfl, rfl, (by show (0 : Int) < 7; decide), rfl, _, rfl, ?_⟩
    refine ite2 (fun h3 => ?_) (fun h3 => ?_)
    · refine ⟨_, rfl, .inl ⟨rfl, _, SqL.of el⟩, _, rfl, dr, _, rfl, .inl (s04.seq hD), ((ds.map V.int).length : Int), rfl, by omega, by omega, fun p5 hp5 => comp_rangeN (lo := 0) (n := ((ds.map V.int).length : Int).toNat) (fun i ys H' => ∃ zs : List Int, ys = zs.map V.int /\ zs.length = i /\ H' p5 = some (.lst ys) /\ Same H4 H') ⟨[], rfl, rfl, upd_same, same_new hp5 _⟩ ?_ ?_⟩
      · rintro i ys H5 hi ⟨us, rfl, lu, hp5', sm5⟩
        obtain ⟨m, em, m0, m1⟩ := part_seven (k := i) (by omega)
        simp only [tYes, ↓reduceIte]
        rw [Int.zero_add]
        refine ⟨_, rfl, _, rfl, p, _, _, _, rfl, rfl, SqL.of (sm5 _ _ ep4), atI_int (by omega) (by omega), _, rfl, _, rfl, _, rfl, pa, _, _, _, rfl, rfl, SqL.of (sm5 _ _ (s34 _ _ epa)), em, _, _, rfl, rfl, ⟨m0, m1⟩, _, _, rfl, rfl, (by show (0 : Int) < 5; decide), _, _, rfl, rfl, _, _, rfl, rfl, hp5', by rw [List.length_map]; exact small1000 (by omega), again hi ⟨us ++ [_], by rw [List.map_append]; rfl, by simp [lu], upd_same, same_over hp5 sm5⟩⟩
      · rintro ys H5 ⟨us, rfl, lu, hp5', sm5⟩
        refine ⟨p5, _, rfl, .inl ⟨SqL.of hp5', fun tq htq => ?_⟩⟩
        have s6 := same_new htq (.tup (us.map V.int))
        have etq : upd H5 tq (.tup (us.map V.int)) tq = some (.tup (us.map V.int)) := upd_same
        generalize upd H5 tq (.tup (us.map V.int)) = H6 at *
        have s46 := sm5.trans s6
        have el6 := s46 _ _ el
        refine ⟨l, _, _, rfl, rfl, el6, small1000 (by simp), ?_⟩
        show U _ _
        subst hU
        exact ⟨_, rfl, q l _ _ [ws, us] (same_over hl0 (s04.trans s46)) hl0 upd_same (paired_snoc (pts_put el6 (pts_same s46 P4)) (PtAt.put el6 ⟨tq, rfl, etq, by omega⟩)) (by simp)⟩
    · exact fin
 refine ⟨_, rfl, _, _, rfl, rfl, (by show (0 : Int) < 7; decide), rfl, _, rfl, ?_⟩
 refine ite2 (fun h2 => ?_) (fun h2 => ?_)
 · refine seq_step fun U2 hU2 => ?_
   refine ⟨_, rfl, _, _, rfl, rfl, ⟨by decide, by decide⟩, _, _, rfl, rfl, ⟨by decide, by decide, by decide⟩, _, _, rfl, rfl, .inl ⟨by decide, by decide⟩, _, _, rfl, rfl, _, _, rfl, rfl, (by show (0 : Int) < 2 * 10 ^ (30 : Int).toNat + 1; decide), _, _, rfl, rfl, ⟨by decide, by decide, by decide⟩, _, _, rfl, rfl, ?_⟩
   show U2 _ _
   dsimp only
   subst hU2
   obtain ⟨ix, eix, hix⟩ := mod_natN (c / 7) d1
   have lzm : (zs.map V.int).length = ds.length := by rw [List.length_map, lz]
   have eix' : c / 7 % ((ds.map V.int).length : Int) = (ix : Int) := by rw [lD]; exact eix
   refine ⟨_, rfl, _, rfl, _, _, rfl, rfl, ⟨by decide, by decide⟩, _, rfl, dr, _, rfl, .inl (s1.seq hD), _, _, rfl, rfl, (by show (0 : Int) < ((ds.map V.int).length : Int); omega), p, _, _, _, rfl, rfl, SqL.of hp', (by omega), (by rw [eix']; exact atI_int (by omega) (by omega)), _, rfl, _, _, rfl, rfl, p, _, _, ix, rfl, rfl, hp', (by rw [eix', lzm]; exact ixN_nat hix), ?_⟩
   have es : ∀ w : Int, (zs.map V.int).set ix (.int w) = (zs.set ix w).map V.int := fun w => by rw [List.map_set]
   rw [es]
   exact rest _ _ _ (same_over hp0 s1) (by rw [upd_ne (Ne.symm npa)]; exact e1) upd_same (by rw [List.length_set]; exact lz)
 · exact rest zs none H1 s1 e1 hp' lz
theorem ok__law_up {f : Addr} {fd : FuncData} (F : Fun K "_law_up" "_law_up" s__law_up f fd) (m : mg "_law_up" = some (.ref f)) (B : Bl4 mg)  : Def P w K mg base CX0 "_law_up" 1 ["_law_cell_here", "_law_count"] (sp__law_up K) := by
 refine ⟨f, fd, F.ok sc__law_up (fun vs H Q E h => ?_) (fun cdv A outer s H vs Q E hr h => ?_), F.binds (ps := ["_law_cell_here", "_law_count"]) fun _ _ _ _ _ _ us hl => (by obtain ⟨b0, b1, rfl⟩ := us2 hl; rfl), F.kp, m⟩
 · obtain ⟨c, n, rfl, _⟩ := h
   rfl
 obtain ⟨c, n, rfl, n1, hn, q⟩ := h
 refine ⟨_, (@pss_cons _ _ _ _ _ (ps_if (pt_cmpR op_gt (pe_op op_mod (pv 0) pe_int) pe_int (nomark _)) (pss_one (ps_ret (pe_op op_mod (pe_op op_fdiv (pv 0) pe_int) (pe_op op_mul pe_int (pv 1))))) pss_nil)
  (pss_one (ps_ret pe_non))), ?_⟩
 refine seq_step fun U hU => ?_
 refine ⟨_, rfl, _, _, rfl, rfl, (by show (0 : Int) < 7; decide), _, _, rfl, rfl, _, rfl, ?_⟩
 refine ite2 (fun h => ?_) (fun h => ?_)
 · obtain ⟨f, ef, hf⟩ := mod_nat (c / 7) n1
   refine ⟨_, rfl, _, _, rfl, rfl, ⟨by decide, by decide⟩, _, rfl, _, _, rfl, rfl, .inl ⟨by decide, by decide⟩, _, _, rfl, rfl, (by show (0 : Int) < 2 * (n : Int); omega), ?_⟩
   have q0 := q (some f)
   rw [show uV (some f) = V.int (c / 7 % (2 * (n : Int))) from by rw [ef]; rfl] at q0
   exact q0
 · show U _ _
   subst hU
   exact q none
theorem ok__law_no_more {f : Addr} {fd : FuncData} (F : Fun K "_law_no_more" "_law_no_more" s__law_no_more f fd) (m : mg "_law_no_more" = some (.ref f)) (B : Bl4 mg)  : Def P w K mg base CX0 "_law_no_more" 1 ["_law_one", "_law_other"] (sp__law_no_more K) := by
 refine ⟨f, fd, F.ok sc__law_no_more (fun vs H Q E h => ?_) (fun cdv A outer s H vs Q E hr h => ?_), F.binds (ps := ["_law_one", "_law_other"]) fun _ _ _ _ _ _ us hl => (by obtain ⟨b0, b1, rfl⟩ := us2 hl; rfl), F.kp, m⟩
 · obtain ⟨a, b, bs, ds, N, c, d, rfl, _⟩ := h
   rfl
 obtain ⟨a, b, bs, ds, N, c, d, rfl, T, D, hN, q⟩ := h
 refine ⟨_, (@pss_cons _ _ _ _ _ (ps_for PassesOwn.never rfl (pi_range1 (by rfl) B.range (pa_Call (pe_callB (call_lenK (K := K) rfl) (by rfl) B.len (by decide +kernel) (pa_Name (pv 0) pa_nil)) pa_nil)) (pg_nz 2 sc__law_no_more.nd) (pss_one (ps_for PassesOwn.never rfl (pi_range1 (by rfl) B.range (pa_Call (pe_callB (call_lenK (K := K) rfl) (by rfl) B.len (by decide +kernel) (pa_Name (pv 0) pa_nil)) pa_nil)) (pg_nz 3 sc__law_no_more.nd) (pss_one (ps_if (pw_and (pt_cmpR op_notN (pe_xL (K := K) (pe_xL (K := K) (pv 1) (pv 2)) (pv 3)) pe_non (nomark _)) (pw_and1 (pw_or (pt_cmpR op_isN (pe_xL (K := K) (pe_xL (K := K) (pv 0) (pv 2)) (pv 3)) pe_non (nomark _)) (pw_or1 (pt_cmpR op_gt (pe_xL (K := K) (pe_xL (K := K) (pv 0) (pv 2)) (pv 3)) (pe_xL (K := K) (pe_xL (K := K) (pv 1) (pv 2)) (pv 3)) (nomark _)))).pt)).pt (pss_one (ps_ret pe_bl)) pss_nil)))))
  (pss_one (ps_ret pe_bl))), ?_⟩
 have hL : (bs.map V.ref).length = N := by rw [List.length_map, T.lenN]
 have sq := SqL.of (K := K) T.at_
 have sd := SqL.of (K := K) D.at_
 refine seq_step fun U hU => ?_
 refine ⟨_, rfl, a, _, rfl, .inl sq, ((bs.map V.ref).length : Int), rfl, by omega, by omega, for_range (lo := 0) (n := ((bs.map V.ref).length : Int).toNat) (fun i σ H' => ∃ x y, σ = [some (.ref a), some (.ref b), x, y] /\ H' = H /\ ∀ f, f < i -> ∀ g, g < N -> Oct.leE (c f g) (d f g)) ⟨none, none, rfl, rfl, fun f hf => absurd hf (Nat.not_lt_zero f)⟩ ?_ ?_⟩
 · rintro i σ H' hi ⟨x, y, rfl, rfl, ok⟩
   have hi' : i < N := by omega
   obtain ⟨l1, e1, h1, a1⟩ := T.rd hi'
   obtain ⟨l2, e2, h2, a2⟩ := D.rd hi'
   rw [Int.zero_add]
   refine ⟨_, rfl, a, _, rfl, .inl sq, ((bs.map V.ref).length : Int), rfl, by omega, by omega, for_range (lo := 0) (n := ((bs.map V.ref).length : Int).toNat) (fun j σ H2 => ∃ y, σ = [some (.ref a), some (.ref b), some (.int i), y] /\ H2 = H' /\ ∀ g, g < j -> Oct.leE (c i g) (d i g)) ⟨y, rfl, rfl, fun g hg => absurd hg (Nat.not_lt_zero g)⟩ ?_ ?_⟩
   · rintro j σ H2 hj ⟨y, rfl, rfl, ok2⟩
     have hj' : j < N := by omega
     rw [Int.zero_add]
     have r1 : atI ((Oct.ln N (c i)).map eV) (j : Int) = some (eV (c i j)) := ln_at hj'
     have r2 : atI ((Oct.ln N (d i)).map eV) (j : Int) = some (eV (d i j)) := ln_at hj'
     have go : Oct.leE (c i j) (d i j) -> ∃ y, [some (V.ref a), some (.ref b), some (.int i), some (.int j)] = [some (.ref a), some (.ref b), some (.int i), y] /\ H2 = H2 /\ ∀ g, g < j + 1 -> Oct.leE (c i g) (d i g) := fun e => ⟨_, rfl, rfl, fun g hg => by
      by_cases hgj : g = j
      · subst hgj; exact e
      · exact ok2 g (by omega)⟩
     have bad : ¬ Oct.leE (c i j) (d i j) -> Q (.bl false) H2 := fun z => q false ⟨fun e => (by cases e), fun L => absurd (L i j hi' hj') z⟩
     generalize c i j = x1 at *
     generalize d i j = x2 at *
     refine ⟨_, rfl, _, rfl, b, _, _, _, rfl, rfl, sd, a2, _, rfl, l2, _, _, _, rfl, rfl, SqL.of h2, r2, rfl, _, rfl, ?_⟩
     cases x2 with
     | none =>
      refine iteF ?_
      refine iteF ?_
      exact go trivial
     | some z2 =>
      refine iteT ?_
      refine ⟨_, rfl, _, rfl, a, _, _, _, rfl, rfl, sq, a1, _, rfl, l1, _, _, _, rfl, rfl, SqL.of h1, r1, rfl, _, rfl, ?_⟩
      cases x1 with
      | none =>
       refine iteT ?_
       refine iteT ?_
       exact bad (fun z => z)
      | some z1 =>
       refine iteF ?_
       refine ⟨_, rfl, _, rfl, a, _, _, _, rfl, rfl, sq, a1, _, rfl, l1, _, _, _, rfl, rfl, SqL.of h1, r1, _, rfl, _, rfl, b, _, _, _, rfl, rfl, sd, a2, _, rfl, l2, _, _, _, rfl, rfl, SqL.of h2, r2, z1, z2, rfl, rfl, _, rfl, ?_⟩
       refine ite2 (fun h => ?_) (fun h => ?_)
       · exact bad (fun z => by have z : z1 <= z2 := z; have := of_decide_eq_true h; omega)
       · exact go (by show z1 <= z2; have : ¬ z2 < z1 := fun z => h (decide_eq_true z); omega)
   · rintro σ H2 ⟨y, rfl, rfl, ok2⟩
     refine ⟨_, _, rfl, rfl, fun f hf g hg => ?_⟩
     by_cases hfi : f = i
     · subst hfi; exact ok2 g (by omega)
     · exact ok f (by omega) g hg
 · rintro σ H' ⟨x, y, rfl, rfl, ok⟩
   show U _ _
   subst hU
   exact q true ⟨fun _ f g hf hg => ok f (by omega) g hg, fun _ => rfl⟩
theorem ok__law_widened {f : Addr} {fd : FuncData} (F : Fun K "_law_widened" "_law_widened" s__law_widened f fd) (m : mg "_law_widened" = some (.ref f)) (B : Bl4 mg)  : Def P w K mg base CX0 "_law_widened" 1 ["_law_table_here", "_law_shape", "_law_steps_here"] (sp__law_widened K) := by
 refine ⟨f, fd, F.ok sc__law_widened (fun vs H Q E h => ?_) (fun cdv A outer s H vs Q E hr h => ?_), F.binds (ps := ["_law_table_here", "_law_shape", "_law_steps_here"]) fun _ _ _ _ _ _ us hl => (by obtain ⟨b0, b1, b2, rfl⟩ := us3 hl; rfl), F.kp, m⟩
 · obtain ⟨a, b, st, bs, ds, N, c, d, ss, rfl, _⟩ := h
   rfl
 obtain ⟨a, b, st, bs, ds, N, c, d, ss, rfl, T, D, hT, hrise, hl, hN, q⟩ := h
 refine ⟨_, (@pss_cons _ _ _ _ _ (ps_sz 3 sc__law_widened.nd (pe_lst pa_nil))
  (@pss_cons _ _ _ _ _ (ps_for PassesOwn.never rfl (pi_range1 (by rfl) B.range (pa_Call (pe_callB (call_lenK (K := K) rfl) (by rfl) B.len (by decide +kernel) (pa_Name (pv 0) pa_nil)) pa_nil)) (pg_nz 4 sc__law_widened.nd) (@pss_cons _ _ _ _ _ (ps_sz 5 sc__law_widened.nd (pe_lst pa_nil))
  (@pss_cons _ _ _ _ _ (ps_for PassesOwn.never rfl (pi_range1 (by rfl) B.range (pa_Call (pe_callB (call_lenK (K := K) rfl) (by rfl) B.len (by decide +kernel) (pa_Name (pv 0) pa_nil)) pa_nil)) (pg_nz 6 sc__law_widened.nd) (@pss_cons _ _ _ _ _ (ps_sz 7 sc__law_widened.nd (pe_xL (K := K) (pe_xL (K := K) (pv 0) (pv 4)) (pv 6)))
  (@pss_cons _ _ _ _ _ (ps_sz 8 sc__law_widened.nd (pe_xL (K := K) (pe_xL (K := K) (pv 1) (pv 4)) (pv 6)))
  (@pss_cons _ _ _ _ _ (ps_if (pw_and (pt_cmpR op_notN (pv 7) pe_non (nomark _)) (pw_and1 (pw_or (pt_cmpR op_isN (pv 8) pe_non (nomark _)) (pw_or1 (pt_cmpR op_gt (pv 8) (pv 7) (nomark _)))).pt)).pt (@pss_cons _ _ _ _ _ (ps_sz 7 sc__law_widened.nd pe_non)
  (@pss_cons _ _ _ _ _ (ps_sz 9 sc__law_widened.nd (pe_op op_add pe_int (pe_callTy call_int1 (by rfl) B.int (by decide +kernel) (pa_cons (pe_cmpR op_eq (pv 4) (pv 6) (nomark _)) pa_nil))))
  (pss_one (ps_for PassesOwn.never rfl (pi_rev (K := K) rfl (by rfl) B.reversed (by decide +kernel) (pa_Name (pv 2) pa_nil)) (pg_nz 10 sc__law_widened.nd) (pss_one (ps_if (pw_and (pt_cmpR op_notN (pv 8) pe_non (nomark _)) (pw_and1 (pt_cmpR op_ge (pe_op op_mul (pv 9) (pv 10)) (pv 8) (nomark _)))).pt (pss_one (ps_sz 7 sc__law_widened.nd (pe_op op_mul (pv 9) (pv 10)))) pss_nil)))))) pss_nil)
  (pss_one (ps_expr (pe_bm PySem.F.plainAttrs_list PySem.F.slot_list_append PySem.F.type_list_append mt_append (pv 5) (pa_Name (pv 7) pa_nil))))))))
  (pss_one (ps_expr (pe_bm PySem.F.plainAttrs_list PySem.F.slot_list_append PySem.F.type_list_append mt_append (pv 3) (pa_Name (pv 5) pa_nil)))))))
  (pss_one (ps_ret (pv 3))))), ?_⟩
 refine seq_step fun U hU => ?_
 refine ⟨sz 0, fun p hp => ?_⟩
 show U _ _
 subst hU
 have hL : (bs.map V.ref).length = N := by rw [List.length_map, T.lenN]
 have s0 := same_new hp (.lst [])
 refine seq_step fun U hU => ?_
 refine ⟨_, rfl, a, _, rfl, .inl (s0.seq (SqL.of T.at_)), ((bs.map V.ref).length : Int), rfl, by omega, by omega, for_range (lo := 0) (n := ((bs.map V.ref).length : Int).toNat) (fun i σ H' => ∃ x1 x2 x3 x4 x5 x6 x7 vs, σ = [some (.ref a), some (.ref b), some (.ref st), some (.ref p), x1, x2, x3, x4, x5, x6, x7] /\ Grow H H' p vs (Oct.rows i N (widT ss c d))) ⟨none, none, none, none, none, none, none, [], rfl, Grow.start hp⟩ ?_ ?_⟩
 · rintro i σ H1 hi ⟨x1, x2, x3, x4, x5, x6, x7, vs, rfl, G⟩
   have hi' : i < N := by omega
   have s1 := G.same
   rw [Int.zero_add]
   refine seq_step fun U hU => ?_
   refine ⟨sz 0, fun l hl1 => ?_⟩
   show U _ _
   subst hU
   have sl := same_new hl1 (.lst [])
   refine seq_step fun U hU => ?_
   refine ⟨_, rfl, a, _, rfl, .inl ((s1.trans sl).seq (SqL.of T.at_)), ((bs.map V.ref).length : Int), rfl, by omega, by omega, for_range (lo := 0) (n := ((bs.map V.ref).length : Int).toNat) (fun j σ H' => ∃ y1 y2 y3 y4 y5, σ = [some (.ref a), some (.ref b), some (.ref st), some (.ref p), some (.int i), some (.ref l), y1, y2, y3, y4, y5] /\ Same H1 H' /\ H' l = some (.lst ((Oct.ln j (widT ss c d i)).map eV))) ⟨_, _, _, _, _, rfl, sl, upd_same⟩ ?_ ?_⟩
   · rintro j σ H2 hj ⟨y1, y2, y3, y4, y5, rfl, sm, el⟩
     have hj' : j < N := by omega
     rw [Int.zero_add]
     have s2 := s1.trans sm
     have T2 := T.same s2
     have D2 := D.same s2
     obtain ⟨l1, e1, h1, a1⟩ := T2.rd hi'
     obtain ⟨l2, e2, h2, a2⟩ := D2.rd hi'
     refine seq_step fun U hU => ?_
     refine ⟨_, rfl, _, rfl, a, _, _, _, rfl, rfl, SqL.of T2.at_, a1, _, rfl, l1, _, _, _, rfl, rfl, SqL.of h1, ln_at hj', ?_⟩
     show U _ _
     subst hU
     refine seq_step fun U hU => ?_
     refine ⟨_, rfl, _, rfl, b, _, _, _, rfl, rfl, SqL.of D2.at_, a2, _, rfl, l2, _, _, _, rfl, rfl, SqL.of h2, ln_at hj', ?_⟩
     show U _ _
     subst hU
     refine seq_step fun U hU => ?_
     have fin : ∀ (e : Ent) (z4 z5 : Option V), e = widT ss c d i j -> U [some (V.ref a), some (.ref b), some (.ref st), some (.ref p), some (.int i), some (.ref l), some (.int j), some (eV e), some (eV (d i j)), z4, z5] H2 := by
      intro e z4 z5 ee
      subst hU
      refine ⟨_, rfl, .inl ⟨rfl, _, SqL.of el⟩, _, rfl, l, _, _, rfl, rfl, el, by rw [ln_lenV]; exact small1000 (by omega), ?_⟩
      refine ⟨_, _, _, _, _, rfl, same_over hl1 sm, ?_⟩
      rw [upd_same, ee, ln_snocV j (widT ss c d i)]
     have ew : widT ss c d i j = if aboveE (d i j) (c i j) = true then stepE (if (i : Int) = (j : Int) then ss.map (2 * ·) else ss) (d i j) else c i j := rfl
     generalize widT ss c d i j = w at *
     generalize c i j = cc at *
     generalize d i j = dd at *
     refine ⟨_, rfl, rfl, _, rfl, ?_⟩
     cases cc with
     | none =>
      refine iteF ?_
      refine iteF ?_
      exact fin none _ _ (by rw [ew]; cases dd <;> simp [aboveE, belowE])
     | some e =>
      refine iteT ?_
      refine ⟨_, rfl, rfl, _, rfl, ?_⟩
      cases dd with
      | none =>
       rw [if_pos (by simp [aboveE])] at ew
       refine iteT ?_
       refine iteT ?_
       refine seq_step fun U2 hU2 => ?_
       show U2 _ _
       subst hU2
       refine seq_step fun U2 hU2 => ?_
       have key : ∀ tm : Int, (tm = 1 \/ tm = 2) -> ss.map (tm * ·) = (if (i : Int) = (j : Int) then ss.map (2 * ·) else ss) -> U2 [some (V.ref a), some (.ref b), some (.ref st), some (.ref p), some (.int i), some (.ref l), some (.int j), some .non, some (eV none), some (.int tm), y5] H2 := by
        intro tm htm etm
        subst hU2
        refine ⟨_, rfl, st, _, rfl, s2.seq hT, for_rev (K := K) (a := st) (xs := ss.map V.int) (fun k σ H' => ∃ z5, σ = [some (V.ref a), some (.ref b), some (.ref st), some (.ref p), some (.int i), some (.ref l), some (.int j), some (eV (stepE ((ss.drop (ss.length - k)).map (tm * ·)) none)), some (eV none), some (.int tm), z5] /\ H' = H2) ⟨y5, by rw [Nat.sub_zero, List.drop_length]; rfl, rfl⟩ (fun k σ H' _ ⟨_, _, e⟩ => by subst e; exact s2.seq hT) ?_ ?_⟩
        · rintro k x σ H' hk hx ⟨z5, rfl, rfl⟩
          rw [List.length_map] at hk hx
          obtain ⟨s, es, rfl⟩ := get_of hx
          refine ⟨_, rfl, rfl, _, rfl, ?_⟩
          refine iteF ?_
          refine iteF ?_
          exact ⟨some (.int s), by rw [stepN, stepN]; rfl, rfl⟩
        · rintro σ H' ⟨z5, rfl, rfl⟩
          rw [List.length_map, Nat.sub_self, List.drop_zero]
          exact fin _ _ _ (by rw [etm]; exact ew.symm)
       refine ⟨_, rfl, _, rfl, rfl, .inr ⟨_, rfl, _, _, rfl, rfl, ?_⟩⟩
       exact key _ (by by_cases h : (i : Int) = j <;> simp [h]) (by by_cases h : (i : Int) = j <;> simp [h])
      | some z =>
       refine iteF ?_
       refine ⟨_, rfl, _, rfl, _, _, rfl, rfl, _, rfl, ?_⟩
       refine ite2 (fun h => ?_) (fun h => ?_)
       · rw [if_pos (show aboveE (some z) (some e) = true from h)] at ew
         refine seq_step fun U2 hU2 => ?_
         show U2 _ _
         subst hU2
         refine seq_step fun U2 hU2 => ?_
         have key : ∀ tm : Int, (tm = 1 \/ tm = 2) -> ss.map (tm * ·) = (if (i : Int) = (j : Int) then ss.map (2 * ·) else ss) -> U2 [some (V.ref a), some (.ref b), some (.ref st), some (.ref p), some (.int i), some (.ref l), some (.int j), some .non, some (eV (some z)), some (.int tm), y5] H2 := by
          intro tm htm etm
          subst hU2
          refine ⟨_, rfl, st, _, rfl, s2.seq hT, for_rev (K := K) (a := st) (xs := ss.map V.int) (fun k σ H' => ∃ z5, σ = [some (V.ref a), some (.ref b), some (.ref st), some (.ref p), some (.int i), some (.ref l), some (.int j), some (eV (stepE ((ss.drop (ss.length - k)).map (tm * ·)) (some z))), some (eV (some z)), some (.int tm), z5] /\ H' = H2) ⟨y5, by rw [Nat.sub_zero, List.drop_length]; rfl, rfl⟩ (fun k σ H' _ ⟨_, _, e⟩ => by subst e; exact s2.seq hT) ?_ ?_⟩
          · rintro k x σ H' hk hx ⟨z5, rfl, rfl⟩
            rw [List.length_map] at hk hx
            obtain ⟨s, es, rfl⟩ := get_of hx
            have cm : CMul tm s := .inl (by rcases htm with h | h <;> rw [h] <;> exact ⟨by decide, by decide⟩)
            have t0 : 0 < tm := by omega
            refine ⟨_, rfl, rfl, _, rfl, ?_⟩
            refine iteT ?_
            refine ⟨_, rfl, _, rfl, _, _, rfl, rfl, cm, _, rfl, _, _, rfl, rfl, _, rfl, ?_⟩
            refine ite2 (fun h => ?_) (fun h => ?_)
            · refine ⟨_, rfl, _, rfl, _, _, rfl, rfl, cm, ?_⟩
              exact ⟨some (.int s), by rw [step_back hrise hk es t0, if_pos (of_decide_eq_true h)]; rfl, rfl⟩
            · exact ⟨some (.int s), by rw [step_back hrise hk es t0, if_neg (fun z => h (decide_eq_true z))]; rfl, rfl⟩
          · rintro σ H' ⟨z5, rfl, rfl⟩
            rw [List.length_map, Nat.sub_self, List.drop_zero]
            exact fin _ _ _ (by rw [etm]; exact ew.symm)
         refine ⟨_, rfl, _, rfl, rfl, .inr ⟨_, rfl, _, _, rfl, rfl, ?_⟩⟩
         exact key _ (by by_cases h : (i : Int) = j <;> simp [h]) (by by_cases h : (i : Int) = j <;> simp [h])
       · rw [if_neg (show ¬ aboveE (some z) (some e) = true from h)] at ew
         exact fin (some e) _ _ ew.symm
   · rintro σ H2 ⟨y1, y2, y3, y4, y5, rfl, sm, el⟩
     show U _ _
     subst hU
     rw [show ((bs.map V.ref).length : Int).toNat = N by omega] at el
     have st1 := G.step hl1 sm el
     refine ⟨_, rfl, .inl ⟨rfl, _, SqL.of st1.1⟩, _, rfl, p, _, _, rfl, rfl, st1.1, by rw [G.len, Oct.rows_len]; exact small1000 (by omega), ?_⟩
     refine ⟨_, _, _, _, _, _, _, vs ++ [.ref l], rfl, ?_⟩
     rw [Oct.rows_succ]
     exact st1.2
 · rintro σ H1 ⟨x1, x2, x3, x4, x5, x6, x7, vs, rfl, bs', evs, T1, sm⟩
   show U _ _
   subst hU
   rw [show ((bs.map V.ref).length : Int).toNat = N by omega] at T1
   exact ⟨_, rfl, q p bs' H1 sm T1⟩
theorem ok__law_sides {f : Addr} {fd : FuncData} (F : Fun K "_law_sides" "_law_sides" s__law_sides f fd) (m : mg "_law_sides" = some (.ref f)) (B : Bl4 mg) (D__law_flip : Def P w K mg base CX0 "_law_flip" 1 ["_law_f"] (sp__law_flip K)) : Def P w K mg base CX0 "_law_sides" 2 ["_law_table_here"] (sp__law_sides K) := by
 refine ⟨f, fd, F.ok sc__law_sides (fun vs H Q E h => ?_) (fun cdv A outer s H vs Q E hr h => ?_), F.binds (ps := ["_law_table_here"]) fun _ _ _ _ _ _ us hl => (by obtain ⟨b0, rfl⟩ := us1 hl; rfl), F.kp, m⟩
 · obtain ⟨a, bs, N, c, rfl, _⟩ := h
   rfl
 obtain ⟨a, bs, N, c, rfl, T, hN, q⟩ := h
 refine ⟨_, (@pss_cons _ _ _ _ _ (ps_sz 1 sc__law_sides.nd (pe_lst pa_nil))
  (@pss_cons _ _ _ _ _ (ps_for PassesOwn.never rfl (pi_range1 (by rfl) B.range (pa_Call (pe_callB (call_lenK (K := K) rfl) (by rfl) B.len (by decide +kernel) (pa_Name (pv 0) pa_nil)) pa_nil)) (pg_nz 2 sc__law_sides.nd) (pss_one (ps_for PassesOwn.never rfl (pi_range2 (by rfl) B.range (pa_Name (pv 2) (pa_Call (pe_callB (call_lenK (K := K) rfl) (by rfl) B.len (by decide +kernel) (pa_Name (pv 0) pa_nil)) pa_nil))) (pg_nz 3 sc__law_sides.nd) (pss_one (ps_if (pw_and (pt_cmpR op_ne (pv 3) (pe_dz D__law_flip hr (pa_Name (pv 2) pa_nil)) (nomark _)) (pw_and1 (pt_cmpR op_notN (pe_xL (K := K) (pe_xL (K := K) (pv 0) (pv 2)) (pv 3)) pe_non (nomark _)))).pt (pss_one (ps_expr (pe_bm PySem.F.plainAttrs_list PySem.F.slot_list_append PySem.F.type_list_append mt_append (pv 1) (pa_Tuple (pe_tup (pa_Name (pv 2) (pa_Name (pv 3) (pa_Subscript (pe_xL (K := K) (pe_xL (K := K) (pv 0) (pv 2)) (pv 3)) pa_nil)))) pa_nil)))) pss_nil)))))
  (pss_one (ps_ret (pv 1))))), ?_⟩
 refine seq_step fun U hU => ?_
 refine ⟨sz 0, fun p hp => ?_⟩
 show U _ _
 subst hU
 have hL : (bs.map V.ref).length = N := by rw [List.length_map, T.lenN]
 have s0 := same_new hp (.lst [])
 refine seq_step fun U hU => ?_
 refine ⟨_, rfl, a, _, rfl, .inl (s0.seq (SqL.of T.at_)), ((bs.map V.ref).length : Int), rfl, by omega, by omega, for_range (lo := 0) (n := ((bs.map V.ref).length : Int).toNat) (fun i σ H' => ∃ x y ys, σ = [some (.ref a), some (.ref p), x, y] /\ Same H H' /\ H' p = some (.lst ys) /\ Paired (SideAt H') ys (toldP N c i)) ⟨none, none, [], rfl, s0, upd_same, .nil⟩ ?_ ?_⟩
 · rintro i σ H1 hi ⟨x, y, ys, rfl, sm1, hp1, hP1⟩
   have hi' : i < N := by omega
   rw [Int.zero_add]
   refine ⟨_, rfl, _, rfl, a, _, rfl, .inl (sm1.seq (SqL.of T.at_)), (i : Int), ((bs.map V.ref).length : Int), rfl, ⟨by omega, by omega, by omega, by omega⟩, for_range (lo := (i : Int)) (n := (((bs.map V.ref).length : Int) - (i : Int)).toNat) (fun j σ H' => ∃ y ys, σ = [some (.ref a), some (.ref p), some (.int i), y] /\ Same H H' /\ H' p = some (.lst ys) /\ Paired (SideAt H') ys (toldP N c i ++ toldRow c i (i + j))) ⟨y, ys, rfl, sm1, hp1, by rw [toldRow_0 c i (i + 0) (by omega), List.append_nil]; exact hP1⟩ ?_ ?_⟩
   · rintro j σ H3 hj ⟨y, ys, rfl, sm3, hp3, hP3⟩
     have hj' : i + j < N := by omega
     rw [show (i : Int) + (j : Int) = ((i + j : Nat) : Int) by omega]
     have tr := toldRow_succ c i (i + j)
     rw [show i + (j + 1) = i + j + 1 by omega]
     have T3 := T.same sm3
     have lz : ys.length < sizeLine := by
      rw [paired_len hP3, List.length_append]
      have e1 := toldP_len N c i
      have e2 := toldRow_len c i (i + j)
      have e3 : N * i <= 12 * 12 := Nat.mul_le_mul hN (by omega)
      exact small1000 (by omega)
     have hge : i <= i + j := Nat.le_add_right _ _
     generalize i + j = g at *
     obtain ⟨d, ed, hd, ad⟩ := T3.rd hi'
     have skip : toldRow c i (g + 1) = toldRow c i g -> ∃ y ys, [some (V.ref a), some (.ref p), some (.int i), some (.int g)] = [some (.ref a), some (.ref p), some (.int i), y] /\ Same H H3 /\ H3 p = some (.lst ys) /\ Paired (SideAt H3) ys (toldP N c i ++ toldRow c i (g + 1)) := fun e => ⟨_, ys, rfl, sm3, hp3, by rw [e]; exact hP3⟩
     refine ⟨_, rfl, _, rfl, (i : Int), rfl, ?_⟩
     rw [flip_nat]
     refine ⟨rfl, _, rfl, ?_⟩
     by_cases hfl : g = Oct.fl i
     · have e0 : decide (V.int (g : Int) = V.int ((Oct.fl i : Nat) : Int)) = true := by simp [hfl]
       rw [e0]
       refine iteF ?_
       refine iteF ?_
       refine skip ?_
       rw [tr, if_neg (fun q => q.2 hfl), List.append_nil]
     · have e0 : decide (V.int (g : Int) = V.int ((Oct.fl i : Nat) : Int)) = false := by simp; omega
       rw [e0]
       refine iteT ?_
       rw [if_pos ⟨hge, hfl⟩] at tr
       refine ⟨_, rfl, _, rfl, a, _, _, _, rfl, rfl, SqL.of T3.at_, ad, _, rfl, d, _, _, _, rfl, rfl, SqL.of hd, ln_at hj', rfl, _, rfl, ?_⟩
       cases ec : c i g with
       | none =>
        rw [ec] at tr
        refine iteF ?_
        exact skip (by rw [tr]; simp)
       | some zz =>
        rw [ec] at tr
        refine iteT ?_
        refine ⟨_, rfl, .inl ⟨rfl, _, SqL.of hp3⟩, _, rfl, _, rfl, _, rfl, _, rfl, a, _, _, _, rfl, rfl, SqL.of T3.at_, ad, _, rfl, d, _, _, _, rfl, rfl, SqL.of hd, ln_at hj', sz 3, fun t ht => ⟨p, _, _, rfl, rfl, same_new ht _ _ _ hp3, lz, ?_⟩⟩
        rw [ec]
        have smt := same_new ht (.tup [.int i, .int g, eV (some zz)])
        refine ⟨_, _, rfl, same_over hp (sm3.trans smt), upd_same, ?_⟩
        rw [tr, ← List.append_assoc]
        exact paired_snoc (sides_put (smt _ _ hp3) (sides_same smt hP3)) (SideAt.put (smt _ _ hp3) ⟨t, rfl, upd_same⟩)
   · rintro σ H3 ⟨y, ys, rfl, sm3, hp3, hP3⟩
     rw [show i + (((bs.map V.ref).length : Int) - (i : Int)).toNat = N by omega] at hP3
     refine ⟨_, _, ys, rfl, sm3, hp3, ?_⟩
     rw [toldP_succ]
     exact hP3
 · rintro σ H1 ⟨x, y, ys, rfl, sm1, hp1, hP1⟩
   show U _ _
   subst hU
   rw [show ((bs.map V.ref).length : Int).toNat = N by omega] at hP1
   exact ⟨_, rfl, q p ys H1 sm1 hp hp1 hP1⟩
theorem ok__law_alike {f : Addr} {fd : FuncData} (F : Fun K "_law_alike" "_law_alike" s__law_alike f fd) (m : mg "_law_alike" = some (.ref f)) (B : Bl4 mg) (D__law_whole : Def P w K mg base CX0 "_law_whole" 1 ["_law_found"] (sp__law_whole K)) : Def P w K mg base CX0 "_law_alike" 2 ["_law_found", "_law_due"] (sp__law_alike K) := by
 refine ⟨f, fd, F.ok sc__law_alike (fun vs H Q E h => ?_) (fun cdv A outer s H vs Q E hr h => ?_), F.binds (ps := ["_law_found", "_law_due"]) fun _ _ _ _ _ _ us hl => (by obtain ⟨b0, b1, rfl⟩ := us2 hl; rfl), F.kp, m⟩
 · obtain ⟨v, w1, n, o1, o2, rfl, _⟩ := h
   rfl
 obtain ⟨v, w1, n, o1, o2, rfl, hV, hW, hs, hn, q⟩ := h
 refine ⟨_, (@pss_cons _ _ _ _ _ (ps_if (pt_cmpR op_isN (pv 1) pe_non (nomark _)) (pss_one (ps_ret (pe_cmpR op_isN (pv 0) pe_non (nomark _)))) pss_nil)
  (@pss_cons _ _ _ _ _ (ps_if (pw_or (pt_not (pt_val (pe_callB (call_isTyK (K := K) rfl) (by rfl) B.isinstance (by decide +kernel) (pa_Name (pv 0) (pa_Name (pe_bltn (v := .ty "list") (u := .type "list") (by rfl) B.list (by decide +kernel) rfl) pa_nil))))) (pw_or1 (pt_cmpR op_ne (pe_callB (call_lenK (K := K) rfl) (by rfl) B.len (by decide +kernel) (pa_Name (pv 0) pa_nil)) (pe_callB (call_lenK (K := K) rfl) (by rfl) B.len (by decide +kernel) (pa_Name (pv 1) pa_nil)) (nomark _)))).pt (pss_one (ps_ret pe_bl)) pss_nil)
  (@pss_cons _ _ _ _ _ (ps_for PassesOwn.never rfl (pi_listK (K := K) rfl (pv 0)) (pg_nz 2 sc__law_alike.nd) (@pss_cons _ _ _ _ _ (ps_if (pt_not (pt_val (pe_callB (call_isTyK (K := K) rfl) (by rfl) B.isinstance (by decide +kernel) (pa_Name (pv 2) (pa_Name (pe_bltn (v := .ty "list") (u := .type "list") (by rfl) B.list (by decide +kernel) rfl) pa_nil))))) (pss_one (ps_ret pe_bl)) pss_nil)
  (pss_one (ps_for PassesOwn.never rfl (pi_listK (K := K) rfl (pv 2)) (pg_nz 3 sc__law_alike.nd) (pss_one (ps_if (pw_and (pt_cmpR op_notN (pv 3) pe_non (nomark _)) (pw_and1 (pt_not (pt_val (pe_dz D__law_whole hr (pa_Name (pv 3) pa_nil)))))).pt (pss_one (ps_ret pe_bl)) pss_nil))))))
  (pss_one (ps_ret (pe_cmpR (op_eqDK (K := K) hr rfl) (pv 0) (pv 1) (nomark _))))))), ?_⟩
 refine seq_step fun U hU => ?_
 cases hs with
 | none =>
  cases hV
  cases hW
  refine ⟨_, rfl, rfl, _, rfl, ?_⟩
  refine iteT ?_
  exact ⟨_, rfl, rfl, q⟩
 | @some s t ag =>
  obtain ⟨a, bs, rfl, T⟩ := hV
  obtain ⟨b, ds, rfl, D⟩ := hW
  have hL : (bs.map V.ref).length = 2 * n := by rw [List.length_map, T.lenN]
  have hD : (ds.map V.ref).length = 2 * n := by rw [List.length_map, D.lenN]
  refine ⟨_, rfl, rfl, _, rfl, ?_⟩
  refine iteF ?_
  show U _ _
  subst hU
  refine seq_step fun U hU => ?_
  refine ⟨_, rfl, true, isT_lst T.at_, true, rfl, ?_⟩
  refine iteF ?_
  refine ⟨_, rfl, a, _, rfl, .inl (SqL.of T.at_), _, rfl, b, _, rfl, .inl (SqL.of D.at_), rfl, _, rfl, ?_⟩
  refine iteNS (by rw [hL, hD]) ?_
  show U _ _
  subst hU
  have sq := SqL.of (K := K) T.at_
  refine seq_step fun U hU => ?_
  refine ⟨_, rfl, a, rfl, ⟨_, sq⟩, for_list (K := K) (a := a) (xs := bs.map V.ref) (fun i σ H' => ∃ x y, σ = [some (.ref a), some (.ref b), x, y] /\ H' = H) ⟨none, none, rfl, rfl⟩ (fun i σ H' _ ⟨_, _, _, e⟩ => by subst e; exact sq) ?_ ?_⟩
  · rintro i v σ H' hv ⟨x, y, rfl, rfl⟩
    obtain ⟨hi, d, rfl, ed, hd⟩ := T.rowN hv
    refine seq_step fun U hU => ?_
    refine ⟨_, rfl, true, isT_lst hd, true, rfl, ?_⟩
    refine iteF ?_
    show U _ _
    subst hU
    refine ⟨_, rfl, d, rfl, ⟨_, SqL.of hd⟩, for_list (K := K) (a := d) (xs := (Oct.ln (2 * n) (s i)).map eV) (fun j σ H2 => ∃ y, σ = [some (.ref a), some (.ref b), some (.ref d), y] /\ H2 = H') ⟨y, rfl, rfl⟩ (fun i σ H2 _ ⟨_, _, e⟩ => by subst e; exact SqL.of hd) ?_ ?_⟩
    · rintro j u σ H2 hu ⟨y, rfl, rfl⟩
      obtain ⟨hj, rfl⟩ := ln_item hu
      generalize s i j = e at *
      refine ⟨_, rfl, rfl, _, rfl, ?_⟩
      cases e with
      | none =>
       refine iteF ?_
       refine iteF ?_
       exact ⟨_, rfl, rfl⟩
      | some z =>
       refine iteT ?_
       refine ⟨_, rfl, z, rfl, true, rfl, ?_⟩
       refine iteF ?_
       exact ⟨_, rfl, rfl⟩
    · rintro σ H2 ⟨y, rfl, rfl⟩
      exact ⟨_, _, rfl, rfl⟩
  · rintro σ H' ⟨x, y, rfl, rfl⟩
    show U _ _
    subst hU
    refine ⟨_, rfl, _, rfl, _, _, T.dt, D.dt, depth_tab _, ?_⟩
    rw [eqv_tabs, decide_eq_true (Oct.toT_eq.mpr ag)]
    exact q
theorem ok__law_lies {f : Addr} {fd : FuncData} (F : Fun K "_law_lies" "_law_lies" s__law_lies f fd) (m : mg "_law_lies" = some (.ref f)) (B : Bl4 mg) (D__law_worth : Def P w K mg base CX0 "_law_worth" 1 ["_law_point", "_law_f"] (sp__law_worth K)) : Def P w K mg base CX0 "_law_lies" 2 ["_law_table_here", "_law_point"] (sp__law_lies K) := by
 refine ⟨f, fd, F.ok sc__law_lies (fun vs H Q E h => ?_) (fun cdv A outer s H vs Q E hr h => ?_), F.binds (ps := ["_law_table_here", "_law_point"]) fun _ _ _ _ _ _ us hl => (by obtain ⟨b0, b1, rfl⟩ := us2 hl; rfl), F.kp, m⟩
 · obtain ⟨a, b, bs, N, c, xs, rfl, _⟩ := h
   rfl
 obtain ⟨a, b, bs, N, c, xs, rfl, T, hP, hxl, hz, q⟩ := h
 refine ⟨_, (@pss_cons _ _ _ _ _ (ps_for PassesOwn.never rfl (pi_range1 (by rfl) B.range (pa_Call (pe_callB (call_lenK (K := K) rfl) (by rfl) B.len (by decide +kernel) (pa_Name (pv 0) pa_nil)) pa_nil)) (pg_nz 2 sc__law_lies.nd) (pss_one (ps_for PassesOwn.never rfl (pi_range1 (by rfl) B.range (pa_Call (pe_callB (call_lenK (K := K) rfl) (by rfl) B.len (by decide +kernel) (pa_Name (pv 0) pa_nil)) pa_nil)) (pg_nz 3 sc__law_lies.nd) (@pss_cons _ _ _ _ _ (ps_sz 4 sc__law_lies.nd (pe_op op_add (pe_dz D__law_worth hr (pa_Name (pv 1) (pa_Name (pv 2) pa_nil))) (pe_dz D__law_worth hr (pa_Name (pv 1) (pa_Name (pv 3) pa_nil)))))
  (pss_one (ps_if (pw_and (pt_cmpR op_notN (pe_xL (K := K) (pe_xL (K := K) (pv 0) (pv 2)) (pv 3)) pe_non (nomark _)) (pw_and1 (pt_cmpR op_gt (pv 4) (pe_xL (K := K) (pe_xL (K := K) (pv 0) (pv 2)) (pv 3)) (nomark _)))).pt (pss_one (ps_ret pe_bl)) pss_nil))))))
  (pss_one (ps_ret pe_bl))), ?_⟩
 have hL : (bs.map V.ref).length = N := by rw [List.length_map, T.lenN]
 have sq := SqL.of (K := K) T.at_
 have bad : ∀ f g, f < N -> g < N -> ¬ Oct.leE (some (wN xs f + wN xs g)) (c f g) -> Q (.bl false) H := fun f g hf hg z => by
  have e : liesB N (wN xs) c = false := Bool.eq_false_iff.mpr fun y => z (liesB_iff.mp y f g hf hg)
  rw [e] at q
  exact q
 refine seq_step fun U hU => ?_
 refine ⟨_, rfl, a, _, rfl, .inl sq, ((bs.map V.ref).length : Int), rfl, by omega, by omega, for_range (lo := 0) (n := ((bs.map V.ref).length : Int).toNat) (fun i σ H' => ∃ x y z, σ = [some (.ref a), some (.ref b), x, y, z] /\ H' = H /\ ∀ f, f < i -> ∀ g, g < N -> Oct.leE (some (wN xs f + wN xs g)) (c f g)) ⟨none, none, none, rfl, rfl, fun f hf => absurd hf (Nat.not_lt_zero f)⟩ ?_ ?_⟩
 · rintro i σ H' hi ⟨x, y, z, rfl, rfl, ok⟩
   have hi' : i < N := by omega
   obtain ⟨l1, e1, h1, a1⟩ := T.rd hi'
   rw [Int.zero_add]
   refine ⟨_, rfl, a, _, rfl, .inl sq, ((bs.map V.ref).length : Int), rfl, by omega, by omega, for_range (lo := 0) (n := ((bs.map V.ref).length : Int).toNat) (fun j σ H2 => ∃ y z, σ = [some (.ref a), some (.ref b), some (.int i), y, z] /\ H2 = H' /\ ∀ g, g < j -> Oct.leE (some (wN xs i + wN xs g)) (c i g)) ⟨y, z, rfl, rfl, fun g hg => absurd hg (Nat.not_lt_zero g)⟩ ?_ ?_⟩
   · rintro j σ H2 hj ⟨y, z, rfl, rfl, ok2⟩
     have hj' : j < N := by omega
     rw [Int.zero_add]
     have r1 : atI ((Oct.ln N (c i)).map eV) (j : Int) = some (eV (c i j)) := ln_at hj'
     refine seq_step fun U hU => ?_
     refine ⟨_, rfl, _, rfl, b, xs, (i : Int), rfl, hP, by omega, by omega, _, rfl, _, rfl, b, xs, (j : Int), rfl, hP, by omega, by omega, _, _, rfl, rfl, ?_⟩
     show U _ _
     dsimp only
     subst hU
     have bd := bad i j hi' hj'
     have go : Oct.leE (some (worthI xs (i : Int) + worthI xs (j : Int))) (c i j) -> ∃ y z, [some (V.ref a), some (.ref b), some (.int i), some (.int j), some (.int (worthI xs (i : Int) + worthI xs (j : Int)))] = [some (.ref a), some (.ref b), some (.int i), y, z] /\ H2 = H2 /\ ∀ g, g < j + 1 -> Oct.leE (some (wN xs i + wN xs g)) (c i g) := fun e => ⟨_, _, rfl, rfl, fun g hg => by
      by_cases hgj : g = j
      · subst hgj; exact e
      · exact ok2 g (by omega)⟩
     have bd : ¬ Oct.leE (some (worthI xs (i : Int) + worthI xs (j : Int))) (c i j) -> Q (.bl false) H2 := bd
     generalize c i j = x1 at *
     generalize worthI xs (i : Int) + worthI xs (j : Int) = sm at *
     refine ⟨_, rfl, _, rfl, a, _, _, _, rfl, rfl, sq, a1, _, rfl, l1, _, _, _, rfl, rfl, SqL.of h1, r1, rfl, _, rfl, ?_⟩
     cases x1 with
     | none =>
      refine iteF ?_
      refine iteF ?_
      exact go trivial
     | some z1 =>
      refine iteT ?_
      refine ⟨_, rfl, _, rfl, _, rfl, a, _, _, _, rfl, rfl, sq, a1, _, rfl, l1, _, _, _, rfl, rfl, SqL.of h1, r1, sm, z1, rfl, rfl, _, rfl, ?_⟩
      refine ite2 (fun h => ?_) (fun h => ?_)
      · exact bd (fun z => by have z : sm <= z1 := z; have := of_decide_eq_true h; omega)
      · exact go (by show sm <= z1; have : ¬ z1 < sm := fun z => h (decide_eq_true z); omega)
   · rintro σ H2 ⟨y, z, rfl, rfl, ok2⟩
     refine ⟨_, _, _, rfl, rfl, fun f hf g hg => ?_⟩
     by_cases hfi : f = i
     · subst hfi; exact ok2 g (by omega)
     · exact ok f (by omega) g hg
 · rintro σ H' ⟨x, y, z, rfl, rfl, ok⟩
   show U _ _
   subst hU
   have e : liesB N (wN xs) c = true := liesB_iff.mpr fun f g hf hg => ok f (by omega) g hg
   rw [e] at q
   exact q
theorem ok__law_rise {f : Addr} {fd : FuncData} (F : Fun K "_law_rise" "_law_rise" s__law_rise f fd) (m : mg "_law_rise" = some (.ref f)) (B : Bl4 mg) (D__law_widened : Def P w K mg base CX0 "_law_widened" 1 ["_law_table_here", "_law_shape", "_law_steps_here"] (sp__law_widened K)) (D__law_wide : Def P w K mg base CX0 "_law_wide" 2 ["_law_count"] (sp__law_wide K)) (D_closed : Def P w K mg base CX0 "closed" 7 ["count", "sides"] (sp_closed K)) (D__law_no_more : Def P w K mg base CX0 "_law_no_more" 1 ["_law_one", "_law_other"] (sp__law_no_more K)) (D__law_sides : Def P w K mg base CX0 "_law_sides" 2 ["_law_table_here"] (sp__law_sides K)) : Def P w K mg base CX0 "_law_rise" 8 ["_law_state", "_law_shape", "_law_steps_here", "_law_patience_here"] (sp__law_rise K) := by
 refine ⟨f, fd, F.ok sc__law_rise (fun vs H Q E h => ?_) (fun cdv A outer s H vs Q E hr h => ?_), F.binds (ps := ["_law_state", "_law_shape", "_law_steps_here", "_law_patience_here"]) fun _ _ _ _ _ _ us hl => (by obtain ⟨b0, b1, b2, b3, rfl⟩ := us4 hl; rfl), F.kp, m⟩
 · obtain ⟨sa, st, v, kv, rv, n, ss, pat, m1, k', r', o, bs, ts, rfl, _⟩ := h
   rfl
 obtain ⟨sa, st, v, kv, rv, n, ss, pat, m1, k', r', o, bs, ts, rfl, hs, hk, hR, nsb, hV, nst, hst, nss, hrise, hss, n1, hn, q0, q1⟩ := h
 refine ⟨_, (@pss_cons _ _ _ _ _ (ps_if (pw_or (pt_cmpR op_isN (pv 1) pe_non (nomark _)) (pw_or1 (pw_and (pt_cmpR op_notN (pe_xL (K := K) (pv 0) pe_int) pe_non (nomark _)) (pw_and1 (pt_val (pe_dz D__law_no_more hr (pa_Name (pv 1) (pa_Subscript (pe_xL (K := K) (pv 0) pe_int) pa_nil)))))).pt)).pt (pss_one (ps_ret pe_bl)) pss_nil)
  (@pss_cons _ _ _ _ _ (ps_augS (pv 0) pe_int (get_listK (K := K) rfl) pe_int ip_add set_list)
  (@pss_cons _ _ _ _ _ (ps_if (pt_cmpR op_isN (pe_xL (K := K) (pv 0) pe_int) pe_non (nomark _)) (pss_one (ps_asg (pe_comp (CompScope.of sc__law_rise.nd (by rfl)) rfl (pi_listK (K := K) rfl (pv 1)) (fun _ _ _ => pif_nil) (fun _ _ _ => (pe_callTy (call_list_ofK (K := K) rfl) (by rfl) B.list (by decide +kernel) (pa_Name (pv 0) pa_nil)))) (pg_sub (pv 0) pe_int set_list))) (pss_one (ps_asg (pe_dz D__law_widened hr (pa_Subscript (pe_xL (K := K) (pv 0) pe_int) (pa_Name (pv 1) (pa_Name (pv 2) pa_nil)))) (pg_sub (pv 0) pe_int set_list))))
  (@pss_cons _ _ _ _ _ (ps_if (pt_cmpR (op_eqDK (K := K) hr rfl) (pe_xL (K := K) (pv 0) pe_int) (pv 3) (nomark _)) (pss_one (ps_asg (pe_dz D__law_wide hr (pa_BinOp (pe_op op_fdiv (pe_callB (call_lenK (K := K) rfl) (by rfl) B.len (by decide +kernel) (pa_Name (pv 1) pa_nil)) pe_int) pa_nil)) (pg_sub (pv 0) pe_int set_list))) (pss_one (ps_asg (pe_dz D_closed hr (pa_BinOp (pe_op op_fdiv (pe_callB (call_lenK (K := K) rfl) (by rfl) B.len (by decide +kernel) (pa_Name (pv 1) pa_nil)) pe_int) (pa_Call (pe_dz D__law_sides hr (pa_Subscript (pe_xL (K := K) (pv 0) pe_int) pa_nil)) pa_nil))) (pg_sub (pv 0) pe_int set_list))))
  (pss_one (ps_ret pe_bl)))))), ?_⟩
 have sq : SqL K H sa [kv, rv, .int m1] := SqL.of hs
 refine seq_step fun U hU => ?_
 refine ⟨_, rfl, rfl, _, rfl, ?_⟩
 cases o with
 | none =>
  cases hV
  refine iteT ?_
  refine iteT ?_
  exact q0 (fun c e => by cases e)
 | some c =>
  obtain ⟨va, vb, rfl, Tv, mva, mvb⟩ := hV
  have hL : (vb.map V.ref).length = 2 * n := by rw [List.length_map, Tv.lenN]
  have go : ¬ NoRise n (some c) r' -> U [some (V.ref sa), some (.ref va), some (.ref st), some (.int pat)] H := by
   intro hno
   have q1 := q1 hno c rfl
   subst hU
   refine seq_step fun U hU => ?_
   refine ⟨_, rfl, sa, _, 2, .int m1, rfl, rfl, sq, by decide, rfl, m1, 1, rfl, rfl, sa, _, 2, 2, rfl, rfl, hs, rfl, ?_⟩
   show U _ _
   subst hU
   have h1s : upd H sa (.lst ([kv, rv, .int m1].set 2 (.int (m1 + 1)))) sa = some (.lst [kv, rv, .int (m1 + 1)]) := upd_same
   have e1 : StepE [sa] H (upd H sa (.lst ([kv, rv, .int m1].set 2 (.int (m1 + 1))))) := StepE.put (by simp)
   generalize upd H sa (.lst ([kv, rv, .int m1].set 2 (.int (m1 + 1)))) = H1 at *
   have noB : ∀ b ∈ bs, b ∉ [sa] := fun b hb z => nsb (by rw [← List.mem_singleton.mp z]; exact hb)
   have hk1 := hk.keep (KeepA.step e1 noB) fun _ z => z
   have hV1 : ShapeIn ts H1 (.ref va) (2 * n) (some c) := ShapeIn.keep (o := some c) (KeepA.step e1 fun b hb z => nst (by rw [← List.mem_singleton.mp z]; exact hb)) (fun _ z => z) ⟨va, vb, rfl, Tv, mva, mvb⟩
   have Tv1 : TabAt H1 va vb (Oct.toT (2 * n) c) := by
    have nv : ∀ b, b ∈ ts -> b ∉ [sa] := fun b hb z => nst (by rw [← List.mem_singleton.mp z]; exact hb)
    exact ⟨e1 _ _ (nv _ mva) Tv.at_, Tv.nd, Tv.ne, paired_of Tv.len fun i x y ex ey => by
     obtain ⟨y', ey', hy⟩ := paired_get' Tv.lines ex
     rw [ey] at ey'; cases ey'
     exact e1 _ _ (nv _ (mvb x (List.mem_of_getElem? ex))) hy⟩
   have hst1 := e1.seq (by simpa using nss) hst
   have sq1 : SqL K H1 sa [kv, rv, .int (m1 + 1)] := SqL.of h1s
   refine seq_step fun U hU => ?_
   have next : ∀ (ka : Addr) (kb : List Addr) (H2 : Hp), Same H1 H2 -> TabNew H1 H2 ka kb (Oct.toT (2 * n) (lawK k' ss c)) -> U [some (V.ref sa), some (.ref va), some (.ref st), some (.int pat)] (upd H2 sa (.lst [.ref ka, rv, .int (m1 + 1)])) := by
    intro ka kb H2 s2 N2
    subst hU
    have off := N2.off h1s
    have h3s : upd H2 sa (.lst [.ref ka, rv, .int (m1 + 1)]) sa = some (.lst [.ref ka, rv, .int (m1 + 1)]) := upd_same
    have e3 : StepE [sa] H1 (upd H2 sa (.lst [.ref ka, rv, .int (m1 + 1)])) := (StepE.of s2).trans (StepE.put (by simp))
    have Tk3 := N2.tab.other (o := .lst [.ref ka, rv, .int (m1 + 1)]) off.1 off.2
    have nv : sa ≠ va /\ sa ∉ vb := ⟨fun e => nst (by rw [e]; exact mva), fun m => nst (mvb _ m)⟩
    have Tv3 := (Tv1.same s2).other (o := .lst [.ref ka, rv, .int (m1 + 1)]) nv.1 nv.2
    have nk : ∀ b ∈ ka :: kb, H b = none := fun b hb => by
     have z : H1 b = none /\ b ≠ sa := by
      rcases List.mem_cons.mp hb with z | z
      · rw [z]; exact ⟨N2.newT, Ne.symm off.1⟩
      · exact ⟨N2.newL b z, fun e => off.2 (by rw [← e]; exact z)⟩
     exact e1.free z.1 (by simpa using z.2)
    generalize upd H2 sa (.lst [.ref ka, rv, .int (m1 + 1)]) = H3 at *
    have e03 := e1.trans e3
    refine seq_step fun U hU => ?_
    have last : ∀ (u : V) (H4 : Hp), Same H3 H4 -> ShapeNew H3 H4 u (2 * n) (if m1 + 1 = pat then some Oct.wideT else closedO n (toldP (2 * n) (lawK k' ss c) (2 * n))) -> U [some (V.ref sa), some (.ref va), some (.ref st), some (.int pat)] (upd H4 sa (.lst [.ref ka, u, .int (m1 + 1)])) := by
     intro u H4 s4 N4
     subst hU
     obtain ⟨ub, hu, hub⟩ := ShapeNew.inn N4
     have h4s := s4 _ _ h3s
     have nu : sa ∉ ub := fun z => by have := (hub sa z).1; rw [h3s] at this; cases this
     have nkk : sa ∉ ka :: kb := fun z => by have := nk sa z; rw [hs] at this; cases this
     have kk : KeepA (ka :: kb ++ ub) H4 (upd H4 sa (.lst [.ref ka, u, .int (m1 + 1)])) := fun b o hb h => by
      rw [upd_ne (fun e => by
       rw [e] at hb
       rcases List.mem_append.mp hb with z | z
       · exact nkk z
       · exact nu z)]
      exact h
     have hk4 : ShapeIn (ka :: kb ++ ub) H4 (.ref ka) (2 * n) (some (lawK k' ss c)) := ⟨ka, kb, rfl, Tk3.same s4, by simp, fun b hb => by simp [hb]⟩
     have hu4 : ShapeIn (ka :: kb ++ ub) H4 u (2 * n) (if m1 + 1 = pat then some Oct.wideT else closedO n (toldP (2 * n) (lawK k' ss c) (2 * n))) := hu.sub fun b hb => List.mem_append.mpr (.inr hb)
     refine q1 (.ref ka) u (ka :: kb ++ ub) _ ((e03.trans (StepE.of s4)).trans (StepE.put (by simp))) upd_same (hk4.keep kk fun _ z => z) (hu4.keep kk fun _ z => z) (fun b hb => ?_) (fun b hb => ?_)
     · rcases List.mem_append.mp hb with z | z
       · exact nk b z
       · exact e03.free (hub b z).1 (by simpa using fun e => nu (by rw [← e]; exact z))
     · rcases List.mem_append.mp hb with z | z
       · obtain ⟨xs, e⟩ := tab_lists (Tk3.same s4) b z
         exact ⟨xs, kk b _ hb e⟩
       · obtain ⟨_, xs, e⟩ := hub b z
         exact ⟨xs, kk b _ hb e⟩
    have sq3 : SqL K H3 sa [.ref ka, rv, .int (m1 + 1)] := SqL.of h3s
    have eN : ((vb.map V.ref).length : Int) / 2 = (n : Int) := by rw [hL]; omega
    refine ⟨_, rfl, sa, _, _, .int (m1 + 1), rfl, rfl, sq3, rfl, _, rfl, _, _, dt_eV (some (m1 + 1)), dt_eV (some pat), depth_eD _, _, rfl, ?_⟩
    rw [eqv_eD]
    refine ite2 (fun h => ?_) (fun h => ?_)
    · have ep : m1 + 1 = pat := Option.some.inj (of_decide_eq_true h)
      refine ⟨_, rfl, va, _, rfl, .inl (SqL.of Tv3.at_), _, _, rfl, rfl, ⟨by decide, by decide⟩, n, congrArg (fun z => [V.int z]) eN, by omega, fun pw wb H4 s4 N4 => ?_⟩
      refine ⟨_, rfl, sa, _, 1, 1, rfl, rfl, s4 _ _ h3s, rfl, ?_⟩
      exact last (.ref pw) H4 s4 (by rw [if_pos ep]; exact ⟨pw, wb, rfl, N4⟩)
    · have ep : ¬ m1 + 1 = pat := fun z => h (decide_eq_true (by rw [z]))
      refine ⟨_, rfl, va, _, rfl, .inl (SqL.of Tv3.at_), _, _, rfl, rfl, ⟨by decide, by decide⟩, _, rfl, sa, _, _, .ref ka, rfl, rfl, sq3, rfl, ka, kb, 2 * n, _, rfl, Tk3, by omega, fun sd ys H4 s4 hsd esd psd => ?_⟩
      refine ⟨sd, n, ys, _, congrArg (fun z => [V.int z, V.ref sd]) eN, SqL.of esd, psd, told_in, by omega, fun u H5 s5 N5 => ?_⟩
      have s45 := s4.trans s5
      refine ⟨_, rfl, sa, _, 1, 1, rfl, rfl, s45 _ _ h3s, rfl, ?_⟩
      exact last u H5 s45 (by rw [if_neg ep]; exact N5.of s4)
   refine ⟨_, rfl, sa, _, _, kv, rfl, rfl, sq1, rfl, rfl, _, rfl, ?_⟩
   cases k' with
   | none =>
    cases hk1
    refine iteT ?_
    refine ⟨_, rfl, va, rfl, ⟨_, SqL.of Tv1.at_⟩, fun kp9 hkp9 => comp_listN (K := K) (a := va) (xs := vb.map V.ref) (fun i zs H' => Grow H1 H' kp9 zs (Oct.rows i (2 * n) c)) (Grow.start hkp9) (fun i ys H' _ G => G.same.seq (SqL.of Tv1.at_)) ?_ ?_⟩
    · rintro i x zs H' hx G
      have T' := Tv1.same G.same
      obtain ⟨hi, d0, rfl, ed, hd⟩ := T'.rowN hx
      simp only [tYes, ↓reduceIte]
      refine ⟨_, rfl, d0, _, rfl, .inl (SqL.of hd), fun l hl => ?_⟩
      have st := G.step hl (same_new hl (.lst ((Oct.ln (2 * n) (c i)).map eV))) upd_same
      have hlt : i < (vb.map V.ref).length := (List.getElem?_eq_some_iff.mp hx).1
      refine ⟨st.1, by rw [G.len, Oct.rows_len]; exact small1000 (by omega), again hlt ?_⟩
      rw [Oct.rows_succ]
      exact st.2
    rintro zs H2 ⟨kb, rfl, N2, s2⟩
    rw [hL] at N2
    refine ⟨_, rfl, sa, _, 0, 0, rfl, rfl, s2 _ _ h1s, rfl, ?_⟩
    exact next kp9 kb H2 s2 N2
   | some kc =>
    obtain ⟨ka, kb, rfl, Tk, _⟩ := hk1
    refine iteF ?_
    refine ⟨_, rfl, sa, _, _, .ref ka, rfl, rfl, sq1, rfl, _, rfl, _, rfl, ka, va, st, kb, vb, 2 * n, kc, c, ss, rfl, Tk, Tv1, hst1, hrise, hss, by omega, fun dw wb H2 s2 N2 => ?_⟩
    refine ⟨_, rfl, sa, _, 0, 0, rfl, rfl, s2 _ _ h1s, rfl, ?_⟩
    exact next dw wb H2 s2 N2
  refine iteF ?_
  refine ⟨_, rfl, sa, _, _, rv, rfl, rfl, sq, rfl, rfl, _, rfl, ?_⟩
  cases r' with
  | none =>
   cases hR
   refine iteF ?_
   refine iteF ?_
   exact go (fun z => by obtain ⟨t, e, _⟩ := z c rfl; cases e)
  | some s' =>
   obtain ⟨ra, rb, rfl, Tr, _⟩ := hR
   refine iteT ?_
   refine ⟨_, rfl, _, rfl, sa, _, _, .ref ra, rfl, rfl, sq, rfl, va, ra, vb, rb, 2 * n, c, s', rfl, Tv, Tr, by omega, fun bo hb => ?_⟩
   refine ⟨bo, rfl, ?_⟩
   cases bo with
   | true =>
    refine iteT ?_
    exact q0 (fun d e => by cases e; exact ⟨s', rfl, hb.mp rfl⟩)
   | false =>
    refine iteF ?_
    exact go (fun z => by
     obtain ⟨t, e, l⟩ := z c rfl
     cases e
     have := hb.mpr l
     cases this)
theorem ok__law_take {f : Addr} {fd : FuncData} (F : Fun K "_law_take" "_law_take" s__law_take f fd) (m : mg "_law_take" = some (.ref f)) (B : Bl4 mg) (D__law_rise : Def P w K mg base CX0 "_law_rise" 8 ["_law_state", "_law_shape", "_law_steps_here", "_law_patience_here"] (sp__law_rise K)) (D_Climb_take : FDef P w K mg base CX0 13 ["self", "shape"] (sp_Climb_take K Z_Climb) y9) (D_Climb_rises : FDef P w K mg base CX0 1 ["self"] (sp_Climb_rises K Z_Climb) y7) (D__law_alike : Def P w K mg base CX0 "_law_alike" 2 ["_law_found", "_law_due"] (sp__law_alike K)) (D_Climb_shape : FDef P w K mg base CX0 2 ["self"] (sp_Climb_shape K Z_Climb) y8) (D__law_whole : Def P w K mg base CX0 "_law_whole" 1 ["_law_found"] (sp__law_whole K)) : Def P w K mg base CX0 "_law_take" 14 ["_law_climb", "_law_state", "_law_shape", "_law_steps_here", "_law_patience_here"] (sp__law_take K Z_Climb) := by
 refine ⟨f, fd, F.ok sc__law_take (fun vs H Q E h => ?_) (fun cdv A outer s H vs Q E hr h => ?_), F.binds (ps := ["_law_climb", "_law_state", "_law_shape", "_law_steps_here", "_law_patience_here"]) fun _ _ _ _ _ _ us hl => (by obtain ⟨b0, b1, b2, b3, b4, rfl⟩ := us5 hl; rfl), F.kp, m⟩
 · obtain ⟨x, sa, st, v, F1, as, bs, n, ss, pat, r, o, ts, rfl, _⟩ := h
   rfl
 obtain ⟨x, sa, st, v, F1, as, bs, n, ss, pat, r, o, ts, rfl, PA, mF, alF, hV, offT, alT, hSo, hst, nst, hrise, hss, p1, n1, hn, q⟩ := h
 refine ⟨_, (@pss_cons _ _ _ _ _ (ps_sz 5 sc__law_take.nd (pe_dz D__law_rise hr (pa_Name (pv 1) (pa_Name (pv 2) (pa_Name (pv 3) (pa_Name (pv 4) pa_nil))))))
  (@pss_cons _ _ _ _ _ (ps_sz 6 sc__law_take.nd pe_non)
  (@pss_cons _ _ _ _ _ (ps_if (pt_cmpR op_notN (pv 2) pe_non (nomark _)) (pss_one (ps_setC (i := 6) (CompScope.of sc__law_take.nd (by rfl)) rfl (pi_listK (K := K) rfl (pv 2)) (fun _ _ _ => pif_nil) (fun _ _ _ => (pe_callTy (call_list_ofK (K := K) rfl) (by rfl) B.list (by decide +kernel) (pa_Name (pv 0) pa_nil))) sc__law_take.nd rfl (by first | exact Or.inl rfl | exact Or.inr rfl) rfl)) pss_nil)
  (@pss_cons _ _ _ _ _ (ps_sz 7 sc__law_take.nd (pe_mdef D_Climb_take T.cl_Climb T.me_Climb_take (pv 0) (hr.mono (by decide)) pass0 (pa_Name (pv 6) pa_nil)))
  (@pss_cons _ _ _ _ _ (ps_if (pw_or (pt_not (pt_val (pe_callB (call_isTyK (K := K) rfl) (by rfl) B.isinstance (by decide +kernel) (pa_Name (pv 7) (pa_Name (pe_bltn (v := .ty "bool") (u := .type "bool") (by rfl) B.bool (by decide +kernel) rfl) pa_nil))))) (pw_or (pt_cmpR op_ne (pv 7) (pv 5) (nomark _)) (pw_or1 (pt_cmpR (op_neDK (K := K) hr rfl) (pv 6) (pv 2) (nomark _))))).pt (pss_one (ps_ret pe_bl)) pss_nil)
  (@pss_cons _ _ _ _ _ (ps_sz 8 sc__law_take.nd (pe_mdef0 D_Climb_rises T.cl_Climb T.me_Climb_rises (pv 0) (hr.mono (by decide)) pass0))
  (@pss_cons _ _ _ _ _ (ps_if (pw_or (pt_not (pt_val (pe_dz D__law_whole hr (pa_Name (pv 8) pa_nil)))) (pw_or (pt_cmpR (op_neDK (K := K) hr rfl) (pv 8) (pe_xL (K := K) (pv 1) pe_int) (nomark _)) (pw_or1 (pt_cmpR op_gt (pv 8) (pv 4) (nomark _))))).pt (pss_one (ps_ret pe_bl)) pss_nil)
  (pss_one (ps_ret (pe_dz D__law_alike hr (pa_Call (pe_mdef0 D_Climb_shape T.cl_Climb T.me_Climb_shape (pv 0) (hr.mono (by decide)) pass0) (pa_Subscript (pe_xL (K := K) (pv 1) pe_int) pa_nil)))))))))))), ?_⟩
 obtain ⟨k, k', r', m1, kv, rv, C, hs, hk, hr, L⟩ := id PA.ex
 have nx : sa ≠ x := ins_lst C.ins hs
 refine seq_step fun U hU => ?_
 have key : ∀ (du : Bool) (H1 : Hp) (kv1 rv1 : V) (mm : Int) (bs1 : List Addr) (k1 r1 : Option Tb), StepE [sa] H H1 -> H1 sa = some (.lst [kv1, rv1, .int mm]) -> ShapeIn bs1 H1 kv1 (2 * n) k1 -> ShapeIn bs1 H1 rv1 (2 * n) r1 -> (∀ b ∈ bs1, ∃ xs, H1 b = some (.lst xs)) -> (∀ f ∈ F1, f ∉ bs1) ->
   (WithO n o r -> du = false /\ mm = m1 /\ LR n pat m1 k r k1 r1) -> (¬ WithO n o r -> du = true /\ mm = m1 + 1 /\ ∀ c, o = some c -> LR n pat (m1 + 1) (some (nextT pat (m1 + 1) k ss c)) (Oct.shapeO (2 * n) (nextT pat (m1 + 1) k ss c)) k1 r1) ->
   U [some (V.ref x), some (.ref sa), some v, some (.ref st), some (.int pat), some (.bl du), none, none, none] H1 := by
  intro du H1 kv1 rv1 mm bs1 k1 r1 e1 h1s g1 g2 al1 off1 hA hB
  subst hU
  have keepA : KeepA as H H1 := KeepA.step e1 fun b hb z => PA.offa sa mF (by rw [← List.mem_singleton.mp z]; exact hb)
  have C1 : ClimbAt Z_Climb as H1 x n ss pat k r m1 := C.keep keepA fun u h => e1 _ _ (by simpa using Ne.symm nx) h
  have hV1 : ShapeIn ts H1 v (2 * n) o := hV.keep (KeepA.step e1 fun b hb z => offT sa mF (by rw [← List.mem_singleton.mp z]; exact hb)) fun _ z => z
  refine seq_step fun U hU => ?_
  show U _ _
  subst hU
  refine seq_step fun U hU => ?_
  have key2 : ∀ (hv : V) (H2 : Hp), Same H1 H2 -> ShapeNew H1 H2 hv (2 * n) o -> U [some (V.ref x), some (.ref sa), some v, some (.ref st), some (.int pat), some (.bl du), some hv, none, none] H2 := by
   intro hv H2 s2 N2
   subst hU
   have C2 := C1.same s2
   have h2s := s2 _ _ h1s
   have hV2 := hV1.at.same s2
   have e2 : StepE [x, sa] H H2 := (e1.trans (StepE.of s2)).mono (by simp)
   obtain ⟨dx, st2, kv2, rv2, hx2, _⟩ := C2.obj
   have I2 : IsIns H2 x := ⟨_, _, _, hx2⟩
   refine seq_step fun U hU => ?_
   have last : ∀ (as' : List Addr) (H3 : Hp) (k2 r2 : Option Tb), SameX x H2 H3 -> ClimbAt Z_Climb as' H3 x n ss pat k2 r2 mm -> (∀ f ∈ F1, f ∉ as') -> LR n pat mm k2 r2 k1 r1 -> (∀ s, r = some s -> ∃ s2, r2 = some s2 /\ Oct.Le s s2 (2 * n)) -> (∀ c, o = some c -> ∃ s2, r2 = some s2 /\ Oct.Le c s2 (2 * n)) ->
     U [some (V.ref x), some (.ref sa), some v, some (.ref st), some (.int pat), some (.bl du), some hv, some (.bl du), none] H3 := by
    intro as' H3 k2 r2 k3 C3 off3 L3 mono1 mono2
    subst hU
    have h3s : H3 sa = some (.lst [kv1, rv1, .int mm]) := k3 _ _ nx h2s
    have bsx : ∀ b ∈ bs1, b ≠ x := fun b hb => by
     obtain ⟨xs, e⟩ := al1 b hb
     exact ins_lst I2 (s2 _ _ e)
    have kb3 : KeepA bs1 H1 H3 := fun b u hb h => k3 _ _ (bsx b hb) (s2 _ _ h)
    have P3 : PairAt Z_Climb F1 as' bs1 H3 x sa n ss pat r2 := ⟨⟨k2, k1, r1, mm, kv1, rv1, C3, h3s, g1.keep kb3 fun _ z => z, g2.keep kb3 fun _ z => z, L3⟩, fun b hb => let ⟨xs, e⟩ := al1 b hb; ⟨xs, kb3 _ _ hb e⟩, off3, off1⟩
    have e3 : StepE [x, sa] H H3 := e2.trans fun b u hb h => k3 _ _ (fun z => hb (by simp [z])) h
    have mo := L3.most p1
    refine seq_step fun U hU => ?_
    refine ⟨_, rfl, true, isT_bl_bool, true, rfl, ?_⟩
    refine iteF ?_
    refine ⟨_, rfl, _, rfl, rfl, _, rfl, ?_⟩
    refine iteNS rfl ?_
    have hv3 : ShapeAt H3 hv (2 * n) o := k3.shape I2 N2.at
    have vv3 : ShapeAt H3 v (2 * n) o := k3.shape I2 hV2
    refine ⟨_, rfl, _, rfl, shD (2 * n) o, shD (2 * n) o, shape_dt hv3, shape_dt vv3, depth_shD _ _, _, rfl, ?_⟩
    rw [eqv_shD]
    refine iteF ?_
    show U _ _
    subst hU
    obtain ⟨dx3, st3, kv3, rv3, hx3, _⟩ := C3.obj
    refine seq_step fun U hU => ?_
    refine ⟨_, rfl, x, dx3, _, rfl, hx3, noC off_rises _ _ _ _ _ _, x, as', n, ss, pat, k2, r2, mm, rfl, C3, ?_⟩
    show U _ _
    subst hU
    refine seq_step fun U hU => ?_
    refine ⟨_, rfl, mm, rfl, true, rfl, ?_⟩
    refine iteF ?_
    refine ⟨_, rfl, _, rfl, sa, _, _, .int mm, rfl, rfl, SqL.of h3s, rfl, _, _, dt_eV (some mm), dt_eV (some mm), depth_eD _, _, rfl, ?_⟩
    rw [eqv_eD]
    refine iteNS rfl ?_
    refine ⟨_, rfl, _, rfl, _, _, rfl, rfl, _, rfl, ?_⟩
    rw [decide_eq_false (show ¬ pat < mm by omega)]
    refine iteF ?_
    show U _ _
    subst hU
    refine ⟨_, rfl, x, dx3, _, rfl, hx3, noC off_shape _ _ _ _ _ _, x, as', n, ss, pat, k2, r2, mm, rfl, C3, by omega, fun u H4 s4 N4 => ?_⟩
    have h4s := s4 _ _ h3s
    have g4 : ShapeAt H4 rv1 (2 * n) r1 := ((g2.keep kb3 fun _ z => z).at).same s4
    exact ⟨_, rfl, sa, _, _, rv1, rfl, rfl, SqL.of h4s, rfl, u, rv1, n, r2, r1, rfl, N4.at, g4, L3.same, by omega, q as' bs1 r2 H4 (e3.trans (StepE.of s4)) (P3.same s4) mono1 mono2⟩
   refine ⟨_, rfl, x, dx, _, rfl, hx2, noC off_take _ _ _ _ _ _, _, rfl, x, hv, as, n, ss, pat, k, r, m1, o, rfl, C2, N2.at, hSo, L.shp, L.zero, hss, hn, fun W H3 s3 => ?_, fun W c ec as' H3 k3 has C3 => ?_⟩
   · obtain ⟨ed, em, L1⟩ := hA W
     subst ed em
     refine last as H3 k r (SameX.of s3) (C2.same s3) PA.offa L1 (fun s e => ⟨s, e, Oct.Le.refl _ _⟩) (fun c e => ?_)
     subst e
     have Sc : Oct.Shp c (2 * n) := hSo
     cases r with
     | none => exact absurd W (not_with_none Sc)
     | some s => exact ⟨s, rfl, (with_iff Sc L.shp).mp W⟩
   · obtain ⟨ed, em, L1⟩ := hB W
     subst ed em ec
     have Sc : Oct.Shp c (2 * n) := hSo
     obtain ⟨sn, es, l1, l2, _, _⟩ := L.next (ss := ss) p1 Sc W
     have L1 := L1 c rfl
     rw [es] at L1 C3
     refine last as' H3 _ _ k3 C3 (fun f hf z => ?_) L1 (fun s e => ⟨sn, rfl, l2 s e⟩) (fun d e => by cases e; exact ⟨sn, rfl, l1⟩)
     rcases has f z with z | z
     · exact PA.offa f hf z
     · have a0 := alF f hf
       by_cases ef : f = sa
       · rw [ef, h2s] at z; cases z
       · cases e : H f with
         | none => exact a0 e
         | some u =>
          have := s2 _ _ (e1 f u (by simpa using ef) e)
          rw [z] at this; cases this
  refine ⟨_, rfl, rfl, _, rfl, ?_⟩
  cases o with
  | none =>
   cases hV1
   refine iteF ?_
   exact key2 .non H1 (Same.refl _) rfl
  | some c =>
   obtain ⟨va, vb, rfl, Tv, _, _⟩ := hV1
   refine iteT ?_
   have hL : (vb.map V.ref).length = 2 * n := by rw [List.length_map, Tv.lenN]
   refine ⟨_, rfl, va, rfl, ⟨_, SqL.of Tv.at_⟩, fun kp9 hkp9 => comp_listN (K := K) (a := va) (xs := vb.map V.ref) (fun i zs H' => Grow H1 H' kp9 zs (Oct.rows i (2 * n) c)) (Grow.start hkp9) (fun i ys H' _ G => G.same.seq (SqL.of Tv.at_)) ?_ ?_⟩
   · rintro i x zs H' hx G
     have T' := Tv.same G.same
     obtain ⟨hi, d0, rfl, ed, hd⟩ := T'.rowN hx
     simp only [tYes, ↓reduceIte]
     refine ⟨_, rfl, d0, _, rfl, .inl (SqL.of hd), fun l hl => ?_⟩
     have st := G.step hl (same_new hl (.lst ((Oct.ln (2 * n) (c i)).map eV))) upd_same
     have hlt : i < (vb.map V.ref).length := (List.getElem?_eq_some_iff.mp hx).1
     refine ⟨st.1, by rw [G.len, Oct.rows_len]; exact small1000 (by omega), again hlt ?_⟩
     rw [Oct.rows_succ]
     exact st.2
   rintro zs H2 ⟨b2, rfl, T2, s2⟩
   rw [hL] at T2
   exact key2 _ H2 s2 ⟨kp9, b2, rfl, T2⟩
 refine ⟨_, rfl, _, rfl, _, rfl, _, rfl, sa, st, v, kv, rv, n, ss, pat, m1, k', r', o, bs, ts, rfl, hs, hk, hr, PA.offb sa mF, hV, offT sa mF, hst, fun e => nst (by rw [e]; exact mF), hrise, hss, n1, hn, fun NR => ?_, fun NR c ec kv2 rv2 bs2 H1 e1 h1s g1 g2 nw al => ?_⟩
 · exact key false H kv rv m1 bs k' r' (StepE.of (Same.refl _)) hs hk hr PA.all PA.offb (fun _ => ⟨rfl, rfl, L⟩) (fun W => absurd ((L.rise hSo).mpr NR) W)
 · subst ec
   have W : ¬ WithO n (some c) r := fun z => NR ((L.rise hSo).mp z)
   refine key true H1 kv2 rv2 (m1 + 1) bs2 _ _ e1 h1s g1 g2 al (fun f hf z => alF f hf (nw f z)) (fun z => absurd z W) (fun _ => ⟨rfl, rfl, fun d e => ?_⟩)
   cases e
   obtain ⟨sn, es, _, _, _, LL⟩ := L.next (ss := ss) p1 (show Oct.Shp c (2 * n) from hSo) W
   rw [es]
   exact LL
theorem ok__law_steps {f : Addr} {fd : FuncData} (F : Fun K "_law_steps" "_law_steps" s__law_steps f fd) (m : mg "_law_steps" = some (.ref f)) (B : Bl4 mg) (D__law_cell : Def P w K mg base CX0 "_law_cell" 1 ["_law_script", "_law_k"] (sp__law_cell K)) : Def P w K mg base CX0 "_law_steps" 2 ["_law_script"] (sp__law_steps K) := by
 refine ⟨f, fd, F.ok sc__law_steps (fun vs H Q E h => ?_) (fun cdv A outer s H vs Q E hr h => ?_), F.binds (ps := ["_law_script"]) fun _ _ _ _ _ _ us hl => (by obtain ⟨b0, rfl⟩ := us1 hl; rfl), F.kp, m⟩
 · obtain ⟨a, ns, rfl, _⟩ := h
   rfl
 obtain ⟨a, ns, rfl, hS, q⟩ := h
 have D__law_cell := D__law_cell.imp (cellAt_of (a := a) (ns := ns))
 refine ⟨_, (@pss_cons _ _ _ _ _ (ps_setC (i := 1) (CompScope.of sc__law_steps.nd (by rfl)) rfl (pi_range1 (by rfl) B.range (pa_BinOp (pe_op op_mod (pe_dz D__law_cell hr (pa_Name (pv 0) (pa_Constant pe_int pa_nil))) pe_int) pa_nil)) (fun _ _ _ => pif_nil) (fun _ _ _ => (pe_op op_sub (pe_op op_mod (pe_dz D__law_cell hr (pa_Name (pv 1) (pa_BinOp (pe_op op_add pe_int (pv 0)) pa_nil))) pe_int) pe_int)) sc__law_steps.nd rfl (by first | exact Or.inl rfl | exact Or.inr rfl) rfl)
  (@pss_cons _ _ _ _ _ (ps_if (pw_and (pt_cmpR op_gt (pe_callB (call_lenK (K := K) rfl) (by rfl) B.len (by decide +kernel) (pa_Name (pv 1) pa_nil)) pe_int (nomark _)) (pw_and1 (pt_cmpR op_eq (pe_op op_mod (pe_dz D__law_cell hr (pa_Name (pv 0) (pa_Constant pe_int pa_nil))) pe_int) pe_int (nomark _)))).pt (pss_one (ps_augS (pv 1) pe_int (get_listK (K := K) rfl) (pe_op op_mod (pe_op op_fdiv (pe_dz D__law_cell hr (pa_Name (pv 0) (pa_Constant pe_int pa_nil))) pe_int) (pe_op op_pow pe_int pe_int)) ip_add set_list)) pss_nil)
  (pss_one (ps_ret (pe_sortedSet (K := K) rfl rfl (by rfl) B.sorted (by decide +kernel) (by rfl) B.set (by decide +kernel) (pa_Name (pv 1) pa_nil)))))), ?_⟩
 have m1 := Int.emod_nonneg (cellI ns 5) (b := 9) (by decide)
 have m2 := Int.emod_lt_of_pos (cellI ns 5) (b := 9) (by decide)
 refine seq_step fun U hU => ?_
 refine ⟨_, rfl, (5 : Int), rfl, by decide, hS, _, _, rfl, rfl, (by show (0 : Int) < 9; decide), (cellI ns 5 % 9), rfl, by omega, by omega, fun p hp => comp_rangeN (lo := 0) (n := (cellI ns 5 % 9).toNat) (fun i ys H' => ∃ zs : List Int, ys = zs.map V.int /\ zs.length = i /\ H' p = some (.lst ys) /\ Same H H') ⟨[], rfl, rfl, upd_same, same_new hp _⟩ ?_ ?_⟩
 · rintro i ys H1 hi ⟨zs, rfl, lz, hp', sm⟩
   simp only [tYes, ↓reduceIte]
   rw [Int.zero_add]
   refine ⟨_, rfl, _, rfl, _, _, rfl, rfl, (6 + (i : Int)), rfl, by omega, sm.seq hS, _, _, rfl, rfl, (by show (0 : Int) < 121; decide), _, _, rfl, rfl, hp', by rw [List.length_map]; exact small1000 (by omega), again hi ⟨zs ++ [_], by rw [List.map_append]; rfl, by simp [lz], upd_same, same_over hp sm⟩⟩
 · rintro ys H1 ⟨zs, rfl, lz, hp', sm⟩
   show U _ _
   subst hU
   refine seq_step fun U hU => ?_
   have fin : ∀ (ws : List Int) (H2 : Hp), Same H H2 -> H2 p = some (.lst (ws.map V.int)) -> ws.length <= 8 -> U [some (V.ref a), some (.ref p)] H2 := by
    intro ws H2 s2 e2 l8
    subst hU
    refine ⟨_, rfl, p, ws, rfl, SqL.of e2, by omega, fun st out hst hmem hlt => ?_⟩
    have lo := rise_len out ws hlt fun k hk => (hmem k).mp hk
    exact q st _ out (s2.trans (same_new hst _)) (s2.free hst) upd_same hlt (by omega)
   refine ⟨_, rfl, p, _, rfl, .inl (SqL.of hp'), _, _, rfl, rfl, _, rfl, ?_⟩
   rw [List.length_map]
   refine ite2 (fun h => ?_) (fun h => ?_)
   · have l0 : 0 < zs.length := by have := of_decide_eq_true h; omega
     refine ⟨_, rfl, (14 : Int), rfl, by decide, sm.seq hS, _, _, rfl, rfl, (by show (0 : Int) < 3; decide), rfl, _, rfl, ?_⟩
     refine ite2 (fun h2 => ?_) (fun h2 => ?_)
     · obtain ⟨z0, zr, rfl⟩ : ∃ z r, zs = z :: r := by
        cases zs with
        | nil => simp at l0
        | cons z r => exact ⟨z, r, rfl⟩
       refine ⟨_, rfl, p, _, 0, .int z0, rfl, rfl, SqL.of hp', by decide, (show atI ((z0 :: zr).map V.int) 0 = some (.int z0) from atI_nat (j := 0) rfl), _, rfl, (14 : Int), rfl, by decide, sm.seq hS, _, _, rfl, rfl, ⟨by decide, by decide⟩, _, _, rfl, rfl, ⟨by decide, by decide, by decide⟩, _, _, rfl, rfl, (by show (0 : Int) < 10 ^ (30 : Int).toNat; decide), z0, _, rfl, rfl, p, _, 0, 0, rfl, rfl, hp', by rw [List.length_map]; exact ixN_nat (j := 0) l0, ?_⟩
       exact fin (_ :: zr) _ (same_over hp sm) upd_same (by simp at lz ⊢; omega)
     · exact fin zs H1 sm hp' (by omega)
   · refine iteF ?_
     exact fin zs H1 sm hp' (by omega)
theorem ok__law_patience {f : Addr} {fd : FuncData} (F : Fun K "_law_patience" "_law_patience" s__law_patience f fd) (m : mg "_law_patience" = some (.ref f)) (B : Bl4 mg)  : Def P w K mg base CX0 "_law_patience" 1 ["_law_cell_here"] (sp__law_patience K) := by
 refine ⟨f, fd, F.ok sc__law_patience (fun vs H Q E h => ?_) (fun cdv A outer s H vs Q E hr h => ?_), F.binds (ps := ["_law_cell_here"]) fun _ _ _ _ _ _ us hl => (by obtain ⟨b0, rfl⟩ := us1 hl; rfl), F.kp, m⟩
 · obtain ⟨c, rfl, _⟩ := h
   rfl
 obtain ⟨c, rfl, q⟩ := h
 refine ⟨_, (@pss_cons _ _ _ _ _ (ps_if (pt_cmpR op_eq (pe_op op_mod (pv 0) pe_int) pe_int (nomark _)) (pss_one (ps_ret (pe_op op_add pe_int (pe_op op_mod (pe_op op_fdiv (pv 0) pe_int) pe_int)))) pss_nil)
  (pss_one (ps_ret (pe_op op_add pe_int (pe_op op_mod (pe_op op_fdiv (pv 0) pe_int) pe_int))))), ?_⟩
 refine seq_step fun U hU => ?_
 refine ⟨_, rfl, _, _, rfl, rfl, (by show (0 : Int) < 3; decide), rfl, _, rfl, ?_⟩
 refine ite2 (fun h => ?_) (fun h => ?_)
 · exact ⟨_, rfl, _, _, rfl, rfl, ⟨by decide, by decide⟩, _, _, rfl, rfl, (by show (0 : Int) < 20; decide), _, _, rfl, rfl, q _ (by show 1 <= 1 + c / 3 % 20; omega)⟩
 · show U _ _
   subst hU
   exact ⟨_, rfl, _, _, rfl, rfl, ⟨by decide, by decide⟩, _, _, rfl, rfl, (by show (0 : Int) < 4; decide), _, _, rfl, rfl, q _ (by show 1 <= 2 + c / 3 % 4; omega)⟩
omit T in
theorem sc_law : FnScope ["_law_script", "_law_count", "_law_drift", "_law_steps_here", "_law_patiences", "_law_climbs", "_law_states", "_law_cells", "_law_met", "_law_halfway", "_law_turn", "_law_cell_here", "_law_points_here", "_law_shape", "_law_k", "_law_point", "_law_climb"] ["_law_script"] (defScope s_law) := ⟨rfl, rfl, rfl, by decide +kernel, rfl, by decide +kernel, by decide +kernel⟩
theorem ok_law_fn {f : Addr} {fd : FuncData} (F : Fun K "law" "law" s_law f fd) (m : mg "law" = some (.ref f)) (B : Bl4 mg) (D__law_steps : Def P w K mg base CX0 "_law_steps" 2 ["_law_script"] (sp__law_steps K)) (D__law_patience : Def P w K mg base CX0 "_law_patience" 1 ["_law_cell_here"] (sp__law_patience K)) (D_Climb_init : FDef P w K mg base CX0 1 ["self", "count", "steps", "patience"] (sp_Climb_init K Z_Climb) y0) (D__law_points : Def P w K mg base CX0 "_law_points" 1 ["_law_cell_here", "_law_turn", "_law_drift"] (sp__law_points K)) (D__law_cell : Def P w K mg base CX0 "_law_cell" 1 ["_law_script", "_law_k"] (sp__law_cell K)) (D__law_table : Def P w K mg base CX0 "_law_table" 3 ["_law_points_here", "_law_up_here", "_law_count"] (sp__law_table K)) (D__law_up : Def P w K mg base CX0 "_law_up" 1 ["_law_cell_here", "_law_count"] (sp__law_up K)) (D__law_take : Def P w K mg base CX0 "_law_take" 14 ["_law_climb", "_law_state", "_law_shape", "_law_steps_here", "_law_patience_here"] (sp__law_take K Z_Climb)) (D_Climb_shape : FDef P w K mg base CX0 2 ["self"] (sp_Climb_shape K Z_Climb) y8) (D__law_lies : Def P w K mg base CX0 "_law_lies" 2 ["_law_table_here", "_law_point"] (sp__law_lies K)) : FnOk P w K mg base CX0 15 f fd ["_law_script"] (sp_law K) := by
 refine F.ok sc_law (fun vs H Q E h => ?_) (fun cdv A outer s H vs Q E hr h => ?_)
 · obtain ⟨a, ns, rfl, _⟩ := h
   rfl
 obtain ⟨a, ns, rfl, hS, hlen, q⟩ := h
 have D__law_cell := D__law_cell.imp (cellAt_of (a := a) (ns := ns))
 refine ⟨_, (@pss_cons _ _ _ _ _ (ps_sz 1 sc_law.nd (pe_xL (K := K) (pe_lst (pa_Constant pe_int (pa_Constant pe_int (pa_Constant pe_int (pa_Constant pe_int (pa_Constant pe_int (pa_Constant pe_int pa_nil))))))) (pe_op op_mod (pe_dz D__law_cell hr (pa_Name (pv 0) (pa_Constant pe_int pa_nil))) pe_int)))
  (@pss_cons _ _ _ _ _ (ps_setC1 (i := 2) (CompScope1.of (M := ["_law_script", "_law_count", "_law_drift", "_law_steps_here", "_law_patiences", "_law_climbs", "_law_states", "_law_cells", "_law_met", "_law_halfway", "_law_turn", "_law_cell_here", "_law_points_here", "_law_shape", "?_law_k", "_law_point", "_law_climb"]) (by decide +kernel) (by rfl)) rfl (pi_range1 (by rfl) B.range (pa_Name (pv 1) pa_nil)) (fun _ _ _ => (pe_op op_sub (pe_op op_mod (pe_op op_fdiv (pe_dz D__law_cell hr (pa_Name (pv 1) (pa_Constant pe_int pa_nil))) (pe_xL (K := K) (pe_lst (pa_Constant pe_int (pa_Constant pe_int (pa_Constant pe_int pa_nil)))) (pv 0))) pe_int) pe_int)) sc_law.nd rfl (by first | exact Or.inl rfl | exact Or.inr rfl) rfl)
  (@pss_cons _ _ _ _ _ (ps_sz 3 sc_law.nd (pe_dz D__law_steps hr (pa_Name (pv 0) pa_nil)))
  (@pss_cons _ _ _ _ _ (ps_sz 4 sc_law.nd (pe_lst (pa_Call (pe_dz D__law_patience hr (pa_Call (pe_dz D__law_cell hr (pa_Name (pv 0) (pa_Constant pe_int pa_nil))) pa_nil)) (pa_Call (pe_dz D__law_patience hr (pa_Call (pe_dz D__law_cell hr (pa_Name (pv 0) (pa_Constant pe_int pa_nil))) pa_nil)) pa_nil))))
  (@pss_cons _ _ _ _ _ (ps_if (pt_cmpR op_eq (pv 1) pe_int (nomark _)) (pss_one (ps_setC (i := 4) (CompScope.of sc_law.nd (by rfl)) rfl (pi_listK (K := K) rfl (pv 4)) (fun _ _ _ => pif_nil) (fun _ _ _ => (pe_callB (call_min2 rfl) (by rfl) B.min (by decide +kernel) (pa_Constant pe_int (pa_Name (pv 0) pa_nil)))) sc_law.nd rfl (by first | exact Or.inl rfl | exact Or.inr rfl) rfl)) pss_nil)
  (@pss_cons _ _ _ _ _ (ps_sz 5 sc_law.nd (pe_lst (pa_Call (pe_cdef D_Climb_init T.mk_Climb T.mg_Climb (hr.mono (by decide)) (by rfl) pass0 (pa_Name (pv 1) (pa_Call (pe_callTy (call_list_ofK (K := K) rfl) (by rfl) B.list (by decide +kernel) (pa_Name (pv 3) pa_nil)) (pa_Subscript (pe_xL (K := K) (pv 4) pe_int) pa_nil)))) (pa_Call (pe_cdef D_Climb_init T.mk_Climb T.mg_Climb (hr.mono (by decide)) (by rfl) pass0 (pa_Name (pv 1) (pa_Call (pe_callTy (call_list_ofK (K := K) rfl) (by rfl) B.list (by decide +kernel) (pa_Name (pv 3) pa_nil)) (pa_Subscript (pe_xL (K := K) (pv 4) pe_int) pa_nil)))) pa_nil))))
  (@pss_cons _ _ _ _ _ (ps_sz 6 sc_law.nd (pe_lst (pa_List (pe_lst (pa_Constant pe_non (pa_Constant pe_non (pa_Constant pe_int pa_nil)))) (pa_List (pe_lst (pa_Constant pe_non (pa_Constant pe_non (pa_Constant pe_int pa_nil)))) pa_nil))))
  (@pss_cons _ _ _ _ _ (ps_sz 7 sc_law.nd (pe_slice (sl_listK (K := K) rfl) (pv 0) (po_some pe_int) (po_some pe_int)))
  (@pss_cons _ _ _ _ _ (ps_if (pt_cmpR op_eq (pe_callB (call_lenK (K := K) rfl) (by rfl) B.len (by decide +kernel) (pa_Name (pv 7) pa_nil)) pe_int (nomark _)) (pss_one (ps_setC1 (i := 7) (CompScope1.of (M := ["_law_script", "_law_count", "_law_drift", "_law_steps_here", "_law_patiences", "_law_climbs", "_law_states", "_law_cells", "_law_met", "_law_halfway", "_law_turn", "_law_cell_here", "_law_points_here", "_law_shape", "?_law_k", "_law_point", "_law_climb"]) (by decide +kernel) (by rfl)) rfl (pi_range1 (by rfl) B.range (pa_BinOp (pe_op op_mod (pe_dz D__law_cell hr (pa_Name (pv 0) (pa_Constant pe_int pa_nil))) pe_int) pa_nil)) (fun _ _ _ => (pe_dz D__law_cell hr (pa_Name (pv 1) (pa_BinOp (pe_op op_add pe_int (pv 0)) pa_nil)))) sc_law.nd rfl (by first | exact Or.inl rfl | exact Or.inr rfl) rfl)) pss_nil)
  (@pss_cons _ _ _ _ _ (ps_sz 8 sc_law.nd (pe_lst pa_nil))
  (@pss_cons _ _ _ _ _ (ps_sz 9 sc_law.nd (pe_lst (pa_Constant pe_non (pa_Constant pe_non pa_nil))))
  (@pss_cons _ _ _ _ _ (ps_for PassesOwn.never rfl (pi_enumK (K := K) rfl (by rfl) B.enumerate (pa_Name (pv 7) pa_nil)) (pg_pairK (K := K) rfl rfl (pg_nz 10 sc_law.nd) (pg_nz 11 sc_law.nd)) (@pss_cons _ _ _ _ _ (ps_sz 12 sc_law.nd (pe_dz D__law_points hr (pa_Name (pv 11) (pa_Name (pv 10) (pa_Name (pv 2) pa_nil)))))
  (@pss_cons _ _ _ _ _ (ps_sz 13 sc_law.nd pe_non)
  (@pss_cons _ _ _ _ _ (ps_if (pt_cmpR op_gt (pe_callB (call_lenK (K := K) rfl) (by rfl) B.len (by decide +kernel) (pa_Name (pv 12) pa_nil)) pe_int (nomark _)) (pss_one (ps_sz 13 sc_law.nd (pe_dz D__law_table hr (pa_Name (pv 12) (pa_Call (pe_dz D__law_up hr (pa_Name (pv 11) (pa_Name (pv 1) pa_nil))) (pa_Name (pv 1) pa_nil)))))) pss_nil)
  (@pss_cons _ _ _ _ _ (ps_for PassesOwn.never rfl (pi_range1 (by rfl) B.range (pa_Constant pe_int pa_nil)) (pg_nz 14 sc_law.nd) (pss_one (ps_if (pt_not (pt_val (pe_dz D__law_take hr (pa_Subscript (pe_xL (K := K) (pv 5) (pv 14)) (pa_Subscript (pe_xL (K := K) (pv 6) (pv 14)) (pa_Name (pv 13) (pa_Name (pv 3) (pa_Subscript (pe_xL (K := K) (pv 4) (pv 14)) pa_nil)))))))) (pss_one (ps_ret pe_bl)) pss_nil)))
  (@pss_cons _ _ _ _ _ (ps_sz 8 sc_law.nd (pe_op op_cat (pv 8) (pv 12)))
  (pss_one (ps_if (pt_cmpR op_eq (pv 10) (pe_op op_fdiv (pe_callB (call_lenK (K := K) rfl) (by rfl) B.len (by decide +kernel) (pa_Name (pv 7) pa_nil)) pe_int) (nomark _)) (pss_one (ps_sz 9 sc_law.nd (pe_lst (pa_Call (pe_mdef0 D_Climb_shape T.cl_Climb T.me_Climb_shape (pe_xL (K := K) (pv 5) pe_int) (hr.mono (by decide)) pass0) (pa_cons (pe_comp (CompScope.of sc_law.nd (by rfl)) rfl (pi_listK (K := K) rfl (pe_orL (K := K) rfl (pe_mdef0 D_Climb_shape T.cl_Climb T.me_Climb_shape (pe_xL (K := K) (pv 5) pe_int) (hr.mono (by decide)) pass0) (pe_one (pe_lst pa_nil)))) (fun _ _ _ => pif_nil) (fun _ _ _ => (pe_callTy (call_list_ofK (K := K) rfl) (by rfl) B.list (by decide +kernel) (pa_Name (pv 0) pa_nil)))) pa_nil))))) pss_nil))))))))
  (@pss_cons _ _ _ _ _ (ps_if (pw_and (pt_cmpR op_notN (pe_xL (K := K) (pv 9) pe_int) pe_non (nomark _)) (pw_and1 (pt_cmpR (op_neDK (K := K) hr rfl) (pe_xL (K := K) (pv 9) pe_int) (pe_xL (K := K) (pv 9) pe_int) (nomark _)))).pt (pss_one (ps_ret pe_bl)) pss_nil)
  (@pss_cons _ _ _ _ _ (ps_for PassesOwn.never rfl (pi_listK (K := K) rfl (pv 8)) (pg_nz 15 sc_law.nd) (pss_one (ps_for PassesOwn.never rfl (pi_listK (K := K) rfl (pv 5)) (pg_nz 16 sc_law.nd) (pss_one (ps_if (pt_not (pt_val (pe_dz D__law_lies hr (pa_Call (pe_mdef0 D_Climb_shape T.cl_Climb T.me_Climb_shape (pv 16) (hr.mono (by decide)) pass0) (pa_Name (pv 15) pa_nil))))) (pss_one (ps_ret pe_bl)) pss_nil)))))
  (pss_one (ps_ret pe_bl)))))))))))))))), ?_⟩
 refine seq_step fun U hU => ?_
 refine ⟨sz 6, fun lc hlc => ?_⟩
 have u0 := same_new hlc (.lst [.int 2, .int 1, .int 2, .int 2, .int 3, .int 2])
 obtain ⟨n, en, n1, n3⟩ := pick6n (cellI ns 0)
 refine ⟨_, rfl, (0 : Int), rfl, by decide, u0.seq hS, _, _, rfl, rfl, (by show (0 : Int) < 6; decide), lc, _, _, _, rfl, rfl, SqL.of upd_same, en, ?_⟩
 show U _ _
 subst hU
 have hSa := u0.seq hS
 generalize upd H lc (.lst [.int 2, .int 1, .int 2, .int 2, .int 3, .int 2]) = Ha at *
 refine seq_step fun U hU => ?_
 refine ⟨_, rfl, (n : Int), rfl, by omega, by omega, fun dr hdr => comp_range1 (lo := 0) (n := (n : Int).toNat) (fun i ys H' => ∃ zs : List Int, ys = zs.map V.int /\ zs.length = i /\ H' dr = some (.lst ys) /\ Same Ha H') ⟨[], rfl, rfl, upd_same, same_new hdr _⟩ ?_ ?_⟩
 · rintro i ys H1 hi ⟨zs, rfl, lz, hp', sm⟩
   obtain ⟨m, em, m0, m1⟩ := part_five (k := i) (by omega)
   rw [Int.zero_add]
   refine ⟨_, rfl, (1 : Int), rfl, by decide, sm.seq hSa, sz 3, fun l hl => ?_⟩
   have sl := same_new hl (.lst [.int 1, .int 5, .int 25])
   refine ⟨_, rfl, l, _, _, _, rfl, rfl, SqL.of upd_same, em, _, _, rfl, rfl, ⟨m0, m1⟩, _, _, rfl, rfl, (by show (0 : Int) < 5; decide), _, _, rfl, rfl, sl _ _ hp', by rw [List.length_map]; exact small1000 (by omega), again hi ⟨zs ++ [_], by rw [List.map_append]; rfl, by simp [lz], upd_same, same_over hdr (sm.trans sl)⟩⟩
 rintro ys H1 ⟨ds, rfl, ld, edr, sm1⟩
 have ld : ds.length = n := by omega
 show U _ _
 subst hU
 have hS1 := sm1.seq hSa
 refine seq_step fun U hU => ?_
 refine ⟨_, rfl, a, ns, rfl, hS1, fun st H2 out s2 hst est hrise l8 => ?_⟩
 show U _ _
 subst hU
 have hS2 := s2.seq hS1
 have edr2 := s2 _ _ edr
 refine seq_step fun U hU => ?_
 refine ⟨_, rfl, (2 : Int), rfl, by decide, hS2, _, rfl, fun q0 hq0 => ?_⟩
 refine ⟨_, rfl, (3 : Int), rfl, by decide, hS2, _, rfl, fun q1 hq1 => ?_⟩
 refine ⟨sz 2, fun pa hpa => ?_⟩
 show U _ _
 subst hU
 have s3 := same_new hpa (.lst [.int q0, .int q1])
 have epa : upd H2 pa (.lst [.int q0, .int q1]) pa = some (.lst [.int q0, .int q1]) := upd_same
 generalize upd H2 pa (.lst [.int q0, .int q1]) = H3 at *
 refine seq_step fun U hU => ?_
 have go : ∀ (pa : Addr) (q0 q1 : Int) (H4 : Hp), 1 <= q0 -> 1 <= q1 -> Same H2 H4 -> H4 pa = some (.lst [.int q0, .int q1]) -> U [some (V.ref a), some (.int n), some (.ref dr), some (.ref st), some (.ref pa), none, none, none, none, none, none, none, none, none, none, none, none] H4 := by
  intro pa q0 q1 H4 hq0 hq1 s4 epa
  subst hU
  have hS4 := s4.seq hS2
  have edr4 := s4 _ _ edr2
  have est4 := s4 _ _ est
  refine seq_step fun U hU => ?_
  refine ⟨_, rfl, _, rfl, st, _, rfl, .inl (SqL.of est4), fun la hla => ?_⟩
  have t1 := same_new hla (.lst (out.map V.int))
  have ela : upd H4 la (.lst (out.map V.int)) la = some (.lst (out.map V.int)) := upd_same
  generalize upd H4 la (.lst (out.map V.int)) = K1 at *
  refine ⟨_, rfl, pa, _, _, _, rfl, rfl, SqL.of (t1 _ _ epa), rfl, fun x0 dx0 hx0 hdx0 nd0 => ?_⟩
  have g1 := (same_new hdx0 (.own x0)).trans (same_new (o := .ins Z_Climb dx0 []) (by rw [upd_ne (Ne.symm nd0)]; exact hx0))
  have ex1 : upd (upd K1 dx0 (.own x0)) x0 (.ins Z_Climb dx0 []) x0 = some (.ins Z_Climb dx0 []) := upd_same
  generalize upd (upd K1 dx0 (.own x0)) x0 (.ins Z_Climb dx0 []) = K2 at *
  refine ⟨x0, dx0, la, n, out, q0, rfl, ex1, SqL.of (g1 _ _ ela), fun m0 K3 k3 hm0 nm0 em0 ex3 => ⟨rfl, ?_⟩⟩
  have hx04 : H4 x0 = none := t1.free hx0
  have s43 : Same H4 K3 := fun b u h => k3 b u (fun e => by rw [e, hx04] at h; cases h) ((t1.trans g1) _ _ h)
  have C0 : ClimbAt Z_Climb [m0] K3 x0 n out q0 none none 0 := ⟨⟨dx0, m0, .non, .non, ex3, em0, by simp, rfl, rfl⟩, fun b hb => ⟨out.map V.int, by rw [List.mem_singleton.mp hb]; exact em0⟩⟩
  refine ⟨_, rfl, _, rfl, st, _, rfl, .inl (SqL.of (s43 _ _ est4)), fun lb hlb => ?_⟩
  have t2 := same_new hlb (.lst (out.map V.int))
  have elb : upd K3 lb (.lst (out.map V.int)) lb = some (.lst (out.map V.int)) := upd_same
  generalize upd K3 lb (.lst (out.map V.int)) = K4 at *
  refine ⟨_, rfl, pa, _, _, _, rfl, rfl, SqL.of (t2 _ _ (s43 _ _ epa)), rfl, fun x1 dx1 hx1 hdx1 nd1 => ?_⟩
  have g2 := (same_new hdx1 (.own x1)).trans (same_new (o := .ins Z_Climb dx1 []) (by rw [upd_ne (Ne.symm nd1)]; exact hx1))
  have ex2 : upd (upd K4 dx1 (.own x1)) x1 (.ins Z_Climb dx1 []) x1 = some (.ins Z_Climb dx1 []) := upd_same
  generalize upd (upd K4 dx1 (.own x1)) x1 (.ins Z_Climb dx1 []) = K5 at *
  refine ⟨x1, dx1, lb, n, out, q1, rfl, ex2, SqL.of (g2 _ _ elb), fun m1 K6 k6 hm1 nm1 em1 ex6 => ⟨rfl, ?_⟩⟩
  have nx : x0 ≠ x1 := fun e => by
   rw [← e, t2 _ _ ex3] at hx1
   cases hx1
  have s46 : Same K3 K6 := fun b u h => k6 b u (fun e => by rw [e] at h; rw [t2 _ _ h] at hx1; cases hx1) ((t2.trans g2) _ _ h)
  have C1 : ClimbAt Z_Climb [m1] K6 x1 n out q1 none none 0 := ⟨⟨dx1, m1, .non, .non, ex6, em1, by simp, rfl, rfl⟩, fun b hb => ⟨out.map V.int, by rw [List.mem_singleton.mp hb]; exact em1⟩⟩
  have C0 := C0.same s46
  have s06 := s43.trans s46
  have hx14 : H4 x1 = none := (s43.trans t2).free hx1
  refine ⟨sz 2, fun cl hcl => ?_⟩
  show U _ _
  subst hU
  have s7 := same_new hcl (.lst [.ref x0, .ref x1])
  have ecl : upd K6 cl (.lst [.ref x0, .ref x1]) cl = some (.lst [.ref x0, .ref x1]) := upd_same
  generalize upd K6 cl (.lst [.ref x0, .ref x1]) = K7 at *
  refine seq_step fun U hU => ?_
  refine ⟨sz 3, fun s0 hs0 => ?_⟩
  have s8 := same_new hs0 (.lst [.non, .non, .int 0])
  have es0 : upd K7 s0 (.lst [.non, .non, .int 0]) s0 = some (.lst [.non, .non, .int 0]) := upd_same
  generalize upd K7 s0 (.lst [.non, .non, .int 0]) = K8 at *
  refine ⟨sz 3, fun s1 hs1 => ?_⟩
  have s9 := same_new hs1 (.lst [.non, .non, .int 0])
  have es1 : upd K8 s1 (.lst [.non, .non, .int 0]) s1 = some (.lst [.non, .non, .int 0]) := upd_same
  generalize upd K8 s1 (.lst [.non, .non, .int 0]) = K9 at *
  refine ⟨sz 2, fun sl hsl => ?_⟩
  show U _ _
  subst hU
  have s10 := same_new hsl (.lst [.ref s0, .ref s1])
  have esl : upd K9 sl (.lst [.ref s0, .ref s1]) sl = some (.lst [.ref s0, .ref s1]) := upd_same
  generalize upd K9 sl (.lst [.ref s0, .ref s1]) = KA at *
  have s9A := s9.trans s10
  have s8A := s8.trans s9A
  have s7A := s7.trans s8A
  have s0A := s06.trans s7A
  have nss : s0 ≠ s1 := fun e => by rw [← e, es0] at hs1; cases hs1
  have n04 : H4 s0 = none := (s06.trans s7).free hs0
  have n14 : H4 s1 = none := (s06.trans (s7.trans s8)).free hs1
  have inF : ∀ f, f ∈ [s0, s1] -> f = s0 \/ f = s1 := fun f h => by simpa using h
  have noF : ∀ (b : Addr), b ≠ s0 -> b ≠ s1 -> b ∉ [s0, s1] := fun b h1 h2 z => (inF b z).elim h1 h2
  have P0 : PairAt Z_Climb [s0, s1] [m0] [] KA x0 s0 n out q0 none := by
   refine ⟨⟨none, none, none, 0, .non, .non, C0.same s7A, s9A _ _ es0, rfl, rfl, .inl ⟨rfl, rfl, rfl, rfl, rfl⟩⟩, fun b hb => (by cases hb), fun f hf z => ?_, fun f hf z => (by cases z)⟩
   have z := List.mem_singleton.mp z
   have h := s46 _ _ em0
   rcases inF f hf with e | e
   · rw [← z, e] at h; rw [s7 _ _ h] at hs0; cases hs0
   · rw [← z, e] at h; rw [s8 _ _ (s7 _ _ h)] at hs1; cases hs1
  have P1 : PairAt Z_Climb [s0, s1] [m1] [] KA x1 s1 n out q1 none := by
   refine ⟨⟨none, none, none, 0, .non, .non, C1.same s7A, s10 _ _ es1, rfl, rfl, .inl ⟨rfl, rfl, rfl, rfl, rfl⟩⟩, fun b hb => (by cases hb), fun f hf z => ?_, fun f hf z => (by cases z)⟩
   have z := List.mem_singleton.mp z
   have h := em1
   rcases inF f hf with e | e
   · rw [← z, e] at h; rw [s7 _ _ h] at hs0; cases hs0
   · rw [← z, e] at h; rw [s8 _ _ (s7 _ _ h)] at hs1; cases hs1
  have ncl : cl ∉ [s0, s1] := noF cl (fun e => by rw [← e, ecl] at hs0; cases hs0) (fun e => by rw [← e, s8 _ _ ecl] at hs1; cases hs1)
  have nsl : sl ∉ [s0, s1] := noF sl (fun e => by rw [e, s9 _ _ es0] at hsl; cases hsl) (fun e => by rw [e, es1] at hsl; cases hsl)
  have ecl := s8A _ _ ecl
  have es0 := s9A _ _ es0
  have es1 := s10 _ _ es1
  have hSA := s0A.seq hS4
  clear C0 C1 s7 s8 s9 s10 s9A s8A s7A s06 s46 s43 hs0 hs1 hsl hx0 hx1 hdx0 hdx1 em0 em1 ex3 ex6 ela elb
  refine seq_step fun U hU => ?_
  refine ⟨_, rfl, (23 : Int), rfl, (63 : Int), rfl, a, _, rfl, hSA, fun ce hce => ?_⟩
  obtain ⟨cs, ecs, lcs⟩ := cut_ints ns (some 23) (some 63)
  rw [ecs]
  show U _ _
  subst hU
  have sB := same_new hce (.lst (cs.map V.int))
  have ece : upd KA ce (.lst (cs.map V.int)) ce = some (.lst (cs.map V.int)) := upd_same
  have nce : ce ∉ [s0, s1] := noF ce (fun e => by rw [e, es0] at hce; cases hce) (fun e => by rw [e, es1] at hce; cases hce)
  generalize upd KA ce (.lst (cs.map V.int)) = KB at *
  refine seq_step fun U hU => ?_
  have run : ∀ (ce : Addr) (cs : List Int) (KC : Hp), Same KA KC -> KC ce = some (.lst (cs.map V.int)) -> cs.length <= 63 -> ce ∉ [s0, s1] -> U [some (V.ref a), some (.int n), some (.ref dr), some (.ref st), some (.ref pa), some (.ref cl), some (.ref sl), some (.ref ce), none, none, none, none, none, none, none, none, none] KC := by
   intro ce cs KC sC ece lcs nce
   subst hU
   refine seq_step fun U hU => ?_
   refine ⟨sz 0, fun me hme => ?_⟩
   show U _ _
   subst hU
   have sD := same_new hme (.lst [])
   have eme : upd KC me (.lst []) me = some (.lst []) := upd_same
   have nme : me ∉ [s0, s1] := noF me (fun e => by rw [e, sC _ _ es0] at hme; cases hme) (fun e => by rw [e, sC _ _ es1] at hme; cases hme)
   generalize upd KC me (.lst []) = KD at *
   refine seq_step fun U hU => ?_
   refine ⟨sz 2, fun hw hhw => ?_⟩
   show U _ _
   subst hU
   have sE := same_new hhw (.lst [.non, .non])
   have ehw : upd KD hw (.lst [.non, .non]) hw = some (.lst [.non, .non]) := upd_same
   have nhw : hw ∉ [s0, s1] := noF hw (fun e => by rw [e, sD _ _ (sC _ _ es0)] at hhw; cases hhw) (fun e => by rw [e, sD _ _ (sC _ _ es1)] at hhw; cases hhw)
   generalize upd KD hw (.lst [.non, .non]) = KE at *
   have sAE := (sC.trans sD).trans sE
   have L0 : Lp Z_Climb H4 KE cl sl ce me x0 x1 s0 s1 hw n out cs q0 q1 [] [] none none := ⟨s0A.trans sAE, sAE _ _ ecl, sAE _ _ esl, (sD.trans sE) _ _ ece, sE _ _ eme, .nil, ⟨_, _, P0.same sAE⟩, ⟨_, _, P1.same sAE⟩, fun p hp => (by cases hp), fun p hp => (by cases hp), ⟨none, .non, .non, [], ehw, rfl, fun c e => (by cases e), fun b hb => (by cases hb), fun f _ z => (by cases z), nhw⟩, ⟨_, sAE _ _ es0⟩, ⟨_, sAE _ _ es1⟩, ⟨ncl, nsl, nce, nme⟩, nx, nss, ⟨hx04, hx14, n04, n14⟩⟩
   have nstF : ∀ {H : Hp} {me hw : Addr} {ys : List V} {M : List (List Int)} {r0 r1 : Option Tb}, Lp Z_Climb H4 H cl sl ce me x0 x1 s0 s1 hw n out cs q0 q1 ys M r0 r1 -> st ∉ [s0, s1] := fun _ => noF st (fun e => by rw [e, n04] at est4; cases est4) (fun e => by rw [e, n14] at est4; cases est4)
   refine seq_step fun U hU => ?_
   refine ⟨_, rfl, ce, rfl, ⟨_, SqL.of L0.hce⟩, for_enum (K := K) (a := ce) (xs := cs.map V.int) (fun i σ H' => ∃ (v1 v2 v3 v4 v5 : Option V) (me hw : Addr) (ys : List V) (M : List (List Int)) (r0 r1 : Option Tb), σ = [some (V.ref a), some (.int n), some (.ref dr), some (.ref st), some (.ref pa), some (.ref cl), some (.ref sl), some (.ref ce), some (.ref me), some (.ref hw), v1, v2, v3, v4, v5, none, none] /\ Lp Z_Climb H4 H' cl sl ce me x0 x1 s0 s1 hw n out cs q0 q1 ys M r0 r1 /\ ys.length <= 2 * i) ⟨none, none, none, none, none, me, hw, [], [], none, none, rfl, L0, by simp⟩ (fun i σ H' _ ⟨_, _, _, _, _, _, _, _, _, _, _, _, L, _⟩ => SqL.of L.hce) ?_ ?_⟩
   · rintro i vz σ H1 H1' hz ⟨v1, v2, v3, v4, v5, me, hw, ys, M, r0, r1, rfl, L1, lys⟩ sm1
     obtain ⟨z, ez, rfl⟩ := get_of hz
     have hi : i < cs.length := (List.getElem?_eq_some_iff.mp ez).1
     have L1 := L1.sm sm1
     refine seq_step fun U hU => ?_
     refine ⟨_, rfl, _, rfl, _, rfl, z, (i : Int), dr, ds, rfl, SqL.of (L1.same _ _ edr4), by omega, by omega, by omega, by omega, fun pp H2 yp Pp s2 hpp epp hPp lPp => ?_⟩
     rw [ld] at hPp
     show U _ _
     subst hU
     have L2 := L1.sm s2
     obtain ⟨xs0, hs0⟩ := L2.l0
     obtain ⟨xs1, hs1⟩ := L2.l1
     have npp : pp ∉ [s0, s1] := noF pp (fun e => by obtain ⟨xs, h⟩ := L1.l0; rw [e, h] at hpp; cases hpp) (fun e => by obtain ⟨xs, h⟩ := L1.l1; rw [e, h] at hpp; cases hpp)
     refine seq_step fun U hU => ?_
     show U _ _
     subst hU
     refine seq_step fun U hU => ?_
     have body : ∀ (v : V) (o : Option Tb) (ts : List Addr) (H3 : Hp), Same H2 H3 -> ShapeIn ts H3 v (2 * n) o -> (∀ b ∈ ts, H2 b = none) -> (∀ b ∈ ts, ∃ xs, H3 b = some (.lst xs)) -> ShpO (2 * n) o -> (∀ p ∈ Pp, ∃ c, o = some c /\ Oct.Lies (wN p) c (2 * n)) -> U [some (V.ref a), some (.int n), some (.ref dr), some (.ref st), some (.ref pa), some (.ref cl), some (.ref sl), some (.ref ce), some (.ref me), some (.ref hw), some (.int i), some (.int z), some (.ref pp), some v, v5, none, none] H3 := by
      intro v o ts H3 s3 hv nts alT hSo hin
      subst hU
      have offT : ∀ f ∈ [s0, s1], f ∉ ts := fun f hf z => by
       have h := nts f z
       rcases inF f hf with e | e
       · rw [e, hs0] at h; cases h
       · rw [e, hs1] at h; cases h
      have L3 := L2.sm s3
      have epp3 := s3 _ _ epp
      have hPp3 := pts_same s3 hPp
      refine seq_step fun U hU => ?_
      refine ⟨(2 : Int), rfl, by decide, by decide, for_range (lo := 0) (n := (2 : Int).toNat) (fun j σ H' => ∃ (w4 : Option V) (r0 r1 : Option Tb), σ = [some (V.ref a), some (.int n), some (.ref dr), some (.ref st), some (.ref pa), some (.ref cl), some (.ref sl), some (.ref ce), some (.ref me), some (.ref hw), some (.int i), some (.int z), some (.ref pp), some v, w4, none, none] /\ Lp Z_Climb H4 H' cl sl ce me x0 x1 s0 s1 hw n out cs q0 q1 ys M r0 r1 /\ ShapeIn ts H' v (2 * n) o /\ (∀ b ∈ ts, ∃ xs, H' b = some (.lst xs)) /\ H' pp = some (.lst yp) /\ Paired (PtAt n H') yp Pp /\ (1 <= j -> InShp n Pp r0) /\ (2 <= j -> InShp n Pp r1)) ⟨_, r0, r1, rfl, L3, hv, alT, epp3, hPp3, fun h => absurd h (by decide), fun h => absurd h (by decide)⟩ ?_ ?_⟩
      · rintro j σ H5 hj ⟨w4, r0, r1, rfl, L5, hv, alT, epp5, hPp5, in0, in1⟩
        have alF : ∀ f ∈ [s0, s1], H5 f ≠ none := fun f hf z => by
         rcases inF f hf with e | e
         · obtain ⟨xs, h⟩ := L5.l0; rw [e, h] at z; cases z
         · obtain ⟨xs, h⟩ := L5.l1; rw [e, h] at z; cases z
        have keep : ∀ (x s : Addr) (H' : Hp), IsIns H5 x -> s ∈ [s0, s1] -> StepE [x, s] H5 H' -> ShapeIn ts H' v (2 * n) o /\ (∀ b ∈ ts, ∃ xs, H' b = some (.lst xs)) /\ H' pp = some (.lst yp) /\ Paired (PtAt n H') yp Pp := fun x s H' I ms e => by
         have ka : KeepA ts H5 H' := KeepA.step e fun b hb => by
          obtain ⟨xs, h⟩ := alT b hb
          exact lst_off h I (fun z => offT b z hb) ms
         refine ⟨hv.keep ka fun _ z => z, fun b hb => let ⟨xs, h⟩ := alT b hb; ⟨xs, ka _ _ hb h⟩, e _ _ (lst_off epp5 I npp ms) epp5, e.pts (F := []) (fun b hb => ?_) hPp5⟩
         rcases List.mem_cons.mp hb with z | z
         · rw [z]; exact .inr I
         · rw [List.mem_singleton.mp z]
           rcases inF s ms with e | e <;> rw [e]
           · exact .inl L5.l0
           · exact .inl L5.l1
        have inn : ∀ r2 : Option Tb, (∀ c, o = some c -> ∃ s2, r2 = some s2 /\ Oct.Le c s2 (2 * n)) -> InShp n Pp r2 := fun r2 mo p hp => by
         obtain ⟨c, e, l⟩ := hin p hp
         obtain ⟨s2, e2, l2⟩ := mo c e
         exact ⟨s2, e2, Oct.Le.trans l l2⟩
        have hj2 : j = 0 \/ j = 1 := by have : j < 2 := hj; omega
        rcases hj2 with e | e <;> subst e
        · obtain ⟨as0, bs0, PP⟩ := L5.p0
          refine ⟨_, rfl, _, rfl, cl, _, _, .ref x0, rfl, rfl, SqL.of L5.hcl, rfl, _, rfl, _, rfl, sl, _, _, .ref s0, rfl, rfl, SqL.of L5.hsl, rfl, _, rfl, _, rfl, _, rfl, _, rfl, pa, _, _, .int q0, rfl, rfl, SqL.of (L5.same _ _ epa), rfl, x0, s0, st, v, [s0, s1], as0, bs0, n, out, q0, _, o, ts, rfl, PP, by simp, alF, hv, offT, alT, hSo, SqL.of (L5.same _ _ est4), nstF L5, hrise, by omega, hq0, n1, by omega, fun as2 bs2 r2 H' e2 P2 mo1 mo2 => ?_⟩
          refine ⟨true, rfl, ?_⟩
          refine iteF ?_
          obtain ⟨h1, h2, h3, h4⟩ := keep x0 s0 H' L5.i0 (by simp) e2
          exact ⟨_, r2, r1, rfl, L5.up0 e2 P2 mo1, h1, h2, h3, h4, fun _ => inn r2 mo2, fun h => absurd h (by decide)⟩
        · obtain ⟨as0, bs0, PP⟩ := L5.p1
          refine ⟨_, rfl, _, rfl, cl, _, _, .ref x1, rfl, rfl, SqL.of L5.hcl, rfl, _, rfl, _, rfl, sl, _, _, .ref s1, rfl, rfl, SqL.of L5.hsl, rfl, _, rfl, _, rfl, _, rfl, _, rfl, pa, _, _, .int q1, rfl, rfl, SqL.of (L5.same _ _ epa), rfl, x1, s1, st, v, [s0, s1], as0, bs0, n, out, q1, _, o, ts, rfl, PP, by simp, alF, hv, offT, alT, hSo, SqL.of (L5.same _ _ est4), nstF L5, hrise, by omega, hq1, n1, by omega, fun as2 bs2 r2 H' e2 P2 mo1 mo2 => ?_⟩
          refine ⟨true, rfl, ?_⟩
          refine iteF ?_
          obtain ⟨h1, h2, h3, h4⟩ := keep x1 s1 H' L5.i1 (by simp) e2
          exact ⟨_, r0, r2, rfl, L5.up1 e2 P2 mo1, h1, h2, h3, h4, fun _ => in0 (by decide), fun _ => inn r2 mo2⟩
      · rintro σ H5 ⟨w4, r0, r1, rfl, L5, hv, alT, epp5, hPp5, in0, in1⟩
        show U _ _
        subst hU
        have in0 := in0 (by decide)
        have in1 := in1 (by decide)
        have lyp := paired_len hPp5
        refine seq_step fun U hU => ?_
        refine ⟨_, rfl, _, rfl, me, pp, _, _, rfl, rfl, L5.hme, epp5, sz _ (by omega), fun me2 hme2 => ?_⟩
        show U _ _
        subst hU
        have s6 := same_new hme2 (.lst (ys ++ yp))
        have nme2 : me2 ∉ [s0, s1] := noF me2 (fun e => by obtain ⟨xs, h⟩ := L5.l0; rw [e, h] at hme2; cases hme2) (fun e => by obtain ⟨xs, h⟩ := L5.l1; rw [e, h] at hme2; cases hme2)
        have eme2 : upd H5 me2 (.lst (ys ++ yp)) me2 = some (.lst (ys ++ yp)) := upd_same
        generalize upd H5 me2 (.lst (ys ++ yp)) = H6 at *
        have L6 : Lp Z_Climb H4 H6 cl sl ce me2 x0 x1 s0 s1 hw n out cs q0 q1 (ys ++ yp) (M ++ Pp) r0 r1 := by
         have L := L5.sm s6
         exact ⟨L.same, L.hcl, L.hsl, L.hce, eme2, pts_app L.pts (pts_same s6 hPp5), L.p0, L.p1, L.in0.app in0, L.in1.app in1, L.half, L.l0, L.l1, ⟨L.off.1, L.off.2.1, L.off.2.2.1, nme2⟩, L.nx, L.ns, L.new⟩
        have ly6 : (ys ++ yp).length <= 2 * (i + 1) := by rw [List.length_append]; omega
        clear L5 L3 L2 L1 hv alT epp5 hPp5 in0 in1
        refine ⟨_, rfl, _, rfl, ce, _, rfl, .inl (SqL.of L6.hce), _, _, rfl, rfl, ⟨by decide, by decide⟩, rfl, _, rfl, ?_⟩
        refine ite2 (fun h => ?_) (fun h => ?_)
        · obtain ⟨as0, bs0, PP⟩ := L6.p0
          obtain ⟨k0, k0', r0', m0, kv0, rv0, CC, _⟩ := PP.ex
          obtain ⟨dxc, stc, kvc, rvc, hxc, _⟩ := CC.obj
          refine ⟨_, rfl, cl, _, _, .ref x0, rfl, rfl, SqL.of L6.hcl, rfl, x0, dxc, _, rfl, hxc, noC off_shape _ _ _ _ _ _, x0, as0, n, out, q0, k0, r0, m0, rfl, CC, by omega, fun u H7 s7 N7 => ?_⟩
          have L7 := L6.sm s7
          refine ⟨_, rfl, cl, _, _, .ref x0, rfl, rfl, SqL.of L7.hcl, rfl, x0, dxc, _, rfl, (s7 _ _ hxc), noC off_shape _ _ _ _ _ _, x0, as0, n, out, q0, k0, r0, m0, rfl, (CC.same s7), by omega, fun wv H8 s8 N8 => ?_⟩
          have L8 := L7.sm s8
          have halfN : ∀ (w : V) (hw2 : Addr) (H9 : Hp) (us : List Addr), Same H8 H9 -> H9 hw2 = some (.lst [u, w]) -> H8 hw2 = none -> ShapeIn us H9 u (2 * n) r0 -> (∀ c, r0 = some c -> ShapeIn us H9 w (2 * n) (some c)) -> (∀ b ∈ us, ∃ xs, H9 b = some (.lst xs)) -> (∀ b ∈ us, H6 b = none) -> Lp Z_Climb H4 H9 cl sl ce me2 x0 x1 s0 s1 hw2 n out cs q0 q1 (ys ++ yp) (M ++ Pp) r0 r1 := by
           intro w hw2 H9 us s9 e9 nw h1 h2 h3 h4
           have L := L8.sm s9
           refine ⟨L.same, L.hcl, L.hsl, L.hce, L.hme, L.pts, L.p0, L.p1, L.in0, L.in1, ⟨r0, u, w, us, e9, h1, h2, h3, fun f hf z => ?_, ?_⟩, L.l0, L.l1, L.off, L.nx, L.ns, L.new⟩
           · have h := h4 f z
             rcases inF f hf with e | e
             · obtain ⟨xs, hh⟩ := L6.l0; rw [e, hh] at h; cases h
             · obtain ⟨xs, hh⟩ := L6.l1; rw [e, hh] at h; cases h
           · exact noF hw2 (fun e => by obtain ⟨xs, hh⟩ := L8.l0; rw [e, hh] at nw; cases nw) (fun e => by obtain ⟨xs, hh⟩ := L8.l1; rw [e, hh] at nw; cases nw)
          cases r0 with
          | none =>
           cases N7
           cases N8
           refine ⟨false, rfl, ?_⟩
           refine iteF ?_
           refine ⟨sz 0, fun l9 hl9 => ?_⟩
           have s9 := same_new hl9 (.lst [])
           have e9 : upd H8 l9 (.lst []) l9 = some (.lst []) := upd_same
           generalize upd H8 l9 (.lst []) = H9 at *
           refine ⟨l9, rfl, ⟨_, SqL.of e9⟩, fun pq hpq => comp_listN (K := K) (a := l9) (xs := []) (fun i ws H' => Same H9 H') (same_new hpq _) (fun i ws H' _ sm => SqL.of (sm _ _ e9)) (fun i x ws H' hx _ => by simp at hx) ?_⟩
           intro ws HA sA
           refine ⟨sz 2, fun hw2 hhw2 => ?_⟩
           have sB := same_new hhw2 (.lst [.non, .ref pq])
           have sAB := s9.trans (sA.trans sB)
           exact ⟨_, _, _, _, _, me2, hw2, _, _, none, r1, rfl, halfN (.ref pq) hw2 _ [] sAB upd_same ((s9.trans sA).free hhw2) rfl (fun c e => by cases e) (fun b hb => by cases hb) (fun b hb => by cases hb), ly6⟩
          | some sc =>
           obtain ⟨ua, ub, rfl, N7⟩ := N7
           obtain ⟨wa, wb, rfl, N8⟩ := N8
           refine ⟨true, tru_tab N8.tab n1, ?_⟩
           refine iteT ?_
           have hL : (wb.map V.ref).length = 2 * n := by rw [List.length_map, N8.tab.lenN]
           refine ⟨wa, rfl, ⟨_, SqL.of N8.tab.at_⟩, fun kp9 hkp9 => comp_listN (K := K) (a := wa) (xs := wb.map V.ref) (fun i zs H' => Grow H8 H' kp9 zs (Oct.rows i (2 * n) sc)) (Grow.start hkp9) (fun i ys H' _ G => G.same.seq (SqL.of N8.tab.at_)) ?_ ?_⟩
           · rintro i x zs H' hx G
             have T' := N8.tab.same G.same
             obtain ⟨hi, d0, rfl, ed, hd⟩ := T'.rowN hx
             simp only [tYes, ↓reduceIte]
             refine ⟨_, rfl, d0, _, rfl, .inl (SqL.of hd), fun l hl => ?_⟩
             have st := G.step hl (same_new hl (.lst ((Oct.ln (2 * n) (sc i)).map eV))) upd_same
             have hlt : i < (wb.map V.ref).length := (List.getElem?_eq_some_iff.mp hx).1
             refine ⟨st.1, by rw [G.len, Oct.rows_len]; exact small1000 (by omega), again hlt ?_⟩
             rw [Oct.rows_succ]
             exact st.2
           rintro zs H9 ⟨b9, rfl, N9, s9⟩
           rw [hL] at N9
           refine ⟨sz 2, fun hw2 hhw2 => ?_⟩
           have sB := same_new hhw2 (.lst [.ref ua, .ref kp9])
           have sAB := s9.trans sB
           have TU := (N7.tab.same s8).same sAB
           have TK := N9.tab.same sB
           have s68 := s7.trans s8
           exact ⟨_, _, _, _, _, me2, hw2, _, _, some sc, r1, rfl, halfN (.ref kp9) hw2 _ ((ua :: ub) ++ (kp9 :: b9)) sAB upd_same (s9.free hhw2) ⟨ua, ub, rfl, TU, by simp, fun b hb => by simp [hb]⟩ (fun c e => by cases e; exact ⟨kp9, b9, rfl, TK, by simp, fun b hb => by simp [hb]⟩) (fun b hb => (List.mem_append.mp hb).elim (tab_lists TU b) (tab_lists TK b)) (fun b hb => (List.mem_append.mp hb).elim (fun z => by
            rcases List.mem_cons.mp z with z | z
            · rw [z]; exact N7.newT
            · exact N7.newL b z) (fun z => by
            rcases List.mem_cons.mp z with z | z
            · rw [z]; exact s68.free N9.newT
            · exact s68.free (N9.newL b z))), ly6⟩
        · exact ⟨_, _, _, _, _, me2, hw, _, _, r0, r1, rfl, L6, ly6⟩
     refine ⟨_, rfl, pp, _, rfl, .inl (SqL.of epp), _, _, rfl, rfl, _, rfl, ?_⟩
     have lyp := paired_len hPp
     refine ite2 (fun h => ?_) (fun h => ?_)
     · have l0 : 0 < yp.length := by have := of_decide_eq_true h; omega
       have hne : Pp ≠ [] := fun e => by rw [e] at lyp; have l9 : yp.length = 0 := lyp; omega
       refine ⟨_, rfl, _, rfl, _, rfl, z, n, rfl, n1, by omega, fun up => ?_⟩
       refine ⟨_, rfl, pp, up, yp, Pp, n, rfl, SqL.of epp, hPp, hne, by omega, by omega, fun tb bs H3 s3 N3 => ?_⟩
       refine body (.ref tb) (some (entU Pp up)) (tb :: bs) H3 s3 ⟨tb, bs, rfl, N3.tab, by simp, fun b hb => by simp [hb]⟩ (fun b hb => ?_) (tab_lists N3.tab) (entU_shp hne) (fun p hp => ⟨_, rfl, entU_has hp⟩)
       rcases List.mem_cons.mp hb with z | z
       · rw [z]; exact N3.newT
       · exact N3.newL b z
     · have l0 : Pp = [] := by
        cases Pp with
        | nil => rfl
        | cons b r =>
         have l9 : yp.length = r.length + 1 := lyp
         exact absurd (decide_eq_true (show (0 : Int) < (yp.length : Int) by omega)) h
       exact body .non none [] H2 (Same.refl _) rfl (fun b hb => by cases hb) (fun b hb => by cases hb) trivial (fun p hp => by rw [l0] at hp; cases hp)
   · rintro σ H1 ⟨v1, v2, v3, v4, v5, me, hw, ys, M, r0, r1, rfl, L1, lys⟩
     show U _ _
     subst hU
     obtain ⟨ho, u, w, us, h1, h2, h3, h4, _, _⟩ := L1.half
     have sqh : SqL K H1 hw [u, w] := SqL.of h1
     refine seq_step fun U hU => ?_
     have rest : U [some (V.ref a), some (.int n), some (.ref dr), some (.ref st), some (.ref pa), some (.ref cl), some (.ref sl), some (.ref ce), some (.ref me), some (.ref hw), v1, v2, v3, v4, v5, none, none] H1 := by
      subst hU
      refine seq_step fun U hU => ?_
      refine ⟨_, rfl, me, rfl, ⟨_, SqL.of L1.hme⟩, for_list (K := K) (a := me) (xs := ys) (fun i σ H' => ∃ y z, σ = [some (V.ref a), some (.int n), some (.ref dr), some (.ref st), some (.ref pa), some (.ref cl), some (.ref sl), some (.ref ce), some (.ref me), some (.ref hw), v1, v2, v3, v4, v5, y, z] /\ Same H1 H') ⟨_, _, rfl, Same.refl _⟩ (fun i σ H' _ ⟨_, _, _, sm⟩ => SqL.of (sm _ _ L1.hme)) ?_ ?_⟩
      · rintro i vp σ H2 hv ⟨y, z, rfl, s2⟩
        obtain ⟨pt, ep, pp, rfl, hpp, lp⟩ := paired_get' L1.pts hv
        have mp : pt ∈ M := List.mem_of_getElem? ep
        refine ⟨_, rfl, cl, rfl, ⟨_, SqL.of (s2 _ _ L1.hcl)⟩, for_list (K := K) (a := cl) (xs := [.ref x0, .ref x1]) (fun j σ H' => ∃ z, σ = [some (V.ref a), some (.int n), some (.ref dr), some (.ref st), some (.ref pa), some (.ref cl), some (.ref sl), some (.ref ce), some (.ref me), some (.ref hw), v1, v2, v3, v4, v5, some (.ref pp), z] /\ Same H1 H') ⟨_, rfl, s2⟩ (fun j σ H' _ ⟨_, _, sm⟩ => SqL.of (sm _ _ L1.hcl)) ?_ ?_⟩
        · rintro j vx σ H3 hx ⟨z, rfl, s3⟩
          have hj : j < 2 := (List.getElem?_eq_some_iff.mp hx).1
          have L3 := L1.sm s3
          have both : ∃ x q r as k m dx st kv rv, vx = .ref x /\ ClimbAt Z_Climb as H3 x n out q k r m /\ H3 x = some (.ins Z_Climb dx (fC (.int n) (.ref st) (.int q) kv rv (.int m))) /\ InShp n M r := by
           have hj2 : j = 0 \/ j = 1 := by omega
           rcases hj2 with e | e <;> subst e
           · obtain ⟨as, bs, P⟩ := L3.p0
             obtain ⟨k, k', r', m, kv, rv, C, _⟩ := P.ex
             obtain ⟨dx, st, kv, rv, hx3, _⟩ := C.obj
             exact ⟨x0, q0, r0, as, k, m, dx, st, kv, rv, (Option.some.inj hx).symm, C, hx3, L3.in0⟩
           · obtain ⟨as, bs, P⟩ := L3.p1
             obtain ⟨k, k', r', m, kv, rv, C, _⟩ := P.ex
             obtain ⟨dx, st, kv, rv, hx3, _⟩ := C.obj
             exact ⟨x1, q1, r1, as, k, m, dx, st, kv, rv, (Option.some.inj hx).symm, C, hx3, L3.in1⟩
          obtain ⟨x, qq, rr, as, kk, mm, dx, stt, kv, rv, rfl, C, hx3, inM⟩ := both
          obtain ⟨s, es, ls⟩ := inM pt mp
          subst es
          refine ⟨_, rfl, x, dx, _, rfl, hx3, noC off_shape _ _ _ _ _ _, x, as, n, out, qq, kk, some s, mm, rfl, C, by omega, fun uu H4' s4' N4 => ?_⟩
          obtain ⟨ua, ub, rfl, N4⟩ := N4
          refine ⟨_, rfl, ua, pp, ub, 2 * n, s, pt, rfl, N4.tab, SqT.of ((s3.trans s4') _ _ hpp), by omega, by omega, _, rfl, ?_⟩
          rw [liesB_iff.mpr ls]
          refine iteF ?_
          exact ⟨_, rfl, s3.trans s4'⟩
        · rintro σ H3 ⟨z, rfl, s3⟩
          exact ⟨_, _, rfl, s3⟩
      · rintro σ H2 ⟨y, z, rfl, s2⟩
        show U _ _
        subst hU
        exact q _
     refine ⟨_, rfl, hw, _, _, u, rfl, rfl, sqh, rfl, rfl, _, rfl, ?_⟩
     cases ho with
     | none =>
      cases h2
      refine iteF ?_
      refine iteF ?_
      exact rest
     | some c =>
      obtain ⟨ua, ub, rfl, T1, _⟩ := h2
      obtain ⟨wa, wb, rfl, T2, _⟩ := h3 c rfl
      refine iteT ?_
      refine ⟨_, rfl, hw, _, _, .ref ua, rfl, rfl, sqh, rfl, _, rfl, hw, _, _, .ref wa, rfl, rfl, sqh, rfl, _, _, T1.dt, T2.dt, depth_tab _, _, rfl, ?_⟩
      rw [eqv_tabs]
      refine iteNS rfl ?_
      exact rest
  refine ⟨_, rfl, ce, _, rfl, .inl (SqL.of ece), rfl, _, rfl, ?_⟩
  refine ite2 (fun h => ?_) (fun h => ?_)
  · have m1 := Int.emod_nonneg (cellI ns 4) (b := 13) (by decide)
    have m2 := Int.emod_lt_of_pos (cellI ns 4) (b := 13) (by decide)
    have hSB := sB.seq hSA
    refine ⟨_, rfl, (4 : Int), rfl, by decide, hSB, _, _, rfl, rfl, (by show (0 : Int) < 13; decide), (cellI ns 4 % 13), rfl, by omega, by omega, fun p hp => comp_range1 (lo := 0) (n := (cellI ns 4 % 13).toNat) (fun i ys H' => ∃ zs : List Int, ys = zs.map V.int /\ zs.length = i /\ H' p = some (.lst ys) /\ Same KB H') ⟨[], rfl, rfl, upd_same, same_new hp _⟩ ?_ ?_⟩
    · rintro i ys H' hi ⟨zs, rfl, lz, hp', sm⟩
      rw [Int.zero_add]
      refine ⟨_, rfl, _, rfl, _, _, rfl, rfl, (23 + (i : Int)), rfl, by omega, sm.seq hSB, hp', by rw [List.length_map]; exact small1000 (by omega), again hi ⟨zs ++ [_], by rw [List.map_append]; rfl, by simp [lz], upd_same, same_over hp sm⟩⟩
    · rintro ys H' ⟨zs, rfl, lz, hp', sm⟩
      exact run p zs H' (sB.trans sm) hp' (by omega) (noF p (fun e => by rw [e, sB _ _ es0] at hp; cases hp) (fun e => by rw [e, sB _ _ es1] at hp; cases hp))
  · exact run ce cs KB sB ece (by omega) nce
 refine ⟨_, rfl, rfl, _, rfl, ?_⟩
 refine ite2 (fun h => ?_) (fun h => ?_)
 · refine ⟨_, rfl, pa, rfl, ⟨_, SqL.of epa⟩, fun p hp => comp_listN (K := K) (a := pa) (xs := [.int q0, .int q1]) (fun i ys H' => ∃ zs : List Int, ys = zs.map V.int /\ zs.length = i /\ (∀ z ∈ zs, 1 <= z) /\ H' p = some (.lst ys) /\ Same H3 H') ⟨[], rfl, rfl, by simp, upd_same, same_new hp _⟩ (fun i ys H' _ ⟨_, _, _, _, _, sm⟩ => SqL.of (sm _ _ epa)) ?_ ?_⟩
   · rintro i y ys H' hy ⟨zs, rfl, lz, hz, hp', sm⟩
     have hi : i < 2 := (List.getElem?_eq_some_iff.mp hy).1
     obtain ⟨z, ez, hz1⟩ : ∃ z, y = .int z /\ 1 <= z := by
      match i, hi, hy with
      | 0, _, hy => exact ⟨q0, (Option.some.inj hy).symm, hq0⟩
      | 1, _, hy => exact ⟨q1, (Option.some.inj hy).symm, hq1⟩
     subst ez
     simp only [tYes, ↓reduceIte]
     refine ⟨_, rfl, _, _, rfl, hp', by rw [List.length_map]; exact small1000 (by omega), again hi ⟨zs ++ [if z < 6 then z else 6], by rw [List.map_append]; rfl, by simp [lz], fun w hw => ?_, upd_same, same_over hp sm⟩⟩
     rcases List.mem_append.mp hw with e | e
     · exact hz w e
     · rw [List.mem_singleton.mp e]
       split <;> omega
   · rintro ys H' ⟨zs, rfl, lz, hz, hp', sm⟩
     have lz : zs.length = 2 := lz
     obtain ⟨z0, z1, rfl⟩ : ∃ z0 z1, zs = [z0, z1] := by
      match zs, lz with
      | [z0, z1], _ => exact ⟨z0, z1, rfl⟩
     exact go p z0 z1 H' (hz z0 (by simp)) (hz z1 (by simp)) (s3.trans sm) hp'
 · exact go pa q0 q1 H3 hq0 hq1 s3 epa
end
set_option autoImplicit true in
set_option relaxedAutoImplicit true in
theorem all_mk {l : PySem.W.OpenLaw} {w : World} {K : PySem.W.Frag} {h : Heap} {mg : Str -> Option Value} {fa : Addr} (X : K.In h) (G : h.Ns mainGlobals mg) (hfa : mg "law" = some (.ref fa))
  (a_Climb : Ha K "Climb" Z_Climb)
  (a0 : Ha K "below" f0) (l0 : Hl K f0 "below" "below" s_below oc0 od0 kV0 dc0 pm0 an0 cd0 ct0 sl0) (c0 : Hc K cd0 "below") (k0 : Hk K f0)
  (a1 : Ha K "above" f1) (l1 : Hl K f1 "above" "above" s_above oc1 od1 kV1 dc1 pm1 an1 cd1 ct1 sl1) (c1 : Hc K cd1 "above") (k1 : Hk K f1)
  (a2 : Ha K "lesser" f2) (l2 : Hl K f2 "lesser" "lesser" s_lesser oc2 od2 kV2 dc2 pm2 an2 cd2 ct2 sl2) (c2 : Hc K cd2 "lesser") (k2 : Hk K f2)
  (a3 : Ha K "least" f3) (l3 : Hl K f3 "least" "least" s_least oc3 od3 kV3 dc3 pm3 an3 cd3 ct3 sl3) (c3 : Hc K cd3 "least") (k3 : Hk K f3)
  (a4 : Ha K "summed" f4) (l4 : Hl K f4 "summed" "summed" s_summed oc4 od4 kV4 dc4 pm4 an4 cd4 ct4 sl4) (c4 : Hc K cd4 "summed") (k4 : Hk K f4)
  (a5 : Ha K "half" f5) (l5 : Hl K f5 "half" "half" s_half oc5 od5 kV5 dc5 pm5 an5 cd5 ct5 sl5) (c5 : Hc K cd5 "half") (k5 : Hk K f5)
  (a6 : Ha K "flipped" f6) (l6 : Hl K f6 "flipped" "flipped" s_flipped oc6 od6 kV6 dc6 pm6 an6 cd6 ct6 sl6) (c6 : Hc K cd6 "flipped") (k6 : Hk K f6)
  (a7 : Ha K "wide" f7) (l7 : Hl K f7 "wide" "wide" s_wide oc7 od7 kV7 dc7 pm7 an7 cd7 ct7 sl7) (c7 : Hc K cd7 "wide") (k7 : Hk K f7)
  (a8 : Ha K "wide_row" f8) (l8 : Hl K f8 "wide_row" "wide_row" s_wide_row oc8 od8 kV8 dc8 pm8 an8 cd8 ct8 sl8) (c8 : Hc K cd8 "wide_row") (k8 : Hk K f8)
  (a9 : Ha K "told_sides" f9) (l9 : Hl K f9 "told_sides" "told_sides" s_told_sides oc9 od9 kV9 dc9 pm9 an9 cd9 ct9 sl9) (c9 : Hc K cd9 "told_sides") (k9 : Hk K f9)
  (a10 : Ha K "closed" f10) (l10 : Hl K f10 "closed" "closed" s_closed oc10 od10 kV10 dc10 pm10 an10 cd10 ct10 sl10) (c10 : Hc K cd10 "closed") (k10 : Hk K f10)
  (a11 : Ha K "held" f11) (l11 : Hl K f11 "held" "held" s_held oc11 od11 kV11 dc11 pm11 an11 cd11 ct11 sl11) (c11 : Hc K cd11 "held") (k11 : Hk K f11)
  (a12 : Ha K "held_by_all" f12) (l12 : Hl K f12 "held_by_all" "held_by_all" s_held_by_all oc12 od12 kV12 dc12 pm12 an12 cd12 ct12 sl12) (c12 : Hc K cd12 "held_by_all") (k12 : Hk K f12)
  (a13 : Ha K "lowered" f13) (l13 : Hl K f13 "lowered" "lowered" s_lowered oc13 od13 kV13 dc13 pm13 an13 cd13 ct13 sl13) (c13 : Hc K cd13 "lowered") (k13 : Hk K f13)
  (a14 : Ha K "tightened" f14) (l14 : Hl K f14 "tightened" "tightened" s_tightened oc14 od14 kV14 dc14 pm14 an14 cd14 ct14 sl14) (c14 : Hc K cd14 "tightened") (k14 : Hk K f14)
  (a15 : Ha K "row_within_halves" f15) (l15 : Hl K f15 "row_within_halves" "row_within_halves" s_row_within_halves oc15 od15 kV15 dc15 pm15 an15 cd15 ct15 sl15) (c15 : Hc K cd15 "row_within_halves") (k15 : Hk K f15)
  (a16 : Ha K "linked_through_all" f16) (l16 : Hl K f16 "linked_through_all" "linked_through_all" s_linked_through_all oc16 od16 kV16 dc16 pm16 an16 cd16 ct16 sl16) (c16 : Hc K cd16 "linked_through_all") (k16 : Hk K f16)
  (a17 : Ha K "linked_through" f17) (l17 : Hl K f17 "linked_through" "linked_through" s_linked_through oc17 od17 kV17 dc17 pm17 an17 cd17 ct17 sl17) (c17 : Hc K cd17 "linked_through") (k17 : Hk K f17)
  (a18 : Ha K "linked_row" f18) (l18 : Hl K f18 "linked_row" "linked_row" s_linked_row oc18 od18 kV18 dc18 pm18 an18 cd18 ct18 sl18) (c18 : Hc K cd18 "linked_row") (k18 : Hk K f18)
  (a19 : Ha K "some_point" f19) (l19 : Hl K f19 "some_point" "some_point" s_some_point oc19 od19 kV19 dc19 pm19 an19 cd19 ct19 sl19) (c19 : Hc K cd19 "some_point") (k19 : Hk K f19)
  (a20 : Ha K "some_worth" f20) (l20 : Hl K f20 "some_worth" "some_worth" s_some_worth oc20 od20 kV20 dc20 pm20 an20 cd20 ct20 sl20) (c20 : Hc K cd20 "some_worth") (k20 : Hk K f20)
  (a21 : Ha K "fixed" f21) (l21 : Hl K f21 "fixed" "fixed" s_fixed oc21 od21 kV21 dc21 pm21 an21 cd21 ct21 sl21) (c21 : Hc K cd21 "fixed") (k21 : Hk K f21)
  (a22 : Ha K "greatest" f22) (l22 : Hl K f22 "greatest" "greatest" s_greatest oc22 od22 kV22 dc22 pm22 an22 cd22 ct22 sl22) (c22 : Hc K cd22 "greatest") (k22 : Hk K f22)
  (a23 : Ha K "reaching" f23) (l23 : Hl K f23 "reaching" "reaching" s_reaching oc23 od23 kV23 dc23 pm23 an23 cd23 ct23 sl23) (c23 : Hc K cd23 "reaching") (k23 : Hk K f23)
  (a24 : Ha K "without_flips" f24) (l24 : Hl K f24 "without_flips" "without_flips" s_without_flips oc24 od24 kV24 dc24 pm24 an24 cd24 ct24 sl24) (c24 : Hc K cd24 "without_flips") (k24 : Hk K f24)
  (a25 : Ha K "reaching_with_two" f25) (l25 : Hl K f25 "reaching_with_two" "reaching_with_two" s_reaching_with_two oc25 od25 kV25 dc25 pm25 an25 cd25 ct25 sl25) (c25 : Hc K cd25 "reaching_with_two") (k25 : Hk K f25)
  (a26 : Ha K "apart" f26) (l26 : Hl K f26 "apart" "apart" s_apart oc26 od26 kV26 dc26 pm26 an26 cd26 ct26 sl26) (c26 : Hc K cd26 "apart") (k26 : Hk K f26)
  (a27 : Ha K "within" f27) (l27 : Hl K f27 "within" "within" s_within oc27 od27 kV27 dc27 pm27 an27 cd27 ct27 sl27) (c27 : Hc K cd27 "within") (k27 : Hk K f27)
  (a28 : Ha K "copied" f28) (l28 : Hl K f28 "copied" "copied" s_copied oc28 od28 kV28 dc28 pm28 an28 cd28 ct28 sl28) (c28 : Hc K cd28 "copied") (k28 : Hk K f28)
  (a29 : Ha K "step_over" f29) (l29 : Hl K f29 "step_over" "step_over" s_step_over oc29 od29 kV29 dc29 pm29 an29 cd29 ct29 sl29) (c29 : Hc K cd29 "step_over") (k29 : Hk K f29)
  (a30 : Ha K "widened" f30) (l30 : Hl K f30 "widened" "widened" s_widened oc30 od30 kV30 dc30 pm30 an30 cd30 ct30 sl30) (c30 : Hc K cd30 "widened") (k30 : Hk K f30)
  (a31 : Ha K "widened_row" f31) (l31 : Hl K f31 "widened_row" "widened_row" s_widened_row oc31 od31 kV31 dc31 pm31 an31 cd31 ct31 sl31) (c31 : Hc K cd31 "widened_row") (k31 : Hk K f31)
  (a32 : Hm K Z_Climb "__init__" f32) (i32 : Hi K f32) (l32 : Hl K f32 "__init__" "Climb.__init__" s_Climb_init oc32 od32 kV32 dc32 pm32 an32 cd32 ct32 sl32) (c32 : Hc K cd32 "Climb.__init__") (k32 : Hk K f32)
  (a33 : Hm K Z_Climb "take" f33) (i33 : Hi K f33) (l33 : Hl K f33 "take" "Climb.take" s_Climb_take oc33 od33 kV33 dc33 pm33 an33 cd33 ct33 sl33) (c33 : Hc K cd33 "Climb.take") (k33 : Hk K f33)
  (a34 : Hm K Z_Climb "next_table" f34) (i34 : Hi K f34) (l34 : Hl K f34 "next_table" "Climb.next_table" s_Climb_next_table oc34 od34 kV34 dc34 pm34 an34 cd34 ct34 sl34) (c34 : Hc K cd34 "Climb.next_table") (k34 : Hk K f34)
  (a35 : Hm K Z_Climb "shape" f35) (i35 : Hi K f35) (l35 : Hl K f35 "shape" "Climb.shape" s_Climb_shape oc35 od35 kV35 dc35 pm35 an35 cd35 ct35 sl35) (c35 : Hc K cd35 "Climb.shape") (k35 : Hk K f35)
  (a36 : Hm K Z_Climb "rises" f36) (i36 : Hi K f36) (l36 : Hl K f36 "rises" "Climb.rises" s_Climb_rises oc36 od36 kV36 dc36 pm36 an36 cd36 ct36 sl36) (c36 : Hc K cd36 "Climb.rises") (k36 : Hk K f36)
  (a37 : Ha K "_law_cell" f37) (l37 : Hl K f37 "_law_cell" "_law_cell" s__law_cell oc37 od37 kV37 dc37 pm37 an37 cd37 ct37 sl37) (c37 : Hc K cd37 "_law_cell") (k37 : Hk K f37)
  (a38 : Ha K "_law_whole" f38) (l38 : Hl K f38 "_law_whole" "_law_whole" s__law_whole oc38 od38 kV38 dc38 pm38 an38 cd38 ct38 sl38) (c38 : Hc K cd38 "_law_whole") (k38 : Hk K f38)
  (a39 : Ha K "_law_worth" f39) (l39 : Hl K f39 "_law_worth" "_law_worth" s__law_worth oc39 od39 kV39 dc39 pm39 an39 cd39 ct39 sl39) (c39 : Hc K cd39 "_law_worth") (k39 : Hk K f39)
  (a40 : Ha K "_law_flip" f40) (l40 : Hl K f40 "_law_flip" "_law_flip" s__law_flip oc40 od40 kV40 dc40 pm40 an40 cd40 ct40 sl40) (c40 : Hc K cd40 "_law_flip") (k40 : Hk K f40)
  (a41 : Ha K "_law_wide" f41) (l41 : Hl K f41 "_law_wide" "_law_wide" s__law_wide oc41 od41 kV41 dc41 pm41 an41 cd41 ct41 sl41) (c41 : Hc K cd41 "_law_wide") (k41 : Hk K f41)
  (a42 : Ha K "_law_entry" f42) (l42 : Hl K f42 "_law_entry" "_law_entry" s__law_entry oc42 od42 kV42 dc42 pm42 an42 cd42 ct42 sl42) (c42 : Hc K cd42 "_law_entry") (k42 : Hk K f42)
  (a43 : Ha K "_law_table" f43) (l43 : Hl K f43 "_law_table" "_law_table" s__law_table oc43 od43 kV43 dc43 pm43 an43 cd43 ct43 sl43) (c43 : Hc K cd43 "_law_table") (k43 : Hk K f43)
  (a44 : Ha K "_law_points" f44) (l44 : Hl K f44 "_law_points" "_law_points" s__law_points oc44 od44 kV44 dc44 pm44 an44 cd44 ct44 sl44) (c44 : Hc K cd44 "_law_points") (k44 : Hk K f44)
  (a45 : Ha K "_law_up" f45) (l45 : Hl K f45 "_law_up" "_law_up" s__law_up oc45 od45 kV45 dc45 pm45 an45 cd45 ct45 sl45) (c45 : Hc K cd45 "_law_up") (k45 : Hk K f45)
  (a46 : Ha K "_law_no_more" f46) (l46 : Hl K f46 "_law_no_more" "_law_no_more" s__law_no_more oc46 od46 kV46 dc46 pm46 an46 cd46 ct46 sl46) (c46 : Hc K cd46 "_law_no_more") (k46 : Hk K f46)
  (a47 : Ha K "_law_widened" f47) (l47 : Hl K f47 "_law_widened" "_law_widened" s__law_widened oc47 od47 kV47 dc47 pm47 an47 cd47 ct47 sl47) (c47 : Hc K cd47 "_law_widened") (k47 : Hk K f47)
  (a48 : Ha K "_law_sides" f48) (l48 : Hl K f48 "_law_sides" "_law_sides" s__law_sides oc48 od48 kV48 dc48 pm48 an48 cd48 ct48 sl48) (c48 : Hc K cd48 "_law_sides") (k48 : Hk K f48)
  (a49 : Ha K "_law_alike" f49) (l49 : Hl K f49 "_law_alike" "_law_alike" s__law_alike oc49 od49 kV49 dc49 pm49 an49 cd49 ct49 sl49) (c49 : Hc K cd49 "_law_alike") (k49 : Hk K f49)
  (a50 : Ha K "_law_lies" f50) (l50 : Hl K f50 "_law_lies" "_law_lies" s__law_lies oc50 od50 kV50 dc50 pm50 an50 cd50 ct50 sl50) (c50 : Hc K cd50 "_law_lies") (k50 : Hk K f50)
  (a51 : Ha K "_law_rise" f51) (l51 : Hl K f51 "_law_rise" "_law_rise" s__law_rise oc51 od51 kV51 dc51 pm51 an51 cd51 ct51 sl51) (c51 : Hc K cd51 "_law_rise") (k51 : Hk K f51)
  (a52 : Ha K "_law_take" f52) (l52 : Hl K f52 "_law_take" "_law_take" s__law_take oc52 od52 kV52 dc52 pm52 an52 cd52 ct52 sl52) (c52 : Hc K cd52 "_law_take") (k52 : Hk K f52)
  (a53 : Ha K "_law_steps" f53) (l53 : Hl K f53 "_law_steps" "_law_steps" s__law_steps oc53 od53 kV53 dc53 pm53 an53 cd53 ct53 sl53) (c53 : Hc K cd53 "_law_steps") (k53 : Hk K f53)
  (a54 : Ha K "_law_patience" f54) (l54 : Hl K f54 "_law_patience" "_law_patience" s__law_patience oc54 od54 kV54 dc54 pm54 an54 cd54 ct54 sl54) (c54 : Hc K cd54 "_law_patience") (k54 : Hk K f54)
  (a55 : Ha K "law" f55) (l55 : Hl K f55 "law" "law" s_law oc55 od55 kV55 dc55 pm55 an55 cd55 ct55 sl55) (c55 : Hc K cd55 "law") (k55 : Hk K f55)
  (pg_Climb : PySem.W.plainGet K Z_Climb Str.empty = true)
  (hd_Climb : PySem.W.hasDictIn K Z_Climb = true)
  (po_Climb : PySem.W.plainOver K Z_Climb = true)
  (sa_Climb : PySem.W.findIn K (.ref Z_Climb) "__setattr__" = some (some (.builtin "object.__setattr__")))
  (mk_Climb : PySem.W.makesIn K Z_Climb = true)
  (kc_Climb : PySem.W.keepIn K (.ref Z_Climb) = true)
  (nf_Climb_count : PySem.W.findIn K (.ref Z_Climb) "count" = some none)
  (nf_Climb_steps : PySem.W.findIn K (.ref Z_Climb) "steps" = some none)
  (nf_Climb_patience : PySem.W.findIn K (.ref Z_Climb) "patience" = some none)
  (nf_Climb_kept : PySem.W.findIn K (.ref Z_Climb) "kept" = some none)
  (nf_Climb_reached : PySem.W.findIn K (.ref Z_Climb) "reached" = some none)
  (nf_Climb_risen : PySem.W.findIn K (.ref Z_Climb) "risen" = some none)
  (z_len : Hz K "len")
  (z_isinstance : Hz K "isinstance")
  (z_int : Hz K "int")
  (z_bool : Hz K "bool")
  (z_tuple : Hz K "tuple")
  (z_range : Hz K "range")
  (z_list : Hz K "list")
  (z_sum : Hz K "sum")
  (z_str : Hz K "str")
  (z_enumerate : Hz K "enumerate")
  (z_zip : Hz K "zip")
  (z_min : Hz K "min")
  (z_max : Hz K "max")
  (z_sorted : Hz K "sorted")
  (z_set : Hz K "set")
  (z_reversed : Hz K "reversed")
  (z_abs : Hz K "abs")
  : ∃ fd : FuncData, (∀ (s : Shared) (v : Value), BindsTo s fd ⟨[v], []⟩ [("_law_script", v)]) /\ ∀ base : Heap, K.In base -> base.Ns mainGlobals mg -> FnOk l.prog w K mg base CX0 15 fa fd ["_law_script"] (sp_law K) := by
 have e := hfa.symm.trans (PySem.W.mg_of X G a55)
 cases e
 have B : Bl mg := ⟨PySem.W.mg_none_of X G z_len, PySem.W.mg_none_of X G z_isinstance, PySem.W.mg_none_of X G z_int, PySem.W.mg_none_of X G z_bool, PySem.W.mg_none_of X G z_tuple, PySem.W.mg_none_of X G z_range, PySem.W.mg_none_of X G z_list, PySem.W.mg_none_of X G z_sum, PySem.W.mg_none_of X G z_str, PySem.W.mg_none_of X G z_enumerate, PySem.W.mg_none_of X G z_zip, PySem.W.mg_none_of X G z_min, PySem.W.mg_none_of X G z_max⟩
 have B : Bl3 mg := ⟨B, PySem.W.mg_none_of X G z_sorted, PySem.W.mg_none_of X G z_set, PySem.W.mg_none_of X G z_reversed⟩
 have B : Bl4 mg := ⟨B, PySem.W.mg_none_of X G z_abs⟩
 have T := (⟨⟨pg_Climb, hd_Climb, po_Climb, sa_Climb⟩, ⟨a33, i33, k33⟩, ⟨a34, i34, k34⟩, ⟨a35, i35, k35⟩, ⟨a36, i36, k36⟩, ⟨mk_Climb, a32, i32, kc_Climb⟩, PySem.W.mg_of X G a_Climb, nf_Climb_count, nf_Climb_steps, nf_Climb_patience, nf_Climb_kept, nf_Climb_reached, nf_Climb_risen⟩ : Kl K mg Z_Climb f32 f33 f34 f35 f36)
 refine ⟨PySem.W.fnOf "law" "law" (defArgs s_law) (defBody s_law) (defScope s_law) .none kV55 dc55 pm55 an55 cd55 ct55, fun s v => .of_eq rfl, fun base _ _ => ?_⟩
 have E_below := ok_below (P := l.prog) (w := w) (base := base) T (fun_mk (st := s_below) l0 c0 k0) (PySem.W.mg_of X G a0) B
 have E_lesser := ok_lesser (P := l.prog) (w := w) (base := base) T (fun_mk (st := s_lesser) l2 c2 k2) (PySem.W.mg_of X G a2) B
 have E_least := ok_least (P := l.prog) (w := w) (base := base) T (fun_mk (st := s_least) l3 c3 k3) (PySem.W.mg_of X G a3) B
 have E_summed := ok_summed (P := l.prog) (w := w) (base := base) T (fun_mk (st := s_summed) l4 c4 k4) (PySem.W.mg_of X G a4) B
 have E_half := ok_half (P := l.prog) (w := w) (base := base) T (fun_mk (st := s_half) l5 c5 k5) (PySem.W.mg_of X G a5) B
 have E_flipped := ok_flipped (P := l.prog) (w := w) (base := base) T (fun_mk (st := s_flipped) l6 c6 k6) (PySem.W.mg_of X G a6) B
 have E_copied := ok_copied (P := l.prog) (w := w) (base := base) T (fun_mk (st := s_copied) l28 c28 k28) (PySem.W.mg_of X G a28) B
 have E_Climb_init := ok_Climb_init (P := l.prog) (w := w) (base := base) T (fun_mk (st := s_Climb_init) l32 c32 k32) B
 have E_Climb_rises := ok_Climb_rises (P := l.prog) (w := w) (base := base) T (fun_mk (st := s_Climb_rises) l36 c36 k36) B
 have E__law_cell := ok__law_cell (P := l.prog) (w := w) (base := base) T (fun_mk (st := s__law_cell) l37 c37 k37) (PySem.W.mg_of X G a37) B
 have E__law_whole := ok__law_whole (P := l.prog) (w := w) (base := base) T (fun_mk (st := s__law_whole) l38 c38 k38) (PySem.W.mg_of X G a38) B
 have E__law_worth := ok__law_worth (P := l.prog) (w := w) (base := base) T (fun_mk (st := s__law_worth) l39 c39 k39) (PySem.W.mg_of X G a39) B
 have E__law_flip := ok__law_flip (P := l.prog) (w := w) (base := base) T (fun_mk (st := s__law_flip) l40 c40 k40) (PySem.W.mg_of X G a40) B
 have E__law_points := ok__law_points (P := l.prog) (w := w) (base := base) T (fun_mk (st := s__law_points) l44 c44 k44) (PySem.W.mg_of X G a44) B
 have E__law_up := ok__law_up (P := l.prog) (w := w) (base := base) T (fun_mk (st := s__law_up) l45 c45 k45) (PySem.W.mg_of X G a45) B
 have E__law_no_more := ok__law_no_more (P := l.prog) (w := w) (base := base) T (fun_mk (st := s__law_no_more) l46 c46 k46) (PySem.W.mg_of X G a46) B
 have E__law_widened := ok__law_widened (P := l.prog) (w := w) (base := base) T (fun_mk (st := s__law_widened) l47 c47 k47) (PySem.W.mg_of X G a47) B
 have E__law_patience := ok__law_patience (P := l.prog) (w := w) (base := base) T (fun_mk (st := s__law_patience) l54 c54 k54) (PySem.W.mg_of X G a54) B
 have E_above := ok_above (P := l.prog) (w := w) (base := base) T (fun_mk (st := s_above) l1 c1 k1) (PySem.W.mg_of X G a1) B E_below
 have E_wide_row := ok_wide_row (P := l.prog) (w := w) (base := base) T (fun_mk (st := s_wide_row) l8 c8 k8) (PySem.W.mg_of X G a8) B E_flipped
 have E_told_sides := ok_told_sides (P := l.prog) (w := w) (base := base) T (fun_mk (st := s_told_sides) l9 c9 k9) (PySem.W.mg_of X G a9) B E_flipped
 have E_lowered := ok_lowered (P := l.prog) (w := w) (base := base) T (fun_mk (st := s_lowered) l13 c13 k13) (PySem.W.mg_of X G a13) B E_lesser
 have E_row_within_halves := ok_row_within_halves (P := l.prog) (w := w) (base := base) T (fun_mk (st := s_row_within_halves) l15 c15 k15) (PySem.W.mg_of X G a15) B E_lesser E_summed
 have E_linked_row := ok_linked_row (P := l.prog) (w := w) (base := base) T (fun_mk (st := s_linked_row) l18 c18 k18) (PySem.W.mg_of X G a18) B E_lesser E_summed
 have E_some_worth := ok_some_worth (P := l.prog) (w := w) (base := base) T (fun_mk (st := s_some_worth) l20 c20 k20) (PySem.W.mg_of X G a20) B E_half E_flipped
 have E_greatest := ok_greatest (P := l.prog) (w := w) (base := base) T (fun_mk (st := s_greatest) l22 c22 k22) (PySem.W.mg_of X G a22) B E_half
 have E_without_flips := ok_without_flips (P := l.prog) (w := w) (base := base) T (fun_mk (st := s_without_flips) l24 c24 k24) (PySem.W.mg_of X G a24) B E_flipped
 have E_Climb_shape := ok_Climb_shape (P := l.prog) (w := w) (base := base) T (fun_mk (st := s_Climb_shape) l35 c35 k35) B E_copied
 have E__law_wide := ok__law_wide (P := l.prog) (w := w) (base := base) T (fun_mk (st := s__law_wide) l41 c41 k41) (PySem.W.mg_of X G a41) B E__law_flip
 have E__law_entry := ok__law_entry (P := l.prog) (w := w) (base := base) T (fun_mk (st := s__law_entry) l42 c42 k42) (PySem.W.mg_of X G a42) B E__law_flip E__law_worth
 have E__law_sides := ok__law_sides (P := l.prog) (w := w) (base := base) T (fun_mk (st := s__law_sides) l48 c48 k48) (PySem.W.mg_of X G a48) B E__law_flip
 have E__law_alike := ok__law_alike (P := l.prog) (w := w) (base := base) T (fun_mk (st := s__law_alike) l49 c49 k49) (PySem.W.mg_of X G a49) B E__law_whole
 have E__law_lies := ok__law_lies (P := l.prog) (w := w) (base := base) T (fun_mk (st := s__law_lies) l50 c50 k50) (PySem.W.mg_of X G a50) B E__law_worth
 have E__law_steps := ok__law_steps (P := l.prog) (w := w) (base := base) T (fun_mk (st := s__law_steps) l53 c53 k53) (PySem.W.mg_of X G a53) B E__law_cell
 have E_wide := ok_wide (P := l.prog) (w := w) (base := base) T (fun_mk (st := s_wide) l7 c7 k7) (PySem.W.mg_of X G a7) B E_wide_row
 have E_linked_through := ok_linked_through (P := l.prog) (w := w) (base := base) T (fun_mk (st := s_linked_through) l17 c17 k17) (PySem.W.mg_of X G a17) B E_linked_row E_flipped
 have E_step_over := ok_step_over (P := l.prog) (w := w) (base := base) T (fun_mk (st := s_step_over) l29 c29 k29) (PySem.W.mg_of X G a29) B E_least E_above
 have E__law_table := ok__law_table (P := l.prog) (w := w) (base := base) T (fun_mk (st := s__law_table) l43 c43 k43) (PySem.W.mg_of X G a43) B E__law_entry
 have E_linked_through_all := ok_linked_through_all (P := l.prog) (w := w) (base := base) T (fun_mk (st := s_linked_through_all) l16 c16 k16) (PySem.W.mg_of X G a16) B E_linked_through
 have E_widened_row := ok_widened_row (P := l.prog) (w := w) (base := base) T (fun_mk (st := s_widened_row) l31 c31 k31) (PySem.W.mg_of X G a31) B E_above E_step_over
 have E_tightened := ok_tightened (P := l.prog) (w := w) (base := base) T (fun_mk (st := s_tightened) l14 c14 k14) (PySem.W.mg_of X G a14) B E_linked_through_all E_half E_row_within_halves E_below E_summed E_flipped
 have E_widened := ok_widened (P := l.prog) (w := w) (base := base) T (fun_mk (st := s_widened) l30 c30 k30) (PySem.W.mg_of X G a30) B E_widened_row
 have E_held_by_all := ok_held_by_all (P := l.prog) (w := w) (base := base) T (fun_mk (st := s_held_by_all) l12 c12 k12) (PySem.W.mg_of X G a12) B E_tightened E_lowered
 have E_Climb_next_table := ok_Climb_next_table (P := l.prog) (w := w) (base := base) T (fun_mk (st := s_Climb_next_table) l34 c34 k34) B E_widened E_wide E_copied
 have E_closed := ok_closed (P := l.prog) (w := w) (base := base) T (fun_mk (st := s_closed) l10 c10 k10) (PySem.W.mg_of X G a10) B E_held_by_all E_wide
 have E_held := ok_held (P := l.prog) (w := w) (base := base) T (fun_mk (st := s_held) l11 c11 k11) (PySem.W.mg_of X G a11) B E_held_by_all
 have E_fixed := ok_fixed (P := l.prog) (w := w) (base := base) T (fun_mk (st := s_fixed) l21 c21 k21) (PySem.W.mg_of X G a21) B E_held_by_all E_flipped
 have E_some_point := ok_some_point (P := l.prog) (w := w) (base := base) T (fun_mk (st := s_some_point) l19 c19 k19) (PySem.W.mg_of X G a19) B E_some_worth E_fixed
 have E__law_rise := ok__law_rise (P := l.prog) (w := w) (base := base) T (fun_mk (st := s__law_rise) l51 c51 k51) (PySem.W.mg_of X G a51) B E__law_widened E__law_wide E_closed E__law_no_more E__law_sides
 have E_reaching_with_two := ok_reaching_with_two (P := l.prog) (w := w) (base := base) T (fun_mk (st := s_reaching_with_two) l25 c25 k25) (PySem.W.mg_of X G a25) B E_some_point E_held E_flipped
 have E_reaching := ok_reaching (P := l.prog) (w := w) (base := base) T (fun_mk (st := s_reaching) l23 c23 k23) (PySem.W.mg_of X G a23) B E_without_flips E_below E_some_point E_reaching_with_two E_greatest
 have E_apart := ok_apart (P := l.prog) (w := w) (base := base) T (fun_mk (st := s_apart) l26 c26 k26) (PySem.W.mg_of X G a26) B E_told_sides E_some_point E_reaching
 have E_within := ok_within (P := l.prog) (w := w) (base := base) T (fun_mk (st := s_within) l27 c27 k27) (PySem.W.mg_of X G a27) B E_apart
 have E_Climb_take := ok_Climb_take (P := l.prog) (w := w) (base := base) T (fun_mk (st := s_Climb_take) l33 c33 k33) B E_within E_Climb_next_table E_tightened
 have E__law_take := ok__law_take (P := l.prog) (w := w) (base := base) T (fun_mk (st := s__law_take) l52 c52 k52) (PySem.W.mg_of X G a52) B E__law_rise E_Climb_take E_Climb_rises E__law_alike E_Climb_shape E__law_whole
 exact ok_law_fn (P := l.prog) (w := w) (base := base) T (fun_mk (st := s_law) l55 c55 k55) (PySem.W.mg_of X G a55) B E__law_steps E__law_patience E_Climb_init E__law_points E__law_cell E__law_table E__law_up E__law_take E_Climb_shape E__law_lies
theorem walk {l : PySem.W.OpenLaw} {q : Program} {loose : List Str} {XP : (Str -> Option Value) -> Heap -> Prop} {YP : World -> Heap -> Prop} {d : DefRec} {K : Params -> PySem.W.Frag} (hn : l.most = some 63) (hdf : d.params.defaults = [])
  (hY : ∀ (w : World) (h : Heap), YP w h -> (K w.params).In h)
  (F : ∀ (w : World) (mg : Str -> Option Value) (fa : Addr) (h : Heap), (K w.params).In h -> h.Ns mainGlobals mg -> mg d.name = some (.ref fa) ->
   ∃ fd : FuncData, (∀ (s : Shared) (u : Value), BindsTo s fd ⟨[u], []⟩ [("_law_script", u)]) /\ ∀ base : Heap, (K w.params).In base -> base.Ns mainGlobals mg -> FnOk l.prog w (K w.params) mg base CX0 15 fa fd ["_law_script"] (sp_law (K w.params))) :
  PySem.W.WalkO q loose XP YP l.row.toRowW d [] (fun f vs => PySem.call f vs) :=
 L2.walk_of (n := 63) (k := 15) (x := "_law_script") (CX := fun _ => CX0) (sp := fun w => sp_law (K w.params)) hn (by decide) hdf ⟨rfl, by decide, by decide⟩ hY F (fun _ _ a ns hl _ hS => ⟨a, ns, rfl, hS, hl, fun _ => rfl⟩) fun _ _ _ _ _ z => z
end T
/- the names below stand so that the twins of these terms are not made: they are not needed, and they are big -/
def PySem.W.Fast.tw13075077664207731452 : Unit := ()
def PySem.W.Fast.tw11681676698230074243 : Unit := ()
def PySem.W.Fast.tw16916334258285910589 : Unit := ()
def PySem.W.Fast.tw6218288580632122622 : Unit := ()
def PySem.W.Fast.tw13760585054347098237 : PySem.Program := PySem.Challenge.pw_eightsides_k33_climbs_end
theorem PySem.W.Fast.te13760585054347098237 : PySem.Challenge.pw_eightsides_k33_climbs_end = PySem.W.Fast.tw13760585054347098237 := rfl
def PySem.W.Fast.tw5132065947330772135 : Unit := ()
def PySem.W.Fast.tw7521088845712464994 : Unit := ()
def PySem.W.Fast.tw10486731090999424928 : Unit := ()
def PySem.W.Fast.tw1039753755494911772 : Unit := ()
def PySem.W.Fast.tw5615808682914924168 : Unit := ()
def PySem.W.Fast.tw13590642254805525973 : Unit := ()
def PySem.W.Fast.tw8018241076632888109 : Unit := ()
def PySem.W.Fast.tw13658903940287053243 : Unit := ()
def PySem.W.Fast.tw2597938514549557086 : Unit := ()
def PySem.W.Fast.tw14171446510638143445 : Unit := ()
def PySem.W.Fast.tw11681859854604701278 : Unit := ()
def PySem.W.Fast.tw182615100535796995 : Unit := ()
def PySem.W.Fast.tw8417938947583286426 : Unit := ()
def PySem.W.Fast.tw14077951058479610803 : Unit := ()
def PySem.W.Fast.tw6750909397250912370 : Unit := ()
def PySem.W.Fast.tw14483298900579191785 : Unit := ()
def PySem.W.Fast.tw10419034293228640504 : Unit := ()
def PySem.W.Fast.tw7953330310153198666 : Unit := ()
def PySem.W.Fast.tw2137320355951724692 : Unit := ()
def PySem.W.Fast.tw10008385457327158469 : Unit := ()
def PySem.W.Fast.tw17781396161588126496 : Unit := ()
def PySem.W.Fast.tw5202818858549985284 : Unit := ()
def PySem.W.Fast.tw10156081946638025537 : Unit := ()
def PySem.W.Fast.tw14735872221836105735 : Unit := ()
def PySem.W.Fast.tw67044728355324385 : Unit := ()
def PySem.W.Fast.tw5967557664446202975 : Unit := ()
def PySem.W.Fast.tw16834311895601198787 : Unit := ()
def PySem.W.Fast.tw6040437955043141563 : Unit := ()
def PySem.W.Fast.tw8548642085880356115 : Unit := ()
def PySem.W.Fast.tw5633947012122278915 : Unit := ()
def PySem.W.Fast.tw7347655666856024339 : Unit := ()
def PySem.W.Fast.tw4239227259174728203 : Unit := ()
def PySem.W.Fast.tw5501325341331709155 : Unit := ()
def PySem.W.Fast.tw17351469049461229407 : Unit := ()
def PySem.W.Fast.tw4748985987316745068 : Unit := ()
def PySem.W.Fast.tw12207325273199006631 : Unit := ()
def PySem.W.Fast.tw5676772347760183778 : Unit := ()
def PySem.W.Fast.tw1385989777130953311 : Unit := ()
def PySem.W.Fast.tw17734933376089711403 : Unit := ()
def PySem.W.Fast.tw1033463814765072378 : Unit := ()
def PySem.W.Fast.tw12773016983587577274 : Unit := ()
def PySem.W.Fast.tw8566896826855605847 : Unit := ()
def PySem.W.Fast.tw13868688423744160870 : Unit := ()
def PySem.W.Fast.tw16423081904389699714 : Unit := ()
def PySem.W.Fast.tw5075962926143752842 : Unit := ()
def PySem.W.Fast.tw16484191861701026998 : Unit := ()
def PySem.W.Fast.tw3698383645435218569 : Unit := ()
def PySem.W.Fast.tw13812565246558043823 : Unit := ()
def PySem.W.Fast.tw17032451709844210094 : Unit := ()
def PySem.W.Fast.tw2391424645846611374 : Unit := ()
def PySem.W.Fast.tw13585522651671517174 : Unit := ()
def PySem.W.Fast.tw15093660267877668452 : Unit := ()
def PySem.W.Fast.tw4642527267230018672 : Unit := ()
def PySem.W.Fast.tw690585498880913716 : Unit := ()
def PySem.W.Fast.tw9370114788863920959 : Unit := ()
def PySem.W.Fast.tw1465957975258943725 : Unit := ()
def PySem.W.Fast.tw6317727066872800326 : Unit := ()
def PySem.W.Fast.tw853573159829422627 : Unit := ()
def PySem.W.Fast.tw9581497014980573339 : Unit := ()
def PySem.W.Fast.tw953127038028095900 : Unit := ()
def PySem.W.Fast.tw7135003384598492526 : Unit := ()
def PySem.W.Fast.tw14807803593497338202 : Unit := ()
def PySem.W.Fast.tw6981961210160161774 : Unit := ()
def PySem.W.Fast.tw821895349637418315 : Unit := ()
def PySem.W.Fast.tw12423660161185567448 : Unit := ()
def PySem.W.Fast.tw16616607991486944195 : Unit := ()
def PySem.W.Fast.tw16041350147831060983 : Unit := ()
def PySem.W.Fast.tw9766957365733576334 : Unit := ()
def PySem.W.Fast.tw13632469087554643288 : Unit := ()
def PySem.W.Fast.tw9102067304407574230 : Unit := ()
def PySem.W.Fast.tw9934922885496070362 : Unit := ()
def PySem.W.Fast.tw15583053045420022107 : Unit := ()
def PySem.W.Fast.tw16223432313433405287 : Unit := ()
def PySem.W.Fast.tw9388349380716557224 : Unit := ()
def PySem.W.Fast.tw17112114863272814179 : Unit := ()
def PySem.W.Fast.tw8130588657932144425 : Unit := ()
def PySem.W.Fast.tw696922339187786124 : Unit := ()
def PySem.W.Fast.tw15058779571056636330 : Unit := ()
def PySem.W.Fast.tw16344541893360493364 : Unit := ()
def PySem.W.Fast.tw1378231154635035668 : Unit := ()
def PySem.W.Fast.tw1883896965366467924 : Unit := ()
def PySem.W.Fast.tw16765485464640304937 : Unit := ()
def PySem.W.Fast.tw5859878101290214658 : Unit := ()
def PySem.W.Fast.tw14371238488453396110 : Unit := ()
def PySem.W.Fast.tw17245580591076122983 : Unit := ()
def PySem.W.Fast.tw13156816963781324892 : Unit := ()
def PySem.W.Fast.tw2481070743198955204 : Unit := ()
def PySem.W.Fast.tw17690641149746684141 : Unit := ()
def PySem.W.Fast.tw16655440355713952976 : Unit := ()
def PySem.W.Fast.tw2933392517881661241 : Unit := ()
def PySem.W.Fast.tw228005388112858726 : Unit := ()
def PySem.W.Fast.tw774841587124341664 : Unit := ()
def PySem.W.Fast.tw6040414817231672503 : Unit := ()
def PySem.W.Fast.tw14672883101877928382 : Unit := ()
def PySem.W.Fast.tw16587263532266210687 : Unit := ()
def PySem.W.Fast.tw12212658132987330871 : Unit := ()
def PySem.W.Fast.tw14850755886881435978 : Unit := ()
def PySem.W.Fast.tw1362416036595197250 : Unit := ()
def PySem.W.Fast.tw646678029024088762 : Unit := ()
def PySem.W.Fast.tw9756746889562572857 : Unit := ()
def PySem.W.Fast.tw13889679286193620928 : Unit := ()
def PySem.W.Fast.tw2076556440175424325 : Unit := ()
def PySem.W.Fast.tw14368723744963432794 : Unit := ()
def PySem.W.Fast.tw10269009744804443366 : Unit := ()
def PySem.W.Fast.tw8832135527529700162 : Unit := ()
def PySem.W.Fast.tw14012075459724263439 : Unit := ()
def PySem.W.Fast.tw2627005403805465806 : Unit := ()
def PySem.W.Fast.tw12009757394283668814 : Unit := ()
open PySem PySem.W PyProof.Rows
set_option maxRecDepth 100000 in
set_option maxHeartbeats 0 in
theorem PySem.Challenge.cw_eightsides_k33_climbs_end_holds : PySem.Challenge.rw_eightsides_k33_climbs_end.Holds := by
 w_on; o_law; k_head; (case hw => w_witness2)
 k_fill
 refine T.walk (l := PySem.Challenge.rw_eightsides_k33_climbs_end) rfl rfl (fun w h Y => PySem.W.kIn_of Y) ?F
 case F =>
  intro w mg fa h KX G hmg
  refine' T.all_mk KX G hmg ?a_Climb ?a0 ?l0 ?c0 ?k0 ?a1 ?l1 ?c1 ?k1 ?a2 ?l2 ?c2 ?k2 ?a3 ?l3 ?c3 ?k3 ?a4 ?l4 ?c4 ?k4 ?a5 ?l5 ?c5 ?k5 ?a6 ?l6 ?c6 ?k6 ?a7 ?l7 ?c7 ?k7 ?a8 ?l8 ?c8 ?k8 ?a9 ?l9 ?c9 ?k9 ?a10 ?l10 ?c10 ?k10 ?a11 ?l11 ?c11 ?k11 ?a12 ?l12 ?c12 ?k12 ?a13 ?l13 ?c13 ?k13 ?a14 ?l14 ?c14 ?k14 ?a15 ?l15 ?c15 ?k15 ?a16 ?l16 ?c16 ?k16 ?a17 ?l17 ?c17 ?k17 ?a18 ?l18 ?c18 ?k18 ?a19 ?l19 ?c19 ?k19 ?a20 ?l20 ?c20 ?k20 ?a21 ?l21 ?c21 ?k21 ?a22 ?l22 ?c22 ?k22 ?a23 ?l23 ?c23 ?k23 ?a24 ?l24 ?c24 ?k24 ?a25 ?l25 ?c25 ?k25 ?a26 ?l26 ?c26 ?k26 ?a27 ?l27 ?c27 ?k27 ?a28 ?l28 ?c28 ?k28 ?a29 ?l29 ?c29 ?k29 ?a30 ?l30 ?c30 ?k30 ?a31 ?l31 ?c31 ?k31 ?a32 ?i32 ?l32 ?c32 ?k32 ?a33 ?i33 ?l33 ?c33 ?k33 ?a34 ?i34 ?l34 ?c34 ?k34 ?a35 ?i35 ?l35 ?c35 ?k35 ?a36 ?i36 ?l36 ?c36 ?k36 ?a37 ?l37 ?c37 ?k37 ?a38 ?l38 ?c38 ?k38 ?a39 ?l39 ?c39 ?k39 ?a40 ?l40 ?c40 ?k40 ?a41 ?l41 ?c41 ?k41 ?a42 ?l42 ?c42 ?k42 ?a43 ?l43 ?c43 ?k43 ?a44 ?l44 ?c44 ?k44 ?a45 ?l45 ?c45 ?k45 ?a46 ?l46 ?c46 ?k46 ?a47 ?l47 ?c47 ?k47 ?a48 ?l48 ?c48 ?k48 ?a49 ?l49 ?c49 ?k49 ?a50 ?l50 ?c50 ?k50 ?a51 ?l51 ?c51 ?k51 ?a52 ?l52 ?c52 ?k52 ?a53 ?l53 ?c53 ?k53 ?a54 ?l54 ?c54 ?k54 ?a55 ?l55 ?c55 ?k55 ?pg_Climb ?hd_Climb ?po_Climb ?sa_Climb ?mk_Climb ?kc_Climb ?nf_Climb_count ?nf_Climb_steps ?nf_Climb_patience ?nf_Climb_kept ?nf_Climb_reached ?nf_Climb_risen ?z_len ?z_isinstance ?z_int ?z_bool ?z_tuple ?z_range ?z_list ?z_sum ?z_str ?z_enumerate ?z_zip ?z_min ?z_max ?z_sorted ?z_set ?z_reversed ?z_abs
  all_goals (try first | delta L2.Ha | delta L2.Hl | delta L2.Hc | delta L2.Hk | delta L2.Hm | delta L2.Hi | delta L2.Hz)
  (case a_Climb => k_is)
  (case a0 => k_is); (case l0 => k_is); (case c0 => k_is); (case k0 => k_is)
  (case a1 => k_is); (case l1 => k_is); (case c1 => k_is); (case k1 => k_is)
  (case a2 => k_is); (case l2 => k_is); (case c2 => k_is); (case k2 => k_is)
  (case a3 => k_is); (case l3 => k_is); (case c3 => k_is); (case k3 => k_is)
  (case a4 => k_is); (case l4 => k_is); (case c4 => k_is); (case k4 => k_is)
  (case a5 => k_is); (case l5 => k_is); (case c5 => k_is); (case k5 => k_is)
  (case a6 => k_is); (case l6 => k_is); (case c6 => k_is); (case k6 => k_is)
  (case a7 => k_is); (case l7 => k_is); (case c7 => k_is); (case k7 => k_is)
  (case a8 => k_is); (case l8 => k_is); (case c8 => k_is); (case k8 => k_is)
  (case a9 => k_is); (case l9 => k_is); (case c9 => k_is); (case k9 => k_is)
  (case a10 => k_is); (case l10 => k_is); (case c10 => k_is); (case k10 => k_is)
  (case a11 => k_is); (case l11 => k_is); (case c11 => k_is); (case k11 => k_is)
  (case a12 => k_is); (case l12 => k_is); (case c12 => k_is); (case k12 => k_is)
  (case a13 => k_is); (case l13 => k_is); (case c13 => k_is); (case k13 => k_is)
  (case a14 => k_is); (case l14 => k_is); (case c14 => k_is); (case k14 => k_is)
  (case a15 => k_is); (case l15 => k_is); (case c15 => k_is); (case k15 => k_is)
  (case a16 => k_is); (case l16 => k_is); (case c16 => k_is); (case k16 => k_is)
  (case a17 => k_is); (case l17 => k_is); (case c17 => k_is); (case k17 => k_is)
  (case a18 => k_is); (case l18 => k_is); (case c18 => k_is); (case k18 => k_is)
  (case a19 => k_is); (case l19 => k_is); (case c19 => k_is); (case k19 => k_is)
  (case a20 => k_is); (case l20 => k_is); (case c20 => k_is); (case k20 => k_is)
  (case a21 => k_is); (case l21 => k_is); (case c21 => k_is); (case k21 => k_is)
  (case a22 => k_is); (case l22 => k_is); (case c22 => k_is); (case k22 => k_is)
  (case a23 => k_is); (case l23 => k_is); (case c23 => k_is); (case k23 => k_is)
  (case a24 => k_is); (case l24 => k_is); (case c24 => k_is); (case k24 => k_is)
  (case a25 => k_is); (case l25 => k_is); (case c25 => k_is); (case k25 => k_is)
  (case a26 => k_is); (case l26 => k_is); (case c26 => k_is); (case k26 => k_is)
  (case a27 => k_is); (case l27 => k_is); (case c27 => k_is); (case k27 => k_is)
  (case a28 => k_is); (case l28 => k_is); (case c28 => k_is); (case k28 => k_is)
  (case a29 => k_is); (case l29 => k_is); (case c29 => k_is); (case k29 => k_is)
  (case a30 => k_is); (case l30 => k_is); (case c30 => k_is); (case k30 => k_is)
  (case a31 => k_is); (case l31 => k_is); (case c31 => k_is); (case k31 => k_is)
  (case a32 => k_is); (case i32 => k_is); (case l32 => k_is); (case c32 => k_is); (case k32 => k_is)
  (case a33 => k_is); (case i33 => k_is); (case l33 => k_is); (case c33 => k_is); (case k33 => k_is)
  (case a34 => k_is); (case i34 => k_is); (case l34 => k_is); (case c34 => k_is); (case k34 => k_is)
  (case a35 => k_is); (case i35 => k_is); (case l35 => k_is); (case c35 => k_is); (case k35 => k_is)
  (case a36 => k_is); (case i36 => k_is); (case l36 => k_is); (case c36 => k_is); (case k36 => k_is)
  (case a37 => k_is); (case l37 => k_is); (case c37 => k_is); (case k37 => k_is)
  (case a38 => k_is); (case l38 => k_is); (case c38 => k_is); (case k38 => k_is)
  (case a39 => k_is); (case l39 => k_is); (case c39 => k_is); (case k39 => k_is)
  (case a40 => k_is); (case l40 => k_is); (case c40 => k_is); (case k40 => k_is)
  (case a41 => k_is); (case l41 => k_is); (case c41 => k_is); (case k41 => k_is)
  (case a42 => k_is); (case l42 => k_is); (case c42 => k_is); (case k42 => k_is)
  (case a43 => k_is); (case l43 => k_is); (case c43 => k_is); (case k43 => k_is)
  (case a44 => k_is); (case l44 => k_is); (case c44 => k_is); (case k44 => k_is)
  (case a45 => k_is); (case l45 => k_is); (case c45 => k_is); (case k45 => k_is)
  (case a46 => k_is); (case l46 => k_is); (case c46 => k_is); (case k46 => k_is)
  (case a47 => k_is); (case l47 => k_is); (case c47 => k_is); (case k47 => k_is)
  (case a48 => k_is); (case l48 => k_is); (case c48 => k_is); (case k48 => k_is)
  (case a49 => k_is); (case l49 => k_is); (case c49 => k_is); (case k49 => k_is)
  (case a50 => k_is); (case l50 => k_is); (case c50 => k_is); (case k50 => k_is)
  (case a51 => k_is); (case l51 => k_is); (case c51 => k_is); (case k51 => k_is)
  (case a52 => k_is); (case l52 => k_is); (case c52 => k_is); (case k52 => k_is)
  (case a53 => k_is); (case l53 => k_is); (case c53 => k_is); (case k53 => k_is)
  (case a54 => k_is); (case l54 => k_is); (case c54 => k_is); (case k54 => k_is)
  (case a55 => k_is); (case l55 => k_is); (case c55 => k_is); (case k55 => k_is)
  (case pg_Climb => k_is)
  (case hd_Climb => k_is)
  (case po_Climb => k_is)
  (case sa_Climb => k_is)
  (case mk_Climb => k_is)
  (case kc_Climb => k_is)
  (case nf_Climb_count => k_is)
  (case nf_Climb_steps => k_is)
  (case nf_Climb_patience => k_is)
  (case nf_Climb_kept => k_is)
  (case nf_Climb_reached => k_is)
  (case nf_Climb_risen => k_is)
  (case z_len => k_is); (case z_isinstance => k_is); (case z_int => k_is); (case z_bool => k_is); (case z_tuple => k_is); (case z_range => k_is); (case z_list => k_is); (case z_sum => k_is); (case z_str => k_is); (case z_enumerate => k_is); (case z_zip => k_is); (case z_min => k_is); (case z_max => k_is); (case z_sorted => k_is); (case z_set => k_is); (case z_reversed => k_is); (case z_abs => k_is)
