import PyProof.Rows.All
import Wide.All
import OpenK.AllK
import Wide.FinOn
import Lean
import PyProof.EqAt
import PyProof.EqKinds
import PyProof.TupleCall
import PyProof.StationsW
import PyProof.PassesOwn
import PyProof.Rows.CatchOwn
import PyProof.Rows.CatchBare
import PyProof.Rows.Own
import PyProof.ExcAttrAll.ValueError
import PyProof.ExcBaseAll.ValueError
import KE.RegKIsAll
import PyProof.FString4
import PyProof.StrLawsRepr
import PyProof.NeKinds
import PyProof.StrCalls
import PyProof.StrCalls2
import PyProof.FitsReplace
import PyProof.StrOps2
import PyProof.ConsumeWalk
import PyProof.SumWalkG
import PyProof.StrCalls6
import PyProof.ToksMono
import PyProof.StrLawsReplace
import PyProof.ListRange
import KE.KTab
import PyProof.EnumFor
import PyProof.EnumStmt
import PyProof.EnumMake
import PyProof.TupleIter
import PyProof.ZipIter
import PyProof.Rows.ZipGen
import PyProof.ReprRoads
import PyProof.Rows.EqBoolInt
import PyProof.ReprLen
import PyProof.CollectIter
import PyProof.TupleOfGen
import PyProof.AutoListH
import PyProof.FactsAll.list
import PyProof.SliceSyntax
import PyProof.SliceList
import PyProof.FactsAll.range
import PyProof.MaxThree
import PySem.Challenge.RW_boxproof_k34_each_and_some
set_option Elab.async false
set_option linter.all false
set_option maxRecDepth 100000
set_option maxHeartbeats 4000000
namespace L2
open PySem PySem.Spec PyProof.Rows
abbrev Key := Sum Int Str
def zgX : Key -> Value -> Bool
 | .inl k, v => Value.isInt k v
 | .inr x, v => Value.isStrOf x v
def keyH (w : World) : Key -> Int
 | .inl k => hashInt k
 | .inr x => hashStr w x
theorem keyIs_shape : ∀ {k : Key} {v : Value}, zgX k v = true -> (∃ i t, k = Sum.inl i /\ v = Value.int i t) \/ (∃ x t, k = Sum.inr x /\ v = Value.str x t)
 | .inl i, v, h => by
  obtain ⟨t, e⟩ := Value.isInt_shape (k := i) (v := v) h
  exact .inl ⟨i, t, rfl, e⟩
 | .inr x, v, h => by
  obtain ⟨t, e⟩ := Value.isStrOf_shape (x := x) (v := v) h
  exact .inr ⟨x, t, rfl, e⟩
theorem zfD (x : Str) (t : Tok) : zgX (.inr x) (.str x t) = true := by simp [zgX, Value.isStrOf]
theorem zj7 (a b : Int) : decide ((Sum.inl a : Key) = Sum.inl b) = (a == b) := by
 by_cases e : a = b
 ·subst e; simp
 ·have h : ¬ (Sum.inl a : Key) = Sum.inl b := fun q => e (Sum.inl.inj q)
  rw [decide_eq_false h]
  exact (beq_eq_false_iff_ne.mpr e).symm
theorem zj8 (a b : Str) : decide ((Sum.inr a : Key) = Sum.inr b) = decide (a = b) := by
 by_cases e : a = b
 ·subst e; simp
 ·have h : ¬ (Sum.inr a : Key) = Sum.inr b := fun q => e (Sum.inr.inj q)
  rw [decide_eq_false h, decide_eq_false e]
theorem zj9 (a : Int) (b : Str) : decide ((Sum.inl a : Key) = Sum.inr b) = false := decide_eq_false (fun q => nomatch q)
theorem zjA (a : Str) (b : Int) : decide ((Sum.inr a : Key) = Sum.inl b) = false := decide_eq_false (fun q => nomatch q)
def mixKind (prog : Program) (w : World) : PySem.KeyKind prog w Key where
 is := zgX
 hash := keyH w
 inj := fun v a b ha hb => by
  rcases keyIs_shape ha with ⟨i, t, rfl, rfl⟩ | ⟨x, t, rfl, rfl⟩
  ·rcases keyIs_shape hb with ⟨j, u, rfl, e⟩ | ⟨y, u, rfl, e⟩
   ·injection e with e1 _; rw [e1]
   ·exact nomatch e
  ·rcases keyIs_shape hb with ⟨j, u, rfl, e⟩ | ⟨y, u, rfl, e⟩
   ·exact nomatch e
   ·injection e with e1 _; rw [e1]
 byValue := fun k v h => by
  rcases keyIs_shape h with ⟨i, t, rfl, rfl⟩ | ⟨x, t, rfl, rfl⟩ <;> rfl
 pyHash := fun hv h => by
  rcases keyIs_shape hv with ⟨i, t, rfl, rfl⟩ | ⟨x, t, rfl, rfl⟩
  ·exact wpAny_pyHash_int h
  ·exact wpAny_pyHash_str h
 eqBool := fun hu hv h => by
  rcases keyIs_shape hu with ⟨i, t, rfl, rfl⟩ | ⟨x, t, rfl, rfl⟩
  ·rcases keyIs_shape hv with ⟨j, u, rfl, rfl⟩ | ⟨y, u, rfl, rfl⟩
   ·rw [zj7] at h; exact wpAny_eqBool_int h
   ·rw [zj9] at h; exact SeqAt.EqAt.int_str i t y u _ _ _ _ h
  ·rcases keyIs_shape hv with ⟨j, u, rfl, rfl⟩ | ⟨y, u, rfl, rfl⟩
   ·rw [zjA] at h; exact SeqAt.EqAt.str_int x t j u _ _ _ _ h
   ·rw [zj8] at h; exact wpAny_eqBool_str h
 «strs» := fun k x t v h => by
  rcases keyIs_shape h with ⟨i, u, rfl, e⟩ | ⟨y, u, rfl, e⟩
  ·exact nomatch e
  ·injection e with e1 _
   subst e1
   cases v <;> rfl
end L2
namespace L2
open PySem PySem.Spec PyProof.Rows
inductive V where
 | non | bl (b : Bool) | int (i : Int) | str (x : Str) | byt (b : Array UInt8) | flt (b : UInt64) | ref (a : Addr) | ty (n : String)
 deriving DecidableEq
def RelV : V -> Value -> Prop
 | .non, u => u = Value.none
 | .bl b, u => u = Value.bool b
 | .int i, u => ∃ t, u = Value.int i t
 | .str x, u => ∃ t, u = Value.str x t
 | .byt b, u => ∃ t, u = Value.bytes b t
 | .flt b, u => ∃ t, u = Value.float b t
 | .ref a, u => u = Value.ref a
 | .ty n, u => u = Value.type n
abbrev Vals : List V -> List Value -> Prop := Paired RelV
theorem Vals.length {xs : List V} {us : List Value} (r : Vals xs us) : xs.length = us.length := Paired.length r
theorem Vals.get : ∀ {xs : List V} {us : List Value} {i : Nat} {x : V}, Vals xs us -> xs[i]? = some x -> ∃ u, us[i]? = some u /\ RelV x u
 | _, _, _, _, .nil, e => by simp at e
 | _, _, 0, _, .cons r _, e => by simp at e; subst e; exact ⟨_, rfl, r⟩
 | _, _, i + 1, x, .cons _ t, e => by
  obtain ⟨u, h1, h2⟩ := Vals.get (i := i) (x := x) t (by simpa using e)
  exact ⟨u, by simpa using h1, h2⟩
theorem Vals.set {x : V} {u : Value} (r : RelV x u) : ∀ {xs : List V} {us : List Value} (i : Nat), Vals xs us -> Vals (xs.set i x) (us.set i u)
 | _, _, _, .nil => .nil
 | _, _, 0, .cons _ t => .cons r t
 | _, _, i + 1, .cons q t => .cons q (Vals.set r i t)
theorem Vals.append : ∀ {xs ys : List V} {us ws : List Value}, Vals xs us -> Vals ys ws -> Vals (xs ++ ys) (us ++ ws)
 | _, _, _, _, .nil, s => s
 | _, _, _, _, .cons r t, s => .cons r (Vals.append t s)
theorem Vals.take : ∀ {xs : List V} {us : List Value} (n : Nat), Vals xs us -> Vals (xs.take n) (us.take n)
 | _, _, 0, _ => .nil
 | _, _, _ + 1, .nil => .nil
 | _, _, n + 1, .cons r t => .cons r (Vals.take n t)
theorem Vals.drop : ∀ {xs : List V} {us : List Value} (n : Nat), Vals xs us -> Vals (xs.drop n) (us.drop n)
 | _, _, 0, r => r
 | _, _, _ + 1, .nil => .nil
 | _, _, n + 1, .cons _ t => Vals.drop n t
def RelO : Option V -> Option Value -> Prop
 | some v, some u => RelV v u
 | none, none => True
 | _, _ => False
def KV {κ : Type} : List (κ × V) -> List (κ × Value) -> Prop := Paired fun (p : κ × V) (q : κ × Value) => p.1 = q.1 /\ RelV p.2 q.2
def kV : Key -> V
 | .inl i => .int i
 | .inr x => .str x
inductive HO where
 | lst (xs : List V)
 | tup (xs : List V)
 | dK (kvs : List (Key × V)) | dT (kvs : List (List Key × V))
 | set (S : Int -> Bool) (n : Nat)
 | ins (C dx : Addr) (fs : List (Str × V))
 | own (x : Addr)
 | xd (fs : List (Str × V))
 | met (f x : Addr)
 | rng (lo hi : Int)
 | frz (o : Obj) (u : HO)
 | tbl (ps : Array Value)
 | ext (φ : Heap -> Prop)
abbrev Hp := Addr -> Option HO
def upd (H : Hp) (a : Addr) (o : HO) : Hp := fun b => if b = a then some o else H b
theorem zac {H : Hp} {a : Addr} {o : HO} : upd H a o a = some o := by unfold upd; rw [if_pos rfl]
theorem za8 {H : Hp} {a b : Addr} {o : HO} (h : b ≠ a) : upd H a o b = H b := by unfold upd; rw [if_neg h]
theorem zfE {H : Hp} {a : Addr} {o u : HO} : upd (upd H a o) a u = upd H a u := by
 funext b; unfold upd; split <;> rfl
theorem za7 {H : Hp} {a b : Addr} {o : HO} (h : H a = some o) (h' : H b = none) : a ≠ b := by
 intro e; subst e; rw [h] at h'; cases h'
section
variable (P : Program) (w : World)
def ObjOk (H : Hp) (h : Heap) (a : Addr) : HO -> Prop
 | .lst xs => xs.length ≤ sizeLine /\ ∃ (its : List Value) (n : Nat), Vals xs its /\ h.get? a = some { cls := .type "list", data := .seq its.toArray n }
 | .tup xs => xs.length ≤ sizeLine /\ ∃ its : List Value, Vals xs its /\ IsTup h a its.toArray
 | .dK kvs => kvs.length ≤ sizeLine /\ (a == sysModules) = false /\ ∃ vs, KV kvs vs /\ h.DictOf (mixKind P w) a vs
 | .dT kvs => kvs.length ≤ sizeLine /\ (a == sysModules) = false /\ ∃ xs : List (List Key × Addr × Value),
   Paired (fun (p : List Key × V) (q : List Key × Addr × Value) => p.1 = q.1 /\ H q.2.1 = some (.tup (p.1.map kV)) /\ RelV p.2 q.2.2) kvs xs /\
   ∃ o es ep, h.get? a = some o /\ o.ExactDict /\ o.data = .dict es ep /\ es.toList = xs.map (entryOfKey (tupleKind (mixKind P w))) /\ (xs.map (·.1)).Nodup
 | .set S n => h.SetOf (intKind P w) a S n
 | .ins C dx fs => H dx = some (.own a) /\ fs.length ≤ 1000 /\ dx ≠ a /\ h.get? a = some (W.instObj C dx) /\
   ∃ mA, h.Ns1 dx mA /\ (∀ f, RelO (fs.lookup f) (mA f)) /\ PySem.Within mA (fs.map (·.1))
 | .own _ => ∃ o, h.get? a = some o
 | .xd fs => ∃ mA, h.Ns1 a mA /\ ∀ f, RelO (fs.lookup f) (mA f)
 | .rng lo hi => ∃ t u v, h.get? a = some { cls := .type "range", data := .fields #[.int lo t, .int hi u, .int 1 v] }
 | .frz o u => h.get? a = some o /\ ObjOk H h a u
 | .tbl ps => h.get? a = some { cls := .none, data := .fields ps }
 | .met f x => h.get? a = some (W.methodObj (.ref f) (.ref x))
 | .ext φ => φ h /\ (∃ o, h.get? a = some o) /\ ∀ h1 h2 : Heap, φ h1 -> (∀ o, h1.get? a = some o -> h2.get? a = some o) -> φ h2
def HOk (H : Hp) (h : Heap) : Prop := ∀ a o, H a = some o -> ObjOk P w H h a o
end
section
variable {P : Program} {w : World} {H H' : Hp} {h h' : Heap} {a : Addr} {o : HO}
theorem ObjOk.lt (x : ObjOk P w H h a o) : a < h.objs.size := by
 cases o with
 | lst xs => obtain ⟨_, _, _, _, e⟩ := x; exact Heap.lt_size e
 | tup xs => obtain ⟨_, _, _, p⟩ := x; exact p.lt
 | dK kvs => obtain ⟨_, _, _, _, o, _, _, e, _⟩ := x; exact Heap.lt_size e
 | dT kvs => obtain ⟨_, _, _, _, o, _, _, e, _⟩ := x; exact Heap.lt_size e
 | set S n => obtain ⟨o, _, _, _, e, _⟩ := x; exact Heap.lt_size e
 | ins C dx fs => obtain ⟨_, _, _, e, _⟩ := x; exact Heap.lt_size e
 | own y => obtain ⟨_, e⟩ := x; exact Heap.lt_size e
 | xd fs => obtain ⟨_, ⟨_, _, _, e, _⟩, _⟩ := x; exact Heap.lt_size e
 | rng lo hi => obtain ⟨_, _, _, e⟩ := x; exact Heap.lt_size e
 | frz ob u => obtain ⟨e, _⟩ := x; exact Heap.lt_size e
 | tbl ps => exact Heap.lt_size (show h.get? a = some _ from x)
 | met f y => exact Heap.lt_size (show h.get? a = some _ from x)
 | ext φ => obtain ⟨_, ⟨_, e⟩, _⟩ := x; exact Heap.lt_size e
theorem Paired.mapP {α β : Type} {F G : α -> β -> Prop} : ∀ {l₁ : List α} {l₂ : List β}, Paired F l₁ l₂ -> (∀ a b, F a b -> G a b) -> Paired G l₁ l₂
 | _, _, .nil, _ => .nil
 | _, _, .cons r t, f => .cons (f _ _ r) (Paired.mapP t f)
theorem ObjOk.stay (x : ObjOk P w H h a o) (k : ∀ b u, (b = a \/ H b = some (.own a)) -> h.get? b = some u -> h'.get? b = some u)
  (ho : ∀ b, H b = some (.own a) -> H' b = some (.own a)) (ht : ∀ b xs, H b = some (.tup xs) -> H' b = some (.tup xs)) : ObjOk P w H' h' a o := by
 induction o with
 | lst xs => obtain ⟨z, its, n, r, e⟩ := x; exact ⟨z, its, n, r, k _ _ (.inl rfl) e⟩
 | tup xs => obtain ⟨z, its, r, ob, e, c⟩ := x; exact ⟨z, its, r, ob, k _ _ (.inl rfl) e, c⟩
 | dK kvs => obtain ⟨z, y, vs, r, ob, es, ep, e, c⟩ := x; exact ⟨z, y, vs, r, ob, es, ep, k _ _ (.inl rfl) e, c⟩
 | dT kvs =>
  obtain ⟨z, y, xs, r, ob, es, ep, e, c⟩ := x
  exact ⟨z, y, xs, Paired.mapP r fun p q z => ⟨z.1, ht _ _ z.2.1, z.2.2⟩, ob, es, ep, k _ _ (.inl rfl) e, c⟩
 | set S n => obtain ⟨ob, es, ep, t, e, c⟩ := x; exact ⟨ob, es, ep, t, k _ _ (.inl rfl) e, c⟩
 | ins C dx fs =>
  obtain ⟨d, z, ne, e, mA, ⟨od, es, ep, e2, c⟩, r⟩ := x
  exact ⟨ho _ d, z, ne, k _ _ (.inl rfl) e, mA, ⟨od, es, ep, k _ _ (.inr d) e2, c⟩, r⟩
 | own y => obtain ⟨ob, e⟩ := x; exact ⟨ob, k _ _ (.inl rfl) e⟩
 | xd fs => obtain ⟨mA, ⟨od, es, ep, e, c⟩, r⟩ := x; exact ⟨mA, ⟨od, es, ep, k _ _ (.inl rfl) e, c⟩, r⟩
 | rng lo hi => obtain ⟨t, u, v, e⟩ := x; exact ⟨t, u, v, k _ _ (.inl rfl) e⟩
 | frz ob u ih => obtain ⟨e, q⟩ := x; exact ⟨k _ _ (.inl rfl) e, ih q⟩
 | tbl ps =>
  have e : h.get? a = some { cls := .none, data := .fields ps } := x
  show h'.get? a = some { cls := .none, data := .fields ps }
  exact k a _ (.inl rfl) e
 | met f y =>
  have e : h.get? a = some (W.methodObj (.ref f) (.ref y)) := x
  show h'.get? a = some (W.methodObj (.ref f) (.ref y))
  exact k a _ (.inl rfl) e
 | ext φ => obtain ⟨p, ⟨o, e⟩, st⟩ := x; exact ⟨st _ _ p fun o q => k _ _ (.inl rfl) q, ⟨o, k _ _ (.inl rfl) e⟩, st⟩
theorem HOk.lt (x : HOk P w H h) (e : H a = some o) : a < h.objs.size := (x a o e).lt
theorem HOk.fresh (x : HOk P w H h) (e : h.objs.size ≤ a) : H a = none := by
 cases q : H a with
 | none => rfl
 | some u => exact absurd (Nat.lt_of_lt_of_le (x.lt q) e) (Nat.lt_irrefl _)
theorem HOk.kept (x : HOk P w H h) (k : ∀ b u, h.get? b = some u -> h'.get? b = some u) : HOk P w H h' := fun a o e =>
 (x a o e).stay (fun b u _ q => k b u q) (fun _ q => q) fun _ _ q => q
theorem HOk.laid (x : HOk P w H h) (k : ∀ b u, h.get? b = some u -> h'.get? b = some u) (hp : h.objs.size ≤ a) (new : ObjOk P w (upd H a o) h' a o) : HOk P w (upd H a o) h' := fun b u e => by
 have hn := x.fresh hp
 by_cases hb : b = a
 ·subst hb; rw [zac] at e; cases e; exact new
 ·rw [za8 hb] at e
  exact (x b u e).stay (fun c v _ q => k c v q) (fun c q => by rw [za8 (za7 q hn)]; exact q) fun c xs q => by rw [za8 (za7 q hn)]; exact q
end
def Rd (H : Hp) (a : Addr) (u : HO) : Prop := H a = some u \/ ∃ o, H a = some (.frz o u)
theorem Rd.ok {P : Program} {w : World} {H : Hp} {h : Heap} {a : Addr} {u : HO} (r : Rd H a u) (x : HOk P w H h) : ObjOk P w H h a u := by
 rcases r with r | ⟨o, r⟩
 ·exact x a u r
 ·obtain ⟨_, q⟩ := x a _ r
  exact q
def Mut : Option HO -> Prop
 | some (.lst _) => True
 | some (.dK _) => True
 | some (.dT _) => True
 | some (.set _ _) => True
 | some (.ins _ _ _) => True
 | some (.ext _) => True
 | _ => False
section
variable {P : Program} {w : World} {H : Hp} {h h' : Heap} {x e : Addr} {o' : HO}
theorem HOk.write (ok : HOk P w H h) (mu : Mut (H x)) (he : e = x \/ H e = some (.own x)) (k : ∀ b u, b ≠ e -> h.get? b = some u -> h'.get? b = some u) (heo : ∃ u, h'.get? e = some u)
  (new : ObjOk P w (upd H x o') h' x o') : HOk P w (upd H x o') h' := fun b u q => by
 have nown : ∀ c y, H c = some (.own y) -> c ≠ x := fun c y r z => by subst z; rw [r] at mu; exact mu
 have ntup : ∀ c xs, H c = some (.tup xs) -> c ≠ x := fun c xs r z => by subst z; rw [r] at mu; exact mu
 by_cases hb : b = x
 ·subst hb; rw [zac] at q; cases q; exact new
 ·rw [za8 hb] at q
  by_cases hbe : b = e
  ·have q' : H b = some (.own x) := by
    rcases he with z | z
    ·exact absurd (hbe.trans z) hb
    ·rw [hbe]; exact z
   rw [q] at q'; cases q'
   obtain ⟨v, hv⟩ := heo
   exact ⟨v, by rw [hbe]; exact hv⟩
  ·refine (ok b u q).stay (fun c v hc r => k c v ?_ r) (fun c r => by rw [za8 (nown c b r)]; exact r) fun c xs r => by rw [za8 (ntup c xs r)]; exact r
   rcases hc with rfl | hc
   ·exact hbe
   ·rintro rfl
    rcases he with z | z
    ·exact nown c b hc z
    ·rw [hc] at z; cases z; exact hb rfl
end
structure Un (fs ex : List Addr) (H H' : Hp) (h h' : Heap) : Prop where
 keep : ∀ b o, h.get? b = some o -> H b = none -> b ∉ fs -> b ∉ ex -> h'.get? b = some o
 slot : ∀ b o, h.get? b = some o -> H b = none -> b ∈ fs -> b ∉ ex -> ∃ sl, h'.get? b = some { o with slots := sl }
 free : ∀ b o, h.get? b = some o -> H b = none -> b ∉ ex -> H' b = none
 there : ∀ b o, h.get? b = some o -> b ∉ ex -> ∃ o', h'.get? b = some o'
 tups : ∀ b xs, H b = some (.tup xs) -> H' b = some (.tup xs)
 frzs : ∀ b o u, H b = some (.frz o u) -> H' b = some (.frz o u)
 tbls : ∀ b ps, H b = some (.tbl ps) -> ∃ more, H' b = some (.tbl (ps ++ more))
section
variable {fs fs' ex ex' : List Addr} {H H1 H2 : Hp} {h h1 h2 h' : Heap} {a x e : Addr} {o : HO}
theorem Un.any (u : Un fs ex H H1 h h1) {b : Addr} {ob : Obj} (q : h.get? b = some ob) (n : H b = none) (hx : b ∉ ex) : ∃ sl, h1.get? b = some { ob with slots := sl } := by
 by_cases hb : b ∈ fs
 ·exact u.slot b ob q n hb hx
 ·exact ⟨ob.slots, u.keep b ob q n hb hx⟩
theorem Un.kept (k : ∀ b u, h.get? b = some u -> h'.get? b = some u) : Un fs ex H H h h' :=
 ⟨fun b ob q _ _ _ => k b ob q, fun b ob q _ _ _ => ⟨ob.slots, k b ob q⟩, fun _ _ _ n _ => n, fun b ob q _ => ⟨ob, k b ob q⟩, fun _ _ q => q, fun _ _ _ q => q, fun _ ps q => ⟨#[], by rw [q]; simp⟩⟩
theorem Un.refl : Un fs ex H H h h := Un.kept fun _ _ q => q
theorem Un.laid (k : ∀ b u, h.get? b = some u -> h'.get? b = some u) (hp : h.objs.size ≤ a) (hn : H a = none) : Un fs ex H (upd H a o) h h' where
 keep := fun b u q _ _ _ => k b u q
 slot := fun b u q _ _ _ => ⟨u.slots, k b u q⟩
 free := fun b u q n _ => by rw [za8 (Nat.ne_of_lt (Nat.lt_of_lt_of_le (Heap.lt_size q) hp))]; exact n
 there := fun b u q _ => ⟨u, k b u q⟩
 tups := fun b xs q => by rw [za8 (za7 q hn)]; exact q
 frzs := fun b u xs q => by rw [za8 (za7 q hn)]; exact q
 tbls := fun b ps q => ⟨#[], by rw [za8 (za7 q hn), q]; simp⟩
theorem Un.write (mu : Mut (H x)) (he : e = x \/ H e = some (.own x)) (k : ∀ b u, b ≠ e -> h.get? b = some u -> h'.get? b = some u) (heo : ∃ u, h'.get? e = some u) : Un fs ex H (upd H x o) h h' := by
 have hx : ∀ b, H b = none -> b ≠ x := fun b n z => by subst z; rw [n] at mu; exact mu
 have hb : ∀ b, H b = none -> b ≠ e := fun b n z => by
  subst z
  rcases he with r | r
  ·exact hx b n r
  ·rw [n] at r; cases r
 have hm : ∀ b u, H b = some u -> ¬ Mut (some u) -> b ≠ x := fun b u q nm z => by subst z; rw [q] at mu; exact nm mu
 refine ⟨fun b u q n _ _ => k b u (hb b n) q, fun b u q n _ _ => ⟨u.slots, k b u (hb b n) q⟩, fun b u q n _ => by rw [za8 (hx b n)]; exact n, fun b u q _ => ?_,
  fun b xs q => by rw [za8 (hm b _ q fun z => z)]; exact q, fun b u xs q => by rw [za8 (hm b _ q fun z => z)]; exact q, fun b ps q => ⟨#[], by rw [za8 (hm b _ q fun z => z), q]; simp⟩⟩
 by_cases hbe : b = e
 ·subst hbe; exact heo
 ·exact ⟨u, k b u hbe q⟩
end
def trk (h : Heap) (H : Hp) : List Addr := (List.range h.objs.size).filter fun a => (H a).isSome
def hidT (h : Heap) (H : Hp) : Heap := W.hideAll h (trk h H)
theorem zfF (h : Heap) (H : Hp) : (hidT h H).objs.size = h.objs.size := W.hideAll_size _ _
theorem zgY {h : Heap} {H : Hp} {b : Addr} {o : Obj} (e : h.get? b = some o) (n : H b = none) : (hidT h H).get? b = some o :=
 W.hideAll_get _ e fun hm => by
  have q : (H b).isSome = true := (List.mem_filter.mp hm).2
  rw [n] at q; simp at q
theorem zix {h : Heap} {H : Hp} {b : Addr} {o : Obj} (e : (hidT h H).get? b = some o) : h.get? b = some o /\ H b = none := by
 have e' : h.get? b = some o := W.of_hideAll (trk h H) e
 refine ⟨e', ?_⟩
 cases q : H b with
 | none => rfl
 | some x =>
  have hm : b ∈ trk h H := List.mem_filter.mpr ⟨List.mem_range.mpr (Heap.lt_size e'), by simp [q]⟩
  have z : (hidT h H).get? b = none := W.hideAll_none (trk h H) hm
  rw [z] at e; cases e
end L2
namespace L2
open PySem PySem.Spec PyProof.Rows
structure Mod (K : W.Frag) (mg : Str -> Option Value) (base : Heap) : Prop where
 kin : K.In base
 glob : base.Ns mainGlobals mg
 blt : ∃ mb, base.Ns builtinsNs mb /\ ∀ x : Str, x ≠ "__name__" -> mb x = bootBuiltins x
 nolimit : base.NoLimit
structure Cx where
 prog : Program
 w : World
 K : W.Frag
 mg : Str -> Option Value
 base : Heap
 A : Around
 N : List Str
 s₀ : Shared
 H₀ : Hp
 env : Env
 outer : List Env
 stack : List Env
 ex : List Addr
 fn : Str -> Bool
 calm : Bool
 pn : List (Addr × Obj)
 xe : Value -> Shared -> Prop
def frs (l : List Env) : List Addr := l.filterMap (·.frame)
abbrev Cx.fs (X : Cx) : List Addr := frs X.outer
def Vis (sc : Scope) (x : Str) : Prop := sc.names.lookup x = some .local \/ sc.names.lookup x = some .cell \/ sc.names.lookup x = some .free
def Loc (sc : Scope) (x : Str) : Prop := sc.names.lookup x = some .local \/ sc.names.lookup x = some .cell
def Look (env : Env) (h : Heap) (m : Str -> Option Value) (x : Str) (u : Value) : Prop :=
 (env.kindOf x = some .local /\ m x = some u) \/ ((env.kindOf x = some .cell \/ env.kindOf x = some .free) /\ ∃ c, env.cells.lookup x = some c /\ h.IsCell c (some u))
structure Cx.Ok (X : Cx) : Prop where
 mod : Mod X.K X.mg X.base
 kind : X.env.scope.kind = .function
 glob : X.env.globals = mainGlobals
 blt : X.env.builtins = builtinsNs
 above : X.s₀.heap.objs.size ≤ X.env.locals
 inj : ∀ x y c, X.env.cells.lookup x = some c -> X.env.cells.lookup y = some c -> x = y
 has : ∀ x, (X.env.kindOf x = some .cell \/ X.env.kindOf x = some .free) -> ∃ c, X.env.cells.lookup x = some c
 cab : ∀ x c, X.fn x = true -> X.env.cells.lookup x = some c -> X.s₀.heap.objs.size ≤ c
 hd : X.calm = true -> X.A.handled = none
 frames : X.A.frames = some X.stack
 stk : X.stack = X.outer \/ (X.stack = X.env :: X.outer /\ X.env.frame = some X.env.locals)
 exf : ∀ b ∈ X.ex, b ≠ X.env.locals /\ ∀ x c, X.env.cells.lookup x = some c -> c ≠ b
 bs : ∀ b o, X.base.get? b = some o -> X.s₀.heap.get? b = some o /\ X.H₀ b = none
 bsz : X.base.objs.size ≤ X.s₀.heap.objs.size
 noex : ∀ b o, X.base.get? b = some o -> b ∉ X.ex
 exfs : ∀ b ∈ X.ex, b ∉ X.fs
 funs : X.s₀.heap.FunFrames X.base X.outer
 frf : ∀ b ∈ X.fs, X.H₀ b = none
structure Inv (X : Cx) (pins : List (Addr × Obj)) (σ : List (Option V)) (H : Hp) (s : Shared) : Prop where
 ok : X.Ok
 os : s.os = X.s₀.os
 bare : AllBare s.gens
 base : Un X.fs X.ex X.H₀ H X.s₀.heap s.heap
 loc : ∃ m, s.heap.Ns X.env.locals m /\ ∀ (i : Nat) (x : Str) (v : V), X.N[i]? = some x -> σ[i]? = some (some v) -> Vis X.env.scope x -> ∃ u, RelV v u /\ Look X.env s.heap m x u
 cell : ∀ x c, X.env.cells.lookup x = some c -> ∃ v, s.heap.IsCell c v
 free : H X.env.locals = none
 freeC : ∀ x c, X.env.cells.lookup x = some c -> H c = none
 pin : ∀ p ∈ X.pn ++ pins, s.heap.get? p.1 = some p.2 /\ H p.1 = none /\ p.1 ≠ X.env.locals /\ p.1 ∉ X.fs /\ ∀ v, p.2.data ≠ .cell v
 hok : HOk X.prog X.w H s.heap
 len : σ.length = X.N.length
section
variable {X : Cx} {pins : List (Addr × Obj)} {σ : List (Option V)} {H H' : Hp} {s : Shared} {h' : Heap}
theorem Cx.Ok.nofr (ok : X.Ok) {b : Addr} {o : Obj} (e : X.base.get? b = some o) : b ∉ X.fs := fun hb => by
 have := (ok.funs.mem hb).1
 rw [e] at this; cases this
theorem Inv.bs (I : Inv X pins σ H s) : ∀ b o, X.base.get? b = some o -> s.heap.get? b = some o /\ H b = none := fun b o e =>
 ⟨I.base.keep b o (I.ok.bs b o e).1 (I.ok.bs b o e).2 (I.ok.nofr e) (I.ok.noex b o e), I.base.free b o (I.ok.bs b o e).1 (I.ok.bs b o e).2 (I.ok.noex b o e)⟩
theorem Inv.bk (I : Inv X pins σ H s) : ∀ b o, X.base.get? b = some o -> s.heap.get? b = some o := fun b o e => (I.bs b o e).1
theorem Inv.mod (I : Inv X pins σ H s) : Mod X.K X.mg X.base := I.ok.mod
theorem Inv.kIn (I : Inv X pins σ H s) : X.K.In s.heap := I.ok.mod.kin.keeps I.bk
theorem Inv.fr (I : Inv X pins σ H s) : ∃ m, Fr X.base X.env.locals s.heap m :=
 let ⟨m, hn, _⟩ := I.loc
 ⟨m, hn, I.bk, Nat.le_trans I.ok.bsz I.ok.above⟩
theorem Inv.lt (I : Inv X pins σ H s) : X.env.locals < s.heap.objs.size := let ⟨_, hn, _⟩ := I.loc; hn.lt
theorem Inv.sz (I : Inv X pins σ H s) : X.s₀.heap.objs.size ≤ s.heap.objs.size := Nat.le_trans I.ok.above (Nat.le_of_lt I.lt)
theorem Inv.nofs (I : Inv X pins σ H s) {a : Addr} (h : s.heap.objs.size ≤ a) : a ∉ X.fs := fun hb => by
 obtain ⟨_, o, ho, _⟩ := I.ok.funs.mem hb
 exact absurd (Nat.lt_of_lt_of_le (Heap.lt_size ho) (Nat.le_trans I.sz h)) (Nat.lt_irrefl _)
theorem Inv.cne (I : Inv X pins σ H s) : ∀ x c, X.env.cells.lookup x = some c -> c ≠ X.env.locals := fun x c e z => by
 obtain ⟨v, o, ho, hd⟩ := I.cell x c e
 obtain ⟨m, ⟨o', es, ep, ho', hd', _⟩, _⟩ := I.loc
 rw [z, ho'] at ho; cases ho; rw [hd'] at hd; cases hd
theorem Inv.funs (I : Inv X pins σ H s) : s.heap.FunFrames X.base X.outer := by
 have all : ∀ (l : List Env), (∀ b ∈ frs l, b ∈ X.fs) -> X.s₀.heap.FunFrames X.base l -> s.heap.FunFrames X.base l := by
  intro l
  induction l with
  | nil => intro _ _; trivial
  | cons env r ih =>
   intro hs hl
   obtain ⟨hk, ⟨L, o, hf, hn, ho, hd⟩, hr⟩ := hl
   have hL : L ∈ X.fs := hs L (by unfold frs; rw [List.filterMap_cons, hf]; exact List.mem_cons_self)
   obtain ⟨sl, e⟩ := I.base.slot L o ho (I.ok.frf L hL) hL fun z => I.ok.exfs L z hL
   exact ⟨hk, ⟨L, _, hf, hn, e, hd⟩, ih (fun b hb => hs b (by unfold frs; rw [List.filterMap_cons, hf]; exact List.mem_cons_of_mem _ hb)) hr⟩
 exact all X.outer (fun _ hb => hb) I.ok.funs
theorem Inv.stack (I : Inv X pins σ H s) : s.heap.FunFrames X.base X.stack := by
 rcases I.ok.stk with e | ⟨e, hf⟩
 ·rw [e]; exact I.funs
 ·rw [e]
  obtain ⟨m, hn, _⟩ := I.loc
  refine .cons (by rw [I.ok.kind]; decide) hf hn ?_ I.funs
  exact Heap.get?_none_of_le (Nat.le_trans I.ok.bsz I.ok.above)
theorem Inv.stkSub (I : Inv X pins σ H s) : ∀ b ∈ frs X.stack, b ∈ X.env.locals :: X.fs := fun b hb => by
 rcases I.ok.stk with e | ⟨e, hf⟩
 ·rw [e] at hb; exact List.mem_cons_of_mem _ hb
 ·rw [e] at hb
  unfold frs at hb
  rw [List.filterMap_cons, hf] at hb
  exact hb
theorem Inv.stkFree (I : Inv X pins σ H s) : ∀ b ∈ frs X.stack, H b = none := fun b hb => by
 rcases List.mem_cons.mp (I.stkSub b hb) with e | hb
 ·rw [e]; exact I.free
 ·obtain ⟨_, o, ho, _⟩ := I.ok.funs.mem hb
  exact I.base.free b o ho (I.ok.frf b hb) fun z => I.ok.exfs b z hb
theorem Inv.step {g' : Array GenState} {t' : Nat} {d' : Drawn} {ch : List Addr} (I : Inv X pins σ H s)
  (hch : ∀ b ∈ ch, (b ∈ X.ex \/ X.s₀.heap.objs.size ≤ b) /\ b ≠ X.env.locals /\ (∀ x c, X.env.cells.lookup x = some c -> c ≠ b) /\ ∀ p ∈ X.pn ++ pins, p.1 ≠ b)
  (keep : ∀ b o, b ≠ X.env.locals -> b ∉ X.fs -> b ∉ ch -> s.heap.get? b = some o -> H b = none -> h'.get? b = some o)
  (slot : ∀ b o, b ≠ X.env.locals -> b ∈ X.fs -> b ∉ ch -> s.heap.get? b = some o -> H b = none -> ∃ sl, h'.get? b = some { o with slots := sl }) (free : ∀ b o, b ∉ ch -> s.heap.get? b = some o -> H b = none -> H' b = none)
  (there : ∀ b o, b ∉ ch -> s.heap.get? b = some o -> ∃ o', h'.get? b = some o')
  (tups : ∀ b xs, H b = some (.tup xs) -> H' b = some (.tup xs)) (frzs : ∀ b o u, H b = some (.frz o u) -> H' b = some (.frz o u)) (tbls : ∀ b ps, H b = some (.tbl ps) -> ∃ more, H' b = some (.tbl (ps ++ more)))
  (ns : ∀ m, s.heap.Ns X.env.locals m -> h'.Ns X.env.locals m) (hok : HOk X.prog X.w H' h') (hg : AllBare g') :
  Inv X pins σ H' { s with heap := h', gens := g', drawn := d', toks := t' } := by
 have neL : ∀ b o, X.s₀.heap.get? b = some o -> b ≠ X.env.locals := fun b o e => Nat.ne_of_lt (Nat.lt_of_lt_of_le (Heap.lt_size e) I.ok.above)
 have neC : ∀ b o, X.s₀.heap.get? b = some o -> b ∉ X.ex -> b ∉ ch := fun b o e hx hb => by
  rcases (hch b hb).1 with z | z
  ·exact hx z
  ·exact absurd (Nat.lt_of_lt_of_le (Heap.lt_size e) z) (Nat.lt_irrefl _)
 have cellK : ∀ x c, X.env.cells.lookup x = some c -> ∀ v, s.heap.IsCell c v -> h'.IsCell c v := fun x c e v ⟨o, ho, hd⟩ => by
  have nch : c ∉ ch := fun z => (hch c z).2.2.1 x c e rfl
  by_cases hc : c ∈ X.fs
  ·obtain ⟨sl, q⟩ := slot c o (I.cne x c e) hc nch ho (I.freeC x c e)
   exact ⟨_, q, hd⟩
  ·exact ⟨o, keep c o (I.cne x c e) hc nch ho (I.freeC x c e), hd⟩
 refine ⟨I.ok, I.os, hg, ⟨fun b o e n hb hx => ?_, fun b o e n hb hx => ?_, fun b o e n hx => ?_, fun b o e hx => ?_, fun b xs e => tups b xs (I.base.tups b xs e), fun b o xs e => frzs b o xs (I.base.frzs b o xs e), fun b ps e => ?_⟩, ?_, fun x c e => ?_, ?_, fun x c e => ?_, fun p hp => ?_, hok, I.len⟩
 ·exact keep b o (neL b o e) hb (neC b o e hx) (I.base.keep b o e n hb hx) (I.base.free b o e n hx)
 ·obtain ⟨sl, e1⟩ := I.base.slot b o e n hb hx
  obtain ⟨sl', e2⟩ := slot b _ (neL b o e) hb (neC b o e hx) e1 (I.base.free b o e n hx)
  exact ⟨sl', e2⟩
 ·obtain ⟨o', e1⟩ := I.base.there b o e hx
  exact free b o' (neC b o e hx) e1 (I.base.free b o e n hx)
 ·obtain ⟨o', e1⟩ := I.base.there b o e hx
  exact there b o' (neC b o e hx) e1
 ·obtain ⟨m1, e1⟩ := I.base.tbls b ps e
  obtain ⟨m2, e2⟩ := tbls b _ e1
  exact ⟨m1 ++ m2, by rw [e2, Array.append_assoc]⟩
 ·obtain ⟨m, hn, hl⟩ := I.loc
  refine ⟨m, ns m hn, fun i x v e1 e2 e3 => ?_⟩
  obtain ⟨u, r, l⟩ := hl i x v e1 e2 e3
  refine ⟨u, r, ?_⟩
  rcases l with l | ⟨k, c, e, z⟩
  ·exact .inl l
  ·exact .inr ⟨k, c, e, cellK x c e _ z⟩
 ·obtain ⟨v, z⟩ := I.cell x c e
  exact ⟨v, cellK x c e v z⟩
 ·obtain ⟨m, ⟨o, _, _, ho, _⟩, _⟩ := I.loc
  exact free _ o (fun z => (hch _ z).2.1 rfl) ho I.free
 ·obtain ⟨v, o, ho, hd⟩ := I.cell x c e
  exact free c o (fun z => (hch c z).2.2.1 x c e rfl) ho (I.freeC x c e)
 ·obtain ⟨e, n, ne, nf, d⟩ := I.pin p hp
  have nch : p.1 ∉ ch := fun z => (hch p.1 z).2.2.2 p hp rfl
  exact ⟨keep p.1 p.2 ne nf nch e n, free p.1 p.2 nch e n, ne, nf, d⟩
theorem Inv.un {t' : Nat} (I : Inv X pins σ H s) (u : Un X.fs [] H H' s.heap h') (hok : HOk X.prog X.w H' h') : Inv X pins σ H' { s with heap := h', toks := t' } := by
 obtain ⟨m, ⟨o, es, ep, ho, r⟩, _⟩ := id I.loc
 obtain ⟨sl, hL⟩ := u.any ho I.free (by simp)
 exact I.step (g' := s.gens) (d' := s.drawn) (ch := []) (fun _ z => nomatch z) (fun b o _ hb _ e n => u.keep b o e n hb (by simp)) (fun b o _ hb _ e n => u.slot b o e n hb (by simp)) (fun b o _ e n => u.free b o e n (by simp)) (fun b o _ e => u.there b o e (by simp)) u.tups u.frzs u.tbls (fun m' hm => by
  obtain ⟨o', es', ep', ho', r'⟩ := hm
  rw [ho] at ho'; cases ho'
  exact ⟨_, es', ep', hL, r'⟩) hok I.bare
theorem Inv.call {g' : Array GenState} {t' : Nat} {d' : Drawn} {ch : List Addr} (I : Inv X pins σ H s) (u : Un (frs X.stack) ch H H' s.heap h') (hok : HOk X.prog X.w H' h') (hg : AllBare g')
  (hch : ∀ b ∈ ch, (b ∈ X.ex \/ X.s₀.heap.objs.size ≤ b) /\ b ≠ X.env.locals /\ (∀ x c, X.env.cells.lookup x = some c -> c ≠ b) /\ ∀ p ∈ X.pn ++ pins, p.1 ≠ b) :
  Inv X pins σ H' { s with heap := h', gens := g', drawn := d', toks := t' } := by
 obtain ⟨m, ⟨o, es, ep, ho, r⟩, _⟩ := id I.loc
 obtain ⟨sl, hL⟩ := u.any ho I.free fun z => (hch _ z).2.1 rfl
 exact I.step (ch := ch) hch (fun b o hL hb hc e n => u.keep b o e n (fun z => (List.mem_cons.mp (I.stkSub b z)).elim hL hb) hc) (fun b o _ _ hc e n => u.any e n hc) (fun b o hc e n => u.free b o e n hc) (fun b o hc e => u.there b o e hc) u.tups u.frzs u.tbls (fun m' hm => by
  obtain ⟨o', es', ep', ho', r'⟩ := hm
  rw [ho] at ho'; cases ho'
  exact ⟨_, es', ep', hL, r'⟩) hok hg
theorem Inv.turned {t' : Nat} {it : Addr} (I : Inv X pins σ H s) (k : ∀ b o, b ≠ it -> s.heap.get? b = some o -> h'.get? b = some o) (hn : H it = none) (hL : it ≠ X.env.locals)
  (h1 : it ∈ X.ex \/ X.s₀.heap.objs.size ≤ it) (h2 : ∀ x c, X.env.cells.lookup x = some c -> c ≠ it) (h3 : ∀ p ∈ X.pn ++ pins, p.1 ≠ it) : Inv X pins σ H { s with heap := h', toks := t' } := by
 have nit : ∀ b u, H b = some u -> b ≠ it := fun b u e z => by rw [z, hn] at e; cases e
 refine I.step (g' := s.gens) (d' := s.drawn) (ch := [it]) (fun b hb => ?_) (fun b o _ _ hc e _ => k b o (fun z => hc (by simp [z])) e) (fun b o _ _ hc e _ => ⟨o.slots, k b o (fun z => hc (by simp [z])) e⟩) (fun _ _ _ _ n => n)
  (fun b o hc e => ⟨o, k b o (fun z => hc (by simp [z])) e⟩) (fun _ _ e => e) (fun _ _ _ e => e) (fun b ps e => ⟨#[], by rw [e]; simp⟩) (fun m hm => ?_) (fun b u e => ?_) I.bare
 ·have e : b = it := by simpa using hb
  subst e
  exact ⟨h1, hL, h2, h3⟩
 ·obtain ⟨o, es, ep, ho, r⟩ := hm
  exact ⟨o, es, ep, k _ o (Ne.symm hL) ho, r⟩
 ·refine (I.hok b u e).stay (fun c v hc q => k c v ?_ q) (fun _ q => q) fun _ _ q => q
  rcases hc with z | z
  ·rw [z]; exact nit b u e
  ·exact nit c _ z
theorem Inv.tok (I : Inv X pins σ H s) (t : Nat) : Inv X pins σ H { s with toks := t } := I.un (h' := s.heap) (t' := t) Un.refl I.hok
theorem Inv.kept {t' : Nat} (I : Inv X pins σ H s) (k : ∀ b u, s.heap.get? b = some u -> h'.get? b = some u) : Inv X pins σ H { s with heap := h', toks := t' } := I.un (Un.kept k) (I.hok.kept k)
theorem Inv.laid {a : Addr} {o : HO} {t' : Nat} (I : Inv X pins σ H s) (k : ∀ b u, s.heap.get? b = some u -> h'.get? b = some u) (hp : s.heap.objs.size ≤ a) (new : ObjOk X.prog X.w (upd H a o) h' a o) :
  Inv X pins σ (upd H a o) { s with heap := h', toks := t' } := I.un (Un.laid k hp (I.hok.fresh hp)) (I.hok.laid k hp new)
theorem Inv.write {x e : Addr} {o : HO} {t' : Nat} (I : Inv X pins σ H s) (mu : Mut (H x)) (he : e = x \/ H e = some (.own x)) (k : ∀ b u, b ≠ e -> s.heap.get? b = some u -> h'.get? b = some u) (heo : ∃ u, h'.get? e = some u)
  (new : ObjOk X.prog X.w (upd H x o) h' x o) : Inv X pins σ (upd H x o) { s with heap := h', toks := t' } := I.un (Un.write mu he k heo) (I.hok.write mu he k heo new)
theorem Inv.weak {σ' : List (Option V)} (I : Inv X pins σ H s) (hl : σ'.length = σ.length) (w : ∀ (i : Nat) v, σ'[i]? = some (some v) -> σ[i]? = some (some v)) : Inv X pins σ' H s :=
 ⟨I.ok, I.os, I.bare, I.base, let ⟨m, hn, hl'⟩ := I.loc; ⟨m, hn, fun i x v e1 e2 e3 => hl' i x v e1 (w i v e2) e3⟩, I.cell, I.free, I.freeC, I.pin, I.hok, hl.trans I.len⟩
theorem Inv.pins_of {pins' : List (Addr × Obj)} (I : Inv X pins σ H s) (h : ∀ p ∈ pins', s.heap.get? p.1 = some p.2 /\ H p.1 = none /\ p.1 ≠ X.env.locals /\ p.1 ∉ X.fs /\ ∀ v, p.2.data ≠ .cell v) : Inv X pins' σ H s :=
 ⟨I.ok, I.os, I.bare, I.base, I.loc, I.cell, I.free, I.freeC, fun p hp => (List.mem_append.mp hp).elim (fun z => I.pin p (List.mem_append_left _ z)) (h p), I.hok, I.len⟩
theorem zeF {N : List Str} (hN : N.Nodup) {i j : Nat} {x : Str} (a : N[i]? = some x) (b : N[j]? = some x) : i = j := by
 obtain ⟨h1, e1⟩ := List.getElem?_eq_some_iff.mp a
 obtain ⟨h2, e2⟩ := List.getElem?_eq_some_iff.mp b
 exact (List.getElem_inj hN).mp (e1.trans e2.symm)
theorem zdF {M : Model} {A : Around} {E : Value -> Shared -> Prop} {i : Nat} {x : Str} {v : V} {u : Value} {Q : Unit -> Shared -> Prop} (I : Inv X pins σ H s) (hN : X.N.Nodup) (hi : X.N[i]? = some x) (hx : Loc X.env.scope x) (r : RelV v u)
  (h : ∀ s', Inv X pins (σ.set i (some v)) H s' -> (∃ a, Heap.SameBut a s.heap s'.heap /\ (a = X.env.locals \/ X.env.cells.lookup x = some a)) -> Q () s') (hf : X.fn x = true \/ X.env.scope.names.lookup x = some .local := by first | exact .inl rfl | exact .inr rfl | assumption) : wpAny M A (storeName X.env x u) Q E s := by
 obtain ⟨m, hn, hl⟩ := id I.loc
 have hcls : (X.env.scope.kind == .class || (X.env.scope.kind == .module && X.env.locals != X.env.globals)) = false := by rw [I.ok.kind]; rfl
 have hiσ : i < σ.length := by rw [I.len]; exact (List.getElem?_eq_some_iff.mp hi).1
 have cne := I.cne
 have tracked : ∀ {a : Addr} {h' : Heap}, (∃ o, s.heap.get? a = some o /\ H a = none) -> Heap.SameBut a s.heap h' -> HOk X.prog X.w H h' := fun {a h'} ha hs b ob e => by
  obtain ⟨_, _, hfree⟩ := ha
  refine (I.hok b ob e).stay (fun c w' hc q => (hs.2 c ?_).trans q) (fun _ q => q) fun _ _ q => q
  rintro rfl
  rcases hc with rfl | hc
  ·rw [hfree] at e; cases e
  ·rw [hfree] at hc; cases hc
 rcases hx with hk | hk
 ·refine wpAny_storeName_local hk hn (fun h' hn' hs => ?_) hcls
  obtain ⟨oL, _, _, hoL, _⟩ := id hn
  refine h _ ⟨I.ok, I.os, I.bare, ⟨fun b o e n hb hx => ?_, fun b o e n hb hx => ?_, I.base.free, fun b o e hx => ?_, I.base.tups, I.base.frzs, I.base.tbls⟩, ⟨_, hn', fun j y v' e1 e2 e3 => ?_⟩, fun y c e => ?_, I.free, I.freeC, fun p hp => ?_, tracked ⟨oL, hoL, I.free⟩ hs, by simpa using I.len⟩ ⟨_, hs, .inl rfl⟩
  ·exact (hs.2 b (Nat.ne_of_lt (Nat.lt_of_lt_of_le (Heap.lt_size e) I.ok.above))).trans (I.base.keep b o e n hb hx)
  ·obtain ⟨sl, e1⟩ := I.base.slot b o e n hb hx
   exact ⟨sl, (hs.2 b (Nat.ne_of_lt (Nat.lt_of_lt_of_le (Heap.lt_size e) I.ok.above))).trans e1⟩
  ·obtain ⟨o', e1⟩ := I.base.there b o e hx
   exact ⟨o', (hs.2 b (Nat.ne_of_lt (Nat.lt_of_lt_of_le (Heap.lt_size e) I.ok.above))).trans e1⟩
  ·by_cases hj : j = i
   ·subst hj
    rw [hi] at e1; cases e1
    rw [List.getElem?_set_self hiσ] at e2
    cases e2
    exact ⟨u, r, .inl ⟨hk, by simp⟩⟩
   ·rw [List.getElem?_set_ne (Ne.symm hj)] at e2
    obtain ⟨u', r', q⟩ := hl j y v' e1 e2 e3
    refine ⟨u', r', ?_⟩
    rcases q with ⟨k, e⟩ | ⟨k, c, e, z⟩
    ·refine .inl ⟨k, ?_⟩
     have : y ≠ x := fun e => hj (zeF hN e1 (e ▸ hi))
     simp [this, e]
    ·exact .inr ⟨k, c, e, z.sameBut hs (cne y c e)⟩
  ·obtain ⟨w', z⟩ := I.cell y c e
   exact ⟨w', z.sameBut hs (cne y c e)⟩
  ·obtain ⟨e, n, ne, nf, d⟩ := I.pin p hp
   exact ⟨(hs.2 p.1 ne).trans e, n, ne, nf, d⟩
 ·have hfn : X.fn x = true := by
   rcases hf with z | z
   ·exact z
   ·rw [z] at hk; cases hk
  obtain ⟨c, hc⟩ := I.ok.has x (.inl hk)
  obtain ⟨w', z⟩ := I.cell x c hc
  refine wpAny_storeName_cell I.ok.kind hk hc z (fun h' hc' hs => ?_)
  obtain ⟨oc, hoc, hocd⟩ := id z
  refine h { s with heap := h' } ⟨I.ok, I.os, I.bare, ⟨fun b o e n hb hx => ?_, fun b o e n hb hx => ?_, I.base.free, fun b o e hx => ?_, I.base.tups, I.base.frzs, I.base.tbls⟩, ⟨m, hn.sameBut hs (Ne.symm (cne x c hc)), fun j y v' e1 e2 e3 => ?_⟩, fun y c' e => ?_, I.free, I.freeC, fun p hp => ?_, tracked ⟨oc, hoc, I.freeC x c hc⟩ hs, by simpa using I.len⟩ ⟨c, hs, .inr hc⟩
  ·exact (hs.2 b (Nat.ne_of_lt (Nat.lt_of_lt_of_le (Heap.lt_size e) (I.ok.cab x c hfn hc)))).trans (I.base.keep b o e n hb hx)
  ·obtain ⟨sl, e1⟩ := I.base.slot b o e n hb hx
   exact ⟨sl, (hs.2 b (Nat.ne_of_lt (Nat.lt_of_lt_of_le (Heap.lt_size e) (I.ok.cab x c hfn hc)))).trans e1⟩
  ·obtain ⟨o', e1⟩ := I.base.there b o e hx
   exact ⟨o', (hs.2 b (Nat.ne_of_lt (Nat.lt_of_lt_of_le (Heap.lt_size e) (I.ok.cab x c hfn hc)))).trans e1⟩
  ·by_cases hj : j = i
   ·subst hj
    rw [hi] at e1; cases e1
    rw [List.getElem?_set_self hiσ] at e2
    cases e2
    exact ⟨u, r, .inr ⟨.inl hk, c, hc, hc'⟩⟩
   ·rw [List.getElem?_set_ne (Ne.symm hj)] at e2
    obtain ⟨u', r', q⟩ := hl j y v' e1 e2 e3
    refine ⟨u', r', ?_⟩
    rcases q with q | ⟨k, c', e, z'⟩
    ·exact .inl q
    ·refine .inr ⟨k, c', e, z'.sameBut hs ?_⟩
     rintro rfl
     exact hj (zeF hN e1 (I.ok.inj _ _ _ e hc ▸ hi))
  ·by_cases hcc : c' = c
   ·subst hcc; exact ⟨_, hc'⟩
   ·obtain ⟨w2, z2⟩ := I.cell y c' e
    exact ⟨w2, z2.sameBut hs hcc⟩
  ·obtain ⟨e, n, ne, nf, d⟩ := I.pin p hp
   refine ⟨(hs.2 p.1 ?_).trans e, n, ne, nf, d⟩
   intro q
   rw [q, hoc] at e
   have q' : oc = p.2 := Option.some.inj e
   exact d w' (by rw [<- q']; exact hocd)
theorem zeG {M : Model} {A : Around} {E : Value -> Shared -> Prop} {i : Nat} {x : Str} {v : V} {u : Value} {Q : Unit -> Shared -> Prop} (I : Inv X pins σ H s) (hN : X.N.Nodup) (hi : X.N[i]? = some x) (hx : Loc X.env.scope x) (r : RelV v u)
  (h : ∀ s', Inv X pins (σ.set i (some v)) H s' -> Q () s') (hf : X.fn x = true \/ X.env.scope.names.lookup x = some .local := by first | exact .inl rfl | exact .inr rfl | assumption) : wpAny M A (storeName X.env x u) Q E s :=
 zdF I hN hi hx r (fun s' I' _ => h s' I') hf
theorem Inv.call' {s' : Shared} {ch : List Addr} (I : Inv X pins σ H s) (ho : s'.os = s.os) (u : Un (frs X.stack) ch H H' s.heap s'.heap) (hok : HOk X.prog X.w H' s'.heap) (hg : AllBare s'.gens)
  (hch : ∀ b ∈ ch, (b ∈ X.ex \/ X.s₀.heap.objs.size ≤ b) /\ b ≠ X.env.locals /\ (∀ x c, X.env.cells.lookup x = some c -> c ≠ b) /\ ∀ p ∈ X.pn ++ pins, p.1 ≠ b) : Inv X pins σ H' s' := by
 obtain ⟨h', g', d', t', o'⟩ := s'
 have e : o' = s.os := ho
 subst e
 exact I.call (g' := g') (t' := t') (d' := d') u hok hg hch
end
abbrev XK := Value -> Option Addr -> Hp -> Prop
abbrev St := List (Option V)
abbrev VK := V -> Hp -> Prop
abbrev TE := St -> Hp -> VK -> Prop
abbrev TT := St -> Hp -> (Bool -> Hp -> Prop) -> Prop
abbrev TA := St -> Hp -> (List V -> Hp -> Prop) -> Prop
structure Ends where
 nx : St -> Hp -> Prop
 rt : VK
 bk : St -> Hp -> Prop := fun _ _ => False
 ct : St -> Hp -> Prop := fun _ _ => False
abbrev TS := Ends -> St -> Hp -> Prop
def EP (X : Cx) (pins : List (Addr × Obj)) (σ : St) (Q : VK) (u : Value) (s' : Shared) : Prop := ∃ v H', Inv X pins σ H' s' /\ RelV v u /\ Q v H'
def TP (X : Cx) (pins : List (Addr × Obj)) (σ : St) (Q : Bool -> Hp -> Prop) (b : Bool) (s' : Shared) : Prop := ∃ H', Inv X pins σ H' s' /\ Q b H'
def AP (X : Cx) (pins : List (Addr × Obj)) (σ : St) (Q : List V -> Hp -> Prop) (us : List Value) (s' : Shared) : Prop := ∃ vs H', Inv X pins σ H' s' /\ Vals vs us /\ Q vs H'
def SP (X : Cx) (pins : List (Addr × Obj)) (D : Ends) (f : Flow) (s' : Shared) : Prop :=
 match f with
 | .next => ∃ σ' H', Inv X pins σ' H' s' /\ D.nx σ' H'
 | .brk => ∃ σ' H', Inv X pins σ' H' s' /\ D.bk σ' H'
 | .cont => ∃ σ' H', Inv X pins σ' H' s' /\ D.ct σ' H'
 | .ret u => ∃ v σ' H', Inv X pins σ' H' s' /\ RelV v u /\ D.rt v H'
def PE (X : Cx) (e : Expr) (t : TE) : Prop :=
 ∀ (pins : List (Addr × Obj)) (s : Shared) (σ : St) (H : Hp) (Q : VK), Inv X pins σ H s -> t σ H Q -> wpAny (model X.prog X.w) X.A (eval e X.env) (EP X pins σ Q) X.xe s
def PT (X : Cx) (e : Expr) (t : TT) : Prop :=
 ∀ (pins : List (Addr × Obj)) (s : Shared) (σ : St) (H : Hp) (Q : Bool -> Hp -> Prop), Inv X pins σ H s -> t σ H Q -> wpAny (model X.prog X.w) X.A (isTrue e X.env (eval e X.env)) (TP X pins σ Q) X.xe s
def PW (X : Cx) (e : Expr) (t : TT) : Prop :=
 ∀ (whole : Sem Value) (pins : List (Addr × Obj)) (s : Shared) (σ : St) (H : Hp) (Q : Bool -> Hp -> Prop), Inv X pins σ H s -> t σ H Q -> wpAny (model X.prog X.w) X.A (isTrue e X.env whole) (TP X pins σ Q) X.xe s
theorem PW.pt {X : Cx} {e : Expr} {t : TT} (h : PW X e t) : PT X e t := h _
def PA (X : Cx) (es : List Expr) (t : TA) : Prop :=
 ∀ (pos : Pos) (pins : List (Addr × Obj)) (s : Shared) (σ : St) (H : Hp) (Q : List V -> Hp -> Prop), Inv X pins σ H s -> t σ H Q -> wpAny (model X.prog X.w) X.A (spliced (backTo pos (starEach es X.env))) (AP X pins σ Q) X.xe s
def PS (X : Cx) (st : Stmt) (t : TS) : Prop :=
 ∀ (pins : List (Addr × Obj)) (s : Shared) (σ : St) (H : Hp) (D : Ends), Inv X pins σ H s -> t D σ H -> wpAny (model X.prog X.w) X.A (exec st X.env) (SP X pins D) X.xe s
def PSs (X : Cx) (st : List Stmt) (t : TS) : Prop :=
 ∀ (pins : List (Addr × Obj)) (s : Shared) (σ : St) (H : Hp) (D : Ends), Inv X pins σ H s -> t D σ H -> wpAny (model X.prog X.w) X.A (execs st X.env) (SP X pins D) X.xe s
theorem thn {α : Type} {t : Sem α} {Q Q' : α -> Shared -> Prop} {M : Model} {A : Around} {E : Value -> Shared -> Prop} {s : Shared} (h : wpAny M A t Q E s) (hQ : ∀ a s, Q a s -> Q' a s) : wpAny M A t Q' E s := wpAny_mono h hQ fun _ _ x => x
end L2
namespace L2
open PySem PySem.Spec PyProof.Rows
section
variable {X : Cx}
theorem bin {a b : Expr} {ta tb : TE} (ha : PE X a ta) (hb : PE X b tb) {pins : List (Addr × Obj)} {s : Shared} {σ : St} {H : Hp} {R : V -> V -> Hp -> Prop} (I : Inv X pins σ H s) (h : ta σ H fun x H1 => tb σ H1 fun y H2 => R x y H2)
  {α : Type} {Q : α -> Shared -> Prop} {f : Value -> Value -> Sem α}
  (hf : ∀ v u s2 x y H2, Inv X pins σ H2 s2 -> RelV x v -> RelV y u -> R x y H2 -> wpAny (model X.prog X.w) X.A (f v u) Q X.xe s2) :
  wpAny (model X.prog X.w) X.A (eval a X.env) (fun v s₁ => wpAny (model X.prog X.w) X.A (eval b X.env) (fun u s₂ => wpAny (model X.prog X.w) X.A (f v u) Q X.xe s₂) X.xe s₁) X.xe s := by
 refine thn (ha pins s σ H _ I h) fun v s1 ⟨x, H1, I1, r1, q1⟩ => ?_
 refine thn (hb pins s1 σ H1 _ I1 q1) fun u s2 ⟨y, H2, I2, r2, q2⟩ => ?_
 exact hf v u s2 x y H2 I2 r1 r2 q2
def tVar (i : Nat) : TE := fun σ H Q => ∃ v, σ[i]? = some (some v) /\ Q v H
def tC (v : V) : TE := fun _ H Q => Q v H
theorem zjB {i : Nat} {x : Str} {pos : Pos} (hN : X.N[i]? = some x) (hv : Vis X.env.scope x) (hd : (x == ("__debug__" : Str)) = false := by decide) (hcd : (x == ("__classdict__" : Str)) = false := by decide) : PE X (.Name x pos) (tVar i) := by
 intro pins s σ H Q I h
 obtain ⟨v, e, h⟩ := h
 obtain ⟨m, hn, hl⟩ := I.loc
 obtain ⟨u, r, l⟩ := hl i x v hN e hv
 have fin : EP X pins σ Q u s := ⟨v, H, I, r, h⟩
 rcases l with ⟨hk, hm⟩ | ⟨hk, c, hc, hcell⟩
 ·exact wpAny_Name (wpAny_loadName_local I.ok.kind hk hn hm fin) hd
 ·rcases hk with hk | hk
  ·exact wpAny_Name (wpAny_loadName_cell I.ok.kind hk hc hcell fin) hd
  ·exact wpAny_Name (wpAny_loadName_free I.ok.kind hk hc hcell fin hcd) hd
theorem zad {i j pos} : PE X (.Constant (.int i) j pos) (tC (.int i)) := fun _ _ _ H _ I h => wpAny_Constant_int ⟨.int i, H, I.tok _, ⟨_, rfl⟩, h⟩
theorem zdo {b j pos} : PE X (.Constant (.bool b) j pos) (tC (.bl b)) := fun _ _ _ H _ I h => Constant_bool ⟨.bl b, H, I, rfl, h⟩
theorem zc3 {j pos} : PE X (.Constant .none j pos) (tC .non) := fun _ _ _ H _ I h => Constant_none ⟨.non, H, I, rfl, h⟩
theorem zao {x j pos} : PE X (.Constant (.str x) j pos) (tC (.str x)) := fun _ _ _ H _ I h => Calls.Constant_str ⟨.str x, H, I.tok _, ⟨_, rfl⟩, h⟩
def Gl (X : Cx) (x : Str) : Prop := X.env.kindOf x = some .globalImplicit
theorem zes {E : Value -> Shared -> Prop} {pins : List (Addr × Obj)} {s : Shared} {σ : St} {H : Hp} {x : Str} {u : Value} {pos : Pos} {Q : Value -> Shared -> Prop} (I : Inv X pins σ H s) (hg : Gl X x) (hm : X.mg x = some u) (h : Q u s)
  (hd : (x == ("__debug__" : Str)) = false := by decide) : wpAny (model X.prog X.w) X.A (eval (.Name x pos) X.env) Q E s :=
 Calls.Name_function_global I.ok.kind hg (Calls.loadGlobal_global (by rw [I.ok.glob]; exact I.mod.glob.keeps I.bk) hm h) hd
theorem zcZ {E : Value -> Shared -> Prop} {pins : List (Addr × Obj)} {s : Shared} {σ : St} {H : Hp} {x : Str} {u : Value} {pos : Pos} {Q : Value -> Shared -> Prop} (I : Inv X pins σ H s) (hg : Gl X x) (hm : X.mg x = none) (hv : bootBuiltins x = some u) (h : Q u s)
  (hn : x ≠ "__name__" := by decide) (hd : (x == ("__debug__" : Str)) = false := by decide) : wpAny (model X.prog X.w) X.A (eval (.Name x pos) X.env) Q E s := by
 obtain ⟨mb, h1, h2⟩ := I.mod.blt
 exact Calls.Name_function_global I.ok.kind hg (Calls.loadGlobal_builtin (by rw [I.ok.glob]; exact I.mod.glob.keeps I.bk) hm (by rw [I.ok.blt]; exact h1.keeps I.bk) ((h2 x hn).trans hv) h) hd
theorem zbJ {x : Str} {v : V} {u : Value} {pos : Pos} (hg : Gl X x) (hm : X.mg x = some u) (r : RelV v u) (hd : (x == ("__debug__" : Str)) = false := by decide) : PE X (.Name x pos) (tC v) :=
 fun _ _ _ H _ I h => zes I hg hm ⟨v, H, I, r, h⟩ hd
theorem zch {x : Str} {v : V} {u : Value} {pos : Pos} (hg : Gl X x) (hm : X.mg x = none) (hv : bootBuiltins x = some u) (r : RelV v u) (hn : x ≠ "__name__" := by decide) (hd : (x == ("__debug__" : Str)) = false := by decide) : PE X (.Name x pos) (tC v) :=
 fun _ _ _ H _ I h => zcZ I hg hm hv ⟨v, H, I, r, h⟩ hn hd
variable {a b : Expr} {ta tb : TE} {pos : Pos}
def PC (X : Cx) (op : CmpOp) (a b : Expr) (t : TE) : Prop :=
 ∀ (pins : List (Addr × Obj)) (s : Shared) (σ : St) (H : Hp) (Q : VK), Inv X pins σ H s -> t σ H Q ->
  wpAny (model X.prog X.w) X.A (eval a X.env) (fun v s₁ => wpAny (model X.prog X.w) X.A (eval b X.env) (fun u s₂ => wpAny (model X.prog X.w) X.A (compareOp op v u) (EP X pins σ Q) X.xe s₂) X.xe s₁) X.xe s
theorem zeH (b : Expr) {op : CmpOp} (h : op ≠ .In) (h2 : op ≠ .NotIn) : behindInMarks op b = false := by
 have e1 : (op == CmpOp.In) = false := by cases op <;> first | rfl | exact absurd rfl h
 have e2 : (op == CmpOp.NotIn) = false := by cases op <;> first | rfl | exact absurd rfl h2
 cases b <;> simp [behindInMarks, e1, e2]
def tIsN (ta : TE) : TE := fun σ H Q => ta σ H fun x H1 => Q (.bl (decide (x = .non))) H1
theorem RelV.none_iff {x : V} {v : Value} (r : RelV x v) : (v == Value.none) = decide (x = .non) := by
 cases x with
 | non => cases r; rfl
 | bl _ => cases r; rfl
 | int _ => obtain ⟨t, rfl⟩ := r; rfl
 | str _ => obtain ⟨t, rfl⟩ := r; rfl
 | byt _ => obtain ⟨t, rfl⟩ := r; rfl
 | flt _ => obtain ⟨t, rfl⟩ := r; rfl
 | ref _ => cases r; rfl
 | ty _ => cases r; rfl
theorem zfG {j pos'} (ha : PE X a ta) : PC X .Is a (.Constant .none j pos') (tIsN ta) := by
 intro pins s σ H Q I h
 refine thn (ha pins s σ H _ I h) fun v s1 ⟨x, H1, I1, r1, q1⟩ => ?_
 exact Constant_none (is_none_gen ⟨.bl _, H1, I1, by rw [r1.none_iff]; rfl, q1⟩)
def tB (t : TE) : TT := fun σ H Q => t σ H fun x H1 => ∃ c, x = .bl c /\ Q c H1
theorem zjC {op : CmpOp} {t : TE} (h : PC X op a b t) (h1 : behindInMarks op b = false := by first | exact zeH _ (by decide) (by decide) | rfl) : PE X (.Compare a [op] [b] pos) t := fun pins s σ H Q I hw => wpAny_Compare1 (h pins s σ H Q I hw) h1
theorem zhX {op : CmpOp} {t : TE} (h : PC X op a b t) (h1 : behindInMarks op b = false := by first | exact zeH _ (by decide) (by decide) | rfl) : PT X (.Compare a [op] [b] pos) (tB t) := by
 intro pins s σ H Q I hw
 refine wpAny_isTrue_Compare1 (thn (h pins s σ H _ I hw) fun v s1 h1 => thn h1 fun u s2 h2 => thn h2 fun c s3 ⟨x, H1, I1, r1, q1⟩ => ?_) h1
 obtain ⟨d, rfl, q⟩ := q1
 cases r1
 exact wpAny_truthy_bool ⟨H1, I1, q⟩
theorem zbG {e : Expr} {t : TE} (h : PE X e t) (he : ∀ whole, isTrue e X.env whole = (do let v <- whole; standAt e.pos; holding [v] (truthy v)) := by intro _; rfl) : PT X e (tB t) := by
 intro pins s σ H Q I hw
 refine isTrue_plain (thn (h pins s σ H _ I hw) fun v s1 ⟨x, H1, I1, r1, q1⟩ => ?_) (he _)
 obtain ⟨d, rfl, q⟩ := q1
 cases r1
 exact wpAny_truthy_bool ⟨H1, I1, q⟩
variable {tA tB' : TT} {rest : List Expr}
def tAnd (t u : TT) : TT := fun σ H Q => t σ H fun c H1 => if c = true then u σ H1 Q else Q false H1
def tOr (t u : TT) : TT := fun σ H Q => t σ H fun c H1 => if c = true then Q true H1 else u σ H1 Q
def tNot (t : TT) : TT := fun σ H Q => t σ H fun c H1 => Q (!c) H1
theorem zet (ha : PT X a tA) : PW X (.BoolOp .And [a] pos) tA := by
 intro wh pins s σ H Q I h
 refine isTrue_and (thn (ha pins s σ H Q I h) fun c s1 e => ?_)
 cases c with
 | true => exact isTrue_and_nil e
 | false => exact e
theorem zc4 (ha : PT X a tA) : PW X (.BoolOp .Or [a] pos) tA := by
 intro wh pins s σ H Q I h
 refine isTrue_or (thn (ha pins s σ H Q I h) fun c s1 e => ?_)
 cases c with
 | false => exact isTrue_or_nil e
 | true => exact e
theorem zfH (ha : PT X a tA) (hb : PW X (.BoolOp .And (b :: rest) pos) tB') : PW X (.BoolOp .And (a :: b :: rest) pos) (tAnd tA tB') := by
 intro wh pins s σ H Q I h
 refine isTrue_and (thn (ha pins s σ H _ I h) fun c s1 ⟨H1, I1, q1⟩ => ?_)
 cases c with
 | true => exact hb wh pins s1 σ H1 Q I1 q1
 | false => exact ⟨H1, I1, q1⟩
theorem zcR (ha : PT X a tA) (hb : PW X (.BoolOp .Or (b :: rest) pos) tB') : PW X (.BoolOp .Or (a :: b :: rest) pos) (tOr tA tB') := by
 intro wh pins s σ H Q I h
 refine isTrue_or (thn (ha pins s σ H _ I h) fun c s1 ⟨H1, I1, q1⟩ => ?_)
 cases c with
 | true => exact ⟨H1, I1, q1⟩
 | false => exact hb wh pins s1 σ H1 Q I1 q1
theorem zda (ha : PT X a tA) : PT X (.UnaryOp .Not a pos) (tNot tA) := by
 intro pins s σ H Q I h
 exact isTrue_not (ha pins s σ H (fun c H1 => Q (!c) H1) I h)
def zjD (ta tb : TE) : TE := fun σ H Q => ta σ H fun x H1 => ∃ c, x = .bl c /\ if c = true then tb σ H1 Q else Q (.bl false) H1
def tOrV (ta tb : TE) : TE := fun σ H Q => ta σ H fun x H1 => ∃ c, x = .bl c /\ if c = true then Q (.bl true) H1 else tb σ H1 Q
def zjE (ta : TE) : TE := fun σ H Q => ta σ H fun x H1 => ∃ c, x = .bl c /\ Q (.bl (!c)) H1
theorem zb0 {op} {t : TE} (h : PE X a t) : PE X (.BoolOp op [a] pos) t := fun pins s σ H Q I hw => BoolOp_one (h pins s σ H Q I hw)
theorem zbh (ha : PE X a ta) (hb : PE X (.BoolOp .And (b :: rest) pos) tb) : PE X (.BoolOp .And (a :: b :: rest) pos) (zjD ta tb) := by
 intro pins s σ H Q I h
 refine BoolOp_and (thn (ha pins s σ H _ I h) fun v s1 ⟨x, H1, I1, r1, q1⟩ => ?_)
 obtain ⟨c, rfl, q1⟩ := q1
 cases r1
 refine wpAny_truthy_bool ?_
 cases c with
 | true => exact hb pins s1 σ H1 Q I1 q1
 | false => exact ⟨.bl false, H1, I1, rfl, q1⟩
theorem zlu (ha : PE X a ta) (hb : PE X (.BoolOp .Or (b :: rest) pos) tb) : PE X (.BoolOp .Or (a :: b :: rest) pos) (tOrV ta tb) := by
 intro pins s σ H Q I h
 refine BoolOp_or (thn (ha pins s σ H _ I h) fun v s1 ⟨x, H1, I1, r1, q1⟩ => ?_)
 obtain ⟨c, rfl, q1⟩ := q1
 cases r1
 refine wpAny_truthy_bool ?_
 cases c with
 | false => exact hb pins s1 σ H1 Q I1 q1
 | true => exact ⟨.bl true, H1, I1, rfl, q1⟩
theorem zjF (ha : PE X a ta) : PE X (.UnaryOp .Not a pos) (zjE ta) := by
 intro pins s σ H Q I h
 refine UnaryOp_ (thn (ha pins s σ H _ I h) fun v s1 ⟨x, H1, I1, r1, q1⟩ => ?_)
 obtain ⟨c, rfl, q1⟩ := q1
 cases r1
 exact not_of (wpAny_truthy_bool ⟨.bl (!c), H1, I1, rfl, q1⟩)
def tIf (t : TT) (ta tb : TE) : TE := fun σ H Q => t σ H fun c H1 => if c = true then ta σ H1 Q else tb σ H1 Q
theorem zbU {c : Expr} (hc : PT X c tA) (ha : PE X a ta) (hb : PE X b tb) : PE X (.IfExp c a b pos) (tIf tA ta tb) := by
 intro pins s σ H Q I h
 refine wpAny_IfExp (thn (hc pins s σ H _ I h) fun d s1 ⟨H1, I1, q1⟩ => ?_)
 cases d with
 | true => exact ha pins s1 σ H1 Q I1 q1
 | false => exact hb pins s1 σ H1 Q I1 q1
end
end L2
namespace L2
open PySem PySem.Spec PyProof.Rows
def SqL (K : W.Frag) (H : Hp) (a : Addr) (xs : List V) : Prop :=
 Rd H a (.lst xs) \/
  ∃ (o : Obj) (its : Array Value) (n : Nat), K.lookup a = some o /\ o.cls = .type "list" /\ o.dict = none /\ o.data = .seq its n /\ its.size ≤ sizeLine /\ Vals xs its.toList
def SqT (K : W.Frag) (H : Hp) (a : Addr) (xs : List V) : Prop :=
 Rd H a (.tup xs) \/
  ∃ (o : Obj) (its : Array Value) (n : Nat), K.lookup a = some o /\ o.cls = .type "tuple" /\ o.data = .seq its n /\ its.size ≤ sizeLine /\ Vals xs its.toList
def absV : Value -> Option V
 | .none => some .non
 | .bool b => some (.bl b)
 | .int i _ => some (.int i)
 | .str x _ => some (.str x)
 | .bytes b _ => some (.byt b)
 | .float b _ => some (.flt b)
 | .ref a => some (.ref a)
 | .type n => some (.ty n)
 | _ => none
theorem RelV.abs {x : V} {u : Value} (r : RelV x u) : absV u = some x := by
 cases x with
 | non => cases r; rfl
 | bl _ => cases r; rfl
 | int _ => obtain ⟨t, rfl⟩ := r; rfl
 | str _ => obtain ⟨t, rfl⟩ := r; rfl
 | byt _ => obtain ⟨t, rfl⟩ := r; rfl
 | flt _ => obtain ⟨t, rfl⟩ := r; rfl
 | ref _ => cases r; rfl
 | ty _ => cases r; rfl
theorem RelV.inj {x y : V} {u : Value} (r : RelV x u) (q : RelV y u) : x = y := Option.some.inj (r.abs.symm.trans q.abs)
theorem Vals.inj : ∀ {xs ys : List V} {us : List Value}, Vals xs us -> Vals ys us -> xs = ys
 | _, _, _, .nil, .nil => rfl
 | _, _, _, .cons r t, .cons r' t' => by rw [r.inj r', Vals.inj t t']
section
variable {X : Cx} {pins : List (Addr × Obj)} {σ : St} {H : Hp} {s : Shared} {a : Addr} {xs ys : List V}
theorem SqL.of {K : W.Frag} (h : H a = some (.lst xs)) : SqL K H a xs := .inl (.inl h)
theorem SqT.of {K : W.Frag} (h : H a = some (.tup xs)) : SqT K H a xs := .inl (.inl h)
theorem Inv.list (I : Inv X pins σ H s) (h : SqL X.K H a xs) : ∃ its : List Value, Vals xs its /\ PlainL s.heap a its.toArray /\ xs.length ≤ sizeLine := by
 rcases h with h | ⟨o, its, n, hk, hc, hd, hs, hz, r⟩
 ·obtain ⟨z, its, n, r, e⟩ := h.ok I.hok
  exact ⟨its, r, ⟨_, n, e, rfl, rfl, rfl⟩, z⟩
 ·refine ⟨its.toList, r, ⟨o, n, I.kIn a o hk, hc, hd, by simpa using hs⟩, ?_⟩
  have e := r.length
  simp only [Array.length_toList] at e
  omega
theorem Inv.tuple (I : Inv X pins σ H s) (h : SqT X.K H a xs) : ∃ its : List Value, Vals xs its /\ IsTup s.heap a its.toArray /\ xs.length ≤ sizeLine := by
 rcases h with h | ⟨o, its, n, hk, hc, hs, hz, r⟩
 ·obtain ⟨z, its, r, p⟩ := h.ok I.hok
  exact ⟨its, r, p, z⟩
 ·refine ⟨its.toList, r, ⟨o, I.kIn a o hk, hc, n, by simpa using hs⟩, ?_⟩
  have e := r.length
  simp only [Array.length_toList] at e
  omega
theorem Inv.list_inj (I : Inv X pins σ H s) (h : SqL X.K H a xs) (h' : SqL X.K H a ys) : xs = ys := by
 obtain ⟨its, r, ⟨o, n, e, _, _, d⟩, _⟩ := I.list h
 obtain ⟨its', r', ⟨o', n', e', _, _, d'⟩, _⟩ := I.list h'
 rw [e] at e'; cases e'
 rw [d] at d'
 injection d' with d1 _
 have : its = its' := by simpa using congrArg Array.toList d1
 subst this
 exact r.inj r'
theorem Inv.tuple_inj (I : Inv X pins σ H s) (h : SqT X.K H a xs) (h' : SqT X.K H a ys) : xs = ys := by
 obtain ⟨its, r, ⟨o, e, _, n, d⟩, _⟩ := I.tuple h
 obtain ⟨its', r', ⟨o', e', _, n', d'⟩, _⟩ := I.tuple h'
 rw [e] at e'; cases e'
 rw [d] at d'
 injection d' with d1 _
 have : its = its' := by simpa using congrArg Array.toList d1
 subst this
 exact r.inj r'
end
abbrev Cx.wish (X : Cx) (E : Value -> Shared -> Prop) : Cx := { X with xe := E }
abbrev Cx.nox (X : Cx) : Cx := X.wish fun _ _ => False
theorem Cx.Ok.wish {X : Cx} (ok : X.Ok) (E : Value -> Shared -> Prop) : (X.wish E).Ok :=
 ⟨ok.mod, ok.kind, ok.glob, ok.blt, ok.above, ok.inj, ok.has, ok.cab, ok.hd, ok.frames, ok.stk, ok.exf, ok.bs, ok.bsz, ok.noex, ok.exfs, ok.funs, ok.frf⟩
theorem Cx.Ok.unwish {X : Cx} {E : Value -> Shared -> Prop} (ok : (X.wish E).Ok) : X.Ok :=
 ⟨ok.mod, ok.kind, ok.glob, ok.blt, ok.above, ok.inj, ok.has, ok.cab, ok.hd, ok.frames, ok.stk, ok.exf, ok.bs, ok.bsz, ok.noex, ok.exfs, ok.funs, ok.frf⟩
section
variable {X : Cx} {pins : List (Addr × Obj)} {σ : St} {H : Hp} {s : Shared} {E : Value -> Shared -> Prop}
theorem Inv.wish (I : Inv X pins σ H s) (E : Value -> Shared -> Prop) : Inv (X.wish E) pins σ H s := ⟨I.ok.wish E, I.os, I.bare, I.base, I.loc, I.cell, I.free, I.freeC, I.pin, I.hok, I.len⟩
theorem Inv.unwish (I : Inv (X.wish E) pins σ H s) : Inv X pins σ H s := ⟨I.ok.unwish, I.os, I.bare, I.base, I.loc, I.cell, I.free, I.freeC, I.pin, I.hok, I.len⟩
theorem SP.unwish {D : Ends} {f : Flow} {s' : Shared} (h : SP (X.wish E) pins D f s') : SP X pins D f s' := by
 cases f with
 | next => obtain ⟨σ', H', I, q⟩ := h; exact ⟨σ', H', I.unwish, q⟩
 | brk => obtain ⟨σ', H', I, q⟩ := h; exact ⟨σ', H', I.unwish, q⟩
 | cont => obtain ⟨σ', H', I, q⟩ := h; exact ⟨σ', H', I.unwish, q⟩
 | ret u => obtain ⟨v, σ', H', I, r, q⟩ := h; exact ⟨v, σ', H', I.unwish, r, q⟩
theorem PSs.nox {st : List Stmt} {t : TS} (h : PSs X.nox st t) : PSs X st t := fun pins s σ H D I hw =>
 wpAny_mono (h pins s σ H D (I.wish _) hw) (fun _ _ q => q.unwish) fun _ _ z => False.elim z
end
section
variable {X : Cx} {st : Stmt} {rest : List Stmt} {t u : TS} {e : Expr} {te : TE} {pos : Pos}
def zgZ : TS := fun D σ H => D.nx σ H
def tSeq (t u : TS) : TS := fun D σ H => t { D with nx := u D } σ H
theorem zau : PSs X [] zgZ := fun _ _ σ H _ I h => wpAny_execs_nil ⟨σ, H, I, h⟩
theorem zaf (h1 : PS X st t) (h2 : PSs X rest u) : PSs X (st :: rest) (tSeq t u) := by
 intro pins s σ H D I h
 refine wpAny_execs_cons (thn (h1 pins s σ H { D with nx := u D } I h) fun f s1 q => ?_)
 cases f with
 | next =>
  obtain ⟨σ', H', I', q⟩ := q
  exact h2 pins s1 σ' H' D I' q
 | ret v => exact q
 | brk => exact q
 | cont => exact q
theorem zai (h1 : PS X st t) : PSs X [st] t := by
 intro pins s σ H D I h
 refine wpAny_execs_cons (thn (h1 pins s σ H D I h) fun f s1 q => ?_)
 cases f with
 | next => exact wpAny_execs_nil q
 | ret v => exact q
 | brk => exact q
 | cont => exact q
def zhY : TS := fun D σ H => D.bk σ H
theorem zha : PS X (.Break pos) zhY := fun _ _ σ H _ I h => wpAny_Break ⟨σ, H, I, h⟩
theorem Inv.quiet {pins : List (Addr × Obj)} {σ : St} {H : Hp} {s : Shared} (I : Inv X pins σ H s) : interactive X.env = false := by simp [interactive, I.ok.kind]
def zjG (te : TE) : TS := fun D σ H => te σ H fun _ H1 => D.nx σ H1
theorem zc5 (he : PE X e te) (hs : swapsWith e none pos.line X.env = pure false := by rfl) : PS X (.Expr e pos) (zjG te) := by
 intro pins s σ H D I h
 exact wpAny_Expr_any (thn (he pins s σ H _ I h) fun v s1 ⟨x, H1, I1, r1, q1⟩ => ⟨σ, H1, I1, q1⟩) I.quiet hs
def tRet (te : TE) : TS := fun D σ H => te σ H D.rt
theorem zas (he : PE X e te) : PS X (.Return (some e) pos) (tRet te) := by
 intro pins s σ H D I h
 exact wpAny_Return_some (thn (he pins s σ H _ I h) fun v s1 ⟨x, H1, I1, r1, q1⟩ => ⟨x, σ, H1, I1, r1, q1⟩)
def tIfS (c : TT) (t u : TS) : TS := fun D σ H => c σ H fun b H1 => if b = true then t D σ H1 else u D σ H1
theorem zaH {c : Expr} {a b : List Stmt} {tc : TT} (hc : PT X c tc) (ha : PSs X a t) (hb : PSs X b u) : PS X (.If c a b pos) (tIfS tc t u) := by
 intro pins s σ H D I h
 refine wpAny_If (thn (hc pins s σ H _ I h) fun d s1 ⟨H1, I1, q1⟩ => ?_)
 cases d with
 | true => exact ha pins s1 σ H1 D I1 q1
 | false => exact hb pins s1 σ H1 D I1 q1
def zjH : TS := fun _ _ _ => False
theorem zc1 : PS X st zjH := fun _ _ _ _ _ _ h => h.elim
end
abbrev TG := V -> St -> Hp -> (St -> Hp -> Prop) -> Prop
abbrev TGs := List V -> St -> Hp -> (St -> Hp -> Prop) -> Prop
def PG (X : Cx) (target : Expr) (t : TG) : Prop :=
 ∀ (pins : List (Addr × Obj)) (s : Shared) (σ : St) (H : Hp) (v : V) (u : Value) (Q : St -> Hp -> Prop), Inv X pins σ H s -> RelV v u -> t v σ H Q ->
  wpAny (model X.prog X.w) X.A (assign target X.env u) (fun _ s' => ∃ σ' H', Inv X pins σ' H' s' /\ Q σ' H') X.xe s
def PGs (X : Cx) (ts : List Expr) (t : TGs) : Prop :=
 ∀ (pins : List (Addr × Obj)) (s : Shared) (σ : St) (H : Hp) (vs : List V) (us : List Value) (Q : St -> Hp -> Prop), Inv X pins σ H s -> Vals vs us -> t vs σ H Q ->
  wpAny (model X.prog X.w) X.A (assignInOrder ((assignEach ts X.env).map (·.2)) us) (fun _ s' => ∃ σ' H', Inv X pins σ' H' s' /\ Q σ' H') X.xe s
abbrev TSet := V -> V -> V -> Hp -> (Hp -> Prop) -> Prop
def PSet (X : Cx) (t : TSet) : Prop :=
 ∀ (pins : List (Addr × Obj)) (s : Shared) (σ : St) (H : Hp) (o i v : V) (ov iv u : Value) (Q : Hp -> Prop), Inv X pins σ H s -> RelV o ov -> RelV i iv -> RelV v u -> t o i v H Q ->
  wpAny (model X.prog X.w) X.A (setItem ov iv u) (fun _ s' => ∃ H', Inv X pins σ H' s' /\ Q H') X.xe s
abbrev TIp := V -> V -> Hp -> VK -> Prop
section
variable {X : Cx} {pos : Pos}
def zcS (i : Nat) : TG := fun v σ H Q => Q (σ.set i (some v)) H
theorem zbc {i : Nat} {x : Str} (hN : X.N.Nodup) (hi : X.N[i]? = some x) (hx : Loc X.env.scope x) (hf : X.fn x = true \/ X.env.scope.names.lookup x = some .local := by first | exact .inl rfl | exact .inr rfl | assumption) : PG X (.Name x pos) (zcS i) := by
 intro pins s σ H v u Q I r h
 exact wpAny_assign_Name (zeG I hN hi hx r (fun s' I' => ⟨_, H, I', h⟩) hf)
def gNil : TGs := fun vs σ H Q => vs = [] /\ Q σ H
def zfh (t : TG) (u : TGs) : TGs := fun vs σ H Q => ∃ v r, vs = v :: r /\ t v σ H fun σ' H' => u r σ' H' Q
theorem zfI : PGs X [] gNil := by
 intro pins s σ H vs us Q I r h
 obtain ⟨e, h⟩ := h
 subst e
 cases r
 exact assignInOrder_nil ⟨σ, H, I, h⟩
theorem zc2 {e : Expr} {es : List Expr} {t : TG} {u : TGs} (h1 : PG X e t) (h2 : PGs X es u)
  (hs : (assignEach (e :: es) X.env).map (·.2) = assign e X.env :: (assignEach es X.env).map (·.2) := by rfl) : PGs X (e :: es) (zfh t u) := by
 intro pins s σ H vs us Q I r h
 obtain ⟨v, vr, e1, h⟩ := h
 subst e1
 cases r with
 | cons r rr =>
  rw [hs]
  refine assignInOrder_cons (thn (h1 pins s σ H _ _ _ I r h) fun _ s1 ⟨σ1, H1, I1, q1⟩ => ?_)
  exact h2 pins s1 σ1 H1 _ _ Q I1 rr q1
def gTup (K : W.Frag) (n : Nat) (t : TGs) : TG := fun v σ H Q => ∃ a xs, v = .ref a /\ SqT K H a xs /\ xs.length = n /\ t xs σ H Q
theorem zhZ {es : List Expr} {k : Nat} {t : TGs} {n : Nat} (hc : X.calm = true) (h : PGs X es t)
  (hn : (assignEach es X.env).length = n := by rfl) (hst : (assignEach es X.env).findIdx? (·.1) = none := by rfl) : PG X (.Tuple es k pos) (gTup X.K n t) := by
 intro pins s σ H v u Q I r hw
 obtain ⟨a, xs, e1, hq, hl, hw⟩ := hw
 subst e1
 cases r
 obtain ⟨its, rv, ht, hz⟩ := I.tuple hq
 refine assign_Tuple_tuple (I.ok.hd hc) ht (by simp [hn, <- hl, rv.length]) hst fun h' hx => ?_
 have I1 : Inv X pins σ H { s with heap := h' } := I.kept (t' := s.toks) fun b o e => hx b o (Nat.ne_of_lt (Heap.lt_size e)) e
 exact h pins _ σ H xs _ Q I1 (by simpa using rv) hw
def gSub (to ti : TE) (t : TSet) : TG := fun v σ H Q => to σ H fun o H1 => ti σ H1 fun i H2 => t o i v H2 fun H3 => Q σ H3
theorem zjI {o i : Expr} {to ti : TE} {t : TSet} (ho : PE X o to) (hi : PE X i ti) (hs : PSet X t)
  (ha : ∀ v, assign (.Subscript o i pos) X.env v = (do
   let ov <- holding [v] (eval o X.env)
   let iv <- holding [v, ov] (eval i X.env)
   standAt pos
   holding [v, ov, iv] (setItem ov iv v)
   release [v, ov, iv] []) := by intro _; rfl) : PG X (.Subscript o i pos) (gSub to ti t) := by
 intro pins s σ H v u Q I r h
 rw [ha]
 refine wpAny_bind (wpAny_holding (thn (ho pins s σ H _ I h) fun ov s1 ⟨x, H1, I1, r1, q1⟩ => ?_))
 refine wpAny_bind (wpAny_holding (thn (hi pins s1 σ H1 _ I1 q1) fun iv s2 ⟨y, H2, I2, r2, q2⟩ => ?_))
 refine wpAny_bind (wpAny_standAt (wpAny_bind (wpAny_holding (thn (hs pins s2 σ H2 x y v ov iv u _ I2 r1 r2 r q2) fun _ s3 ⟨H3, I3, q3⟩ => ?_))))
 exact wpAny_release ⟨σ, H3, I3, q3⟩
def tAsg (te : TE) (g : TG) : TS := fun D σ H => te σ H fun x H1 => g x σ H1 D.nx
theorem zjJ {tg e : Expr} {te : TE} {g : TG} (he : PE X e te) (hg : PG X tg g) (hs : swapsWithSole [tg] e pos.line X.env = pure false := by rfl) (hw : swappedStores [tg] e X.env = pure none := by rfl)
  (h1 : (assignEach [tg] X.env).map (·.2) = [assign tg X.env] := by rfl) : PS X (.Assign [tg] e pos) (tAsg te g) := by
 intro pins s σ H D I h
 refine wpAny_Assign_stores (thn (he pins s σ H _ I h) fun v s1 ⟨x, H1, I1, r1, q1⟩ => ?_) hs hw
 rw [h1]
 exact thn (hg pins s1 σ H1 x v _ I1 r1 q1) fun _ s2 q => q
theorem zat {i : Nat} {x : Str} {e : Expr} {te : TE} {pos' : Pos} (hN : X.N.Nodup) (hi : X.N[i]? = some x) (hx : Loc X.env.scope x) (he : PE X e te) (hs : swapsWith e (some (.Name x pos')) pos.line X.env = pure false := by rfl) (hf : X.fn x = true \/ X.env.scope.names.lookup x = some .local := by first | exact .inl rfl | exact .inr rfl | assumption) :
  PS X (.Assign [.Name x pos'] e pos) (tAsg te (zcS i)) := by
 intro pins s σ H D I h
 refine wpAny_Assign_Name (thn (he pins s σ H _ I h) fun v s1 ⟨y, H1, I1, r1, q1⟩ => ?_) hs
 exact zeG I1 hN hi hx r1 (fun s2 I2 => ⟨_, H1, I2, q1⟩) hf
def ipI (f : Int -> Int -> Int) : TIp := fun x y H Q => ∃ i j, x = .int i /\ y = .int j /\ Q (.int (f i j)) H
end
section
variable {X : Cx} {pos : Pos}
def zia (c : TT) (tb : TS) : TS := fun D σ H => ∃ W : Nat -> St -> Hp -> Prop, (∃ m, W m σ H) /\ ∀ m σ H, W m σ H ->
 c σ H fun b H1 => if b = true then ∃ N : St -> Hp -> Prop, (∀ σ' H', N σ' H' -> ∃ m', m' < m /\ W m' σ' H') /\ tb { D with nx := N, ct := N, bk := D.nx } σ H1 else D.nx σ H1
theorem zhb {c : Expr} {body : List Stmt} {tc : TT} {tb : TS} (hp : PassesOwn (model X.prog X.w) X.A X.env X.xe) (hc : PT X c tc) (hb : PSs X body tb) : PS X (.While c body [] pos) (zia tc tb) := by
 intro pins s σ H D I h
 obtain ⟨W, ⟨m0, w0⟩, turn⟩ := h
 refine wpAny_While (codeAny_whileLoop (fun n s' => ∃ σ' H', Inv X pins σ' H' s' /\ W n σ' H') ?_ m0 ⟨σ, H, I, w0⟩)
 rintro n s1 ⟨σ1, H1, I1, w1⟩
 refine wpAny_passesOwn hp (thn (hc pins s1 σ1 H1 _ I1 (turn n σ1 H1 w1)) fun b s2 ⟨H2, I2, q2⟩ => ?_)
 cases b with
 | true =>
  obtain ⟨N, hN, q2⟩ := q2
  rw [if_pos rfl]
  refine wpAny_passesOwn hp (thn (hb pins s2 σ1 H2 _ I2 q2) fun f s3 q3 => ?_)
  cases f with
  | next =>
   obtain ⟨σ3, H3, I3, n3⟩ := q3
   obtain ⟨m', hm, w3⟩ := hN σ3 H3 n3
   exact ⟨m', hm, σ3, H3, I3, w3⟩
  | cont =>
   obtain ⟨σ3, H3, I3, n3⟩ := q3
   obtain ⟨m', hm, w3⟩ := hN σ3 H3 n3
   exact ⟨m', hm, σ3, H3, I3, w3⟩
  | brk => exact q3
  | ret v => exact q3
 | false =>
  rw [if_neg Bool.false_ne_true]
  exact wpAny_execs_nil ⟨σ1, H2, I2, q2⟩
end
structure It where
 go : Nat -> Hp -> Prop
 yld : Nat -> Hp -> V -> Hp -> Prop
 stop : Nat -> Hp -> Prop
def FpOk (X : Cx) (pins : List (Addr × Obj)) (H : Hp) (b : Addr) : Prop :=
 H b = none /\ b ≠ X.env.locals /\ b ∉ X.fs /\ (b ∈ X.ex \/ X.s₀.heap.objs.size ≤ b) /\ (∀ x c, X.env.cells.lookup x = some c -> c ≠ b) /\ ∀ p ∈ X.pn ++ pins, p.1 ≠ b
theorem Inv.fpOk {X : Cx} {pins : List (Addr × Obj)} {σ : St} {H H' : Hp} {s : Shared} {b : Addr} (I : Inv X pins σ H s) (hb : s.heap.objs.size ≤ b) (hn : H' b = none) : FpOk X pins H' b := by
 refine ⟨hn, Nat.ne_of_gt (Nat.lt_of_lt_of_le I.lt hb), I.nofs hb, .inr (Nat.le_trans I.sz hb), fun x c e z => ?_, fun p hp z => ?_⟩
 ·obtain ⟨v, q⟩ := I.cell x c e
  exact absurd (Nat.lt_of_lt_of_le q.lt (by rw [z]; exact hb)) (Nat.lt_irrefl _)
 ·exact absurd (Nat.lt_of_lt_of_le (Heap.lt_size (I.pin p hp).1) (by rw [z]; exact hb)) (Nat.lt_irrefl _)
structure Turn (P : Program) (w : World) (K : W.Frag) (tg : Expr) (J : It) (fp : List Addr) (it : Addr) (tn : Nat -> Heap -> Prop) : Prop where
 mem : it ∈ fp
 obj : ∀ i h, tn i h -> ∀ b ∈ fp, ∃ o, h.get? b = some o /\ ∀ v, o.data ≠ .cell v
 keep : ∀ i h h', tn i h -> (∀ b ∈ fp, ∀ o, h.get? b = some o -> h'.get? b = some o) -> tn i h'
 item : ∀ (X : Cx), X.prog = P -> X.w = w -> X.K = K -> X.calm = true -> ∀ (i : Nat) (pins : List (Addr × Obj)) (s : Shared) (σ : St) (H : Hp) (E : Value -> Shared -> Prop), Inv X pins σ H s -> (∀ b ∈ fp, FpOk X pins H b) -> tn i s.heap -> J.go i H ->
  wpAny (model P w) X.A (pyNext (.ref it)) (fun r s1 => ∃ u, r = some u /\
   wpAny (model P w) X.A (letOwnedTupleGo tg (.ref it) u) (fun _ s2 => ∃ x H', Inv X pins σ H' s2 /\ RelV x u /\ J.yld i H x H' /\ tn (i + 1) s2.heap /\ ∀ b ∈ fp, H' b = none) E s1) E s
 done : ∀ (X : Cx), X.prog = P -> X.w = w -> X.K = K -> X.calm = true -> ∀ (i : Nat) (pins : List (Addr × Obj)) (s : Shared) (σ : St) (H : Hp) (E : Value -> Shared -> Prop), Inv X pins σ H s -> (∀ b ∈ fp, FpOk X pins H b) -> tn i s.heap -> J.stop i H ->
  wpAny (model P w) X.A (pyNext (.ref it)) (fun r s1 => r = none /\ Inv X pins σ H s1) E s
 self : ∀ (A : Around) (i : Nat) (s : Shared) (Q : Value -> Shared -> Prop) (E : Value -> Shared -> Prop), tn i s.heap -> Q (.ref it) s -> wpAny (model P w) A (pyIter (.ref it)) Q E s
abbrev TI := St -> Hp -> (It -> Hp -> Prop) -> Prop
def PIE (X : Cx) (pins : List (Addr × Obj)) (σ : St) (tg : Expr) (R : It -> Hp -> Prop) (itv : Value) (s2 : Shared) : Prop :=
 ∃ (it : Addr) (fp : List Addr) (tn : Nat -> Heap -> Prop) (J : It) (H' : Hp), itv = .ref it /\ Inv X pins σ H' s2 /\ Turn X.prog X.w X.K tg J fp it tn /\ tn 0 s2.heap /\ (∀ b ∈ fp, FpOk X pins H' b) /\ R J H'
def PI (X : Cx) (tg iter : Expr) (wi : TI) : Prop :=
 ∀ (pins : List (Addr × Obj)) (s : Shared) (σ : St) (H : Hp) (R : It -> Hp -> Prop), Inv X pins σ H s -> wi σ H R ->
  wpAny (model X.prog X.w) X.A (eval iter X.env) (fun v s1 => wpAny (model X.prog X.w) X.A (pyIter v) (PIE X pins σ tg R) X.xe s1) X.xe s
theorem zfJ {M : Model} {A : Around} {E : Value -> Shared -> Prop} {s : Shared} {tg : Expr} {it : Addr} {u : Value} {o : Obj} {n : String} {vs : Array Value} {Q : Unit -> Shared -> Prop} (ho : s.heap.get? it = some o) (hc : o.cls = .type n) (hd : o.data = .fields vs)
    (hn : ["enumerate", "zip", "dict_itemiterator", "dict_reverseitemiterator", "odict_iterator", "itertools.zip_longest", "itertools.pairwise"].contains n = false) (hQ : Q () s) : wpAny M A (letOwnedTupleGo tg (.ref it) u) Q E s := by
  unfold letOwnedTupleGo
  cases tg <;> first
    | exact wpAny_pure hQ
    | (cases u <;> first
        | exact wpAny_pure hQ
        | (refine wpAny_bind (wpAny_load ho ?_)
           rw [hc, hd]
           show wpAny M A (if (["enumerate", "zip", "dict_itemiterator", "dict_reverseitemiterator", "odict_iterator", "itertools.zip_longest", "itertools.pairwise"].contains n && vs[0]? == some (rawInt _)) = true then _ else _) Q E s
           rw [if_neg (by intro h; rw [hn, Bool.false_and] at h; cases h)]
           exact wpAny_pure hQ))
def Itl (K : W.Frag) (a : Addr) : It :=
 ⟨fun i H => ∃ xs x, SqL K H a xs /\ xs[i]? = some x, fun i H x H' => H' = H /\ ∀ xs, SqL K H a xs -> xs[i]? = some x, fun i H => ∃ xs, SqL K H a xs /\ xs.length ≤ i⟩
def Itt (K : W.Frag) (a : Addr) : It :=
 ⟨fun i H => ∃ xs x, SqT K H a xs /\ xs[i]? = some x, fun i H x H' => H' = H /\ ∀ xs, SqT K H a xs -> xs[i]? = some x, fun i H => ∃ xs, SqT K H a xs /\ xs.length ≤ i⟩
def Itr (lo : Int) (n : Nat) : It := ⟨fun i _ => i < n, fun i H x H' => H' = H /\ x = .int (lo + i), fun i _ => n ≤ i⟩
theorem zfK {P : Program} {w : World} {K : W.Frag} {tg : Expr} (a it : Addr) : Turn P w K tg (Itl K a) [it] it (fun i h => h.IsListIter it a i) where
 mem := by simp
 obj := fun i h st b hb => by
  have e : b = it := by simpa using hb
  subst e
  obtain ⟨o, e, c, d⟩ := st
  exact ⟨o, e, fun v z => by rw [d] at z; cases z⟩
 keep := fun i h h' st k => st.at fun o e => k it (by simp) o e
 item := by
  intro X hP hw hK hc i pins s σ H E I hf st hg
  subst hP hw hK
  obtain ⟨xs, x, hq, hx⟩ := hg
  obtain ⟨its, rv, p, hz⟩ := I.list hq
  obtain ⟨u, hu, ru⟩ := rv.get hx
  obtain ⟨f0, f1, f2, f3, f4, f5⟩ := hf it (by simp)
  refine wpAny_pyNext_list_item st p.isList (x := u) (by simpa using hu) fun h' st' sb => ?_
  have I1 : Inv X pins σ H { s with heap := h' } := I.turned (t' := s.toks) (fun b o hb e => (sb.2 b hb).trans e) f0 f1 f3 f4 f5
  obtain ⟨o, e, c, d⟩ := id st'
  exact ⟨u, rfl, zfJ (s := { s with heap := h' }) e c d (by decide) ⟨x, H, I1, ru, ⟨rfl, fun ys hy => by rw [I.list_inj hy hq]; exact hx⟩, st', fun b hb => (hf b hb).1⟩⟩
 done := by
  intro X hP hw hK hc i pins s σ H E I hf st hg
  subst hP hw hK
  obtain ⟨xs, hq, hx⟩ := hg
  obtain ⟨its, rv, p, hz⟩ := I.list hq
  obtain ⟨f0, f1, f2, f3, f4, f5⟩ := hf it (by simp)
  have hl := rv.length
  exact wpAny_pyNext_list_end (I.ok.hd hc) st p.isList (by simp; omega) fun h' eb => ⟨rfl, I.turned (t' := s.toks) (fun b o hb e => eb b o hb e) f0 f1 f3 f4 f5⟩
 self := fun _ _ _ _ _ st h => wpAny_pyIter_listiter st h
theorem zfi {P : Program} {w : World} {K : W.Frag} {tg : Expr} (a it : Addr) : Turn P w K tg (Itt K a) [it] it (fun i h => h.IsTupleIter it a i) where
 mem := by simp
 obj := fun i h st b hb => by
  have e : b = it := by simpa using hb
  subst e
  obtain ⟨o, e, c, d⟩ := st
  exact ⟨o, e, fun v z => by rw [d] at z; cases z⟩
 keep := fun i h h' st k => st.at fun o e => k it (by simp) o e
 item := by
  intro X hP hw hK hc i pins s σ H E I hf st hg
  subst hP hw hK
  obtain ⟨xs, x, hq, hx⟩ := hg
  obtain ⟨its, rv, p, hz⟩ := I.tuple hq
  obtain ⟨u, hu, ru⟩ := rv.get hx
  obtain ⟨f0, f1, f2, f3, f4, f5⟩ := hf it (by simp)
  refine wpAny_pyNext_tuple_item st (show s.heap.IsTuple a its.toArray from p) (x := u) (by simpa using hu) fun h' st' sb => ?_
  have I1 : Inv X pins σ H { s with heap := h' } := I.turned (t' := s.toks) (fun b o hb e => (sb.2 b hb).trans e) f0 f1 f3 f4 f5
  obtain ⟨o, e, c, d⟩ := id st'
  exact ⟨u, rfl, zfJ (s := { s with heap := h' }) e c d (by decide) ⟨x, H, I1, ru, ⟨rfl, fun ys hy => by rw [I.tuple_inj hy hq]; exact hx⟩, st', fun b hb => (hf b hb).1⟩⟩
 done := by
  intro X hP hw hK hc i pins s σ H E I hf st hg
  subst hP hw hK
  obtain ⟨xs, hq, hx⟩ := hg
  obtain ⟨its, rv, p, hz⟩ := I.tuple hq
  obtain ⟨f0, f1, f2, f3, f4, f5⟩ := hf it (by simp)
  have hl := rv.length
  exact wpAny_pyNext_tuple_end (I.ok.hd hc) st (show s.heap.IsTuple a its.toArray from p) (by simp; omega) fun h' eb => ⟨rfl, I.turned (t' := s.toks) (fun b o hb e => eb b o hb e) f0 f1 f3 f4 f5⟩
 self := fun _ _ _ _ _ st h => wpAny_pyIter_tupleiter st h
theorem zfj {P : Program} {w : World} {K : W.Frag} {tg : Expr} (it : Addr) (lo : Int) (n : Nat) : Turn P w K tg (Itr lo n) [it] it (fun i h => IsRangeIter h it (lo + (i : Nat) * 1) ((n : Int) - (i : Nat)) 1) where
 mem := by simp
 obj := fun i h st b hb => by
  have e : b = it := by simpa using hb
  subst e
  exact ⟨_, st, fun v z => by
   have z' : Data.fields _ = Data.cell v := z
   cases z'⟩
 keep := fun i h h' st k => k it (by simp) _ st
 item := by
  intro X hP hw hK hc i pins s σ H E I hf st hg
  subst hP hw hK
  obtain ⟨f0, f1, f2, f3, f4, f5⟩ := hf it (by simp)
  have W := Walks.range (prog := X.prog) (w := X.w) (I.ok.hd hc) it lo 1 n
  refine W.item i s _ _ hg st fun v h' tk hv st' kk => ?_
  obtain ⟨t, rfl⟩ := hv
  have I1 : Inv X pins σ H { s with heap := h', toks := tk } := I.turned (fun b o hb e => kk b o (by simpa using hb) e) f0 f1 f3 f4 f5
  refine ⟨_, rfl, zfJ (s := { s with heap := h', toks := tk }) (n := "range_iterator") st' rfl rfl (by decide) ⟨.int (lo + i), H, I1, ⟨t, ?_⟩, ⟨rfl, rfl⟩, st', fun b hb => (hf b hb).1⟩⟩
  rw [Int.mul_one]
 done := by
  intro X hP hw hK hc i pins s σ H E I hf st hg
  subst hP hw hK
  obtain ⟨f0, f1, f2, f3, f4, f5⟩ := hf it (by simp)
  exact wpAny_pyNext_range_end (I.ok.hd hc) st (by have : n ≤ i := hg; omega) fun h' eb => ⟨rfl, I.turned (t' := s.toks) (fun b o hb e => eb b o hb e) f0 f1 f3 f4 f5⟩
 self := fun _ _ _ _ _ st h => wpAny_pyIter_rangeiter st h
end L2
namespace L2
open PySem PySem.Spec PyProof.Rows
section
variable {X : Cx} {tg : Expr}
theorem zhc {pins : List (Addr × Obj)} {σ : St} {H : Hp} {s : Shared} {R : It -> Hp -> Prop} {E : Value -> Shared -> Prop} {lo hi : Int} {t u v : Tok} {tk : Nat} (I : Inv X pins σ H s) (h1 : -(2 ^ 62) ≤ lo) (h2 : lo < 2 ^ 62) (h3 : -(2 ^ 62) ≤ hi) (h4 : hi < 2 ^ 62)
  (q : R (Itr lo (hi - lo).toNat) H) : wpAny (model X.prog X.w) X.A (pyIter (.ref s.heap.objs.size)) (PIE X pins σ tg R) E { s with heap := s.heap.push { cls := .type "range", data := .fields #[.int lo t, .int hi u, .int 1 v] }, toks := tk } := by
 refine wpAny_pyIter_range (IsRange.new ..) (small_one h1 h2 h3 h4) ?_
 have I1 : Inv X pins σ H { s with heap := s.heap.push { cls := .type "range", data := .fields #[.int lo t, .int hi u, .int 1 v] }, toks := tk } := I.kept fun b o e => Heap.get?_push_of_some _ e
 refine ⟨(s.heap.push { cls := .type "range", data := .fields #[.int lo t, .int hi u, .int 1 v] }).objs.size, [(s.heap.push { cls := .type "range", data := .fields #[.int lo t, .int hi u, .int 1 v] }).objs.size], _, _, H, rfl,
  I1.kept (t' := tk) fun b o e => Heap.get?_push_of_some _ e, zfj _ lo (hi - lo).toNat, ?_, fun b hb => ?_, q⟩
 ·have e1 : lo + ((0 : Nat) : Int) * 1 = lo := by simp
  have e2 : (((hi - lo).toNat : Nat) : Int) - ((0 : Nat) : Int) = Builtin.Range.rangeSize lo hi 1 := by rw [rangeSize_one]; split <;> omega
  show IsRangeIter _ _ (lo + ((0 : Nat) : Int) * 1) ((((hi - lo).toNat : Nat) : Int) - ((0 : Nat) : Int)) 1
  rw [e1, e2]
  exact Heap.get?_push_size _ rfl
 ·have e : b = (s.heap.push { cls := .type "range", data := .fields #[.int lo t, .int hi u, .int 1 v] }).objs.size := by simpa using hb
  subst e
  exact I1.fpOk (Nat.le_refl _) (I1.hok.fresh (Nat.le_refl _))
def zjK (ta : TA) : TI := fun σ H R => ta σ H fun vs H1 => ∃ j : Int, vs = [.int j] /\ -(2 ^ 62) ≤ j /\ j < 2 ^ 62 /\ R (Itr 0 j.toNat) H1
theorem zbV {a : Expr} {ta : TA} {p pos : Pos} (hg : Gl X "range") (hm : X.mg "range" = none) (ha : PA X [a] ta) (hs : starEach [a] X.env = [(false, eval a X.env)] := by rfl) : PI X tg (.Call (.Name "range" p) [a] [] pos) (zjK ta) := by
 intro pins s σ H R I h
 refine Call_ (zcZ I hg hm boot_range (PyProof.Rows.callWith_type1 (thn (ha pos pins s σ H _ I h) fun us s1 ⟨vs, H1, I1, r1, q1⟩ => ?_) hs rfl))
 obtain ⟨j, e, q1, q2, q⟩ := q1
 subst e
 cases r1 with
 | cons r rr =>
  cases rr
  obtain ⟨t, rfl⟩ := r
  exact call_range_1 (zhc I1 (by omega) (by omega) q1 q2 (by simpa using q))
def tFor (wi : TI) (g : TG) (tb : TS) : TS := fun D σ H => wi σ H fun J H1 => ∃ W : Nat -> Nat -> St -> Hp -> Prop, (∃ m, W 0 m σ H1) /\ ∀ i m σ H, W i m σ H ->
 (J.stop i H /\ D.nx σ H) \/ (J.go i H /\ ∃ N : St -> Hp -> Prop, (∀ σ' H', N σ' H' -> ∃ m', m' < m /\ W (i + 1) m' σ' H') /\ ∀ x H', J.yld i H x H' -> g x σ H' fun σ2 H2 => tb { D with nx := N, ct := N, bk := D.nx } σ2 H2)
def zdG (fp : List Addr) (h : Heap) : List (Addr × Obj) := fp.filterMap fun b => (h.get? b).map fun o => (b, o)
theorem zbO {fp : List Addr} {h : Heap} {b : Addr} {o : Obj} (hb : b ∈ fp) (e : h.get? b = some o) : (b, o) ∈ zdG fp h := List.mem_filterMap.mpr ⟨b, hb, by rw [e]; rfl⟩
theorem zfL {fp : List Addr} {h : Heap} {p : Addr × Obj} (hp : p ∈ zdG fp h) : p.1 ∈ fp /\ h.get? p.1 = some p.2 := by
 obtain ⟨b, hb, e⟩ := List.mem_filterMap.mp hp
 cases q : h.get? b with
 | none => rw [q] at e; cases e
 | some o =>
  rw [q] at e
  have e' : (b, o) = p := Option.some.inj e
  subst e'
  exact ⟨hb, q⟩
theorem Inv.pinned {pins : List (Addr × Obj)} {σ : St} {H : Hp} {s : Shared} {fp : List Addr} (I : Inv X pins σ H s) (hf : ∀ b ∈ fp, FpOk X pins H b) (ho : ∀ b ∈ fp, ∃ o, s.heap.get? b = some o /\ ∀ v, o.data ≠ .cell v) : Inv X (pins ++ zdG fp s.heap) σ H s :=
 I.pins_of fun p hp => (List.mem_append.mp hp).elim (fun z => I.pin p (List.mem_append_right _ z)) fun z => by
  obtain ⟨hb, e⟩ := zfL z
  obtain ⟨f0, f1, f2, _⟩ := hf p.1 hb
  obtain ⟨o, e', d⟩ := ho p.1 hb
  rw [e] at e'; cases e'
  exact ⟨e, f0, f1, f2, d⟩
theorem Inv.unpinned {pins pl : List (Addr × Obj)} {σ : St} {H : Hp} {s : Shared} (I : Inv X (pins ++ pl) σ H s) : Inv X pins σ H s := I.pins_of fun p hp => I.pin p (List.mem_append_right _ (List.mem_append_left _ hp))
theorem zeI {iter : Expr} {body : List Stmt} {wi : TI} {g : TG} {tb : TS} {pos : Pos} (hp : PassesOwn (model X.prog X.w) X.A X.env X.xe) (hc : X.calm = true) (hi : PI X tg iter wi) (hg : PG X tg g) (hb : PSs X body tb)
  (hs : ∀ x, foldedSetIterable iter X.env x = pure x := by intro _; rfl) : PS X (.For tg iter body [] pos) (tFor wi g tb) := by
 intro pins s σ H D I h
 refine wpAny_For (thn (hi pins s σ H _ I h) fun v s1 h1 => thn h1 fun itv s2 h2 => ?_) hs
 obtain ⟨it, fp, tn, J, H2, e, I2, T, st2, f2, W, ⟨m0, w0⟩, turn⟩ := h2
 subst e
 have stat : ∀ {H' : Hp}, (∀ b ∈ fp, H' b = none) -> ∀ b ∈ fp, FpOk X pins H' b := fun hn b hb => ⟨hn b hb, (f2 b hb).2⟩
 refine codeAny_forLoop_any (fun n s' => ∃ i σ' H', Inv X pins σ' H' s' /\ tn i s'.heap /\ (∀ b ∈ fp, H' b = none) /\ W i n σ' H') ?_ m0 ⟨0, σ, H2, I2, st2, fun b hb => (f2 b hb).1, w0⟩
 rintro n s3 ⟨i, σ3, H3, I3, st3, fr3, w3⟩
 rcases turn i n σ3 H3 w3 with ⟨stop, qn⟩ | ⟨go, N, hN, step⟩
 ·refine wpAny_passesOwn hp (thn (T.done X rfl rfl rfl hc i pins s3 σ3 H3 X.xe I3 (stat fr3) st3 stop) fun r s4 ⟨hr, I4⟩ => ?_)
  subst hr
  exact wpAny_execs_nil ⟨σ3, H3, I4, qn⟩
 ·refine wpAny_passesOwn hp (thn (T.item X rfl rfl rfl hc i pins s3 σ3 H3 X.xe I3 (stat fr3) st3 go) fun r s4 ⟨u, hr, h4⟩ => ?_)
  subst hr
  refine wpAny_passesOwn hp (thn h4 fun _ s5 ⟨x, H5, I5, r5, y5, st5, fr5⟩ => ?_)
  have I5' := I5.pinned (stat fr5) (T.obj _ _ st5)
  refine wpAny_passesOwn hp (thn (hg _ s5 σ3 H5 x u _ I5' r5 (step x H5 y5)) fun _ s6 ⟨σ6, H6, I6, q6⟩ => ?_)
  refine wpAny_passesOwn hp (thn (hb _ s6 σ6 H6 _ I6 q6) fun f s7 q7 => ?_)
  have again : ∀ {σ7 : St} {H7 : Hp}, Inv X (pins ++ zdG fp s5.heap) σ7 H7 s7 -> N σ7 H7 -> ∃ m, m < n /\ ∃ i σ' H', Inv X pins σ' H' s7 /\ tn i s7.heap /\ (∀ b ∈ fp, H' b = none) /\ W i m σ' H' := fun {σ7 H7} I7 n7 => by
   obtain ⟨m', hm, w7⟩ := hN σ7 H7 n7
   refine ⟨m', hm, i + 1, σ7, H7, I7.unpinned, T.keep _ _ _ st5 fun b hb o e => (I7.pin (b, o) (List.mem_append_right _ (List.mem_append_right _ (zbO hb e)))).1, fun b hb => ?_, w7⟩
   obtain ⟨o, e, d⟩ := T.obj _ _ st5 b hb
   exact (I7.pin (b, o) (List.mem_append_right _ (List.mem_append_right _ (zbO hb e)))).2.1
  cases f with
  | next => obtain ⟨σ7, H7, I7, n7⟩ := q7; exact again I7 n7
  | cont => obtain ⟨σ7, H7, I7, n7⟩ := q7; exact again I7 n7
  | brk => obtain ⟨σ7, H7, I7, q7⟩ := q7; exact ⟨σ7, H7, I7.unpinned, q7⟩
  | ret v => obtain ⟨x7, σ7, H7, I7, r7, q7⟩ := q7; exact ⟨x7, σ7, H7, I7.unpinned, r7, q7⟩
end
theorem zlt {K : W.Frag} {a : Addr} {xs : List V} {g : TG} {tb : TS} {D : Ends} {σ : St} {H : Hp} (Pv : Nat -> St -> Hp -> Prop) (h0 : Pv 0 σ H) (hl : ∀ i σ H, i ≤ xs.length -> Pv i σ H -> SqL K H a xs)
  (hs : ∀ i x σ H, xs[i]? = some x -> Pv i σ H -> g x σ H fun σ2 H2 => tb { D with nx := Pv (i + 1), ct := Pv (i + 1), bk := D.nx } σ2 H2) (hd : ∀ σ H, Pv xs.length σ H -> D.nx σ H) :
  ∃ W : Nat -> Nat -> St -> Hp -> Prop, (∃ m, W 0 m σ H) /\ ∀ i m σ H, W i m σ H ->
   ((Itl K a).stop i H /\ D.nx σ H) \/ ((Itl K a).go i H /\ ∃ N : St -> Hp -> Prop, (∀ σ' H', N σ' H' -> ∃ m', m' < m /\ W (i + 1) m' σ' H') /\ ∀ x H', (Itl K a).yld i H x H' -> g x σ H' fun σ2 H2 => tb { D with nx := N, ct := N, bk := D.nx } σ2 H2) := by
 refine ⟨fun i m σ H => m = xs.length - i /\ i ≤ xs.length /\ Pv i σ H, ⟨xs.length, by simp, Nat.zero_le _, h0⟩, ?_⟩
 rintro i m σ H ⟨rfl, hi, p⟩
 have q := hl i σ H hi p
 by_cases hlt : i < xs.length
 ·refine .inr ⟨⟨xs, xs[i], q, by simp [hlt]⟩, Pv (i + 1), fun σ' H' p' => ⟨xs.length - (i + 1), by omega, rfl, hlt, p'⟩, fun x H' y => ?_⟩
  obtain ⟨e, y⟩ := y
  subst e
  exact hs i x σ _ (y xs q) p
 ·have e : i = xs.length := by omega
  subst e
  exact .inl ⟨⟨xs, q, Nat.le_refl _⟩, hd σ H p⟩
theorem ziy {K : W.Frag} {a : Addr} {xs : List V} {g : TG} {tb : TS} {D : Ends} {σ : St} {H : Hp} (Pv : Nat -> St -> Hp -> Prop) (h0 : Pv 0 σ H) (hl : ∀ i σ H, i ≤ xs.length -> Pv i σ H -> SqT K H a xs)
  (hs : ∀ i x σ H, xs[i]? = some x -> Pv i σ H -> g x σ H fun σ2 H2 => tb { D with nx := Pv (i + 1), ct := Pv (i + 1), bk := D.nx } σ2 H2) (hd : ∀ σ H, Pv xs.length σ H -> D.nx σ H) :
  ∃ W : Nat -> Nat -> St -> Hp -> Prop, (∃ m, W 0 m σ H) /\ ∀ i m σ H, W i m σ H ->
   ((Itt K a).stop i H /\ D.nx σ H) \/ ((Itt K a).go i H /\ ∃ N : St -> Hp -> Prop, (∀ σ' H', N σ' H' -> ∃ m', m' < m /\ W (i + 1) m' σ' H') /\ ∀ x H', (Itt K a).yld i H x H' -> g x σ H' fun σ2 H2 => tb { D with nx := N, ct := N, bk := D.nx } σ2 H2) := by
 refine ⟨fun i m σ H => m = xs.length - i /\ i ≤ xs.length /\ Pv i σ H, ⟨xs.length, by simp, Nat.zero_le _, h0⟩, ?_⟩
 rintro i m σ H ⟨rfl, hi, p⟩
 have q := hl i σ H hi p
 by_cases hlt : i < xs.length
 ·refine .inr ⟨⟨xs, xs[i], q, by simp [hlt]⟩, Pv (i + 1), fun σ' H' p' => ⟨xs.length - (i + 1), by omega, rfl, hlt, p'⟩, fun x H' y => ?_⟩
  obtain ⟨e, y⟩ := y
  subst e
  exact hs i x σ _ (y xs q) p
 ·have e : i = xs.length := by omega
  subst e
  exact .inl ⟨⟨xs, q, Nat.le_refl _⟩, hd σ H p⟩
theorem zfM {lo : Int} {n : Nat} {g : TG} {tb : TS} {D : Ends} {σ : St} {H : Hp} (Pv : Nat -> St -> Hp -> Prop) (h0 : Pv 0 σ H)
  (hs : ∀ i σ H, i < n -> Pv i σ H -> g (.int (lo + i)) σ H fun σ2 H2 => tb { D with nx := Pv (i + 1), ct := Pv (i + 1), bk := D.nx } σ2 H2) (hd : ∀ σ H, Pv n σ H -> D.nx σ H) :
  ∃ W : Nat -> Nat -> St -> Hp -> Prop, (∃ m, W 0 m σ H) /\ ∀ i m σ H, W i m σ H ->
   ((Itr lo n).stop i H /\ D.nx σ H) \/ ((Itr lo n).go i H /\ ∃ N : St -> Hp -> Prop, (∀ σ' H', N σ' H' -> ∃ m', m' < m /\ W (i + 1) m' σ' H') /\ ∀ x H', (Itr lo n).yld i H x H' -> g x σ H' fun σ2 H2 => tb { D with nx := N, ct := N, bk := D.nx } σ2 H2) := by
 refine ⟨fun i m σ H => m = n - i /\ i ≤ n /\ Pv i σ H, ⟨n, by simp, Nat.zero_le _, h0⟩, ?_⟩
 rintro i m σ H ⟨rfl, hi, p⟩
 by_cases hlt : i < n
 ·refine .inr ⟨hlt, Pv (i + 1), fun σ' H' p' => ⟨n - (i + 1), by omega, rfl, hlt, p'⟩, fun x H' y => ?_⟩
  obtain ⟨e, y⟩ := y
  subst e y
  exact hs i σ _ hlt p
 ·have e : i = n := by omega
  subst e
  exact .inl ⟨Nat.le_refl _, hd σ H p⟩
end L2
namespace L2
open PySem PySem.Spec PyProof.Rows
abbrev R2 := V -> V -> Hp -> VK -> Prop
def OpR (X : Cx) (f : Value -> Value -> Sem Value) (r : R2) : Prop :=
 ∀ (pins : List (Addr × Obj)) (s : Shared) (σ : St) (H : Hp) (x y : V) (v u : Value) (Q : VK), Inv X pins σ H s -> RelV x v -> RelV y u -> r x y H Q ->
  wpAny (model X.prog X.w) X.A (f v u) (EP X pins σ Q) X.xe s
def UnR (X : Cx) (f : Value -> Sem Value) (r : V -> Hp -> VK -> Prop) : Prop :=
 ∀ (pins : List (Addr × Obj)) (s : Shared) (σ : St) (H : Hp) (x : V) (v : Value) (Q : VK), Inv X pins σ H s -> RelV x v -> r x H Q ->
  wpAny (model X.prog X.w) X.A (f v) (EP X pins σ Q) X.xe s
def zbo (X : Cx) (f : Value) (r : List V -> Hp -> VK -> Prop) : Prop :=
 ∀ (pins : List (Addr × Obj)) (s : Shared) (σ : St) (H : Hp) (xs : List V) (us : List Value) (Q : VK), Inv X pins σ H s -> Vals xs us -> r xs H Q ->
  wpAny (model X.prog X.w) X.A (call f us) (EP X pins σ Q) X.xe s
def TruR (X : Cx) (r : V -> Hp -> (Bool -> Hp -> Prop) -> Prop) : Prop :=
 ∀ (pins : List (Addr × Obj)) (s : Shared) (σ : St) (H : Hp) (x : V) (v : Value) (Q : Bool -> Hp -> Prop), Inv X pins σ H s -> RelV x v -> r x H Q ->
  wpAny (model X.prog X.w) X.A (truthy v) (TP X pins σ Q) X.xe s
def tOp (r : R2) (ta tb : TE) : TE := fun σ H Q => ta σ H fun x H1 => tb σ H1 fun y H2 => r x y H2 Q
def tUn (r : V -> Hp -> VK -> Prop) (ta : TE) : TE := fun σ H Q => ta σ H fun x H1 => r x H1 Q
def rI (C : Int -> Int -> Prop) (g : Int -> Int -> V) : R2 := fun x y H Q => ∃ i j, x = .int i /\ y = .int j /\ C i j /\ Q (g i j) H
def rI0 (g : Int -> Int -> V) : R2 := fun x y H Q => ∃ i j, x = .int i /\ y = .int j /\ Q (g i j) H
def rU (g : Int -> V) : V -> Hp -> VK -> Prop := fun x H Q => ∃ i, x = .int i /\ Q (g i) H
section
variable {X : Cx} {a b c : Expr} {ta tb tc : TE} {pos : Pos}
theorem binT (ha : PE X a ta) (hb : PE X b tb) {pins : List (Addr × Obj)} {s : Shared} {σ : St} {H : Hp} {R : V -> V -> Hp -> Prop} (I : Inv X pins σ H s)
  (h : ta σ H fun x H1 => tb σ H1 fun y H2 => R x y H2) {Q : Value -> Shared -> Prop} {f : Value -> Value -> Sem Value}
  (hf : ∀ v u s2 x y H2, Inv X pins σ H2 s2 -> RelV x v -> RelV y u -> R x y H2 -> wpAny (model X.prog X.w) X.A (f v u) Q X.xe s2) :
  wpAny (model X.prog X.w) X.A (eval a X.env) (fun v s₁ => wpAny (model X.prog X.w) X.A (eval b X.env) (fun u s₂ => wpAny (model X.prog X.w) X.A (f v u) Q X.xe s₂) X.xe s₁) X.xe s := by
 refine thn (ha pins s σ H _ I h) fun v s1 ⟨x, H1, I1, r1, q1⟩ => ?_
 refine thn (hb pins s1 σ H1 _ I1 q1) fun u s2 ⟨y, H2, I2, r2, q2⟩ => ?_
 exact hf v u s2 x y H2 I2 r1 r2 q2
theorem zaq {op : Operator} {r : R2} (ho : OpR X (binaryOp op) r) (ha : PE X a ta) (hb : PE X b tb) : PE X (.BinOp a op b pos) (tOp r ta tb) := by
 intro pins s σ H Q I h
 exact wpAny_BinOp (binT ha hb I h fun v u s2 x y H2 I2 rx ry q => ho pins s2 σ H2 x y v u Q I2 rx ry q)
theorem zlv {op : UnaryOp} {r : V -> Hp -> VK -> Prop} (ho : UnR X (unaryOp op) r) (ha : PE X a ta) : PE X (.UnaryOp op a pos) (tUn r ta) := by
 intro pins s σ H Q I h
 exact UnaryOp_ (thn (ha pins s σ H _ I h) fun v s1 ⟨x, H1, I1, r1, q1⟩ => ho pins s1 σ H1 x v Q I1 r1 q1)
theorem opI {f : Value -> Value -> Sem Value} {C : Int -> Int -> Prop} {g : Int -> Int -> Int}
  (rule : ∀ (i j : Int) (t u : Tok) (s : Shared) (Q : Value -> Shared -> Prop) (E : Value -> Shared -> Prop), C i j -> Q (.int (g i j) s.toks) { s with toks := s.toks + 1 } -> wpAny (model X.prog X.w) X.A (f (.int i t) (.int j u)) Q E s) :
  OpR X f (rI C fun i j => .int (g i j)) := by
 intro pins s σ H x y v u Q I rx ry h
 obtain ⟨i, j, rfl, rfl, hc, q⟩ := h
 obtain ⟨t, rfl⟩ := rx
 obtain ⟨t', rfl⟩ := ry
 exact rule i j t t' s _ _ hc ⟨.int (g i j), H, I.tok _, ⟨_, rfl⟩, q⟩
theorem opI0 {f : Value -> Value -> Sem Value} {g : Int -> Int -> Int}
  (rule : ∀ (i j : Int) (t u : Tok) (s : Shared) (Q : Value -> Shared -> Prop) (E : Value -> Shared -> Prop), Q (.int (g i j) s.toks) { s with toks := s.toks + 1 } -> wpAny (model X.prog X.w) X.A (f (.int i t) (.int j u)) Q E s) :
  OpR X f (rI0 fun i j => .int (g i j)) := by
 intro pins s σ H x y v u Q I rx ry h
 obtain ⟨i, j, rfl, rfl, q⟩ := h
 obtain ⟨t, rfl⟩ := rx
 obtain ⟨t', rfl⟩ := ry
 exact rule i j t t' s _ _ ⟨.int (g i j), H, I.tok _, ⟨_, rfl⟩, q⟩
theorem opB0 {f : Value -> Value -> Sem Value} {g : Int -> Int -> Bool}
  (rule : ∀ (i j : Int) (t u : Tok) (s : Shared) (Q : Value -> Shared -> Prop) (E : Value -> Shared -> Prop), Q (.bool (g i j)) s -> wpAny (model X.prog X.w) X.A (f (.int i t) (.int j u)) Q E s) :
  OpR X f (rI0 fun i j => .bl (g i j)) := by
 intro pins s σ H x y v u Q I rx ry h
 obtain ⟨i, j, rfl, rfl, q⟩ := h
 obtain ⟨t, rfl⟩ := rx
 obtain ⟨t', rfl⟩ := ry
 exact rule i j t t' s _ _ ⟨.bl (g i j), H, I, rfl, q⟩
def CDiv (i j : Int) : Prop := 0 < j /\ j < 1073741824
def CPow (i j : Int) : Prop := 0 ≤ j /\ j ≤ 1000000 /\ i.natAbs < 2 ^ 64
def CMul (i j : Int) : Prop := (-(2 ^ 64) < i /\ i < 2 ^ 64) \/ (-(2 ^ 64) < j /\ j < 2 ^ 64)
theorem CMul.ok {i j : Int} (h : CMul i j) : IntMulOk i j := by
 rcases h with ⟨h1, h2⟩ | ⟨h1, h2⟩
 ·exact .of_left (intBits_le_64 h1 h2)
 ·exact .of_right (intBits_le_64 h1 h2)
theorem zib : OpR X (binaryOp .Add) (rI0 fun i j => .int (i + j)) := opI0 fun _ _ _ _ _ _ _ q => add_int q
theorem zbW : OpR X (binaryOp .Sub) (rI0 fun i j => .int (i - j)) := opI0 fun _ _ _ _ _ _ _ q => sub_int q
theorem zjL : OpR X (binaryOp .Mult) (rI CMul fun i j => .int (i * j)) := opI fun _ _ _ _ _ _ _ hc q => mul_int q hc.ok
theorem ziz : OpR X (binaryOp .FloorDiv) (rI CDiv fun i j => .int (i / j)) := opI fun i j _ _ _ _ _ hc q => by
 have h1 : (0 : Int) < j := hc.1
 have h2 : j < 1073741824 := hc.2
 exact floordiv_int (by omega) (by rw [Int.fdiv_eq_ediv_of_nonneg i (by omega)]; exact q) (.inl (PyProof.noPylong_small (by omega)))
theorem zjM : OpR X (binaryOp .Mod) (rI (fun _ j => 0 < j) fun i j => .int (i % j)) := opI fun i j _ _ _ _ _ hc q => by
 have h1 : (0 : Int) < j := hc
 exact mod_int' (by omega) (by rw [Int.fmod_eq_emod_of_nonneg i (by omega)]; exact q)
theorem zjN : OpR X (binaryOp .Pow) (rI CPow fun i j => .int (i ^ j.toNat)) := opI fun _ _ _ _ _ _ _ hc q => pow_int_small hc.1 hc.2.1 hc.2.2 q
theorem unI {f : Value -> Sem Value} {g : Int -> Int}
  (rule : ∀ (i : Int) (t : Tok) (s : Shared) (Q : Value -> Shared -> Prop) (E : Value -> Shared -> Prop), Q (.int (g i) s.toks) { s with toks := s.toks + 1 } -> wpAny (model X.prog X.w) X.A (f (.int i t)) Q E s) :
  UnR X f (rU fun i => .int (g i)) := by
 intro pins s σ H x v Q I rx h
 obtain ⟨i, rfl, q⟩ := h
 obtain ⟨t, rfl⟩ := rx
 exact rule i t s _ _ ⟨.int (g i), H, I.tok _, ⟨_, rfl⟩, q⟩
theorem zjO : UnR X (unaryOp .USub) (rU fun i => .int (-i)) := unI fun _ _ _ _ _ q => neg_int q
end
def scal : V -> V -> Bool
 | .non, .non => true | .non, .int _ => true | .int _, .non => true | .non, .bl _ => true | .bl _, .non => true | .non, .str _ => true | .str _, .non => true
 | .int _, .int _ => true | .bl _, .bl _ => true | .str _, .str _ => true | .byt _, .byt _ => true
 | .int _, .str _ => true | .str _, .int _ => true | .bl _, .str _ => true | .str _, .bl _ => true
 | _, _ => false
def rEq : R2 := fun x y H Q => scal x y = true /\ Q (.bl (decide (x = y))) H
def rNe : R2 := fun x y H Q => scal x y = true /\ Q (.bl (!decide (x = y))) H
theorem zfN {i j : Int} : decide (V.int i = V.int j) = (i == j) := by
 rw [Bool.eq_iff_iff]
 simp
theorem zdb {i j : Bool} : decide (V.bl i = V.bl j) = (i == j) := by
 rw [Bool.eq_iff_iff]
 simp
theorem zfO {i j : Str} : decide (V.str i = V.str j) = (i == j) := by
 rw [Bool.eq_iff_iff]
 simp
theorem zfP {i j : Array UInt8} : decide (V.byt i = V.byt j) = (i.toList == j.toList) := by
 rw [Bool.eq_iff_iff]
 cases i
 cases j
 simp
section
variable {X : Cx} {a b c : Expr} {ta tb tc : TE} {pos : Pos}
theorem zaJ {pins : List (Addr × Obj)} {σ : St} {H : Hp} {s : Shared} {Q : VK} {k k' : Bool} (I : Inv X pins σ H s) (q : Q (.bl k) H) (e : k = k') : EP X pins σ Q (.bool k') s := by
 subst e
 exact ⟨.bl k, H, I, rfl, q⟩
theorem zjP : OpR X (compareOp .Eq) rEq := by
 intro pins s σ H x y v u Q I rx ry h
 obtain ⟨hs, q⟩ := h
 cases x with
 | non =>
  cases rx
  cases y with
  | non => cases ry; exact PySem.EqNone.eq_none_none (zaJ I q (by simp))
  | bl j => cases ry; exact PySem.EqNone.eq_none_bool (zaJ I q (by simp))
  | int j => obtain ⟨t', rfl⟩ := ry; exact PySem.EqNone.eq_none_int (zaJ I q (by simp))
  | str j => obtain ⟨t', rfl⟩ := ry; exact PySem.EqNone.eq_none_str (zaJ I q (by simp))
  | _ => exact absurd (show false = true from hs) Bool.false_ne_true
 | bl i =>
  cases rx
  cases y with
  | non => cases ry; exact PySem.EqNone.eq_bool_none (zaJ I q (by simp))
  | bl j => cases ry; exact eq_bool (zaJ I q zdb)
  | str j => obtain ⟨t', rfl⟩ := ry; exact PySem.EqMixed.eq_bool_str (zaJ I q (by simp))
  | _ => exact absurd (show false = true from hs) Bool.false_ne_true
 | int i =>
  obtain ⟨t, rfl⟩ := rx
  cases y with
  | non => cases ry; exact PySem.EqNone.eq_int_none (zaJ I q (by simp))
  | int j => obtain ⟨t', rfl⟩ := ry; exact eq_int (zaJ I q zfN)
  | str j => obtain ⟨t', rfl⟩ := ry; exact PySem.EqMixed.eq_int_str (zaJ I q (by simp))
  | _ => exact absurd (show false = true from hs) Bool.false_ne_true
 | str i =>
  obtain ⟨t, rfl⟩ := rx
  cases y with
  | non => cases ry; exact PySem.EqNone.eq_str_none (zaJ I q (by simp))
  | bl j => cases ry; exact PySem.EqMixed.eq_str_bool (zaJ I q (by simp))
  | int j => obtain ⟨t', rfl⟩ := ry; exact PySem.EqMixed.eq_str_int (zaJ I q (by simp))
  | str j => obtain ⟨t', rfl⟩ := ry; exact eq_str (zaJ I q zfO)
  | _ => exact absurd (show false = true from hs) Bool.false_ne_true
 | byt i =>
  obtain ⟨t, rfl⟩ := rx
  cases y with
  | byt j => obtain ⟨t', rfl⟩ := ry; exact W.eq_bytes (zaJ I q zfP)
  | _ => exact absurd (show false = true from hs) Bool.false_ne_true
 | _ => cases y <;> exact absurd (show false = true from hs) Bool.false_ne_true
theorem zjQ : OpR X (compareOp .NotEq) rNe := by
 intro pins s σ H x y v u Q I rx ry h
 obtain ⟨hs, q⟩ := h
 cases x with
 | non =>
  cases rx
  cases y with
  | non => cases ry; exact PySem.EqNone.ne_none_none (zaJ I q (by simp))
  | bl j => cases ry; exact PySem.EqNone.ne_none_bool (zaJ I q (by simp))
  | int j => obtain ⟨t', rfl⟩ := ry; exact PySem.EqNone.ne_none_int (zaJ I q (by simp))
  | str j => obtain ⟨t', rfl⟩ := ry; exact PySem.EqNone.ne_none_str (zaJ I q (by simp))
  | _ => exact absurd (show false = true from hs) Bool.false_ne_true
 | bl i =>
  cases rx
  cases y with
  | non => cases ry; exact PySem.EqNone.ne_bool_none (zaJ I q (by simp))
  | bl j => cases ry; exact ne_bool (zaJ I q (congrArg not zdb))
  | str j => obtain ⟨t', rfl⟩ := ry; exact PySem.EqMixed.ne_bool_str (zaJ I q (by simp))
  | _ => exact absurd (show false = true from hs) Bool.false_ne_true
 | int i =>
  obtain ⟨t, rfl⟩ := rx
  cases y with
  | non => cases ry; exact PySem.EqNone.ne_int_none (zaJ I q (by simp))
  | int j => obtain ⟨t', rfl⟩ := ry; exact ne_int (zaJ I q (congrArg not zfN))
  | str j => obtain ⟨t', rfl⟩ := ry; exact PySem.EqMixed.ne_int_str (zaJ I q (by simp))
  | _ => exact absurd (show false = true from hs) Bool.false_ne_true
 | str i =>
  obtain ⟨t, rfl⟩ := rx
  cases y with
  | non => cases ry; exact PySem.EqNone.ne_str_none (zaJ I q (by simp))
  | bl j => cases ry; exact PySem.EqMixed.ne_str_bool (zaJ I q (by simp))
  | int j => obtain ⟨t', rfl⟩ := ry; exact PySem.EqMixed.ne_str_int (zaJ I q (by simp))
  | str j => obtain ⟨t', rfl⟩ := ry; exact ne_str (zaJ I q (congrArg not zfO))
  | _ => exact absurd (show false = true from hs) Bool.false_ne_true
 | byt i =>
  obtain ⟨t, rfl⟩ := rx
  cases y with
  | byt j => obtain ⟨t', rfl⟩ := ry; exact W.ne_bytes (zaJ I q (congrArg not zfP))
  | _ => exact absurd (show false = true from hs) Bool.false_ne_true
 | _ => cases y <;> exact absurd (show false = true from hs) Bool.false_ne_true
theorem zlw : OpR X (compareOp .Lt) (rI0 fun i j => .bl (decide (i < j))) := opB0 fun _ _ _ _ _ _ _ q => lt_int q
theorem zi0 : OpR X (compareOp .LtE) (rI0 fun i j => .bl (decide (i ≤ j))) := opB0 fun _ _ _ _ _ _ _ q => le_int q
theorem zjR : OpR X (compareOp .Gt) (rI0 fun i j => .bl (decide (j < i))) := opB0 fun _ _ _ _ _ _ _ q => gt_int q
theorem zlx : OpR X (compareOp .GtE) (rI0 fun i j => .bl (decide (j ≤ i))) := opB0 fun _ _ _ _ _ _ _ q => ge_int q
theorem zfQ : OpR X (compareOp .Lt) (fun x y H Q => ∃ i j, x = .str i /\ y = .str j /\ Q (.bl (decide (i.cps.toList < j.cps.toList))) H) := by
 intro pins s σ H x y v u Q I rx ry h
 obtain ⟨i, j, rfl, rfl, q⟩ := h
 obtain ⟨t, rfl⟩ := rx
 obtain ⟨t', rfl⟩ := ry
 exact lt_str (zaJ I q rfl)
theorem zfR : OpR X (compareOp .In) (fun x y H Q => ∃ i j, x = .str i /\ y = .str j /\ Q (.bl (!(Builtin.Str.occurrences j i 0 j.length 1).isEmpty)) H) := by
 intro pins s σ H x y v u Q I rx ry h
 obtain ⟨i, j, rfl, rfl, q⟩ := h
 obtain ⟨t, rfl⟩ := rx
 obtain ⟨t', rfl⟩ := ry
 exact in_str (zaJ I q rfl)
theorem OpR.or {f : Value -> Value -> Sem Value} {r r' : R2} (h : OpR X f r) (h' : OpR X f r') : OpR X f (fun x y H Q => r x y H Q \/ r' x y H Q) := by
 intro pins s σ H x y v u Q I rx ry q
 rcases q with q | q
 ·exact h pins s σ H x y v u Q I rx ry q
 ·exact h' pins s σ H x y v u Q I rx ry q
theorem zar (b : Expr) {op : CmpOp} (h : op ≠ .In := by decide) (h2 : op ≠ .NotIn := by decide) : behindInMarks op b = false := by
 have e1 : (op == CmpOp.In) = false := by cases op <;> first | rfl | exact absurd rfl h
 have e2 : (op == CmpOp.NotIn) = false := by cases op <;> first | rfl | exact absurd rfl h2
 cases b <;> simp [behindInMarks, e1, e2]
theorem za1 {op : CmpOp} {r : R2} (ho : OpR X (compareOp op) r) (ha : PE X a ta) (hb : PE X b tb) (hm : behindInMarks op b = false) : PE X (.Compare a [op] [b] pos) (tOp r ta tb) := by
 intro pins s σ H Q I h
 exact wpAny_Compare1 (binT ha hb I h fun v u s2 x y H2 I2 rx ry q => ho pins s2 σ H2 x y v u Q I2 rx ry q) hm
def zi1 (t : TE) : TT := fun σ H Q => t σ H fun x H' => ∃ k, x = .bl k /\ Q k H'
theorem zap {op : CmpOp} {r : R2} (ho : OpR X (compareOp op) r) (ha : PE X a ta) (hb : PE X b tb) (hm : behindInMarks op b = false) : PT X (.Compare a [op] [b] pos) (zi1 (tOp r ta tb)) := by
 intro pins s σ H Q I h
 refine wpAny_isTrue_Compare1 (thn (ha pins s σ H _ I h) fun v s1 ⟨x, H1, I1, r1, q1⟩ => thn (hb pins s1 σ H1 _ I1 q1) fun u s2 ⟨y, H2, I2, r2, q2⟩ =>
  thn (ho pins s2 σ H2 x y v u _ I2 r1 r2 q2) fun c s3 ⟨z, H3, I3, r3, k, e, q3⟩ => ?_) hm
 subst e
 cases r3
 exact wpAny_truthy_bool ⟨H3, I3, q3⟩
def zic (r r' : R2) (ta tb tc : TE) : TE := fun σ H Q => ta σ H fun x H1 => tb σ H1 fun y H2 => r x y H2 fun z H3 => ∃ k, z = .bl k /\
 (if k = true then tc σ H3 fun w' H4 => r' y w' H4 Q else Q (.bl false) H3)
theorem zhd {op op' : CmpOp} {r r' : R2} (ho : OpR X (compareOp op) r) (ho' : OpR X (compareOp op') r') (ha : PE X a ta) (hb : PE X b tb) (hc : PE X c tc)
  (hm : lastMarks [op, op'] [b, c] = false := by with_unfolding_all rfl) : PT X (.Compare a [op, op'] [b, c] pos) (zi1 (zic r r' ta tb tc)) := by
 intro pins s σ H Q I h
 refine isTrue_chain (thn (ha pins s σ H _ I h) fun v s1 ⟨x, H1, I1, r1, q1⟩ => test_link (thn (hb pins s1 σ H1 _ I1 q1) fun u s2 ⟨y, H2, I2, r2, q2⟩ =>
  thn (ho pins s2 σ H2 x y v u _ I2 r1 r2 q2) fun d s3 ⟨z, H3, I3, r3, k, e, q3⟩ => ?_)) hm
 subst e
 cases r3
 refine wpAny_truthy_bool ?_
 cases k with
 | false =>
  obtain ⟨k', e', q'⟩ := q3
  cases e'
  exact ite_ff ⟨H3, I3, q'⟩
 | true =>
  refine ite_tt (test_last (thn (hc pins s3 σ H3 _ I3 q3) fun w' s4 ⟨z', H4, I4, r4, q4⟩ => thn (ho' pins s4 σ H4 y z' u w' _ I4 r2 r4 q4) fun d' s5 ⟨z2, H5, I5, r5, k2, e2, q5⟩ => ?_))
  subst e2
  cases r5
  exact wpAny_truthy_bool ⟨H5, I5, q5⟩
def TruV (K : W.Frag) (x : V) (H : Hp) (k : Bool) : Prop :=
 match x with
 | .non => k = false
 | .bl b => k = b
 | .int i => k = (i != 0)
 | .str y => y.length ≤ sizeLine /\ k = ((y.length : Int) != 0)
 | .byt y => y.size ≤ sizeLine /\ k = ((y.size : Int) != 0)
 | .ref p => (∃ xs, SqL K H p xs /\ k = !xs.isEmpty) \/ (∃ xs, SqT K H p xs /\ k = !xs.isEmpty) \/ ∃ kvs, H p = some (.dK kvs) /\ k = !kvs.isEmpty
 | _ => False
theorem zfk {κ : Type} {kvs : List (κ × V)} {vs : List (κ × Value)} (r : KV kvs vs) : (!vs.isEmpty) = !kvs.isEmpty := by
 cases r <;> rfl
theorem zdc {xs : List V} {its : List Value} (r : Vals xs its) : (!its.toArray.isEmpty) = !xs.isEmpty := by
 cases r <;> simp
theorem zdd : (sizeLine : Nat) < 2 ^ 63 := by rw [sizeLine_eq]; decide
theorem zms : TruR X (fun x H Q => ∃ k, TruV X.K x H k /\ Q k H) := by
 intro pins s σ H x v Q I rx h
 obtain ⟨k, e, q⟩ := h
 have hl := zdd
 have hs : sizeLine = 16777216 := sizeLine_eq
 cases x with
 | non =>
  cases rx
  have e' : k = false := e
  subst e'
  exact truthy_none ⟨H, I, q⟩
 | bl b =>
  cases rx
  have e' : k = b := e
  subst e'
  exact wpAny_truthy_bool ⟨H, I, q⟩
 | int i =>
  obtain ⟨t, rfl⟩ := rx
  have e' : k = (i != 0) := e
  subst e'
  exact PySem.P.truthy_int ⟨H, I, q⟩
 | str y =>
  obtain ⟨t, rfl⟩ := rx
  obtain ⟨hy, e'⟩ : y.length ≤ sizeLine /\ k = ((y.length : Int) != 0) := e
  subst e'
  exact PySem.P.truthy_str (by omega) ⟨H, I.tok _, q⟩
 | byt y =>
  obtain ⟨t, rfl⟩ := rx
  obtain ⟨hy, e'⟩ : y.size ≤ sizeLine /\ k = ((y.size : Int) != 0) := e
  subst e'
  exact W.truthy_bytes (by omega) ⟨H, I.tok _, q⟩
 | ref p =>
  cases rx
  have e' : (∃ xs, SqL X.K H p xs /\ k = !xs.isEmpty) \/ (∃ xs, SqT X.K H p xs /\ k = !xs.isEmpty) \/ ∃ kvs, H p = some (.dK kvs) /\ k = !kvs.isEmpty := e
  rcases e' with ⟨xs, hx, e'⟩ | ⟨xs, hx, e'⟩ | ⟨kvs, hx, e'⟩
  ·subst e'
   obtain ⟨its, r, pl, hz⟩ := I.list hx
   have hlen := r.length
   exact wpAny_truthy_list pl.isList (by simp only [List.size_toArray]; omega) ⟨H, I.tok _, by rw [zdc r]; exact q⟩
  ·subst e'
   obtain ⟨its, r, pl, hz⟩ := I.tuple hx
   have hlen := r.length
   exact truthy_tuple pl (by simp only [List.size_toArray]; omega) ⟨H, I.tok _, by rw [zdc r]; exact q⟩
  ·subst e'
   obtain ⟨hz, hS, vs, r, m⟩ : kvs.length ≤ sizeLine /\ (p == sysModules) = false /\ ∃ vs, KV kvs vs /\ s.heap.DictOf (mixKind X.prog X.w) p vs := I.hok p _ hx
   have hlen : kvs.length = vs.length := Paired.length r
   exact wpAny_truthy_dict hS m (by omega) ⟨H, I.tok _, by rw [zfk r]; exact q⟩
 | _ => exact (show False from e).elim
theorem zde : OpR X (binaryOp .Add) (fun x y H Q => ∃ i j, x = .str i /\ y = .str j /\ i.length + j.length ≤ sizeLine /\ Q (.str (i ++ j)) H) := by
 intro pins s σ H x y v u Q I rx ry h
 obtain ⟨i, j, rfl, rfl, hz, q⟩ := h
 obtain ⟨t, rfl⟩ := rx
 obtain ⟨t', rfl⟩ := ry
 exact add_str (fun t' tk => ⟨.str (i ++ j), H, I.tok _, ⟨_, rfl⟩, q⟩) hz
theorem zdp {x : V} {us : List Value} (r : Vals [x] us) : ∃ u, us = [u] /\ RelV x u := by
 cases r with
 | cons r1 r2 => cases r2; exact ⟨_, rfl, r1⟩
theorem zi2 {x y : V} {us : List Value} (r : Vals [x, y] us) : ∃ u w', us = [u, w'] /\ RelV x u /\ RelV y w' := by
 cases r with
 | cons r1 r2 =>
  cases r2 with
  | cons r3 r4 => cases r4; exact ⟨_, _, rfl, r1, r3⟩
theorem zfS : zbo X (.type "int") (fun xs H Q => (∃ i, xs = [.int i] /\ Q (.int i) H) \/ ∃ k, xs = [.bl k] /\ Q (.int (if k then 1 else 0)) H) := by
 intro pins s σ H xs us Q I r h
 rcases h with ⟨i, rfl, q⟩ | ⟨k, rfl, q⟩
 ·obtain ⟨u, rfl, t, rfl⟩ := zdp r
  exact call_int_int ⟨.int i, H, I, ⟨_, rfl⟩, q⟩
 ·obtain ⟨u, rfl, r1⟩ := zdp r
  cases r1
  exact call_int_bool ⟨.int (if k then 1 else 0), H, I.tok _, ⟨_, rfl⟩, q⟩
def LenV (K : W.Frag) (x : V) (H : Hp) (n : Nat) : Prop :=
 match x with
 | .str y => y.length ≤ sizeLine /\ n = y.length
 | .byt y => y.size ≤ sizeLine /\ n = y.size
 | .ref p => (∃ xs, SqL K H p xs /\ n = xs.length) \/ ∃ xs, SqT K H p xs /\ n = xs.length
 | _ => False
theorem call_len : zbo X (.builtin "len") (fun xs H Q => ∃ x n, xs = [x] /\ LenV X.K x H n /\ Q (.int n) H) := by
 intro pins s σ H xs us Q I r h
 obtain ⟨x, n, rfl, e, q⟩ := h
 obtain ⟨u, rfl, rx⟩ := zdp r
 have hl := zdd
 have hs : sizeLine = 16777216 := sizeLine_eq
 cases x with
 | str y =>
  obtain ⟨t, rfl⟩ := rx
  obtain ⟨hy, e'⟩ : y.length ≤ sizeLine /\ n = y.length := e
  subst e'
  exact len_str (by omega) ⟨.int _, H, I.tok _, ⟨_, rfl⟩, q⟩
 | byt y =>
  obtain ⟨t, rfl⟩ := rx
  obtain ⟨hy, e'⟩ : y.size ≤ sizeLine /\ n = y.size := e
  subst e'
  exact W.len_bytes (by omega) ⟨.int _, H, I.tok _, ⟨_, rfl⟩, q⟩
 | ref p =>
  cases rx
  have e' : (∃ xs, SqL X.K H p xs /\ n = xs.length) \/ ∃ xs, SqT X.K H p xs /\ n = xs.length := e
  rcases e' with ⟨xs, hx, e'⟩ | ⟨xs, hx, e'⟩
  ·subst e'
   obtain ⟨its, r', pl, hz⟩ := I.list hx
   have hlen := r'.length
   exact Calls.call_len_list pl.isList (by simp only [List.size_toArray]; omega) ⟨.int xs.length, H, I.tok _, ⟨_, by simp only [List.size_toArray]; rw [hlen]⟩, q⟩
  ·subst e'
   obtain ⟨its, r', pl, hz⟩ := I.tuple hx
   have hlen := r'.length
   exact len_tuple pl (by simp only [List.size_toArray]; omega) ⟨.int xs.length, H, I.tok _, ⟨_, by simp only [List.size_toArray]; rw [hlen]⟩, q⟩
 | _ => exact (show False from e).elim
end
end L2
namespace L2
open PySem PySem.Spec PyProof.Rows
structure ObjM (h : Heap) (x dx C : Addr) (mA : Str -> Option Value) : Prop where
 obj : h.get? x = some (W.instObj C dx)
 ns : h.Ns1 dx mA
 ne : dx ≠ x
theorem zfT {h : Heap} {dx : Addr} {mA : Str -> Option Value} (n : h.Ns1 dx mA) : ∃ od, h.get? dx = some od /\ ∀ name, W.lookIn name od = some (mA name) := by
 obtain ⟨o, es, ep, ho, hd, hk, _, hm⟩ := n
 refine ⟨o, ho, fun name => ?_⟩
 have e := hm name
 unfold nsFind findBy at e
 rw [<- Array.find?_toList] at e
 unfold W.lookIn
 rw [hd]
 dsimp only
 split
 ·rename_i y q
  rw [q] at e
  exact congrArg some e
 ·rename_i q
  rw [q] at e
  have a : es.toList.any (·.refKey) = false := by
   rw [List.any_eq_false]
   intro y hy
   obtain ⟨z, t, hkey⟩ := hk y (Array.mem_toList_iff.mp hy)
   simp [DictEntry.refKey, hkey]
  have a' : ¬ es.toList.any (·.refKey) = true := by rw [a]; exact Bool.false_ne_true
  rw [if_neg a']
  exact congrArg some e
theorem ObjM.look {h : Heap} {x dx C : Addr} {mA : Str -> Option Value} (I : ObjM h x dx C mA) : ∃ od, W.InstAt h x (W.instObj C dx) C (some od) /\ ∀ name, W.lookIn name od = some (mA name) :=
 let ⟨od, ho, hl⟩ := zfT I.ns
 ⟨od, ⟨I.obj, rfl, rfl, ho⟩, hl⟩
section
variable {prog : Program} {w : World} {A : Around} {E : Value -> Shared -> Prop} {s : Shared} {K : W.Frag} {x dx C f : Addr} {mA : Str -> Option Value} {name : Str} {v : Value}
theorem zi3 {expr : Bool} {Q : Value -> Shared -> Prop} (X : K.In s.heap) (I : ObjM s.heap x dx C mA) (hg : W.plainGet K C name = true) (hh : W.hasDictIn K C = true)
  (ha : W.findIn K (.ref C) name = some none) (hv : mA name = some v) (hv' : W.handedIn v = true) (h : Q v { s with toks := s.toks + 1 }) :
  wpAny (model prog w) A (getAttr (.ref x) name expr) Q E s := by
 obtain ⟨od, J, hl⟩ := I.look
 exact W.get_value X J (W.plainGet_of hg).1 (W.findObj_own hh ha rfl (by rw [hl, hv])) hv' h
theorem zhe {pl : Sem Bool} {Q : Value × List Value -> Shared -> Prop} (X : K.In s.heap) (I : ObjM s.heap x dx C mA) (hg : W.plainGet K C name = true)
  (hf : W.findIn K (.ref C) name = some (some (.ref f))) (ht : W.isFn K (.ref f) = true) (hv : mA name = none) (h : Q (.ref f, [.ref x]) s) :
  wpAny (model prog w) A (getMethod (.ref x) name pl) Q E s := by
 obtain ⟨od, J, hl⟩ := I.look
 exact W.method_fn X J (W.plainGet_of hg).1 (W.plainGet_of hg).2 hf (beq_iff_eq.mp ht) (by show (W.lookIn name od).map (·.isSome) = some false; rw [hl, hv]; rfl) h
theorem zi4 {ns : List Str} {Q : Unit -> Shared -> Prop} (X : K.In s.heap) (I : ObjM s.heap x dx C mA)
  (hs : W.findIn K (.ref C) "__setattr__" = some (some (.builtin "object.__setattr__"))) (hp : W.plainOver K C = true) (ht : W.takerIn K C name = some none) (hh : W.hasDictIn K C = true)
  (hw : PySem.Within mA ns) (hsz : ns.length ≤ sizeLine)
  (h : ∀ h', ObjM h' x dx C (fun y => if y = name then some v else mA y) -> Heap.SameBut dx s.heap h' -> Q () { s with heap := h', toks := s.toks + 2 }) :
  wpAny (model prog w) A (setAttr (.ref x) name v) Q E s := by
 obtain ⟨od, J, hl⟩ := I.look
 refine W.set_plain X J hs (W.osa_open (s := { s with toks := s.toks + 1 }) (r := none) X J hp ht fun b => ?_)
 obtain ⟨cd, hc, hd'⟩ := W.any_some hh
 have hx : s.heap.get? x = some ⟨.ref C, some dx, .plain, #[]⟩ := I.obj
 refine wpAny_bind (wpAny_pure (wpAny_bind (wpAny_bind (wpAny_loadPart hx (wpAny_bind (W.Looks.here (s := { s with toks := s.toks + 1 }) (W.looks_clsIn X hc) ?_))))))
 rw [hd']
 refine wpAny_pure (a := some dx) (wpAny_bind (wpAny_pure (wpAny_bind ?_)))
 refine wpAny_nsSet1 (s := { s with toks := s.toks + 1 }) I.ns fun h' hn2 hs2 => ?_
 obtain ⟨oD, esD, epD, hoD, hdD, hcD⟩ := hn2.count (PySem.Within.cons name v hw)
 refine wpAny_bind (wpAny_lookBehind hoD (by rw [hdD]; exact pastItsLine_dict (Nat.le_trans hcD (by rw [List.length_cons]; omega))) ?_)
 exact wpAny_pure (h _ ⟨(hs2.2 _ (Ne.symm I.ne)).trans I.obj, hn2, I.ne⟩ hs2)
theorem zhf {R : Result -> Shared -> Prop} {vs : List Value} {kw : List (Str × Value)} (X : K.In s.heap) (hm : W.makesIn K C = true)
  (hi : W.findIn K (.ref C) "__init__" = some (some (.ref f))) (hf : W.typeIn K (.ref f) = some (.type "function"))
  (h : codeAny (model prog w) (A.under (.builtin "type.__call__" ⟨.ref C :: vs, kw⟩)) (.call (.ref f) ⟨.ref (s.heap.objs.size + 1) :: vs, kw⟩) (W.InitBack (s.heap.objs.size + 1) R)
   { s with heap := (s.heap.push W.emptyDict).push (W.instObj C s.heap.objs.size) }) :
  codeAny (model prog w) A (.call (.ref C) ⟨vs, kw⟩) R s := by
 obtain ⟨hh, g, d, t, os⟩ := s
 exact W.make_core (W.makes_of X hm) (W.looks_findIn X hi) (fun self => W.bind_fn X self hf) (.inl rfl) h
end
def putF (f : Str) (v : V) : List (Str × V) -> List (Str × V)
 | [] => [(f, v)]
 | (g, x) :: r => if g = f then (g, v) :: r else (g, x) :: putF f v r
theorem zc6 (f g : Str) (v : V) : ∀ fs : List (Str × V), (putF f v fs).lookup g = if g = f then some v else fs.lookup g
 | [] => by
  show List.lookup g [(f, v)] = _
  by_cases h : g = f
  ·have hb : (g == f) = true := beq_iff_eq.mpr h
   simp only [List.lookup, hb, if_pos h]
  ·have hb : (g == f) = false := beq_eq_false_iff_ne.mpr h
   simp only [List.lookup, hb, if_neg h]
 | (k, x) :: r => by
  have ih := zc6 f g v r
  rw [show putF f v ((k, x) :: r) = (if k = f then (k, v) :: r else (k, x) :: putF f v r) from rfl]
  by_cases hk : k = f
  ·rw [if_pos hk]
   by_cases h : g = k
   ·have hb : (g == k) = true := beq_iff_eq.mpr h
    simp only [List.lookup, hb, if_pos (h.trans hk)]
   ·have hb : (g == k) = false := beq_eq_false_iff_ne.mpr h
    simp only [List.lookup, hb, if_neg (fun e : g = f => h (e.trans hk.symm))]
  ·rw [if_neg hk]
   by_cases h : g = k
   ·have hb : (g == k) = true := beq_iff_eq.mpr h
    simp only [List.lookup, hb, if_neg (fun e : g = f => hk (h.symm.trans e))]
   ·have hb : (g == k) = false := beq_eq_false_iff_ne.mpr h
    simp only [List.lookup, hb]
    exact ih
theorem zc7 (f : Str) (v : V) : ∀ fs : List (Str × V), f ∈ (putF f v fs).map (·.1) /\ ∀ g, g ∈ fs.map (·.1) -> g ∈ (putF f v fs).map (·.1)
 | [] => ⟨by simp [putF], fun g h => by simp at h⟩
 | (k, x) :: r => by
  obtain ⟨i1, i2⟩ := zc7 f v r
  rw [show putF f v ((k, x) :: r) = (if k = f then (k, v) :: r else (k, x) :: putF f v r) from rfl]
  by_cases hk : k = f
  ·rw [if_pos hk]
   subst hk
   exact ⟨by simp, fun g h => by simpa using h⟩
  ·rw [if_neg hk]
   refine ⟨?_, fun g h => ?_⟩
   ·rw [List.map_cons]
    exact List.mem_cons_of_mem _ i1
   ·rw [List.map_cons] at h ⊢
    rcases List.mem_cons.mp h with e | e
    ·exact List.mem_cons.mpr (.inl e)
    ·exact List.mem_cons_of_mem _ (i2 g e)
theorem zc8 (f : Str) (v : V) : ∀ fs : List (Str × V), (putF f v fs).length ≤ fs.length + 1
 | [] => by simp [putF]
 | (k, x) :: r => by
  have ih := zc8 f v r
  rw [show putF f v ((k, x) :: r) = (if k = f then (k, v) :: r else (k, x) :: putF f v r) from rfl]
  by_cases hk : k = f
  ·rw [if_pos hk, List.length_cons, List.length_cons]; omega
  ·rw [if_neg hk, List.length_cons, List.length_cons]; omega
theorem RelO.some_of {v : V} {o : Option Value} (r : RelO (some v) o) : ∃ u, o = some u /\ RelV v u := by
 cases o with
 | none => exact (show False from r).elim
 | some u => exact ⟨u, rfl, r⟩
theorem RelO.none_of {o : Option Value} (r : RelO none o) : o = none := by
 cases o with
 | none => rfl
 | some u => exact (show False from r).elim
theorem zfU {v : V} {u : Value} (r : RelV v u) : W.handedIn u = true := by
 cases v with
 | non => cases (show u = Value.none from r); rfl
 | bl b => cases (show u = Value.bool b from r); rfl
 | int i => obtain ⟨t, e⟩ := (show ∃ t, u = Value.int i t from r); cases e; rfl
 | str x => obtain ⟨t, e⟩ := (show ∃ t, u = Value.str x t from r); cases e; rfl
 | byt b => obtain ⟨t, e⟩ := (show ∃ t, u = Value.bytes b t from r); cases e; rfl
 | flt b => obtain ⟨t, e⟩ := (show ∃ t, u = Value.float b t from r); cases e; rfl
 | ref a => cases (show u = Value.ref a from r); rfl
 | ty n => cases (show u = Value.type n from r); rfl
section
variable {P : Program} {w : World} {H H' : Hp} {h h' : Heap} {a C dx : Addr} {fs fs' : List (Str × V)}
theorem zdq (hok : HOk P w H h) (e : H a = some (.ins C dx fs)) : ∃ mA, ObjM h a dx C mA /\ (∀ f, RelO (fs.lookup f) (mA f)) /\ PySem.Within mA (fs.map (·.1)) /\ fs.length ≤ 1000 /\ H dx = some (.own a) := by
 obtain ⟨d, z, ne, ob, mA, n, r, q⟩ := (show ObjOk P w H h a (.ins C dx fs) from hok a _ e)
 exact ⟨mA, ⟨ob, n, ne⟩, r, q, z, d⟩
end
structure Cls (K : W.Frag) (C : Addr) : Prop where
 pg : W.plainGet K C Str.empty = true
 hd : W.hasDictIn K C = true
 po : W.plainOver K C = true
 sa : W.findIn K (.ref C) "__setattr__" = some (some (.builtin "object.__setattr__"))
theorem Cls.get {K : W.Frag} {C : Addr} (c : Cls K C) (f : Str) : W.plainGet K C f = true := c.pg
def NoAttr (K : W.Frag) (C : Addr) (f : Str) : Prop := W.findIn K (.ref C) f = some none
theorem NoAttr.taker {K : W.Frag} {C : Addr} {f : Str} (n : NoAttr K C f) : W.takerIn K C f = some none := by
 unfold W.takerIn
 rw [show W.findIn K (.ref C) f = some none from n]
 rfl
structure Con (K : W.Frag) (C : Addr) (f : Str) (v : V) (u : Value) : Prop where
 at_ : W.findIn K (.ref C) f = some (some u)
 rel : RelV v u
 get : W.specialIn K u "__get__" = some none
 cp : W.copiedNames.contains f = false
structure Meth (K : W.Frag) (C : Addr) (m : Str) (f : Addr) : Prop where
 at_ : W.findIn K (.ref C) m = some (some (.ref f))
 fn : W.isFn K (.ref f) = true
 kp : W.keepIn K (.ref f) = true
section
variable {X : Cx} {pins : List (Addr × Obj)} {σ : St} {H : Hp} {s : Shared} {a C dx : Addr} {fs : List (Str × V)} {f : Str} {v : V} {A : Around} {E : Value -> Shared -> Prop}
theorem zdf {b : Bool} {Q : Value -> Shared -> Prop} (I : Inv X pins σ H s) (e : H a = some (.ins C dx fs)) (c : Cls X.K C) (n : NoAttr X.K C f) (l : fs.lookup f = some v)
  (h : ∀ u s', Inv X pins σ H s' -> RelV v u -> Q u s') : wpAny (model X.prog X.w) A (getAttr (.ref a) f b) Q E s := by
 obtain ⟨mA, O, r, _, _, _⟩ := zdq I.hok e
 obtain ⟨u, hu, ru⟩ := RelO.some_of (v := v) (o := mA f) (by rw [<- l]; exact r f)
 exact zi3 I.kIn O (c.get f) c.hd n hu (zfU ru) (h u _ (I.tok _) ru)
theorem zdg {m : Str} {g : Addr} {pl : Sem Bool} {Q : Value × List Value -> Shared -> Prop} (I : Inv X pins σ H s) (e : H a = some (.ins C dx fs)) (c : Cls X.K C) (k : Meth X.K C m g) (l : fs.lookup m = none)
  (h : Q (.ref g, [.ref a]) s) : wpAny (model X.prog X.w) A (getMethod (.ref a) m pl) Q E s := by
 obtain ⟨mA, O, r, _, _, _⟩ := zdq I.hok e
 have hn : mA m = none := RelO.none_of (by rw [<- l]; exact r m)
 exact zhe I.kIn O (c.get m) k.at_ k.fn hn h
theorem zdh {y : V} {u : Value} {Q : Unit -> Shared -> Prop} (I : Inv X pins σ H s) (e : H a = some (.ins C dx fs)) (c : Cls X.K C) (n : NoAttr X.K C f) (hl : fs.length < 1000) (ry : RelV y u)
  (h : ∀ s', Inv X pins σ (upd H a (.ins C dx (putF f y fs))) s' -> Q () s') : wpAny (model X.prog X.w) A (setAttr (.ref a) f u) Q E s := by
 obtain ⟨mA, O, r, wi, _, ho⟩ := zdq I.hok e
 have hz : (fs.map (·.1)).length ≤ sizeLine := by rw [List.length_map, sizeLine_eq]; omega
 refine zi4 I.kIn O c.sa c.po n.taker c.hd wi hz fun h' O' sb => h _ ?_
 have hd : ∃ o, h'.get? dx = some o := let ⟨o, _, _, e', _⟩ := O'.ns; ⟨o, e'⟩
 refine I.write (x := a) (e := dx) (by rw [e]; exact True.intro) (.inr ho) (fun b q hb z => (sb.2 b hb).trans z) hd ?_
 refine ⟨by rw [za8 O.ne]; exact ho, ?_, O.ne, O'.obj, _, O'.ns, fun g => ?_, fun g hg => ?_⟩
 ·have := zc8 f y fs; omega
 ·show RelO ((putF f y fs).lookup g) (if g = f then some u else mA g)
  rw [zc6]
  by_cases q : g = f
  ·rw [if_pos q, if_pos q]; exact ry
  ·rw [if_neg q, if_neg q]; exact r g
 ·by_cases q : g = f
  ·rw [q]; exact (zc7 f y fs).1
  ·refine (zc7 f y fs).2 g (wi g fun z => hg ?_)
   show (if g = f then some u else mA g) = none
   rw [if_neg q]; exact z
theorem Inv.made (I : Inv X pins σ H s) : Inv X pins σ (upd (upd H s.heap.objs.size (.own (s.heap.objs.size + 1))) (s.heap.objs.size + 1) (.ins C s.heap.objs.size []))
  { s with heap := (s.heap.push W.emptyDict).push (W.instObj C s.heap.objs.size) } := by
 have e1 : (s.heap.push W.emptyDict).get? s.heap.objs.size = some W.emptyDict := Heap.get?_push_size s.heap rfl
 have e2 : ((s.heap.push W.emptyDict).push (W.instObj C s.heap.objs.size)).get? (s.heap.objs.size + 1) = some (W.instObj C s.heap.objs.size) := by
  have := Heap.get?_push_size (s.heap.push W.emptyDict) (o := W.instObj C s.heap.objs.size) rfl
  rwa [Heap.size_push] at this
 have e3 : (s.heap.push W.emptyDict).Ns s.heap.objs.size (fun _ => none) := ⟨W.emptyDict, #[], _, e1, rfl, (fun e he => absurd he (by simp)), fun _ => rfl⟩
 have I1 := I.laid (a := s.heap.objs.size) (o := .own (s.heap.objs.size + 1)) (h' := s.heap.push W.emptyDict) (t' := s.toks) (fun b u q => Heap.get?_push_of_some _ q) (Nat.le_refl _) ⟨_, e1⟩
 refine I1.laid (a := s.heap.objs.size + 1) (o := .ins C s.heap.objs.size []) (t' := s.toks) (fun b u q => Heap.get?_push_of_some _ q) (Nat.le_of_eq (Heap.size_push _ _)) ?_
 have ne : s.heap.objs.size ≠ s.heap.objs.size + 1 := Nat.ne_of_lt (Nat.lt_succ_self _)
 refine ⟨by rw [za8 ne, zac], Nat.zero_le _, ne, e2, fun _ => none, (Heap.Ns1.of_empty e3).at fun o q => Heap.get?_push_of_some _ q, fun _ => True.intro, fun y hy => absurd rfl hy⟩
theorem zi5 {prog : Program} {w : World} {env : Env} {e : Expr} {f : Str} {pos : Pos} {s : Shared} {Q : Value -> Shared -> Prop} (hb : attributeBase e f env (eval e env) = eval e env)
  (h : wpAny (model prog w) A (eval e env) (fun o s₁ => wpAny (model prog w) A (getAttr o f true) Q E s₁) E s) : wpAny (model prog w) A (eval (.Attribute e f pos) env) Q E s :=
 Attribute_any_ h (by rw [arm_eval_Attribute, hb])
end
def tFld (K : W.Frag) (ta : TE) (f : Str) : TE := fun σ H Q => ta σ H fun x H1 => ∃ a C dx fs v, x = .ref a /\ H1 a = some (.ins C dx fs) /\ Cls K C /\ NoAttr K C f /\ fs.lookup f = some v /\ Q v H1
def sFld (K : W.Frag) (ta tv : TE) (f : Str) : TS := fun D σ H => tv σ H fun y H1 => ta σ H1 fun x H2 => ∃ a C dx fs, x = .ref a /\ H2 a = some (.ins C dx fs) /\ Cls K C /\ NoAttr K C f /\ fs.length < 1000 /\
 D.nx σ (upd H2 a (.ins C dx (putF f y fs)))
def InOp (X : Cx) (op : Operator) (rd : V -> V -> Hp -> VK -> Prop) : Prop :=
 ∀ (pins : List (Addr × Obj)) (s : Shared) (σ : St) (H : Hp) (x y : V) (u v : Value) (Q : VK), Inv X pins σ H s -> RelV x u -> RelV y v -> rd x y H Q -> wpAny (model X.prog X.w) X.A (inplaceOp op u v) (EP X pins σ Q) X.xe s
def zi6 (K : W.Frag) (ta tv : TE) (rd : V -> V -> Hp -> VK -> Prop) (f : Str) : TS := fun D σ H => ta σ H fun x H1 => ∃ a C dx fs v, x = .ref a /\ H1 a = some (.ins C dx fs) /\ Cls K C /\ NoAttr K C f /\ fs.lookup f = some v /\
 tv σ H1 fun y H2 => rd v y H2 fun z H3 => ∃ dx' fs', H3 a = some (.ins C dx' fs') /\ fs'.length < 1000 /\ D.nx σ (upd H3 a (.ins C dx' (putF f z fs')))
section
variable {X : Cx} {o e value : Expr} {f : Str} {pos pos' tpos : Pos} {ta tv : TE}
theorem zeJ (he : PE X e ta) (hb : attributeBase e f X.env (eval e X.env) = eval e X.env) : PE X (.Attribute e f pos) (tFld X.K ta f) := by
 intro pins s σ H Q I h
 refine zi5 hb (thn (he pins s σ H _ I h) fun u s1 ⟨x, H1, I1, rx, a, C, dx, fs, v, ex, ea, c, n, l, q⟩ => ?_)
 subst ex
 obtain rfl : u = Value.ref a := rx
 exact zdf I1 ea c n l fun u' s2 I2 ru => ⟨v, H1, I2, ru, q⟩
theorem zeK (ha : PE X o ta) (hv : PE X value tv) (hs : swapsWith value (some (.Attribute o f pos')) pos.line X.env = pure false) : PS X (.Assign [.Attribute o f pos'] value pos) (sFld X.K ta tv f) := by
 intro pins s σ H D I h
 refine plainObj_wpAny_Assign_Attribute (thn (hv pins s σ H _ I h) fun u s1 ⟨y, H1, I1, ry, q⟩ => thn (ha pins s1 σ H1 _ I1 q) fun ov s2 ⟨x, H2, I2, rx, a, C, dx, fs, ex, ea, c, n, l, q2⟩ => ?_) hs
 subst ex
 obtain rfl : ov = Value.ref a := rx
 exact zdh I2 ea c n l ry fun s3 I3 => ⟨σ, _, I3, q2⟩
theorem zfV {op : Operator} {rd : V -> V -> Hp -> VK -> Prop} (ha : PE X o ta) (hv : PE X value tv) (hop : InOp X op rd) : PS X (.AugAssign (.Attribute o f tpos) op value pos) (zi6 X.K ta tv rd f) := by
 intro pins s σ H D I h
 refine wpAny_AugAssign_AttributeAny (thn (ha pins s σ H _ I h) fun ov s1 ⟨x, H1, I1, rx, a, C, dx, fs, v, ex, ea, c, n, l, q⟩ => ?_)
 subst ex
 obtain rfl : ov = Value.ref a := rx
 refine zdf I1 ea c n l fun u s2 I2 ru => thn (hv pins s2 σ H1 _ I2 q) fun w3 s3 ⟨y, H2, I3, ry, q3⟩ => thn (hop pins s3 σ H2 v y u w3 _ I3 ru ry q3) fun w4 s4 ⟨z, H3, I4, rz, dx', fs', ea', l', q4⟩ => ?_
 exact zdh I4 ea' c n l' rz fun s5 I5 => ⟨σ, _, I5, q4⟩
def rAdd : V -> V -> Hp -> VK -> Prop := fun x y H Q => ∃ i j, x = .int i /\ y = .int j /\ Q (.int (i + j)) H
theorem zjS : InOp X .Add rAdd := by
 rintro pins s σ H x y u v Q I rx ry ⟨i, j, rfl, rfl, q⟩
 obtain ⟨t, rfl⟩ := (show ∃ t, u = Value.int i t from rx)
 obtain ⟨t', rfl⟩ := (show ∃ t', v = Value.int j t' from ry)
 exact PyProof.Rows.iadd_int ⟨.int (i + j), H, I.tok _, ⟨_, rfl⟩, q⟩
theorem zi7 {pl : Sem Bool} {m : Str} {apos : Pos} {args : List Expr} {pins : List (Addr × Obj)} {s : Shared} {σ : St} {H : Hp} {Q : Value -> Shared -> Prop} {te : TE} (he : PE X e te) (I : Inv X pins σ H s)
  (h : te σ H fun x H1 => ∃ a C dx fs g, x = .ref a /\ H1 a = some (.ins C dx fs) /\ Cls X.K C /\ Meth X.K C m g /\ fs.lookup m = none /\
   ∀ s1, Inv X pins σ H1 s1 -> wpAny (model X.prog X.w) X.A (callWith pos (.ref g) [.ref a] (backTo pos (starEach args X.env)) (backToKw pos (keywordEach [] X.env))) Q X.xe s1)
  (ht : eval (.Call (.Attribute e m apos) args [] pos) X.env = (do
   let ov <- eval e X.env
   standAt apos.atName
   let (f, first) <- holding [ov] (getMethod ov m pl)
   callWith pos f first (backTo pos (starEach args X.env)) (backToKw pos (keywordEach [] X.env)))) :
  wpAny (model X.prog X.w) X.A (eval (.Call (.Attribute e m apos) args [] pos) X.env) Q X.xe s := by
 refine W.methodCall_KW (pl := pl) (thn (he pins s σ H _ I h) fun u s1 ⟨x, H1, I1, rx, a, C, dx, fs, g, ex, ea, c, k, l, q⟩ => ?_) ht
 subst ex
 obtain rfl : u = Value.ref a := rx
 exact zdg I1 ea c k l (q s1 I1)
end
section
variable {X : Cx} {pins : List (Addr × Obj)} {σ : St} {H : Hp} {s : Shared} {A : Around} {E : Value -> Shared -> Prop} {Q : Value -> Shared -> Prop} {c : Value} {b : Bool}
inductive TyOf (K : W.Frag) (H : Hp) : V -> Value -> Prop where
 | non : TyOf K H .non (.type "NoneType")
 | bl (x : Bool) : TyOf K H (.bl x) (.type "bool")
 | int (i : Int) : TyOf K H (.int i) (.type "int")
 | str (x : Str) : TyOf K H (.str x) (.type "str")
 | flt (x : UInt64) : TyOf K H (.flt x) (.type "float")
 | lst {a : Addr} {xs : List V} (e : H a = some (.lst xs)) : TyOf K H (.ref a) (.type "list")
 | frz {a : Addr} {o : Obj} {xs : List V} (e : H a = some (.frz o (.lst xs))) : TyOf K H (.ref a) (.type "list")
 | tup {a : Addr} {xs : List V} (e : H a = some (.tup xs)) : TyOf K H (.ref a) (.type "tuple")
 | dK {a : Addr} {kvs : List (Key × V)} (e : H a = some (.dK kvs)) : TyOf K H (.ref a) (.type "dict")
 | dT {a : Addr} {kvs : List (List Key × V)} (e : H a = some (.dT kvs)) : TyOf K H (.ref a) (.type "dict")
 | ins {a C dx : Addr} {fs : List (Str × V)} (e : H a = some (.ins C dx fs)) (cl : Cls K C) (ha : W.findIn K (.ref C) "__class__" = some (some (.builtin "object.__class__")))
   (hn : W.specialIn K (.builtin "object.__class__") "__get__" = some (some (.builtin "getset_descriptor.__get__"))) (htk : W.takesIn K (.builtin "object.__class__") = some true)
   (hm : W.mroIn K C (.type "object") = some true) : TyOf K H (.ref a) (.ref C)
theorem zfW {x : V} {u t : Value} (I : Inv X pins σ H s) (rx : RelV x u) (ty : TyOf X.K H x t) (e : W.kitOne X.K t c = some b) (h : ∀ tk, Q (.bool b) { s with toks := tk }) :
  wpAny (model X.prog X.w) A (call (.builtin "isinstance") [u, c]) Q E s := by
 cases ty with
 | non => cases (show u = Value.none from rx); exact W.kia_one W.kitx_none I.kIn True.intro e (fun z => nomatch z) h
 | bl y => cases (show u = Value.bool y from rx); exact W.kia_one W.kitx_bool I.kIn True.intro e (fun z => nomatch z) h
 | int i => obtain ⟨t, q⟩ := (show ∃ t, u = Value.int i t from rx); cases q; exact W.kia_one W.kitx_int I.kIn True.intro e (fun z => nomatch z) h
 | str y => obtain ⟨t, q⟩ := (show ∃ t, u = Value.str y t from rx); cases q; exact W.kia_one W.kitx_str I.kIn True.intro e (fun z => nomatch z) h
 | flt y => obtain ⟨t, q⟩ := (show ∃ t, u = Value.float y t from rx); cases q; exact W.kia_one W.kitx_float I.kIn True.intro e (fun z => nomatch z) h
 | @lst a xs ea =>
  cases (show u = Value.ref a from rx)
  obtain ⟨_, _, n, _, h1⟩ := (show ObjOk X.prog X.w H s.heap a (.lst xs) from I.hok a _ ea)
  exact W.kia_one W.kitx_list I.kIn ⟨_, h1, rfl⟩ e (fun z => nomatch z) h
 | @frz a ob xs ea =>
  cases (show u = Value.ref a from rx)
  obtain ⟨_, _, _, n, _, h1⟩ := (show ObjOk X.prog X.w H s.heap a (.frz ob (.lst xs)) from I.hok a _ ea)
  exact W.kia_one W.kitx_list I.kIn ⟨_, h1, rfl⟩ e (fun z => nomatch z) h
 | @tup a xs ea =>
  cases (show u = Value.ref a from rx)
  obtain ⟨_, _, _, p⟩ := (show ObjOk X.prog X.w H s.heap a (.tup xs) from I.hok a _ ea)
  obtain ⟨o, h1, h2, _⟩ := p
  exact W.kia_one W.kitx_tuple I.kIn ⟨o, h1, h2⟩ e (fun z => nomatch z) h
 | @dK a kvs ea =>
  cases (show u = Value.ref a from rx)
  obtain ⟨_, _, vs, _, p⟩ := (show ObjOk X.prog X.w H s.heap a (.dK kvs) from I.hok a _ ea)
  obtain ⟨o, es, ep, h1, h2, _⟩ := p
  exact W.kia_one W.kitx_dict I.kIn ⟨o, h1, h2.1⟩ e (fun z => nomatch z) h
 | @dT a kvs ea =>
  cases (show u = Value.ref a from rx)
  obtain ⟨_, _, xs, _, o, es, ep, h1, h2, _⟩ := (show ObjOk X.prog X.w H s.heap a (.dT kvs) from I.hok a _ ea)
  exact W.kia_one W.kitx_dict I.kIn ⟨o, h1, h2.1⟩ e (fun z => nomatch z) h
 | @ins a C dx fs ea cl ha hn htk hm =>
  cases (show u = Value.ref a from rx)
  obtain ⟨mA, O, _⟩ := zdq I.hok ea
  obtain ⟨od, J, _⟩ := O.look
  exact W.kia_one (W.kitx_own (cl.get _) cl.hd ha hn htk hm) I.kIn J e (fun z => nomatch z) h
end
end L2
namespace L2
open PySem PySem.Spec PyProof.Rows
structure Room (k : Nat) (A : Around) : Prop where
 hd : A.handled = none
 dp : A.depth + 3 * k + 5 < recursionLimit
 un : A.units + 16 * k + 200 < cLine
 gd : A.guards = some []
theorem Room.mono {j k : Nat} {A : Around} (r : Room k A) (h : j ≤ k) : Room j A := ⟨r.hd, by have := r.dp; omega, by have := r.un; omega, r.gd⟩
theorem Room.deeper {k : Nat} {A : Around} (r : Room (k + 1) A) (env : Env) : Room k (A.deeper env) :=
 ⟨r.hd, by have := r.dp; show A.depth + 1 + 3 * k + 5 < _; omega, by have := r.un; show A.units + 3 + 16 * k + 200 < _; omega, r.gd⟩
theorem zfl {A : Around} {C : Addr} {us : List Value} {kw : List (Str × Value)} : (A.under (.builtin "type.__call__" ⟨.ref C :: us, kw⟩)).depth = A.depth + 1 := by
 first | rfl | simp [Around.under, Code.weight, Code.isCreation, Code.isGuard, Code.isCaller, Code.frames, Code.isFrame, guardIds]
theorem zfm {A : Around} {C : Addr} {us : List Value} {kw : List (Str × Value)} : (A.under (.builtin "type.__call__" ⟨.ref C :: us, kw⟩)).units = A.units + 1 := by
 first | rfl | simp [Around.under, Code.cUnits, Code.frames, Code.isFrame]
theorem zeu {A : Around} {C : Addr} {us : List Value} {kw : List (Str × Value)} : (A.under (.builtin "type.__call__" ⟨.ref C :: us, kw⟩)).guards = A.guards := by
 first | rfl | simp [Around.under, Code.isGuard, guardIds] | (simp [Around.under, Code.isGuard, guardIds]; decide)
theorem Room.make {k : Nat} {A : Around} (r : Room (k + 1) A) (C : Addr) (us : List Value) (kw : List (Str × Value)) : Room k (A.under (.builtin "type.__call__" ⟨.ref C :: us, kw⟩)) :=
 ⟨r.hd, by have := r.dp; rw [zfl]; omega, by have := r.un; rw [zfm]; omega, by rw [zeu]; exact r.gd⟩
theorem Room.depth {k : Nat} {A : Around} (r : Room k A) : A.depth < recursionLimit := by have := r.dp; omega
theorem Room.units {k : Nat} {A : Around} (r : Room k A) : A.units + 64 < cLine := by have := r.un; omega
def tNil : TA := fun _ H Q => Q [] H
def zjT (ta : TE) (tr : TA) : TA := fun σ H Q => ta σ H fun x H1 => tr σ H1 fun xs H2 => Q (x :: xs) H2
section
variable {X : Cx} {e : Expr} {es : List Expr} {te : TE} {t : TA} {pos : Pos}
theorem zah : PA X [] tNil := fun _ _ _ _ H Q I h => Calls.spliced_nil ⟨[], H, I, .nil, h⟩
theorem zaa (ha : PE X e te) (hr : PA X es t) (hs : starEach (e :: es) X.env = (false, eval e X.env) :: starEach es X.env := by rfl) : PA X (e :: es) (zjT te t) := by
 intro pos pins s σ H Q I h
 rw [hs]
 show wpAny _ _ (spliced ((false, eval e X.env) :: backTo pos (starEach es X.env))) _ _ s
 refine Calls.spliced_cons (thn (ha pins s σ H _ I h) fun u s1 ⟨x, H1, I1, r1, q1⟩ => ?_)
 exact thn (hr pos pins s1 σ H1 _ I1 q1) fun us s2 ⟨xs, H2, I2, r2, q2⟩ => ⟨x :: xs, H2, I2, .cons r1 r2, q2⟩
def tTup (t : TA) : TE := fun σ H Q => t σ H fun xs H1 => xs.length ≤ sizeLine /\ ∀ p, H1 p = none -> Q (.ref p) (upd H1 p (.tup xs))
def tLst (t : TA) : TE := fun σ H Q => t σ H fun xs H1 => xs.length ≤ sizeLine /\ ∀ p, H1 p = none -> Q (.ref p) (upd H1 p (.lst xs))
theorem zaM {x1} (h : PA X es t) : PE X (.Tuple es x1 pos) (tTup t) := by
 intro pins s σ H Q I hq
 refine wpAny_Tuple_spliced (thn (h pos pins s σ H _ I hq) fun us s1 ⟨xs, H1, I1, r, z, q⟩ => ⟨by rw [<- r.length]; exact z, ?_⟩)
 have hf : H1 s1.heap.objs.size = none := I1.hok.fresh (Nat.le_refl _)
 refine ⟨.ref s1.heap.objs.size, upd H1 s1.heap.objs.size (.tup xs), I1.laid (t' := s1.toks) (fun b u e => Heap.get?_push_of_some _ e) (Nat.le_refl _) ?_, rfl, q _ hf⟩
 exact ⟨z, us, r, ⟨_, Heap.get?_push_size _ rfl, rfl, _, rfl⟩⟩
theorem zaN (h : PA X es t) : PE X (.List es pos) (tLst t) := by
 intro pins s σ H Q I hq
 refine wpAny_List_spliced (thn (h pos pins s σ H _ I hq) fun us s1 ⟨xs, H1, I1, r, z, q⟩ => ⟨by rw [<- r.length]; exact z, ?_⟩)
 have hf : H1 s1.heap.objs.size = none := I1.hok.fresh (Nat.le_refl _)
 refine ⟨.ref s1.heap.objs.size, upd H1 s1.heap.objs.size (.lst xs), I1.laid (t' := s1.toks) (fun b u e => Heap.get?_push_of_some _ e) (Nat.le_refl _) ?_, rfl, q _ hf⟩
 exact ⟨z, us, 0, r, Heap.get?_push_size _ rfl⟩
end
abbrev Sp := List V -> Hp -> VK -> XK -> Prop
abbrev CXT := List Env -> Hp -> Shared -> XK -> Value -> Shared -> Prop
structure Env0 (P : Program) (w : World) (K : W.Frag) (mg : Str -> Option Value) (base : Heap) (A : Around) (outer : List Env) (s : Shared) (H : Hp) : Prop where
 frames : A.frames = some outer
 mod : Mod K mg base
 bs : ∀ b o, base.get? b = some o -> s.heap.get? b = some o /\ H b = none
 bsz : base.objs.size ≤ s.heap.objs.size
 funs : s.heap.FunFrames base outer
 frf : ∀ b ∈ frs outer, H b = none
 hok : HOk P w H s.heap
 bare : AllBare s.gens
def CE (outer : List Env) (P : Program) (w : World) (H : Hp) (s : Shared) (Q : VK) (u : Value) (s' : Shared) : Prop :=
 ∃ v H', s'.os = s.os /\ AllBare s'.gens /\ Un (frs outer) [] H H' s.heap s'.heap /\ HOk P w H' s'.heap /\ RelV v u /\ Q v H'
def CR (CX : CXT) (outer : List Env) (P : Program) (w : World) (H : Hp) (s : Shared) (Q : VK) (E : XK) (r : Result) (s' : Shared) : Prop :=
 match r with
 | .ok (.ret u) => CE outer P w H s Q u s'
 | .ok _ => False
 | .error e => CX outer H s E e s'
structure FnOk (P : Program) (w : World) (K : W.Frag) (mg : Str -> Option Value) (base : Heap) (CX : CXT) (k : Nat) (f : Addr) (fd : FuncData) (ps : List Str) (sp : Sp) : Prop where
 len : ∀ vs H Q E, sp vs H Q E -> vs.length = ps.length
 run : ∀ (A : Around) (outer : List Env) (s : Shared) (H : Hp) (args : Args) (us : List Value) (vs : List V) (Q : VK) (E : XK), Room k A -> Env0 P w K mg base A outer s H -> BindsTo s fd args (ps.zip us) -> Vals vs us -> sp vs H Q E ->
  codeAny (model P w) A (.call (.ref f) args) (CR CX outer P w H s Q E) s
theorem Env0.make {P : Program} {w : World} {K : W.Frag} {mg : Str -> Option Value} {base : Heap} {A : Around} {outer : List Env} {s : Shared} {H : Hp} (e : Env0 P w K mg base A outer s H) (C : Addr) (us : List Value) (kw : List (Str × Value)) :
  Env0 P w K mg base (A.under (.builtin "type.__call__" ⟨.ref C :: us, kw⟩)) outer s H := ⟨by first | exact e.frames | (simpa [Around.under, Code.envs, Code.isFrame, pushEnvs] using e.frames), e.mod, e.bs, e.bsz, e.funs, e.frf, e.hok, e.bare⟩
section
variable {X : Cx} {pins : List (Addr × Obj)} {σ : St} {H : Hp} {s s' : Shared}
theorem Inv.env0 (I : Inv X pins σ H s) : Env0 X.prog X.w X.K X.mg X.base X.A X.stack s H :=
 ⟨I.ok.frames, I.ok.mod, I.bs, Nat.le_trans I.ok.bsz I.sz, I.stack, I.stkFree, I.hok, I.bare⟩
theorem Inv.after {Q : VK} {u : Value} (I : Inv X pins σ H s) (h : CE X.stack X.prog X.w H s Q u s') : EP X pins σ Q u s' := by
 obtain ⟨v, H', os, bare, un, hok, r, q⟩ := h
 obtain ⟨hh, g, d, t, os'⟩ := s'
 obtain rfl : os' = s.os := os
 exact ⟨v, H', I.call (h' := hh) (g' := g) (d' := d) (t' := t) (ch := []) un hok bare (fun b z => absurd z (by simp)), r, q⟩
end
def zjU (sp : Sp) (dvs : List V) (E : XK) (t : TA) : TE := fun σ H Q => t σ H fun vs H1 => sp (vs ++ dvs) H1 Q E
def zjV (C : Addr) (m : Str) (sp : Sp) (dvs : List V) (E : XK) (ta : TE) (t : TA) : TE := fun σ H Q => ta σ H fun x H1 => ∃ a dx fs, x = .ref a /\ H1 a = some (.ins C dx fs) /\ fs.lookup m = none /\
 t σ H1 fun vs H2 => sp (x :: (vs ++ dvs)) H2 Q E
def zjW (C : Addr) (sp : Sp) (dvs : List V) (E : XK) (t : TA) : TE := fun σ H Q => t σ H fun vs H1 => ∀ x dx, H1 x = none -> H1 dx = none -> dx ≠ x ->
 sp (.ref x :: (vs ++ dvs)) (upd (upd H1 dx (.own x)) x (.ins C dx [])) (fun v H2 => v = .non /\ Q (.ref x) H2) E
def Binds (K : W.Frag) (fd : FuncData) (ps : List Str) (ds : List Value) : Prop :=
 ∀ (s : Shared) (us : List Value), K.In s.heap -> (us ++ ds).length = ps.length -> BindsTo s fd ⟨us, []⟩ (ps.zip (us ++ ds))
theorem Binds.all {K : W.Frag} {fd : FuncData} {ps : List Str} (h : ∀ us : List Value, us.length = ps.length -> bindArgs fd ⟨us, []⟩ = pure (ps.zip us)) : Binds K fd ps [] := fun s us _ hl => by
 rw [List.append_nil] at hl ⊢
 exact .of_eq (h us hl)
def zct (CX : CXT) (X : Cx) (E : XK) : Prop := ∀ (pins : List (Addr × Obj)) (σ : St) (H : Hp) (s : Shared) (e : Value) (s' : Shared), Inv X pins σ H s -> CX X.stack H s E e s' -> X.xe e s'
section
variable {X : Cx} {CX : CXT} {k : Nat} {f C : Addr} {fd : FuncData} {ps : List Str} {sp : Sp} {dvs : List V} {ds : List Value} {E : XK} {x m : Str} {p pos apos : Pos} {e o : Expr} {es : List Expr} {ta : TE} {t : TA}
theorem zfX {pins : List (Addr × Obj)} {σ : St} {H : Hp} {s : Shared} {Q : VK} {us : List Value} {vs : List V} (F : FnOk X.prog X.w X.K X.mg X.base CX k f fd ps sp) (hr : Room k X.A) (hb : Binds X.K fd ps ds) (hd : Vals dvs ds) (hx : zct CX X E)
  (I : Inv X pins σ H s) (r : Vals vs us) (h : sp (vs ++ dvs) H Q E) : wpAny (model X.prog X.w) X.A (call (.ref f) us) (EP X pins σ Q) X.xe s := by
 have r2 : Vals (vs ++ dvs) (us ++ ds) := r.append hd
 have hl : (us ++ ds).length = ps.length := by rw [<- r2.length]; exact F.len _ _ _ _ h
 refine wpAny_call (codeAny_mono (F.run X.A X.stack s H ⟨us, []⟩ (us ++ ds) (vs ++ dvs) Q E hr I.env0 (hb s us I.kIn hl) r2 h) fun r s' hq => ?_)
 cases r with
 | error e => exact hx pins σ H s e s' I hq
 | ok fl =>
  cases fl with
  | ret u => exact I.after hq
  | next => exact False.elim hq
  | brk => exact False.elim hq
  | cont => exact False.elim hq
theorem zal (F : FnOk X.prog X.w X.K X.mg X.base CX k f fd ps sp) (hr : Room k X.A) (hg : Gl X x) (hm : X.mg x = some (.ref f)) (hk : W.keepIn X.K (.ref f) = true) (hb : Binds X.K fd ps ds) (hd : Vals dvs ds) (hx : zct CX X E)
  (ha : PA X (e :: es) t) (hdb : (x == ("__debug__" : Str)) = false := by decide) (he : starEach (e :: es) X.env = (false, eval e X.env) :: starEach es X.env := by rfl) (hpl : (backTo pos (starEach es X.env)).any (·.1) = false := by rfl) :
  PE X (.Call (.Name x p) (e :: es) [] pos) (zjU sp dvs E t) := by
 intro pins s σ H Q I h
 refine wpAny_Call_Name_kw (zes I hg hm ?_ hdb)
 refine W.callWith_K (h₀ := X.base) I.ok.mod.kin hk (thn (ha pos pins s σ H _ I h) fun us s1 ⟨vs, H1, I1, r, q⟩ => ⟨I1.kIn, ?_⟩) he hpl
 exact zfX F hr hb hd hx I1 r q
theorem zi8 {pl : Sem Bool} (he : PE X o ta) (c : Cls X.K C) (hm : Meth X.K C m f) (F : FnOk X.prog X.w X.K X.mg X.base CX k f fd ps sp) (hr : Room k X.A) (hb : Binds X.K fd ps ds) (hd : Vals dvs ds) (hx : zct CX X E) (ha : PA X (e :: es) t)
  (hst : starEach (e :: es) X.env = (false, eval e X.env) :: starEach es X.env := by rfl) (hpl : (backTo pos (starEach es X.env)).any (·.1) = false := by rfl)
  (ht : eval (.Call (.Attribute o m apos) (e :: es) [] pos) X.env = (do
   let ov <- eval o X.env
   standAt apos.atName
   let (f, first) <- holding [ov] (getMethod ov m pl)
   callWith pos f first (backTo pos (starEach (e :: es) X.env)) (backToKw pos (keywordEach [] X.env))) := by rfl) :
  PE X (.Call (.Attribute o m apos) (e :: es) [] pos) (zjV C m sp dvs E ta t) := by
 intro pins s σ H Q I h
 refine W.methodCall_KW (pl := pl) (thn (he pins s σ H _ I h) fun u s1 ⟨x, H1, I1, rx, a, dx, fs, ex, ea, l, q⟩ => ?_) ht
 subst ex
 obtain rfl : u = Value.ref a := rx
 refine zdg I1 ea c hm l ?_
 refine W.callWith_K (first := [.ref a]) (h₀ := X.base) I.ok.mod.kin hm.kp (thn (ha pos pins s1 σ H1 _ I1 q) fun us s2 ⟨vs, H2, I2, r, q2⟩ => ⟨I2.kIn, ?_⟩) hst hpl
 exact zfX (us := .ref a :: us) (vs := .ref a :: vs) F hr hb hd hx I2 (.cons rfl r) q2
structure Mk (K : W.Frag) (C f : Addr) : Prop where
 makes : W.makesIn K C = true
 init : W.findIn K (.ref C) "__init__" = some (some (.ref f))
 fn : W.isFn K (.ref f) = true
 kp : W.keepIn K (.ref C) = true
theorem zhg {pins : List (Addr × Obj)} {σ : St} {H : Hp} {s : Shared} {Q : VK} {us : List Value} {vs : List V} (M : Mk X.K C f) (F : FnOk X.prog X.w X.K X.mg X.base CX k f fd ps sp) (hr : Room (k + 1) X.A) (hb : Binds X.K fd ps ds) (hd : Vals dvs ds)
  (hx : zct CX X E) (I : Inv X pins σ H s) (r : Vals vs us)
  (h : ∀ x dx, H x = none -> H dx = none -> dx ≠ x -> sp (.ref x :: (vs ++ dvs)) (upd (upd H dx (.own x)) x (.ins C dx [])) (fun v H2 => v = .non /\ Q (.ref x) H2) E) :
  wpAny (model X.prog X.w) X.A (call (.ref C) us) (EP X pins σ Q) X.xe s := by
 have hq := h (s.heap.objs.size + 1) s.heap.objs.size (I.hok.fresh (Nat.le_succ _)) (I.hok.fresh (Nat.le_refl _)) (Nat.ne_of_lt (Nat.lt_succ_self _))
 have I2 := Inv.made (C := C) I
 have r2 : Vals (V.ref (s.heap.objs.size + 1) :: (vs ++ dvs)) (Value.ref (s.heap.objs.size + 1) :: (us ++ ds)) := .cons rfl (r.append hd)
 have hl : (Value.ref (s.heap.objs.size + 1) :: us ++ ds).length = ps.length := by
  have e := r2.length
  rw [F.len _ _ _ _ hq] at e
  exact e.symm
 refine wpAny_call (zhf (f := f) I.kIn M.makes M.init (beq_iff_eq.mp M.fn) (codeAny_mono (F.run _ X.stack _ _ ⟨Value.ref (s.heap.objs.size + 1) :: us, []⟩ (Value.ref (s.heap.objs.size + 1) :: (us ++ ds)) _ _ E (hr.make C us [])
  (I2.env0.make C us []) (hb _ (Value.ref (s.heap.objs.size + 1) :: us) I2.kIn hl) r2 hq) fun r s' hq' => ?_))
 cases r with
 | error e => exact hx pins σ _ _ e s' I2 hq'
 | ok fl =>
  cases fl with
  | ret u =>
   obtain ⟨v, H', I3, rv, ev, q3⟩ := I2.after hq'
   subst ev
   exact ⟨rv, ⟨V.ref (s.heap.objs.size + 1), H', I3, rfl, q3⟩⟩
  | next => exact False.elim hq'
  | brk => exact False.elim hq'
  | cont => exact False.elim hq'
theorem zi9 (M : Mk X.K C f) (F : FnOk X.prog X.w X.K X.mg X.base CX k f fd ps sp) (hr : Room (k + 1) X.A) (hg : Gl X x) (hm : X.mg x = some (.ref C)) (hb : Binds X.K fd ps ds) (hd : Vals dvs ds) (hx : zct CX X E)
  (ha : PA X (e :: es) t) (hdb : (x == ("__debug__" : Str)) = false := by decide) (he : starEach (e :: es) X.env = (false, eval e X.env) :: starEach es X.env := by rfl) (hpl : (backTo pos (starEach es X.env)).any (·.1) = false := by rfl) :
  PE X (.Call (.Name x p) (e :: es) [] pos) (zjW C sp dvs E t) := by
 intro pins s σ H Q I h
 refine wpAny_Call_Name_kw (zes I hg hm ?_ hdb)
 refine W.callWith_K (h₀ := X.base) I.ok.mod.kin M.kp (thn (ha pos pins s σ H _ I h) fun us s1 ⟨vs, H1, I1, r, q⟩ => ⟨I1.kIn, ?_⟩) he hpl
 exact zhg M F hr hb hd hx I1 r q
end
section
variable {X : Cx} {CX : CXT} {k : Nat} {f C : Addr} {fd : FuncData} {ps ks : List Str} {sp : Sp} {E : XK} {x m : Str} {p pos apos kpos : Pos} {e o : Expr} {es : List Expr} {kws : List Keyword} {te ta : TE} {t tk : TA} {nm : Option Str}
structure zmt (K : W.Frag) (fd : FuncData) (ps ks : List Str) (g : List Value -> List Value -> List Value) (gV : List V -> List V -> List V) : Prop where
 to : ∀ (s : Shared) (us ws : List Value), K.In s.heap -> (g us ws).length = ps.length -> BindsTo s fd ⟨us, ks.zip ws⟩ (ps.zip (g us ws))
 rel : ∀ {vs : List V} {us : List Value} {zs : List V} {ws : List Value}, Vals vs us -> Vals zs ws -> Vals (gV vs zs) (g us ws)
variable {g : List Value -> List Value -> List Value} {gV : List V -> List V -> List V}
end
structure zay (N P : List Str) (sc : Scope) : Prop where
 kind : sc.kind = .function
 co : sc.isCoroutine = false
 gen : sc.isGenerator = false
 nd : N.Nodup
 pre : N.take P.length = P
 par : ∀ x ∈ P, sc.names.lookup x = some .local \/ sc.names.lookup x = some .cell
 nofree : ∀ y ∈ sc.names, y.2 ≠ .free
theorem zdH {kindOf : Str -> Option NameKind} {x : Str} : ∀ {binds : List (Str × Value)} {m : Str -> Option Value}, (∀ v, (x, v) ∉ binds) -> bindL kindOf binds m x = m x
 | [], _, _ => rfl
 | (n, v) :: r, m, h => by
  unfold bindL
  rw [zdH fun w hw => h w (List.mem_cons_of_mem _ hw)]
  split
  ·have : x ≠ n := by rintro rfl; exact h v List.mem_cons_self
   simp [this]
  ·rfl
theorem zdI {kindOf : Str -> Option NameKind} {x : Str} : ∀ {binds : List (Str × Value)} {m : Str -> Option Value}, (∀ v, (x, v) ∉ binds) -> bindC kindOf binds m x = m x
 | [], _, _ => rfl
 | (n, v) :: r, m, h => by
  unfold bindC
  rw [zdI fun w hw => h w (List.mem_cons_of_mem _ hw)]
  split
  ·rfl
  ·have : x ≠ n := by rintro rfl; exact h v List.mem_cons_self
   simp [this]
theorem zdJ {kindOf : Str -> Option NameKind} {x : Str} {v : Value} : ∀ {P : List Str} {vs : List Value} {i : Nat} {m : Str -> Option Value}, P.Nodup -> P[i]? = some x -> vs[i]? = some v -> kindOf x = some .local ->
  bindL kindOf (P.zip vs) m x = some v
 | [], _, _, _, _, h, _, _ => by simp at h
 | _ :: _, [], _, _, _, _, h, _ => by simp at h
 | p :: P, w :: vs, 0, m, nd, h1, h2, hk => by
  simp at h1 h2; subst h1; subst h2
  show bindL kindOf ((p, w) :: P.zip vs) m p = _
  unfold bindL
  rw [zdH fun v hv => (List.nodup_cons.mp nd).1 (List.of_mem_zip hv).1, if_pos hk]
  simp
 | p :: P, w :: vs, i + 1, m, nd, h1, h2, hk => by
  show bindL kindOf ((p, w) :: P.zip vs) m x = _
  unfold bindL
  exact zdJ (i := i) (List.nodup_cons.mp nd).2 (by simpa using h1) (by simpa using h2) hk
theorem zdK {kindOf : Str -> Option NameKind} {x : Str} {v : Value} : ∀ {P : List Str} {vs : List Value} {i : Nat} {m : Str -> Option Value}, P.Nodup -> P[i]? = some x -> vs[i]? = some v -> kindOf x ≠ some .local ->
  bindC kindOf (P.zip vs) m x = some v
 | [], _, _, _, _, h, _, _ => by simp at h
 | _ :: _, [], _, _, _, _, h, _ => by simp at h
 | p :: P, w :: vs, 0, m, nd, h1, h2, hk => by
  simp at h1 h2; subst h1; subst h2
  show bindC kindOf ((p, w) :: P.zip vs) m p = _
  unfold bindC
  rw [zdI fun v hv => (List.nodup_cons.mp nd).1 (List.of_mem_zip hv).1, if_neg hk]
  simp
 | p :: P, w :: vs, i + 1, m, nd, h1, h2, hk => by
  show bindC kindOf ((p, w) :: P.zip vs) m x = _
  unfold bindC
  exact zdK (i := i) (List.nodup_cons.mp nd).2 (by simpa using h1) (by simpa using h2) hk
def start (N : List Str) (vs : List V) : St := vs.map some ++ List.replicate (N.length - vs.length) none
def cxOf (CX : CXT) (P : Program) (w : World) (K : W.Frag) (mg : Str -> Option Value) (base : Heap) (N : List Str) (qual : Str) (scope : Scope) (f : Addr) (cd : Value) (A : Around) (outer : List Env) (s : Shared) (H : Hp) (E : XK) : Cx where
 prog := P
 w := w
 K := K
 mg := mg
 base := base
 A := A.deeper (envOfC qual scope s.heap.objs.size f cd)
 N := N
 s₀ := s
 H₀ := H
 env := envOfC qual scope s.heap.objs.size f cd
 outer := outer
 stack := envOfC qual scope s.heap.objs.size f cd :: outer
 ex := []
 calm := true
 fn := fun _ => true
 pn := []
 xe := fun e s' => wpAny (model P w) (A.deeper (envOfC qual scope s.heap.objs.size f cd)) (leaving (envOfC qual scope s.heap.objs.size f cd) e) (fun _ s'' => CX outer H s E e s'') (fun e' s'' => CX outer H s E e' s'') s'
theorem zeL {sc : Scope} {n : Nat} {x : Str} (h : sc.names.lookup x = some .cell) : ∃ c, (cellsFrom n sc.names []).lookup x = some c := by
 have q := W.cellsFrom_some sc.names n [] (.inl h)
 exact Option.isSome_iff_exists.mp q
theorem zfY {CX : CXT} {P : Program} {w : World} {K : W.Frag} {mg : Str -> Option Value} {base : Heap} {N ps : List Str} {qual : Str} {scope : Scope} {f : Addr} {cd : Value} {A : Around} {outer : List Env} {s s1 : Shared} {H : Hp} {E : XK} {us : List Value} {vs : List V}
  (S : zay N ps scope) (hd : A.handled = none) (e0 : Env0 P w K mg base A outer s H) (hl : vs.length = ps.length) (r : Vals vs us)
  (x : InCallC s s.heap.objs.size (bindL (envOfC qual scope s.heap.objs.size f cd).kindOf (ps.zip us) fun _ => none) (cellsFrom (s.heap.objs.size + 1) scope.names []) (bindC (envOfC qual scope s.heap.objs.size f cd).kindOf (ps.zip us) fun _ => none) s1) :
  Inv (cxOf CX P w K mg base N qual scope f cd A outer s H E) [] (start N vs) H s1 := by
 have hpl : ps.length ≤ N.length := by have := congrArg List.length S.pre; rw [List.length_take] at this; omega
 obtain ⟨h1, tk, rfl, hk⟩ := x.done
 have noA : ∀ b : Addr, b ∉ (cxOf CX P w K mg base N qual scope f cd A outer s H E).ex := fun b z => absurd (show b ∈ ([] : List Addr) from z) (by simp)
 refine ⟨⟨e0.mod, S.kind, rfl, rfl, Nat.le_refl _, fun y z c h1 h2 => ?_, fun y hy => ?_, fun y c _ h => ?_, fun _ => hd, Around.frames_deeper e0.frames, .inr ⟨rfl, rfl⟩, fun b z => absurd z (noA b), e0.bs, e0.bsz, fun b _ _ => noA b, fun b z => absurd z (noA b), e0.funs, e0.frf⟩,
  rfl, e0.bare, Un.kept hk, ⟨_, x.toInCall.ns, fun i y v h1 h2 h3 => ?_⟩, fun y c h => ⟨_, x.cell y c h⟩, e0.hok.fresh (Nat.le_refl _), fun y c h => ?_, fun p hp => absurd (show p ∈ ([] : List (Addr × Obj)) from hp) (by simp), e0.hok.kept hk, ?_⟩
 ·exact name_of_addr x.apart (PySem.mem_of_lookup h1) (PySem.mem_of_lookup h2)
 ·have hy : scope.names.lookup y = some .cell \/ scope.names.lookup y = some .free := hy
  rcases hy with hy | hy
  ·exact zeL hy
  ·exact absurd rfl (S.nofree _ (PySem.mem_of_lookup hy))
 ·exact Nat.le_of_lt (x.above y c (PySem.mem_of_lookup h))
 ·have hi : i < vs.length := by
   unfold start at h2
   by_cases hi : i < vs.length
   ·exact hi
   ·rw [List.getElem?_append_right (by simpa using hi)] at h2
    rw [List.getElem?_replicate] at h2
    split at h2 <;> cases h2
  have ha : vs[i]? = some v := by
   unfold start at h2
   rw [List.getElem?_append_left (by simpa using hi), List.getElem?_map] at h2
   cases e : vs[i]? with
   | none => rw [e] at h2; cases h2
   | some a => rw [e] at h2; cases h2; rfl
  obtain ⟨u, hu, rv⟩ := r.get ha
  have hp : ps[i]? = some y := by
   rw [<- S.pre, List.getElem?_take_of_lt (by omega)]; exact h1
  have ndP : ps.Nodup := by rw [<- S.pre]; exact S.nd.sublist (List.take_sublist _ _)
  refine ⟨u, rv, ?_⟩
  rcases S.par y (List.mem_of_getElem? hp) with k | k
  ·exact .inl ⟨k, zdJ ndP hp hu k⟩
  ·obtain ⟨c, e⟩ := zeL (n := s.heap.objs.size + 1) k
   refine .inr ⟨.inl k, c, e, ?_⟩
   have q := x.cell y c e
   rw [zdK ndP hp hu (by show scope.names.lookup y ≠ _; rw [k]; decide)] at q
   exact q
 ·exact e0.hok.fresh (Nat.le_of_lt (x.above y c (PySem.mem_of_lookup h)))
 ·unfold start
  show _ = N.length
  rw [List.length_append, List.length_map, List.length_replicate]
  omega
theorem zly {CX : CXT} {P : Program} {w : World} {K : W.Frag} {mg : Str -> Option Value} {base : Heap} {k : Nat} {f : Addr} {name qual : Str} {params : Arguments} {body : List Stmt} {scope : Scope} {dV kV doc pm cdv ct oc : Value} {an od : Option Addr}
  {osl : Array (Option Value)} {N ps : List Str} {sp : Sp} (lk : K.lookup f = some ⟨oc, od, .func (W.fnOf name qual params body scope dV kV doc pm an cdv ct), osl⟩) (hcd : W.codeIn K cdv qual = true) (S : zay N ps scope)
  (len : ∀ vs H Q E, sp vs H Q E -> vs.length = ps.length)
  (hbody : ∀ (A : Around) (outer : List Env) (s : Shared) (H : Hp) (vs : List V) (Q : VK) (E : XK), Room k (A.deeper (envOfC qual scope s.heap.objs.size f cdv)) -> sp vs H Q E ->
   ∃ t, PSs (cxOf CX P w K mg base N qual scope f cdv A outer s H E) body t /\ t { nx := fun _ H' => Q .non H', rt := Q } (start N vs) H) :
  FnOk P w K mg base CX (k + 1) f (W.fnOf name qual params body scope dV kV doc pm an cdv ct) ps sp := by
 refine ⟨len, fun A outer s H args us vs Q E hr e0 hb r hsp => ?_⟩
 have hl := len _ _ _ _ hsp
 have KX : K.In s.heap := e0.mod.kin.keeps fun b o e => (e0.bs b o e).1
 have lim : s.heap.NoLimit := e0.mod.nolimit.keeps fun b o e => (e0.bs b o e).1
 have hkind : ∀ y ∈ ps.zip us, scope.names.lookup y.1 = some .local \/ (scope.names.lookup y.1 = some .cell /\ ((cellsFrom (s.heap.objs.size + 1) scope.names []).lookup y.1).isSome = true) := fun ⟨n, v⟩ hy => by
  rcases S.par n (List.of_mem_zip hy).1 with q | q
  ·exact .inl q
  ·exact .inr ⟨q, W.cellsFrom_some _ _ _ (.inl q)⟩
 refine codeAny_call_function hr.depth (KX _ _ lk) rfl S.co S.gen rfl (W.codeRec_of KX hcd) (hb _ _ _ _ ?_)
 refine wpAny_newFunctionEnv_cells S.kind hkind fun env he s1 x => ?_
 subst he
 refine ⟨lim.keeps x.toInCall.keep, codeAny_func ?_⟩
 obtain ⟨t, ht, hq⟩ := hbody A outer s H vs Q E (hr.deeper _) hsp
 have I : Inv (cxOf CX P w K mg base N qual scope f cdv A outer s H E) [] (start N vs) H s1 := zfY S hr.hd e0 hl r x
 refine wpAny_mono (ht [] s1 (start N vs) H _ I hq) (fun fl s' hs => ?_) fun e s' hs => hs
 have fin : ∀ {σ' : St} {H' : Hp} {v : V} {u : Value}, Inv (cxOf CX P w K mg base N qual scope f cdv A outer s H E) [] σ' H' s' -> RelV v u -> Q v H' -> CE outer P w H s Q u s' :=
  fun {σ' H' v u} J rv q => ⟨v, H', J.os, J.bare, J.base, J.hok, rv, q⟩
 cases fl with
 | ret u =>
  obtain ⟨v, σ', H', J, rv, q⟩ := hs
  exact fin J rv q
 | next =>
  obtain ⟨σ', H', J, q⟩ := hs
  exact fin (v := V.non) (u := Value.none) J rfl q
 | brk =>
  obtain ⟨_, _, _, q⟩ := hs
  exact False.elim q
 | cont =>
  obtain ⟨_, _, _, q⟩ := hs
  exact False.elim q
end L2
namespace L2
open PySem PySem.Spec PyProof.Rows
section
variable {X : Cx} {x : Str} {p pos : Pos} {e : Expr} {es : List Expr} {t : TA} {id T : String} {r : List V -> Hp -> VK -> Prop}
def tCB (r : List V -> Hp -> VK -> Prop) (t : TA) : TE := fun σ H Q => t σ H fun vs H1 => r vs H1 Q
theorem zax (hc : zbo X (.builtin id) r) (hg : Gl X x) (hm : X.mg x = none) (hv : bootBuiltins x = some (.builtin id)) (ha : PA X (e :: es) t) (hn : x ≠ "__name__" := by decide) (hdb : (x == ("__debug__" : Str)) = false := by decide)
  (he : starEach (e :: es) X.env = (false, eval e X.env) :: starEach es X.env := by rfl) (hpl : (backTo pos (starEach es X.env)).any (·.1) = false := by rfl) : PE X (.Call (.Name x p) (e :: es) [] pos) (tCB r t) := by
 intro pins s σ H Q I h
 refine wpAny_Call_Name_kw (zcZ I hg hm hv ?_ hn hdb)
 exact PyProof.Rows.callWith_builtin1 (thn (ha pos pins s σ H _ I h) fun us s1 ⟨vs, H1, I1, r1, q1⟩ => hc pins s1 σ H1 vs us Q I1 r1 q1) he hpl
theorem zaO (hc : zbo X (.type T) r) (hg : Gl X x) (hm : X.mg x = none) (hv : bootBuiltins x = some (.type T)) (ha : PA X (e :: es) t) (hn : x ≠ "__name__" := by decide) (hdb : (x == ("__debug__" : Str)) = false := by decide)
  (he : starEach (e :: es) X.env = (false, eval e X.env) :: starEach es X.env := by rfl) (hpl : (backTo pos (starEach es X.env)).any (·.1) = false := by rfl) : PE X (.Call (.Name x p) (e :: es) [] pos) (tCB r t) := by
 intro pins s σ H Q I h
 refine wpAny_Call_Name_kw (zcZ I hg hm hv ?_ hn hdb)
 exact PyProof.Rows.callWith_type1 (thn (ha pos pins s σ H _ I h) fun us s1 ⟨vs, H1, I1, r1, q1⟩ => hc pins s1 σ H1 vs us Q I1 r1 q1) he hpl
end
end L2
namespace HT
open PySem PyProof.Rows
section
open PySem.SeqAt
open PySem.AutoSeq1 (wpAny_loadPart')
open PySem.MeetsSeq PySem.MeetsSeq2 PySem.MeetsSeq3
end
section
variable {prog : Program} {w : World} {A : Around} {E : Value -> Shared -> Prop} {s : Shared}
theorem cat_tup {t b : Addr} {vs ws : List Value} {Q : Value -> Shared -> Prop} (ht : IsTup s.heap t vs.toArray) (hb : IsTup s.heap b ws.toArray) (hv : vs ≠ [])
  (h1 : ws = [] -> Q (.ref t) s) (h2 : ws ≠ [] -> Q (.ref s.heap.objs.size) { s with heap := s.heap.push { cls := .type "tuple", data := .seq (vs ++ ws).toArray } })
  (hsz : vs.length + ws.length ≤ sizeLine) : wpAny (model prog w) A (binaryOp .Add (.ref t) (.ref b)) Q E s := by
 obtain ⟨⟨cls, dd, data, sl⟩, ho, hc, n, hd⟩ := id ht
 obtain ⟨⟨cls2, dd2, data2, sl2⟩, ho2, hc2, n2, hd2⟩ := id hb
 simp only at hc hd hc2 hd2
 subst hc hd hc2 hd2
 have e : vs.toArray ++ ws.toArray = (vs ++ ws).toArray := by simp
 by_cases hw : ws = []
 ·exact concat_meets ⟨_, ho, rfl⟩ ⟨_, ho2, rfl⟩ noFill_tuple_add seq_tuple_add PySem.F.slot_tuple_add PySem.F.entry_tuple_add (PySem.F.args_tuple_add_2 _ _)
   (tuple_addW1 t b vs.toArray ws.toArray n n2 dd dd2 sl sl2 (by simpa using hv) (by simp [hw])) ⟨ho, ho2, h1 hw⟩
 ·refine concat_meets ⟨_, ho, rfl⟩ ⟨_, ho2, rfl⟩ noFill_tuple_add seq_tuple_add PySem.F.slot_tuple_add PySem.F.entry_tuple_add (PySem.F.args_tuple_add_2 _ _)
   (tuple_addW2 t b vs.toArray ws.toArray n n2 dd dd2 sl sl2 (by simpa using hv) (by simpa using hw) (by rw [List.size_toArray, List.size_toArray]; exact hsz)) ⟨ho, ho2, ?_⟩
  rw [e]
  exact h2 hw
def sIx (n d : Nat) : Option Int -> Nat
 | none => d
 | some v => if v < 0 then (v + (n : Int)).toNat else min v.toNat n
theorem sIx_none (n d : Nat) : sIx n d none = d := rfl
theorem sIx_nat (n d k : Nat) : sIx n d (some (k : Int)) = min k n := by
 show (if (k : Int) < 0 then ((k : Int) + (n : Int)).toNat else min (k : Int).toNat n) = min k n
 rw [if_neg (by omega), Int.toNat_natCast]
theorem sIx_le (n d : Nat) (hd : d ≤ n) (o : Option Int) : sIx n d o ≤ n := by
 cases o with
 | none => exact hd
 | some v =>
  show (if v < 0 then (v + (n : Int)).toNat else min v.toNat n) ≤ n
  by_cases hv : v < 0
  ·rw [if_pos hv]; omega
  ·rw [if_neg hv]; exact Nat.min_le_right _ _
theorem clip_eq (v : Int) (n d : Nat) : (if v < 0 then max (v + (n : Int)) 0 else min v (n : Int)) = ((sIx n d (some v) : Nat) : Int) := by
 show (if v < 0 then max (v + (n : Int)) 0 else min v (n : Int)) = (((if v < 0 then (v + (n : Int)).toNat else min v.toNat n) : Nat) : Int)
 by_cases hv : v < 0
 ·simp only [if_pos hv]; omega
 ·simp only [if_neg hv]; omega
theorem zfn (lo hi : Option Int) (n : Nat) : Builtin.Slice.sliceAdjust lo hi 1 (n : Int) = (((sIx n 0 lo : Nat) : Int), ((sIx n n hi : Nat) : Int)) := by
 have h1 : ¬ ((1 : Int) < 0) := by omega
 unfold Builtin.Slice.sliceAdjust
 simp only [h1, if_false]
 refine Prod.ext ?_ ?_
 ·cases lo with
  | none => rfl
  | some v => exact clip_eq v n 0
 ·cases hi with
  | none => rfl
  | some v => exact clip_eq v n n
theorem zfo (i j : Nat) : Builtin.Slice.slicePlaces (i : Int) (j : Int) 1 = j - i := by
 unfold Builtin.Slice.slicePlaces
 have h1 : (1 : Int) > 0 := by omega
 simp only [h1, if_true, Int.ediv_one]
 split <;> omega
theorem zdi {v : Value} {o : Option Int} {Q : Option Int -> Shared -> Prop} (p : IsPart v o) (h : Q o s) : wpAny (model prog w) A (Builtin.Slice.slicePartIndex v) Q E s := by
 cases p with
 | none => exact slicePart_none h
 | int i t => exact slicePart_int h
theorem zbH {sl : Addr} {vl vu : Value} {lo hi : Option Int} {n : Nat} {Q : Int × Int × Nat -> Shared -> Prop} (hs : s.heap.IsSliceOf sl vl vu .none) (pl : IsPart vl lo) (pu : IsPart vu hi)
  (h : Q (((sIx n 0 lo : Nat) : Int), 1, sIx n n hi - sIx n 0 lo) s) : wpAny (model prog w) A (Builtin.Slice.sliceApplied (.ref sl) (pure (n : Int))) Q E s := by
 obtain ⟨os, hos, hcs, hds⟩ := id hs
 unfold Builtin.Slice.sliceApplied Builtin.Slice.sliceFields
 refine wpAny_bind (wpAny_bind (wpAny_field hos hds (x := vl) rfl (wpAny_bind (wpAny_field hos hds (x := vu) rfl (wpAny_bind (wpAny_field hos hds (x := .none) rfl (wpAny_pure ?_)))))))
 refine wpAny_bind (slicePart_none ?_)
 show wpAny _ _ (if ((1 : Int) == 0) = true then _ else _) _ _ s
 rw [if_neg (by decide)]
 refine wpAny_bind (zdi pl (wpAny_bind (zdi pu (wpAny_bind (wpAny_pure ?_)))))
 show wpAny _ _ (match Builtin.Slice.sliceAdjust lo hi 1 (n : Int) with | (lo, hi) => pure (lo, (1 : Int), Builtin.Slice.slicePlaces lo hi 1)) _ _ s
 rw [zfn lo hi n]
 show wpAny _ _ (pure (((sIx n 0 lo : Nat) : Int), (1 : Int), Builtin.Slice.slicePlaces ((sIx n 0 lo : Nat) : Int) ((sIx n n hi : Nat) : Int) 1)) _ _ s
 rw [zfo]
 exact wpAny_pure h
theorem zhh (xs : Array Value) (i k : Nat) : ((List.range k).filterMap fun (m : Nat) => xs[((i : Int) + (m : Int) * 1).toNat]?).toArray = ((xs.toList.drop i).take k).toArray := by
 have e : (fun (m : Nat) => xs[((i : Int) + (m : Int) * 1).toNat]?) = fun m => xs[i + m]? := by
  funext m
  have : ((i : Int) + (m : Int) * 1).toNat = i + m := by omega
  rw [this]
 rw [e]
 have := pick_run xs i k
 rw [List.filterMap_map] at this
 have e2 : ((fun x => xs[x]?) ∘ fun x => i + x) = fun m => xs[i + m]? := rfl
 rw [e2] at this
 rw [this]
theorem getItem_tuple_cut {t sl : Addr} {items : Array Value} {vl vu : Value} {lo hi : Option Int} {Q : Value -> Shared -> Prop} (ht : IsTup s.heap t items) (hs : s.heap.IsSliceOf sl vl vu .none) (pl : IsPart vl lo) (pu : IsPart vu hi)
  (hw : ¬ (sIx items.size 0 lo = 0 /\ sIx items.size items.size hi = items.size))
  (h : Q (.ref s.heap.objs.size) { s with heap := s.heap.push { cls := .type "tuple", data := .seq ((items.toList.drop (sIx items.size 0 lo)).take (sIx items.size items.size hi - sIx items.size 0 lo)).toArray } })
  (hsz : items.size ≤ sizeLine) : wpAny (model prog w) A (getItem (.ref t) (.ref sl)) Q E s := by
 have htake : sizeOk (.seq ((items.toList.drop (sIx items.size 0 lo)).take (sIx items.size items.size hi - sIx items.size 0 lo)).toArray) := by
  show ((items.toList.drop (sIx items.size 0 lo)).take (sIx items.size items.size hi - sIx items.size 0 lo)).toArray.size ≤ sizeLine
  rw [List.size_toArray, List.length_take, List.length_drop, Array.length_toList]
  omega
 have hj : sIx items.size items.size hi ≤ items.size := sIx_le _ _ (Nat.le_refl _) hi
 obtain ⟨os, hos, hcs, hds⟩ := id hs
 have hTs : s.TypeIs (.ref sl) "slice" := ⟨os, hos, hcs⟩
 unfold getItem
 try with_reducible refine wpAny_holding ?_
 first | refine wpAny_bind (wpAny_pure ?_) | skip
 refine wpAny_bind (wpAny_sequenceKey ht.typeIs (by decide) ?_)
 refine wpAny_bind (wpAny_callSpecial?_slot (name := Str.ofString "__getitem__") ht.typeIs PyProof.Rows.slot_tuple_getitem
  (wpAny_call_entry PyProof.Rows.slot_tuple_getitem ht.typeIs entry_tuple_getitem ?_ (args_tuple_getitem _ _)))
 show wpAny _ _ (Builtin.Tuple.tupleItemsOf (.ref t) >>= _) _ _ s
 refine wpAny_bind (tupleItemsOf_ ht ?_)
 refine wpAny_bind (wpAny_typeOf hTs ?_)
 rw [if_pos (by decide)]
 refine wpAny_bind (zbH hs pl pu ?_)
 have hno : ¬ ((((sIx items.size 0 lo : Nat) : Int) == 0 && (1 : Int) == 1 && (sIx items.size items.size hi - sIx items.size 0 lo) == items.size) = true) := by
  intro q
  rw [Bool.and_eq_true, Bool.and_eq_true] at q
  have q1 : ((sIx items.size 0 lo : Nat) : Int) = 0 := eq_of_beq q.1.1
  have q2 : sIx items.size items.size hi - sIx items.size 0 lo = items.size := eq_of_beq q.2
  exact hw ⟨by omega, by omega⟩
 show wpAny _ _ (if (((sIx items.size 0 lo : Nat) : Int) == 0 && (1 : Int) == 1 && (sIx items.size items.size hi - sIx items.size 0 lo) == items.size) = true then _ else _) _ _ s
 rw [if_neg hno, zhh]
 first
  | exact wpAny_bind (m := Builtin.Tuple.tupleExact _) (wpAny_newObj_type (wpAny_pure ⟨_, rfl, wpAny_pure h⟩) htake)
  | exact wpAny_bind (m := Builtin.Tuple.tupleExact _) (wpAny_newObj_type (wpAny_bind (wpAny_pure (wpAny_pure ⟨_, rfl, wpAny_pure h⟩))) htake)
  | exact wpAny_bind (wpAny_bind (m := Builtin.Tuple.tupleExact _) (wpAny_newObj_type (wpAny_pure (wpAny_pure ⟨_, rfl, wpAny_pure h⟩)) htake))
  | exact wpAny_bind (wpAny_bind (m := Builtin.Tuple.tupleExact _) (wpAny_newObj_type (wpAny_pure ⟨_, rfl, wpAny_pure h⟩) htake))
end
end HT
namespace L2
open PySem PySem.Spec PyProof.Rows
abbrev TO := St -> Hp -> (Option Int -> Hp -> Prop) -> Prop
def PO (X : Cx) (e : Option Expr) (t : TO) : Prop :=
 ∀ (pins : List (Addr × Obj)) (s : Shared) (σ : St) (H : Hp) (Q : Option Int -> Hp -> Prop), Inv X pins σ H s -> t σ H Q ->
  wpAny (model X.prog X.w) X.A (evalPart e X.env) (fun u s' => ∃ o H', Inv X pins σ H' s' /\ IsPart u o /\ Q o H') X.xe s
def zfZ : TO := fun _ H Q => Q none H
def zjX (t : TE) : TO := fun σ H Q => t σ H fun x H1 => ∃ i, x = .int i /\ Q (some i) H1
section
variable {X : Cx} {e : Expr} {te : TE} {lo hi : Option Expr} {tl th : TO} {pos p2 : Pos}
theorem zbr : PO X none zfZ := by
 intro pins s σ H Q I h
 rw [evalPart_none]
 exact wpAny_pure ⟨none, H, I, .none, h⟩
theorem zbs (h : PE X e te) : PO X (some e) (zjX te) := by
 intro pins s σ H Q I hw
 rw [evalPart_some]
 refine thn (h pins s σ H _ I hw) fun u s1 ⟨x, H1, I1, r1, q1⟩ => ?_
 obtain ⟨i, rfl, q⟩ := q1
 obtain ⟨t, rfl⟩ := r1
 exact ⟨some i, H1, I1, .int i t, q⟩
def SlR (X : Cx) (r : V -> Option Int -> Option Int -> Hp -> VK -> Prop) : Prop :=
 ∀ (pins : List (Addr × Obj)) (s : Shared) (σ : St) (H : Hp) (x : V) (v vl vu : Value) (lo hi : Option Int) (sl : Addr) (Q : VK), Inv X pins σ H s -> RelV x v -> s.heap.IsSliceOf sl vl vu .none -> IsPart vl lo -> IsPart vu hi -> r x lo hi H Q ->
  ∃ T id, typeLookup (.type T) "__getitem__" = pure (some (.builtin id)) /\ s.TypeIs v T /\ wpAny (model X.prog X.w) X.A (getItem v (.ref sl)) (EP X pins σ Q) X.xe s
theorem SlR.or {r r' : V -> Option Int -> Option Int -> Hp -> VK -> Prop} (h : SlR X r) (h' : SlR X r') : SlR X (fun x lo hi H Q => r x lo hi H Q \/ r' x lo hi H Q) := by
 intro pins s σ H x v vl vu lo hi sl Q I rx hs pl pu q
 rcases q with q | q
 ·exact h pins s σ H x v vl vu lo hi sl Q I rx hs pl pu q
 ·exact h' pins s σ H x v vl vu lo hi sl Q I rx hs pl pu q
def tSl (r : V -> Option Int -> Option Int -> Hp -> VK -> Prop) (te : TE) (tl th : TO) : TE := fun σ H Q => te σ H fun x H1 => tl σ H1 fun l H2 => th σ H2 fun u H3 => r x l u H3 Q
theorem zbg {r : V -> Option Int -> Option Int -> Hp -> VK -> Prop} (hr : SlR X r) (he : PE X e te) (hl : PO X lo tl) (hu : PO X hi th) : PE X (.Subscript e (.Slice lo hi none p2) pos) (tSl r te tl th) := by
 intro pins s σ H Q I h
 refine Subscript_ (thn (he pins s σ H _ I h) fun v s1 ⟨x, H1, I1, r1, q1⟩ => ?_)
 refine wpAny_Slice (thn (hl pins s1 σ H1 _ I1 q1) fun vl s2 ⟨l, H2, I2, pl, q2⟩ => thn (hu pins s2 σ H2 _ I2 q2) fun vu s3 ⟨u, H3, I3, pu, q3⟩ => ?_)
 rw [evalPart_none]
 refine wpAny_pure ?_
 have I4 : Inv X pins σ H3 { s3 with heap := s3.heap.push { cls := .type "slice", data := .fields #[vl, vu, .none] } } := I3.kept (t' := s3.toks) fun b ob q => Heap.get?_push_of_some _ q
 obtain ⟨T, id, hT, ht, hg⟩ := hr pins { s3 with heap := s3.heap.push { cls := .type "slice", data := .fields #[vl, vu, .none] } } σ H3 x v vl vu l u s3.heap.objs.size Q I4 r1 (Heap.IsSliceOf.new ..) pl pu q3
 show wpAny (model X.prog X.w) X.A (subscriptTail e (.Slice lo hi none p2) v (.ref s3.heap.objs.size)) (EP X pins σ Q) X.xe { s3 with heap := s3.heap.push { cls := .type "slice", data := .fields #[vl, vu, .none] } }
 exact tail_any (ops := [.ref s3.heap.objs.size, v]) ht hT hg (by with_unfolding_all rfl)
def cutV (xs : List V) (lo hi : Option Int) : List V := (xs.drop (HT.sIx xs.length 0 lo)).take (HT.sIx xs.length xs.length hi - HT.sIx xs.length 0 lo)
theorem zc9 (xs : List V) (lo hi : Option Int) : (cutV xs lo hi).length ≤ xs.length := by
 unfold cutV
 rw [List.length_take, List.length_drop]
 omega
def rSlT (K : W.Frag) : V -> Option Int -> Option Int -> Hp -> VK -> Prop := fun x lo hi H Q => ∃ a xs, x = .ref a /\ SqT K H a xs /\
 ¬ (HT.sIx xs.length 0 lo = 0 /\ HT.sIx xs.length xs.length hi = xs.length) /\ ∀ p, H p = none -> Q (.ref p) (upd H p (.tup (cutV xs lo hi)))
theorem zid : SlR X (rSlT X.K) := by
 intro pins s σ H x v vl vu lo hi sl Q I rx hs pl pu h
 obtain ⟨a, xs, rfl, hx, hw, q⟩ := h
 cases rx
 obtain ⟨its, r, ht, hz⟩ := I.tuple hx
 have hlen : its.toArray.size = xs.length := by rw [List.size_toArray]; exact r.length.symm
 refine ⟨"tuple", _, PyProof.Rows.slot_tuple_getitem.lookup, ht.typeIs, ?_⟩
 refine HT.getItem_tuple_cut ht hs pl pu (by rw [hlen]; exact hw) ?_ (by rw [hlen]; exact hz)
 rw [hlen]
 refine ⟨.ref s.heap.objs.size, _, I.laid (t' := s.toks) (o := .tup (cutV xs lo hi)) (fun b ob q => Heap.get?_push_of_some _ q) (Nat.le_refl _) ?_, rfl, q _ (I.hok.fresh (Nat.le_refl _))⟩
 exact ⟨Nat.le_trans (zc9 xs lo hi) hz, _, (r.drop (HT.sIx xs.length 0 lo)).take (HT.sIx xs.length xs.length hi - HT.sIx xs.length 0 lo), IsTup.new _ _⟩
def zjY (K : W.Frag) : R2 := fun x y H Q => ∃ a b xs ys, x = .ref a /\ y = .ref b /\ SqT K H a xs /\ SqT K H b ys /\ xs ≠ [] /\ xs.length + ys.length ≤ sizeLine /\
 (ys = [] -> Q (.ref a) H) /\ (ys ≠ [] -> ∀ p, H p = none -> Q (.ref p) (upd H p (.tup (xs ++ ys))))
theorem Vals.nil_iff {xs : List V} {us : List Value} (r : Vals xs us) : us = [] ↔ xs = [] := by
 cases r with
 | nil => simp
 | cons _ _ => simp
theorem zga : OpR X (binaryOp .Add) (zjY X.K) := by
 intro pins s σ H x y v u Q I rx ry h
 obtain ⟨a, b, xs, ys, rfl, rfl, ha, hb, hx, hz, q1, q2⟩ := h
 cases rx
 cases ry
 obtain ⟨its, r1, p1, _⟩ := I.tuple ha
 obtain ⟨its2, r2, p2, _⟩ := I.tuple hb
 refine HT.cat_tup p1 p2 (fun z => hx (r1.nil_iff.mp z)) (fun z => ⟨.ref a, H, I, rfl, q1 (r2.nil_iff.mp z)⟩) (fun z => ?_) (by rw [<- r1.length, <- r2.length]; exact hz)
 refine ⟨.ref s.heap.objs.size, _, I.laid (t' := s.toks) (o := .tup (xs ++ ys)) (fun b ob q => Heap.get?_push_of_some _ q) (Nat.le_refl _) ?_, rfl, q2 (fun w => z (r2.nil_iff.mpr w)) _ (I.hok.fresh (Nat.le_refl _))⟩
 exact ⟨by rw [List.length_append]; exact hz, _, r1.append r2, IsTup.new _ _⟩
end
end L2
namespace L2
open PySem PySem.Spec PyProof.Rows
def ixN (n : Nat) (i : Int) : Option Nat := if 0 ≤ i then (if i < n then some i.toNat else none) else if -(n : Int) ≤ i then some (i + n).toNat else none
def atI {α : Type} (xs : List α) (i : Int) : Option α := (ixN xs.length i).bind fun j => xs[j]?
theorem zgb {n : Nat} {i : Int} {j : Nat} (h : ixN n i = some j) : seqIndex? i n = some j /\ j < n /\ -(n : Int) ≤ i /\ i < n := by
 unfold ixN at h
 by_cases h0 : 0 ≤ i
 ·rw [if_pos h0] at h
  by_cases h1 : i < n
  ·rw [if_pos h1] at h
   have e : i.toNat = j := Option.some.inj h
   exact ⟨by rw [seqIndex_of h0 h1, e], by omega, by omega, h1⟩
  ·rw [if_neg h1] at h; cases h
 ·rw [if_neg h0] at h
  by_cases h1 : -(n : Int) ≤ i
  ·rw [if_pos h1] at h
   have e : (i + n).toNat = j := Option.some.inj h
   exact ⟨by rw [seqIndex_neg (by omega) h1, e], by omega, h1, by omega⟩
  ·rw [if_neg h1] at h; cases h
theorem zev {α : Type} {xs : List α} {i : Int} {v : α} (h : atI xs i = some v) : ∃ j, seqIndex? i xs.length = some j /\ xs[j]? = some v /\ j < xs.length /\ -(xs.length : Int) ≤ i /\ i < xs.length := by
 unfold atI at h
 cases e : ixN xs.length i with
 | none => rw [e] at h; cases h
 | some j =>
  rw [e] at h
  obtain ⟨h1, h2, h3, h4⟩ := zgb e
  exact ⟨j, h1, h, h2, h3, h4⟩
theorem zae {α : Type} {xs : List α} {j : Nat} {v : α} (h : xs[j]? = some v) : atI xs (j : Int) = some v := by
 have hj : j < xs.length := (List.getElem?_eq_some_iff.mp h).1
 have e : ixN xs.length (j : Int) = some j := by
  unfold ixN
  rw [if_pos (by omega), if_pos (by omega)]; simp
 unfold atI; rw [e]; exact h
def ziA (b : Expr) : Prop := ∀ o i, subscripted b false o i = operate [o, i] (getItem o i)
def IxR (X : Cx) (r : R2) : Prop :=
 ∀ (value slice : Expr) (pins : List (Addr × Obj)) (s : Shared) (σ : St) (H : Hp) (x y : V) (v u : Value) (Q : VK), Inv X pins σ H s -> RelV x v -> RelV y u -> r x y H Q ->
  subscripted slice false v u = operate [v, u] (getItem v u) -> wpAny (model X.prog X.w) X.A (subscriptTail value slice v u) (EP X pins σ Q) X.xe s
def MtR (X : Cx) (id : String) (r : V -> List V -> Hp -> VK -> Prop) : Prop :=
 ∀ (pins : List (Addr × Obj)) (s : Shared) (σ : St) (H : Hp) (x : V) (xs : List V) (v : Value) (us : List Value) (Q : VK), Inv X pins σ H s -> RelV x v -> Vals xs us -> r x xs H Q ->
  wpAny (model X.prog X.w) X.A (call (.builtin id) (v :: us)) (EP X pins σ Q) X.xe s
section
variable {X : Cx} {a b : Expr} {ta tb : TE} {pos : Pos}
theorem IxR.or {r r' : R2} (h : IxR X r) (h' : IxR X r') : IxR X (fun x y H Q => r x y H Q \/ r' x y H Q) := by
 intro value slice pins s σ H x y v u Q I rx ry q hs
 rcases q with q | q
 ·exact h value slice pins s σ H x y v u Q I rx ry q hs
 ·exact h' value slice pins s σ H x y v u Q I rx ry q hs
theorem zam {r : R2} (hr : IxR X r) (ha : PE X a ta) (hb : PE X b tb) (hs : ziA b) : PE X (.Subscript a b pos) (tOp r ta tb) := by
 intro pins s σ H Q I h
 exact Subscript_ (binT ha hb I h fun v u s2 x y H2 I2 rx ry q => hr a b pins s2 σ H2 x y v u Q I2 rx ry q (hs _ _))
def rIxL (K : W.Frag) : R2 := fun x y H Q => ∃ p xs i v, x = .ref p /\ y = .int i /\ SqL K H p xs /\ atI xs i = some v /\ Q v H
def rIxT (K : W.Frag) : R2 := fun x y H Q => ∃ p xs i v, x = .ref p /\ y = .int i /\ SqT K H p xs /\ atI xs i = some v /\ Q v H
def rIxS : R2 := fun x y H Q => ∃ z i c, x = .str z /\ y = .int i /\ z.length ≤ sizeLine /\ atI z.cps.toList i = some c /\ Q (.str ⟨#[c]⟩) H
theorem ix_list : IxR X (rIxL X.K) := by
 intro value slice pins s σ H x y v u Q I rx ry h hs
 obtain ⟨p, xs, i, z, rfl, rfl, hq, he, q⟩ := h
 cases rx
 obtain ⟨t, rfl⟩ := ry
 obtain ⟨its, r, pl, hz⟩ := I.list hq
 obtain ⟨j, h1, h2, h3, h4, h5⟩ := zev he
 obtain ⟨w, ew, rw'⟩ := r.get h2
 have hl := r.length
 have hn := zdd
 have fin : EP X pins σ Q w s := ⟨z, H, I, rw', q⟩
 by_cases h0 : 0 ≤ i
 ·have hj : i.toNat = j := by
   rw [seqIndex_of h0 h5] at h1
   exact Option.some.inj h1
  exact item_listR pl.isList h0 (by omega) (by rw [hj]; simpa using ew) fin hs
 ·have hj : (i + (its.toArray.size : Int)).toNat = j := by
   rw [seqIndex_neg (by omega) h4] at h1
   rw [List.size_toArray, <- hl]
   exact Option.some.inj h1
  exact subscriptTail_builtinR (x := w) pl.isList.typeIs slot_list_getitem.lookup
   (wpAny_getItem_list_neg (Q := fun r s' => r = w /\ EP X pins σ Q r s') pl.isList (by omega) (by rw [List.size_toArray] <;> omega) (by omega) (by rw [hj]; simpa using ew) ⟨rfl, fin⟩) hs
theorem ix_tup : IxR X (rIxT X.K) := by
 intro value slice pins s σ H x y v u Q I rx ry h hs
 obtain ⟨p, xs, i, z, rfl, rfl, hq, he, q⟩ := h
 cases rx
 obtain ⟨t, rfl⟩ := ry
 obtain ⟨its, r, pl, hz⟩ := I.tuple hq
 obtain ⟨j, h1, h2, h3, h4, h5⟩ := zev he
 obtain ⟨w, ew, rw'⟩ := r.get h2
 have hl := r.length
 have hn := zdd
 have fin : EP X pins σ Q w s := ⟨z, H, I, rw', q⟩
 exact subscriptTail_builtinR (x := w) pl.typeIs slot_tuple_getitem.lookup
  (getItem_tuple (j := j) (Q := fun r s' => r = w /\ EP X pins σ Q r s') pl (by omega) (by omega) (by rw [List.size_toArray, <- hl]; exact h1) (by simpa using ew) ⟨rfl, fin⟩) hs
theorem zjZ : IxR X rIxS := by
 intro value slice pins s σ H x y v u Q I rx ry h hs
 obtain ⟨z, i, c, rfl, rfl, hz, he, q⟩ := h
 obtain ⟨t, rfl⟩ := rx
 obtain ⟨t', rfl⟩ := ry
 obtain ⟨j, h1, h2, h3, h4, h5⟩ := zev he
 have hl : z.cps.toList.length = z.length := by simp [Str.length]
 rw [hl] at h1 h4 h5
 have hn := zdd
 exact tail_any (typeIs_str s z t) slot_str_getitem.lookup (getItem_str (c := c) (by
  have e1 : decide (i < -(2 ^ 63 : Int)) = false := decide_eq_false (by omega)
  have e2 : decide (i ≥ 2 ^ 63) = false := decide_eq_false (by omega)
  rw [e1, e2, Bool.or_false]) (by rw [h1]; simpa using h2) ⟨.str ⟨#[c]⟩, H, I.tok _, ⟨_, rfl⟩, q⟩) hs
def rIx (K : W.Frag) : R2 := fun x y H Q => rIxL K x y H Q \/ rIxT K x y H Q \/ rIxS x y H Q
theorem ix_seq : IxR X (rIx X.K) := ix_list.or (ix_tup.or zjZ)
theorem zfp (its : List Value) (n j : Nat) (u : Value) : Obj.mapSeq (·.setIfInBounds j u) { cls := .type "list", data := .seq its.toArray n } = { cls := .type "list", data := .seq (its.set j u).toArray n } := by
 simp [Obj.mapSeq]
theorem Inv.lst {pins : List (Addr × Obj)} {σ : St} {H : Hp} {s : Shared} {p : Addr} {xs : List V} (I : Inv X pins σ H s) (h : H p = some (.lst xs)) :
  ∃ (its : List Value) (n : Nat), Vals xs its /\ s.heap.get? p = some { cls := .type "list", data := .seq its.toArray n } /\ xs.length ≤ sizeLine := by
 obtain ⟨z, its, n, r, e⟩ := I.hok p _ h
 exact ⟨its, n, r, e, z⟩
theorem Inv.lstUpd {pins : List (Addr × Obj)} {σ : St} {H : Hp} {s : Shared} {p : Addr} {xs ys : List V} {its its' : List Value} {n n' : Nat} {f : Obj -> Obj} (I : Inv X pins σ H s) (h : H p = some (.lst xs))
  (ho : s.heap.get? p = some { cls := .type "list", data := .seq its.toArray n }) (hf : f { cls := .type "list", data := .seq its.toArray n } = { cls := .type "list", data := .seq its'.toArray n' }) (r : Vals ys its') (hz : ys.length ≤ sizeLine) (t : Nat) :
  Inv X pins σ (upd H p (.lst ys)) { s with heap := s.heap.update p f, toks := t } := by
 have e : (s.heap.update p f).get? p = some { cls := .type "list", data := .seq its'.toArray n' } := by
  rw [Heap.get?_update_self f ho (by rw [hf] <;> rfl), hf]
 refine I.write (x := p) (e := p) (by rw [h]; trivial) (.inl rfl) (fun b u hb q => (Heap.get?_update_other _ _ (Ne.symm hb)).trans q) ⟨_, e⟩ ?_
 exact ⟨hz, its', n', r, e⟩
def zka : V -> V -> V -> Hp -> (Hp -> Prop) -> Prop := fun o i v H Q => ∃ p xs k j, o = .ref p /\ i = .int k /\ H p = some (.lst xs) /\ ixN xs.length k = some j /\ Q (upd H p (.lst (xs.set j v)))
theorem zhi : PSet X zka := by
 intro pins s σ H o i v ov iv u Q I ro ri rv h
 obtain ⟨p, xs, k, j, rfl, rfl, hp, hj, q⟩ := h
 cases ro
 obtain ⟨t, rfl⟩ := ri
 obtain ⟨its, n, r, ho, hz⟩ := I.lst hp
 obtain ⟨h1, h2, h3, h4⟩ := zgb hj
 have hl := r.length
 have hn := zdd
 have I' : Inv X pins σ (upd H p (.lst (xs.set j v))) { s with heap := s.heap.update p (Obj.mapSeq (·.setIfInBounds j u)) } :=
  I.lstUpd hp ho (zfp its n j u) (r.set rv j) (by rw [List.length_set]; exact hz) s.toks
 by_cases h0 : 0 ≤ k
 ·have hk : k.toNat = j := by
   rw [seqIndex_of h0 h4] at h1
   exact Option.some.inj h1
  exact W.ki_setAt ho h0 (by omega) (by rw [List.size_toArray, <- hl]; exact h4) (by rw [hk]; exact ⟨_, I', q⟩)
 ·have hk : (k + (its.toArray.size : Int)).toNat = j := by
   rw [seqIndex_neg (by omega) h3] at h1
   rw [List.size_toArray, <- hl]
   exact Option.some.inj h1
  exact W.ki_setBack ho (by omega) (by rw [List.size_toArray, <- hl]; exact h3) (by omega) (by rw [hk]; exact ⟨_, I', q⟩)
theorem zdL (lo hi : Option Int) (n : Nat) : (sliceBounds lo hi none n).1 = ((HT.sIx n 0 lo : Nat) : Int) /\ (sliceBounds lo hi none n).2.1 = ((HT.sIx n n hi : Nat) : Int) /\ (sliceBounds lo hi none n).2.2 = 1 := by
 refine ⟨?_, ?_, rfl⟩
 ·cases lo with
  | none => simp [sliceBounds, HT.sIx]
  | some i =>
   simp only [sliceBounds, HT.sIx, Option.getD_none, show (1 : Int) > 0 by decide, if_true]
   by_cases h : i < 0
   ·simp only [h, if_true] <;> omega
   ·simp only [h, if_false] <;> omega
 ·cases hi with
  | none => simp [sliceBounds, HT.sIx]
  | some i =>
   simp only [sliceBounds, HT.sIx, Option.getD_none, show (1 : Int) > 0 by decide, if_true]
   by_cases h : i < 0
   ·simp only [h, if_true] <;> omega
   ·simp only [h, if_false] <;> omega
theorem zdr (its : List Value) (lo hi : Option Int) : slicePick its.toArray lo hi none = ((its.drop (HT.sIx its.length 0 lo)).take (HT.sIx its.length its.length hi - HT.sIx its.length 0 lo)).toArray := by
 obtain ⟨h1, h2, h3⟩ := zdL lo hi its.toArray.size
 unfold slicePick
 rw [h1, h2, h3]
 simp only [sliceRange_one, pick_run, List.size_toArray] <;> rfl
def rSlL (K : W.Frag) : V -> Option Int -> Option Int -> Hp -> VK -> Prop := fun x lo hi H Q => ∃ a xs, x = .ref a /\ SqL K H a xs /\ ∀ p, H p = none -> Q (.ref p) (upd H p (.lst (cutV xs lo hi)))
theorem zgc : SlR X (rSlL X.K) := by
 intro pins s σ H x v vl vu lo hi sl Q I rx hs pl pu h
 obtain ⟨a, xs, rfl, hx, q⟩ := h
 cases rx
 obtain ⟨its, r, ht, hz⟩ := I.list hx
 have hlen := r.length
 refine ⟨"list", _, slot_list_getitem.lookup, ht.isList.typeIs, ?_⟩
 refine wpAny_getItem_list_slice ht.isList hs pl pu .none (by simp) ?_ (by rw [List.size_toArray] <;> omega)
 rw [zdr, <- hlen]
 refine ⟨.ref s.heap.objs.size, _, I.laid (t' := s.toks) (o := .lst (cutV xs lo hi)) (fun b ob q => Heap.get?_push_of_some _ q) (Nat.le_refl _) ?_, rfl, q _ (I.hok.fresh (Nat.le_refl _))⟩
 exact ⟨Nat.le_trans (zc9 xs lo hi) hz, _, 0, (r.drop (HT.sIx xs.length 0 lo)).take (HT.sIx xs.length xs.length hi - HT.sIx xs.length 0 lo), Heap.get?_push_size _ rfl⟩
def zbt : V -> Bool
 | .non => true
 | .bl _ => true
 | .int _ => true
 | .str _ => true
 | _ => false
def eqV : V -> V -> Bool
 | .non, .non => true
 | .bl a, .bl b => a == b
 | .bl a, .int b => (if a then 1 else 0) == b
 | .int a, .bl b => a == (if b then 1 else 0)
 | .int a, .int b => a == b
 | .str a, .str b => a == b
 | _, _ => false
theorem zie {A : Around} {s : Shared} {y x : V} {u v : Value} (ry : RelV y u) (rx : RelV x v) (fy : zbt y = true) (fx : zbt x = true) : SeqAt.EqAt A s u v (eqV y x) := by
 cases y with
 | non =>
  cases ry
  cases x with
  | non => cases rx; exact SeqAt.EqAt.same _
  | bl b => cases rx; exact SeqAt.EqAt.none_bool b
  | int b => obtain ⟨t, rfl⟩ := rx; exact SeqAt.EqAt.none_int b t
  | str b => obtain ⟨t, rfl⟩ := rx; exact SeqAt.EqAt.none_str b t
  | _ => exact absurd (show false = true from fx) Bool.false_ne_true
 | bl a =>
  cases ry
  cases x with
  | non => cases rx; exact SeqAt.EqAt.bool_none a
  | bl b => cases rx; exact SeqAt.EqAt.bool_bool a b
  | int b => obtain ⟨t, rfl⟩ := rx; exact SeqAt.EqAt.bool_int a b t
  | str b => obtain ⟨t, rfl⟩ := rx; exact SeqAt.EqAt.bool_str a b t
  | _ => exact absurd (show false = true from fx) Bool.false_ne_true
 | int a =>
  obtain ⟨t', rfl⟩ := ry
  cases x with
  | non => cases rx; exact SeqAt.EqAt.int_none a t'
  | bl b => cases rx; exact SeqAt.EqAt.int_bool a t' b
  | int b => obtain ⟨t, rfl⟩ := rx; exact SeqAt.EqAt.int_int a t' b t
  | str b => obtain ⟨t, rfl⟩ := rx; exact SeqAt.EqAt.int_str a t' b t
  | _ => exact absurd (show false = true from fx) Bool.false_ne_true
 | str a =>
  obtain ⟨t', rfl⟩ := ry
  cases x with
  | non => cases rx; exact SeqAt.EqAt.str_none a t'
  | bl b => cases rx; exact SeqAt.EqAt.str_bool a t' b
  | int b => obtain ⟨t, rfl⟩ := rx; exact SeqAt.EqAt.str_int a t' b t
  | str b => obtain ⟨t, rfl⟩ := rx; exact SeqAt.EqAt.str_str a t' b t
  | _ => exact absurd (show false = true from fx) Bool.false_ne_true
 | _ => exact absurd (show false = true from fy) Bool.false_ne_true
def eqU (x : V) (u : Value) : Bool := match u with
 | .none => eqV .non x
 | .bool b => eqV (.bl b) x
 | .int i _ => eqV (.int i) x
 | .str z _ => eqV (.str z) x
 | _ => false
theorem zif {x y : V} {u : Value} (r : RelV y u) (f : zbt y = true) : eqU x u = eqV y x := by
 cases y with
 | non => cases r; rfl
 | bl b => cases r; rfl
 | int i => obtain ⟨t, rfl⟩ := r; rfl
 | str z => obtain ⟨t, rfl⟩ := r; rfl
 | _ => exact absurd (show false = true from f) Bool.false_ne_true
theorem zcA {x : V} : ∀ {xs : List V} {us : List Value}, Vals xs us -> xs.all zbt = true -> us.any (eqU x) = xs.any fun y => eqV y x
 | _, _, .nil, _ => rfl
 | y :: xs, u :: us, .cons r t, f => by
  rw [List.all_cons, Bool.and_eq_true] at f
  rw [List.any_cons, List.any_cons, zif r f.1, zcA t f.2]
theorem zbX {A : Around} {s : Shared} {x : V} {v : Value} (rx : RelV x v) (fx : zbt x = true) : ∀ {xs : List V} {us : List Value}, Vals xs us -> xs.all zbt = true -> ∀ u ∈ us, SeqAt.EqAt A s u v (eqU x u)
 | _, _, .nil, _ => fun u hu => by cases hu
 | y :: xs, u :: us, .cons r t, f => fun u' hu => by
  rw [List.all_cons, Bool.and_eq_true] at f
  rcases List.mem_cons.mp hu with rfl | hu
  ·rw [zif r f.1]; exact zie r rx f.1 fx
  ·exact zbX rx fx t f.2 u' hu
def inV (x : V) (xs : List V) : Bool := xs.any fun y => eqV y x
def rIn (K : W.Frag) (neg : Bool) : R2 := fun x y H Q => ∃ p xs, y = .ref p /\ (SqL K H p xs \/ SqT K H p xs) /\ zbt x = true /\ xs.all zbt = true /\ Q (.bl (if neg then !inV x xs else inV x xs)) H
theorem zgd : OpR X (compareOp .In) (rIn X.K false) := by
 intro pins s σ H x y v u Q I rx ry h
 obtain ⟨p, xs, rfl, hq, fx, fs, q⟩ := h
 cases ry
 rcases hq with hq | hq
 ·obtain ⟨its, r, pl, hz⟩ := I.list hq
  refine SeqAt.in_listAt (eqU x) pl.isList (fun w hw => zbX rx fx r fs w (by simpa using hw)) ⟨.bl _, H, I, rfl, ?_⟩
  rw [show its.toArray.any (eqU x) = its.any (eqU x) by simp, zcA r fs]
  exact q
 ·obtain ⟨its, r, pl, hz⟩ := I.tuple hq
  refine SeqAt.in_tupleAt (eqU x) pl (fun w hw => zbX rx fx r fs w (by simpa using hw)) ⟨.bl _, H, I, rfl, ?_⟩
  rw [show its.toArray.any (eqU x) = its.any (eqU x) by simp, zcA r fs]
  exact q
theorem zdM : OpR X (compareOp .NotIn) (rIn X.K true) := by
 intro pins s σ H x y v u Q I rx ry h
 obtain ⟨p, xs, rfl, hq, fx, fs, q⟩ := h
 cases ry
 rcases hq with hq | hq
 ·obtain ⟨its, r, pl, hz⟩ := I.list hq
  refine SeqAt.notIn_listAt (eqU x) pl.isList (fun w hw => zbX rx fx r fs w (by simpa using hw)) ⟨.bl _, H, I, rfl, ?_⟩
  rw [show its.toArray.any (eqU x) = its.any (eqU x) by simp, zcA r fs]
  exact q
 ·obtain ⟨its, r, pl, hz⟩ := I.tuple hq
  refine SeqAt.notIn_tupleAt (eqU x) pl (fun w hw => zbX rx fx r fs w (by simpa using hw)) ⟨.bl _, H, I, rfl, ?_⟩
  rw [show its.toArray.any (eqU x) = its.any (eqU x) by simp, zcA r fs]
  exact q
theorem zdN : OpR X (compareOp .NotIn) (fun x y H Q => ∃ i j, x = .str i /\ y = .str j /\ Q (.bl (!(!(Builtin.Str.occurrences j i 0 j.length 1).isEmpty))) H) := by
 intro pins s σ H x y v u Q I rx ry h
 obtain ⟨i, j, rfl, rfl, q⟩ := h
 obtain ⟨t, rfl⟩ := rx
 obtain ⟨t', rfl⟩ := ry
 exact notIn_str ⟨.bl _, H, I, rfl, q⟩
theorem call_list_of : zbo X (.type "list") (fun xs H Q => ∃ p ys, xs = [.ref p] /\ (SqL X.K H p ys \/ SqT X.K H p ys) /\ ∀ l, H l = none -> Q (.ref l) (upd H l (.lst ys))) := by
 intro pins s σ H xs us Q I r h
 obtain ⟨p, ys, rfl, hq, q⟩ := h
 obtain ⟨u, rfl, rx⟩ := zdp r
 cases rx
 have fin : ∀ (its : List Value), Vals ys its -> ys.length ≤ sizeLine -> ∀ (h' : Heap) (c' : Nat), (∀ b o', s.heap.get? b = some o' -> h'.get? b = some o') ->
   h'.get? s.heap.objs.size = some { cls := .type "list", dict := none, data := .seq its.toArray c', slots := #[] } -> EP X pins σ Q (.ref s.heap.objs.size) { s with heap := h' } := fun its r' hz h' c' kp e =>
  ⟨.ref s.heap.objs.size, _, I.laid (t' := s.toks) kp (Nat.le_refl _) (show ObjOk X.prog X.w _ h' _ (.lst ys) from ⟨hz, its, c', r', e⟩), rfl, q _ (I.hok.fresh (Nat.le_refl _))⟩
 rcases hq with hq | hq
 ·obtain ⟨its, r', pl, hz⟩ := I.list hq
  have hlen := r'.length
  obtain ⟨o, ho, hc, n, hd⟩ := pl.isList
  exact call_list_seq p (.inl rfl) ho hc hd (fun h' c' kp e => fin its r' hz h' c' kp e) (by simp only [List.size_toArray] <;> omega)
 ·obtain ⟨its, r', pl, hz⟩ := I.tuple hq
  have hlen := r'.length
  obtain ⟨o, ho, hc, n, hd⟩ := pl
  exact call_list_seq p (.inr rfl) ho hc hd (fun h' c' kp e => fin its r' hz h' c' kp e) (by simp only [List.size_toArray] <;> omega)
theorem call_tuple_of : zbo X (.type "tuple") (fun xs H Q => ∃ p ys, xs = [.ref p] /\ ((SqL X.K H p ys /\ ∀ l, H l = none -> Q (.ref l) (upd H l (.tup ys))) \/ (SqT X.K H p ys /\ Q (.ref p) H))) := by
 intro pins s σ H xs us Q I r h
 obtain ⟨p, ys, rfl, h⟩ := h
 obtain ⟨u, rfl, rx⟩ := zdp r
 cases rx
 rcases h with ⟨hq, q⟩ | ⟨hq, q⟩
 ·obtain ⟨its, r', pl, hz⟩ := I.list hq
  have hlen := r'.length
  refine call_tuple_list pl.isList (fun h' kp => ?_) (by simp only [List.size_toArray] <;> omega)
  have I1 : Inv X pins σ H { s with heap := h' } := I.kept (t' := s.toks) kp
  have I2 : Inv X pins σ (upd H h'.objs.size (.tup ys)) { s with heap := h'.push { cls := .type "tuple", data := .seq its.toArray } } :=
   I1.laid (t' := s.toks) (fun b o e => Heap.get?_push_of_some _ e) (Nat.le_refl _) (show ObjOk X.prog X.w _ _ _ (.tup ys) from ⟨hz, its, r', IsTup.new _ _⟩)
  exact ⟨.ref h'.objs.size, _, I2, rfl, q _ (I1.hok.fresh (Nat.le_refl _))⟩
 ·obtain ⟨its, r', pl, hz⟩ := I.tuple hq
  exact call_tuple_same pl ⟨.ref p, H, I, rfl, q⟩
def tyV (K : W.Frag) (T : String) (x : V) (H : Hp) : Prop := match x with
 | .str _ => T = "str"
 | .int _ => T = "int"
 | .ref p => (T = "list" /\ ∃ xs, SqL K H p xs) \/ (T = "tuple" /\ ∃ o, K.lookup p = some o /\ o.cls = .type "tuple" /\ o.dict = none) \/
   (T = "dict" /\ ((∃ kvs, H p = some (.dK kvs)) \/ ∃ kvs, H p = some (.dT kvs))) \/ (T = "set" /\ ∃ S n, H p = some (.set S n))
 | _ => False
theorem zkb {pins : List (Addr × Obj)} {σ : St} {H : Hp} {s : Shared} {T : String} {x : V} {v : Value} (I : Inv X pins σ H s) (r : RelV x v) (ty : tyV X.K T x H) :
  s.TypeIs v T /\ ∀ a, v = .ref a -> ∃ ob, s.heap.get? a = some ob /\ ob.dict = none := by
 cases x with
 | str z =>
  obtain ⟨t, rfl⟩ := r
  cases (show T = "str" from ty)
  exact ⟨typeIs_str s z t, fun _ e => nomatch e⟩
 | int i =>
  obtain ⟨t, rfl⟩ := r
  cases (show T = "int" from ty)
  exact ⟨typeIs_int s i t, fun _ e => nomatch e⟩
 | ref p =>
  cases r
  rcases ty with ⟨rfl, xs, hq⟩ | ⟨rfl, o, hk, hc, hd⟩ | ⟨rfl, hk⟩ | ⟨rfl, S, n, hk⟩
  ·obtain ⟨its, _, pl, _⟩ := I.list hq
   refine ⟨pl.isList.typeIs, fun a e => ?_⟩
   cases e
   obtain ⟨o, n, e, c, hd, _⟩ := pl
   exact ⟨o, e, hd⟩
  ·refine ⟨⟨o, I.kIn p o hk, hc⟩, fun a e => ?_⟩
   cases e
   exact ⟨o, I.kIn _ o hk, hd⟩
  ·have z : ∃ o, s.heap.get? p = some o /\ o.ExactDict := by
    rcases hk with ⟨kvs, hk⟩ | ⟨kvs, hk⟩
    ·obtain ⟨_, _, _, _, o, _, _, e, ex, _⟩ := I.hok p _ hk
     exact ⟨o, e, ex⟩
    ·obtain ⟨_, _, _, _, o, _, _, e, ex, _⟩ := I.hok p _ hk
     exact ⟨o, e, ex⟩
   obtain ⟨o, e, ex⟩ := z
   refine ⟨⟨o, e, ex.1⟩, fun a e2 => ?_⟩
   cases e2
   exact ⟨o, e, ex.2.1⟩
  ·obtain ⟨o, _, _, _, e, ex, _⟩ := I.hok p _ hk
   refine ⟨⟨o, e, ex.1⟩, fun a e2 => ?_⟩
   cases e2
   exact ⟨o, e, ex.2.1⟩
 | _ => exact False.elim ty
def tBM (K : W.Frag) (T : String) (r : V -> List V -> Hp -> VK -> Prop) (to : TE) (t : TA) : TE := fun σ H Q => to σ H fun x H1 => tyV K T x H1 /\ t σ H1 fun xs H2 => r x xs H2 Q
variable {o e : Expr} {es : List Expr} {to : TE} {t : TA} {name : Str} {apos cpos : Pos} {T id : String} {r : V -> List V -> Hp -> VK -> Prop}
theorem zlz (pa : PlainAttrs T) (slot : Slot T name id) (hty : typeOf (.builtin id) = pure (.type "method_descriptor")) (hm : MtR X id r) (ho : PE X o to) (ha : PA X (e :: es) t)
  (hbase : attributeBase o name X.env (eval o X.env) = eval o X.env := by rfl)
  (hfew : ((backTo cpos (starEach (e :: es) X.env)).all (fun x => !x.1) && (backToKw cpos (keywordEach [] X.env)).all (fun x => x.1.isSome)
   && decide ((e :: es).length + ([] : List Keyword).length + (if ([] : List Keyword).isEmpty then 0 else 1) < 30)) = true := by rfl)
  (hline : (apos.endLine == cpos.line) = true := by rfl) (hs : starEach (e :: es) X.env = (false, eval e X.env) :: starEach es X.env := by rfl) (hplain : (backTo cpos (starEach es X.env)).any (·.1) = false := by rfl) :
  PE X (.Call (.Attribute o name apos) (e :: es) [] cpos) (tBM X.K T r to t) := by
 intro pins s σ H Q I h
 refine wpAny_Call_method_late hbase hfew hline rfl (thn (ho pins s σ H _ I h) fun v s1 ⟨x, H1, I1, r1, ty, q1⟩ => ?_)
 obtain ⟨h1, h2⟩ := zkb I1 r1 ty
 refine ⟨T, id, pa, slot, hty, h1, h2, ?_⟩
 have hA := ha cpos pins s1 σ H1 _ I1 q1
 rw [hs] at hA ⊢
 refine Calls.callWith_builtin (by show (false || (backTo cpos (starEach es X.env)).any (·.1)) = false; rw [hplain] <;> rfl) (Calls.evalArgs_plain ?_)
 exact thn hA fun us s2 ⟨vs, H2, I2, r2, q2⟩ => hm pins s2 σ H2 x vs v us Q I2 r1 r2 q2
end
end L2
namespace L2
open PySem PySem.Spec PyProof.Rows
def MtM (X : Cx) (id : String) (r : V -> List V -> Hp -> VK -> Prop) : Prop :=
 ∀ (pins : List (Addr × Obj)) (s : Shared) (σ : St) (H : Hp) (x : V) (xs : List V) (v : Value) (us : List Value) (Q : VK), Inv X pins σ H s -> RelV x v -> Vals xs us -> r x xs H Q ->
  wpAny (model X.prog X.w) X.A (call (.builtin id) (v :: us)) (EP X pins σ Q) X.xe s
theorem Vals.one : ∀ {x : V} {us : List Value}, Vals [x] us -> ∃ u, us = [u] /\ RelV x u
 | _, _, .cons r .nil => ⟨_, rfl, r⟩
theorem Vals.rep {xs : List V} {us : List Value} (h : Vals xs us) : ∀ k : Nat, Vals (List.replicate k xs).flatten (List.replicate k us).flatten
 | 0 => .nil
 | k + 1 => by
  rw [List.replicate_succ, List.replicate_succ, List.flatten_cons, List.flatten_cons]
  exact Vals.append h (Vals.rep h k)
theorem zdO (its : List Value) : ∀ (k : Nat) (acc : List Value),
  List.foldl (fun x1 x2 => x1 ++ x2) acc.toArray (List.replicate k its.toArray) = (acc ++ (List.replicate k its).flatten).toArray
 | 0, acc => by simp
 | k + 1, acc => by
  have e : acc.toArray ++ its.toArray = (acc ++ its).toArray := by simp
  have e2 : (acc ++ its) ++ (List.replicate k its).flatten = acc ++ (List.replicate (k + 1) its).flatten := by
   rw [List.replicate_succ, List.flatten_cons, List.append_assoc]
  rw [<- e2, <- zdO its k (acc ++ its), <- e, List.replicate_succ, List.foldl_cons]
section
variable {X : Cx} {pins : List (Addr × Obj)} {σ : St} {H : Hp} {s : Shared} {l b : Addr} {xs ys zs : List V}
theorem Inv.lset {its its' : List Value} {n : Nat} {f : Array Value -> Array Value} {t' : Nat} (I : Inv X pins σ H s) (hH : H l = some (.lst xs))
  (e : s.heap.get? l = some { cls := .type "list", data := .seq its.toArray n }) (hf : f its.toArray = its'.toArray) (hv : Vals ys its') (hz : ys.length ≤ sizeLine) :
  Inv X pins σ (upd H l (.lst ys)) { s with heap := s.heap.update l (Obj.mapSeq f), toks := t' } := by
 have q := PySem.IsL.update e f
 rw [hf] at q
 refine I.write (x := l) (e := l) (by rw [hH]; exact trivial) (.inl rfl) (fun b' u hb hu => (Heap.get?_update_other s.heap (Obj.mapSeq f) (Ne.symm hb)).trans hu) ⟨_, q⟩ ?_
 exact ⟨hz, its', _, hv, q⟩
theorem Inv.lnew {its : List Value} {t' : Nat} (I : Inv X pins σ H s) (hv : Vals ys its) (hz : ys.length ≤ sizeLine) :
  Inv X pins σ (upd H s.heap.objs.size (.lst ys)) { s with heap := s.heap.push { cls := .type "list", data := .seq its.toArray }, toks := t' } :=
 I.laid (fun _ _ q => Heap.get?_push_of_some _ q) (Nat.le_refl _) ⟨hz, its, 0, hv, Heap.get?_push_size _ rfl⟩
theorem Inv.fresh (I : Inv X pins σ H s) : H s.heap.objs.size = none := I.hok.fresh (Nat.le_refl _)
theorem Inv.lstM (I : Inv X pins σ H s) (hH : H l = some (.lst xs)) : xs.length ≤ sizeLine /\ ∃ (its : List Value) (n : Nat), Vals xs its /\ xs.length = its.length /\ s.heap.get? l = some { cls := .type "list", data := .seq its.toArray n } := by
 obtain ⟨z, its, n, r, e⟩ := I.hok l _ hH
 exact ⟨z, its, n, r, r.length, e⟩
theorem zeM {n : Nat} (h : n ≤ sizeLine) : Builtin.List.listTooLong n = false := by
 unfold Builtin.List.listTooLong
 exact decide_eq_false (by omega)
end
section
variable {X : Cx}
def zew : V -> List V -> Hp -> VK -> Prop := fun x vs H Q => ∃ l xs y, x = .ref l /\ vs = [y] /\ H l = some (.lst xs) /\ xs.length < sizeLine /\ Q .non (upd H l (.lst (xs ++ [y])))
theorem zge : MtM X "list.append" zew := by
 intro pins s σ H x vs v us Q I rx rv h
 obtain ⟨l, xs, y, rfl, rfl, hH, hz, q⟩ := h
 cases rx
 obtain ⟨u, rfl, ru⟩ := rv.one
 obtain ⟨z, its, n, r, hl, e⟩ := I.lstM hH
 refine call_meets F.slot_list_append ⟨_, e, rfl⟩ F.entry_list_append (F.args_list_append_2 _ _) (PySem.list_append l its.toArray n u (by rw [List.size_toArray]; omega)) ⟨e, ?_⟩
 refine ⟨.non, _, I.lset (its' := its ++ [u]) hH e (by simp) (r.append (.cons ru .nil)) ?_, rfl, q⟩
 rw [List.length_append, List.length_singleton]
 omega
def zex : V -> List V -> Hp -> VK -> Prop := fun x vs H Q => ∃ l b xs zs, x = .ref l /\ vs = [.ref b] /\ H l = some (.lst xs) /\ H b = some (.lst zs) /\ xs.length + zs.length ≤ sizeLine /\ Q .non (upd H l (.lst (xs ++ zs)))
theorem zgf : MtM X "list.extend" zex := by
 intro pins s σ H x vs v us Q I rx rv h
 obtain ⟨l, b, xs, zs, rfl, rfl, hH, hB, hz, q⟩ := h
 cases rx
 obtain ⟨u, rfl, ru⟩ := rv.one
 cases ru
 obtain ⟨z, its, n, r, hl, e⟩ := I.lstM hH
 obtain ⟨z2, its2, n2, r2, hl2, e2⟩ := I.lstM hB
 have hsz : its.toArray.size + its2.toArray.size ≤ sizeLine := by rw [List.size_toArray, List.size_toArray]; omega
 have hlong : ¬ (!its.toArray.isEmpty && Builtin.List.listTooLong (its.toArray.size + its2.toArray.size)) = true := by
  rw [zeM hsz, Bool.and_false]
  exact Bool.false_ne_true
 refine call_meets F.slot_list_extend ⟨_, e, rfl⟩ F.entry_list_extend (F.args_list_extend_2 _ _)
  (AutoSeq1.list_extend_list_list_0 l its.toArray n b its2.toArray n2 hlong (by rw [List.size_toArray]; omega) (by omega)) ⟨e, e2, ?_⟩
 refine ⟨.non, _, I.lset (its' := its ++ its2) hH e (by simp) (r.append r2) ?_, rfl, q⟩
 rw [List.length_append]
 omega
def rCat : R2 := fun x y H Q => ∃ l b xs zs, x = .ref l /\ y = .ref b /\ H l = some (.lst xs) /\ H b = some (.lst zs) /\ xs.length + zs.length ≤ sizeLine /\ ∀ p, H p = none -> Q (.ref p) (upd H p (.lst (xs ++ zs)))
theorem zig : OpR X (binaryOp .Add) rCat := by
 intro pins s σ H x y v u Q I rx ry h
 obtain ⟨l, b, xs, zs, rfl, rfl, hH, hB, hz, q⟩ := h
 cases rx
 cases ry
 obtain ⟨z, its, n, r, hl, e⟩ := I.lstM hH
 obtain ⟨z2, its2, n2, r2, hl2, e2⟩ := I.lstM hB
 refine PySem.P.add_list e e2 ?_ (by rw [List.size_toArray, List.size_toArray]; omega)
 have ea : its.toArray ++ its2.toArray = (its ++ its2).toArray := by simp
 rw [ea]
 exact ⟨.ref _, _, I.lnew (t' := s.toks) (r.append r2) (by rw [List.length_append]; omega), rfl, q _ I.fresh⟩
def rRep : R2 := fun x y H Q => ∃ l k xs, x = .ref l /\ y = .int k /\ H l = some (.lst xs) /\ -(2 ^ 63) ≤ k /\ k < 2 ^ 63 /\ xs.length * k.toNat ≤ sizeLine /\
 ∀ p, H p = none -> Q (.ref p) (upd H p (.lst (List.replicate k.toNat xs).flatten))
theorem ziB {α : Type} (xs : List α) (k : Nat) : (List.replicate k xs).flatten.length = k * xs.length := by
 induction k with
 | zero => simp
 | succ k ih => rw [List.replicate_succ, List.flatten_cons, List.length_append, ih, Nat.succ_mul, Nat.add_comm]
theorem zkc : OpR X (binaryOp .Mult) rRep := by
 intro pins s σ H x y v u Q I rx ry h
 obtain ⟨l, k, xs, rfl, rfl, hH, h1, h2, hz, q⟩ := h
 cases rx
 obtain ⟨t, rfl⟩ := ry
 obtain ⟨z, its, n, r, hl, e⟩ := I.lstM hH
 have hlen : its.toArray.size * k.toNat ≤ sizeLine := by rw [List.size_toArray, <- hl]; exact hz
 have hcap : ¬ its.toArray.size * k.toNat > (2 ^ 63 - 1) / 8 := by
  have : (sizeLine : Nat) ≤ (2 ^ 63 - 1) / 8 := by decide
  omega
 have hfit : ¬ (!Builtin.List.listFitsIndex k) = true := by
  rw [fitsIndex_both h1 h2]
  exact Bool.false_ne_true
 have hlong : ¬ Builtin.List.listTooLong (its.toArray.size * k.toNat) = true := by
  rw [zeM hlen]
  exact Bool.false_ne_true
 have hnew : List.foldl (fun x1 x2 => x1 ++ x2) #[] (List.replicate (if its.toArray.isEmpty = true then 0 else k.toNat) its.toArray) = (List.replicate k.toNat its).flatten.toArray := by
  have f0 : ∀ m : Nat, List.foldl (fun x1 x2 => x1 ++ x2) #[] (List.replicate m its.toArray) = (List.replicate m its).flatten.toArray := fun m => by
   have := zdO its m []
   rw [List.nil_append] at this
   exact this
  rw [f0]
  cases its with
  | nil => simp
  | cons a r' => rw [if_neg (by simp)]
 refine wpAny_binaryOp_repeat_ref (T := "list") (U := "int") (by decide) ⟨_, e, rfl⟩ (fun s' => typeIs_int s' k t) noFill_list_mul F.fills_int_mul F.slot_int_rmul repeat_list F.slot_int_index.lookup
  (call_meets F.slot_int_rmul (typeIs_int s k t) F.entry_int_rmul (F.args_int_rmul_2 _ _) (int___rmul___int_list k t l its.toArray n)
   ⟨e, rfl, ⟨_, e, rfl⟩, call_meets F.slot_list_mul ⟨_, e, rfl⟩ F.entry_list_mul (F.args_list_mul_2 _ _) (AutoListH.list___mul___list_int_3 l its.toArray n k t hfit hcap hlong) ⟨e, ?_⟩⟩)
 rw [hnew]
 exact ⟨.ref _, _, I.lnew (t' := s.toks) (r.rep k.toNat) (by rw [ziB, Nat.mul_comm]; exact hz), rfl, q _ I.fresh⟩
end
section
variable {prog : Program} {w : World} {A : Around} {E : Value -> Shared -> Prop} {s : Shared}
end
section
variable {X : Cx}
end
end L2
namespace Att
open PySem PySem.W PySem.Calls PyProof.Rows
theorem zcB {P : Params} {h : Heap} : ∀ (ns : List Int) (vs : List Value), WellAll P h vs (ns.map WData.int) -> IntsAre vs ns := by
 intro ns
 induction ns with
 | nil =>
  intro vs w
  rw [List.map_nil] at w
  cases w
  exact .nil
 | cons n ns ih =>
  intro vs w
  rw [List.map_cons] at w
  cases w with
  | cons a b =>
   cases a
   exact .cons _ _ (ih _ b)
theorem zgg {l : OpenLaw} {n : Nat} (hn : l.most = some n) {P : Params} {h : Heap} {args : List WData} {vals : List Value}
  (hpre : l.row.toRowW.claim.pre args = true) (hwl : WellAll P h vals args) :
  ∃ a vs ns, vals = [Value.ref a] /\ args = [WData.list (ns.map WData.int)] /\ h.get? a = some { cls := .type "list", data := .seq vs.toArray } /\ IntsAre vs ns /\ ns.length ≤ n := by
 have hsh : WShape.hasAll [] args [.list .int] = true := (pre_splitW hpre).1
 have hc : l.pre.holds [] { args := args } = true := (pre_splitW hpre).2
 obtain ⟨d, r, rfl, h1, h2⟩ := hasAllW_cons hsh
 obtain rfl := hasAllW_nil h2
 obtain ⟨xs, rfl, h3⟩ := hasW_list h1
 obtain ⟨ns, rfl⟩ := items_int h3
 have hlen : ns.length ≤ n := by
  unfold OpenLaw.pre at hc
  have h4 : (WTm.not (.lt (.lit (.int (n : Int))) (.len (.arg 0)))).holds [] { args := [.list (ns.map .int)] } = true := by
   have h4 := (holds_andW hc).1
   rw [hn] at h4
   exact h4
  have h5 := condW_of h4 (w_not (w_lt w_lit (w_len_list (w_arg rfl))))
  rw [List.length_map] at h5
  refine Nat.le_of_not_lt fun q => ?_
  have q' : (n : Int) < ((ns.length : Nat) : Int) := by omega
  first
   | (rw [decide_eq_true q'] at h5; exact absurd h5 (by decide))
   | (simp at h5; omega)
 cases hwl with
 | cons w1 w2 =>
  cases w2
  cases w1 with
  | list ho hall => exact ⟨_, _, ns, rfl, rfl, ho, zcB ns _ hall, hlen⟩
theorem zgh (l : OpenLaw) (args : List WData) : l.row.toRowW.claim.post args (.bool true) args = true :=
 postW_of (r := l.row.toRowW) (X := (true == true))
  (show WShape.has [] (.bool true) .bool = true by first | rfl | decide | simp [WShape.has, WShape.arms, WShape.armsAll])
  (show (WTm.eq .res (.lit (.bool true))).value [] { args := args, res := some (.bool true), after := args } = some (.bool (true == true)) from w_eq_bool (w_res rfl) w_lit) rfl
theorem attach_call {l : OpenLaw} {n : Nat} {q : Program} {loose : List Str} {XP : (Str -> Option Value) -> Heap -> Prop} {YP : World -> Heap -> Prop} {d : DefRec}
  (hn : l.most = some n) (hdf : d.params.defaults = [])
  (call : ∀ (w : World) (s₀ s₁ : Shared) (mg mb : Str -> Option Value) (fa : Addr) (o : Obj) (pm cd doc : Value) (a : Addr) (vs : List Value) (ns : List Int),
   Ground q loose [] XP w s₀ mg mb s₁.heap -> YP w s₁.heap ->
   s₁.heap.get? fa = some o -> o.data = .func (docDef d.name d.params d.body d.scope pm cd doc) -> s₁.heap.CodeRec cd d.name -> mg d.name = some (.ref fa) ->
   s₁.heap.get? a = some { cls := .type "list", data := .seq vs.toArray } -> IntsAre vs ns -> ns.length ≤ n -> s₁.gens = #[] ->
   codeAny (model l.prog w) callerA (.call (.ref fa) ⟨[.ref a], []⟩) (fun r s' => r = .ok (.ret (.bool true)) /\ OldK s₁.heap s'.heap /\ s'.os = s₁.os /\ AllBare s'.gens) s₁) :
  WalkO q loose XP YP l.row.toRowW d [] (fun f vs => PySem.call f vs) := by
 intro w s₀ s₁ mg mb G Y fa o pm cd doc dV kV ho hd hcd hD hmg hg args vals as hpre hlay hrd hwl hlo
 obtain rfl : dV = .none := Dflts.none hD hdf
 obtain rfl : kV = .none := Dflts.noKw hD
 obtain ⟨a, vs, ns, rfl, rfl, hobj, hints, hlen⟩ := zgg hn hpre hwl
 refine enter_call (codeAny_mono (call w s₀ s₁ mg mb fa o pm cd doc a vs ns G Y ho (fd_plain hd) hcd hmg hobj hints hlen hg) fun r s' hq => ?_)
 obtain ⟨rfl, h2, h3, h4⟩ := hq
 exact ⟨.inl ⟨.bool true, .bool true, [], rfl, fun _ => rfl, .bool true, zgh l _, fun _ => ⟨List.Pairwise.nil, fun _ hm => (nomatch hm)⟩⟩, h2, h3, h4⟩
section
variable {prog : Program} {w : World} {A : Around} {E : Value -> Shared -> Prop} {s : Shared} {K : Frag}
end
end Att
namespace L2
open PySem PySem.Spec PyProof.Rows
theorem zdP : ∀ {vs : List Value} {ns : List Int}, IntsAre vs ns -> Vals (ns.map V.int) vs
 | _, _, .nil => .nil
 | _, _, .cons n t h => .cons ⟨t, rfl⟩ (zdP h)
def Only (H : Hp) : Prop := ∀ b, H b = none \/ ∃ o xs, H b = some (.frz o (.lst xs))
theorem zhj {P : Program} {w : World} {K : W.Frag} {mg mb : Str -> Option Value} {CX : CXT} {k : Nat} {fa a : Addr} {fd : FuncData} {x : Str} {sp : Sp} {s₁ : Shared} {vs : List Value} {ns : List Int}
  (KX : K.In s₁.heap) (hns : s₁.heap.Ns mainGlobals mg) (hb : s₁.heap.Ns builtinsNs mb) (hbb : ∀ x : Str, x ≠ "__name__" -> mb x = bootBuiltins x) (hlim : s₁.heap.NoLimit) (hg : s₁.gens = #[])
  (ha : s₁.heap.get? a = some { cls := .type "list", data := .seq vs.toArray }) (hi : IntsAre vs ns) (hl : ns.length ≤ sizeLine) (hr : Room k callerA)
  (F : ∀ base : Heap, K.In base -> base.Ns mainGlobals mg -> FnOk P w K mg base CX k fa fd [x] sp) (hbind : ∀ (s : Shared) (u : Value), BindsTo s fd ⟨[u], []⟩ [(x, u)])
  (hsp : ∀ H : Hp, Only H -> SqL K H a (ns.map V.int) -> sp [.ref a] H (fun v _ => v = .bl true) fun _ _ _ => False)
  (hCX : ∀ H e s', CX [] H s₁ (fun _ _ _ => False) e s' -> False) :
  codeAny (model P w) callerA (.call (.ref fa) ⟨[.ref a], []⟩) (fun r s' => r = .ok (.ret (.bool true)) /\ OldK s₁.heap s'.heap /\ s'.os = s₁.os /\ AllBare s'.gens) s₁ := by
 have rv := zdP hi
 have lenV := hi.length
 have core : ∀ H : Hp, Only H -> SqL K H a (ns.map V.int) -> HOk P w H s₁.heap -> (∀ b, H b ≠ none -> b = a) -> (H a ≠ none -> K.lookup a = none) ->
   codeAny (model P w) callerA (.call (.ref fa) ⟨[.ref a], []⟩) (fun r s' => r = .ok (.ret (.bool true)) /\ OldK s₁.heap s'.heap /\ s'.os = s₁.os /\ AllBare s'.gens) s₁ := by
  intro H hO hS hok hA hK
  have base_of : ∀ {b : Addr} {o : Obj}, s₁.heap.get? b = some o -> H b = none -> (hidT s₁.heap H).get? b = some o := fun e n => zgY e n
  have noA : ∀ {b : Addr} {o : Obj} {es : Array DictEntry} {ep : Nat}, s₁.heap.get? b = some o -> o.data = .dict es ep -> H b = none := fun {b o es ep} e d => by
   cases q : H b with
   | none => rfl
   | some u =>
    have e' : b = a := hA b (by rw [q]; simp)
    subst e'
    rw [ha] at e; cases e
    have d' : Data.seq vs.toArray _ = Data.dict es ep := d
    cases d'
  have nsK : ∀ {b : Addr} {m : Str -> Option Value}, s₁.heap.Ns b m -> (hidT s₁.heap H).Ns b m := fun {b m} ⟨o, es, ep, e, d, r⟩ => ⟨o, es, ep, base_of e (noA e d), d, r⟩
  have hKb : K.In (hidT s₁.heap H) := fun b o e => base_of (KX b o e) (by
   cases q : H b with
   | none => rfl
   | some u =>
    have e' : b = a := hA b (by rw [q]; simp)
    subst e'
    rw [hK (by rw [q]; simp)] at e; cases e)
  have hM : Mod K mg (hidT s₁.heap H) := ⟨hKb, nsK hns, ⟨mb, nsK hb, hbb⟩, let ⟨mc, h1, h2⟩ := hlim; ⟨mc, nsK h1, h2⟩⟩
  have e0 : Env0 P w K mg (hidT s₁.heap H) callerA [] s₁ H := ⟨rfl, hM, fun b o e => zix e, Nat.le_of_eq (zfF _ _), trivial, fun b hb => absurd (show b ∈ ([] : List Addr) from hb) (by simp), hok, .of_eq hg⟩
  refine codeAny_mono ((F _ hKb (nsK hns)).run callerA [] s₁ H ⟨[.ref a], []⟩ [.ref a] [.ref a] _ _ hr e0 (hbind s₁ (.ref a)) (.cons rfl .nil) (hsp H hO hS)) fun r s' h => ?_
  cases r with
  | error e => exact (hCX H e s' h).elim
  | ok fl =>
   cases fl with
   | next => exact False.elim h
   | brk => exact False.elim h
   | cont => exact False.elim h
   | ret u =>
    obtain ⟨v, H', os, bare, un, hok', r', q⟩ := h
    have q' : v = .bl true := q
    subst q'
    obtain rfl : u = Value.bool true := r'
    refine ⟨rfl, OldK.of_keep fun b o e => ?_, os, bare⟩
    cases q : H b with
    | none => exact un.keep b o e q (by intro z; exact absurd (show b ∈ ([] : List Addr) from z) (by simp)) (by simp)
    | some u =>
     rcases hO b with z | ⟨ob, xs, z⟩
     ·rw [q] at z; cases z
     ·have z2 := un.frzs b ob _ z
      obtain ⟨e1, _⟩ := hok b _ z
      obtain ⟨e2, _⟩ := hok' b _ z2
      rw [e] at e1; cases e1
      exact e2
 cases hk : K.lookup a with
 | some o =>
  have e := KX a o hk
  rw [ha] at e
  cases e
  refine core (fun _ => none) (fun _ => .inl rfl) (.inr ⟨_, vs.toArray, _, hk, rfl, rfl, rfl, by rw [List.size_toArray, lenV]; exact hl, by simpa using rv⟩) (fun b u z => by have z' : (none : Option HO) = some u := z; cases z') (fun b z => absurd rfl z) fun z => absurd rfl z
 | none =>
  refine core (fun b => if b = a then some (.frz { cls := .type "list", data := .seq vs.toArray } (.lst (ns.map V.int))) else none) (fun b => ?_) (.inl (.inr ⟨{ cls := .type "list", data := .seq vs.toArray }, if_pos rfl⟩)) (fun b u z => ?_) (fun b z => ?_) fun _ => hk
  ·by_cases hb : b = a
   ·exact .inr ⟨_, _, if_pos hb⟩
   ·exact .inl (if_neg hb)
  ·by_cases hb : b = a
   ·have z' := (if_pos hb).symm.trans z
    cases z'
    subst hb
    exact ⟨ha, by rw [List.length_map]; exact hl, vs, _, rv, ha⟩
   ·have z' := (if_neg hb).symm.trans z
    cases z'
  ·by_cases hb : b = a
   ·exact hb
   ·exact absurd (if_neg hb) z
end L2
namespace L2
open PySem PySem.Spec PyProof.Rows
theorem walk_of {l : W.OpenLaw} {n k : Nat} {q : Program} {loose : List Str} {XP : (Str -> Option Value) -> Heap -> Prop} {YP : World -> Heap -> Prop} {d : DefRec} {K : Params -> W.Frag} {CX : World -> CXT} {sp : World -> Sp} {x : Str}
  (hn : l.most = some n) (hn2 : n ≤ sizeLine) (hdf : d.params.defaults = []) (hr : Room k callerA)
  (hY : ∀ (w : World) (h : Heap), YP w h -> (K w.params).In h)
  (F : ∀ (w : World) (mg : Str -> Option Value) (fa : Addr) (h : Heap), (K w.params).In h -> h.Ns mainGlobals mg -> mg d.name = some (.ref fa) ->
   ∃ fd : FuncData, (∀ (s : Shared) (u : Value), BindsTo s fd ⟨[u], []⟩ [(x, u)]) /\
    ∀ base : Heap, (K w.params).In base -> base.Ns mainGlobals mg -> FnOk l.prog w (K w.params) mg base (CX w) k fa fd [x] (sp w))
  (hsp : ∀ (w : World) (H : Hp) (a : Addr) (ns : List Int), ns.length ≤ n -> Only H -> SqL (K w.params) H a (ns.map V.int) -> sp w [.ref a] H (fun v _ => v = .bl true) fun _ _ _ => False)
  (hCX : ∀ (w : World) (H : Hp) (s : Shared) (e : Value) (s' : Shared), CX w [] H s (fun _ _ _ => False) e s' -> False) :
  W.WalkO q loose XP YP l.row.toRowW d [] (fun f vs => PySem.call f vs) := by
 refine Att.attach_call hn hdf fun w s₀ s₁ mg mb fa o pm cd doc a vs ns G Y ho hd hcd hmg hobj hints hlen hg => ?_
 have KX := hY w _ Y
 obtain ⟨fd, hb, hF⟩ := F w mg fa _ KX G.T.g hmg
 exact zhj KX G.T.g G.T.b G.T.builtins G.T.nolimit hg hobj hints (Nat.le_trans hlen hn2) hr hF hb (fun H hO hS => hsp w H a ns hlen hO hS) fun H e s' => hCX w H s₁ e s'
end L2
namespace L2
open PySem PySem.Spec PyProof.Rows
def zgi (s : Stmt) (j : Nat) : Stmt := match s with
 | .ClassDef _ _ _ body _ _ _ _ _ _ _ => body.getD j (.Pass ⟨0, 0, 0, 0⟩)
 | _ => .Pass ⟨0, 0, 0, 0⟩
def zak (s : Stmt) : Arguments := match s with
 | .FunctionDef _ a _ _ _ _ _ _ _ _ => a
 | _ => { posonlyargs := [], args := [], vararg := none, kwonlyargs := [], kw_defaults := [], kwarg := none, defaults := [] }
def zaj (s : Stmt) : List Stmt := match s with
 | .FunctionDef _ _ b _ _ _ _ _ _ _ => b
 | _ => []
def zag (s : Stmt) : Scope := match s with
 | .FunctionDef _ _ _ _ _ _ sc _ _ _ => sc
 | _ => { kind := .function, names := [], isGenerator := false, isCoroutine := false }
abbrev CX0 : CXT := fun _ _ _ _ _ _ => False
abbrev E0 : XK := fun _ _ _ => False
theorem za2 {X : Cx} : zct CX0 X E0 := fun _ _ _ _ _ _ _ h => h.elim
structure Fun (K : W.Frag) (x qual : Str) (st : Stmt) (f : Addr) (fd : FuncData) : Prop where
 ex : ∃ (oc : Value) (od : Option Addr) (kV doc pm : Value) (an : Option Addr) (cdv ct : Value) (osl : Array (Option Value)),
  fd = W.fnOf x qual (zak st) (zaj st) (zag st) .none kV doc pm an cdv ct /\ K.lookup f = some ⟨oc, od, .func fd, osl⟩ /\ W.codeIn K cdv qual = true
 kp : W.keepIn K (.ref f) = true
section
variable {P : Program} {w : World} {K : W.Frag} {mg : Str -> Option Value} {base : Heap}
theorem Fun.ok {x qual : Str} {st : Stmt} {f : Addr} {fd : FuncData} {N ps : List Str} {k : Nat} {sp : Sp} (F : Fun K x qual st f fd) (S : zay N ps (zag st)) (len : ∀ vs H Q E, sp vs H Q E -> vs.length = ps.length)
  (hbody : ∀ (cdv : Value) (A : Around) (outer : List Env) (s : Shared) (H : Hp) (vs : List V) (Q : VK) (E : XK), Room k (A.deeper (envOfC qual (zag st) s.heap.objs.size f cdv)) -> sp vs H Q E ->
   ∃ t, PSs (cxOf CX0 P w K mg base N qual (zag st) f cdv A outer s H E).nox (zaj st) t /\ t { nx := fun _ H' => Q .non H', rt := Q } (start N vs) H) : FnOk P w K mg base CX0 (k + 1) f fd ps sp := by
 obtain ⟨oc, od, kV, doc, pm, an, cdv, ct, osl, rfl, lk, hcd⟩ := F.ex
 refine zly lk hcd S len fun A outer s H vs Q E hr hsp => ?_
 obtain ⟨t, h, q⟩ := hbody cdv A outer s H vs Q E hr hsp
 exact ⟨t, h.nox, q⟩
theorem Fun.binds {x qual : Str} {st : Stmt} {f : Addr} {fd : FuncData} {ps : List Str} (F : Fun K x qual st f fd)
  (h : ∀ (kV doc pm : Value) (an : Option Addr) (cdv ct : Value) (us : List Value), us.length = ps.length -> bindArgs (W.fnOf x qual (zak st) (zaj st) (zag st) .none kV doc pm an cdv ct) ⟨us, []⟩ = pure (ps.zip us)) : Binds K fd ps [] := by
 obtain ⟨oc, od, kV, doc, pm, an, cdv, ct, osl, rfl, lk, hcd⟩ := F.ex
 exact .all (h kV doc pm an cdv ct)
theorem zaD {x qual : Str} {st : Stmt} {f : Addr} {oc : Value} {od an : Option Addr} {osl : Array (Option Value)} {kV doc pm cdv ct : Value} (l : K.lookup f = some ⟨oc, od, .func (W.fnOf x qual (zak st) (zaj st) (zag st) .none kV doc pm an cdv ct), osl⟩)
  (c : W.codeIn K cdv qual = true) (k : W.keepIn K (.ref f) = true) : Fun K x qual st f (W.fnOf x qual (zak st) (zaj st) (zag st) .none kV doc pm an cdv ct) := ⟨⟨oc, od, kV, doc, pm, an, cdv, ct, osl, rfl, l, c⟩, k⟩
end
section
variable {X : Cx}
theorem pv (i : Nat) {x : Str} {pos : Pos} (hN : X.N[i]? = some x := by rfl) (hv : Vis X.env.scope x := by first | exact Or.inl rfl | exact Or.inr (Or.inl rfl) | exact Or.inr (Or.inr rfl)) (hd : (x == ("__debug__" : Str)) = false := by decide)
  (hcd : (x == ("__classdict__" : Str)) = false := by decide) : PE X (.Name x pos) (tVar i) := zjB hN hv hd hcd
end
theorem iteF {A B : Prop} (h : B) : if false = true then A else B := by
 rw [if_neg Bool.false_ne_true]
 exact h
theorem iteT {A B : Prop} (h : A) : if true = true then A else B := by
 rw [if_pos rfl]
 exact h
theorem ite2 {c A B : Prop} [Decidable c] (h1 : c -> A) (h2 : ¬ c -> B) : if c then A else B := by
 by_cases h : c
 ·rw [if_pos h]
  exact h1 h
 ·rw [if_neg h]
  exact h2 h
def Same (H H' : Hp) : Prop := ∀ b o, H b = some o -> H' b = some o
theorem Same.refl (H : Hp) : Same H H := fun _ _ h => h
theorem Same.trans {H H1 H2 : Hp} (a : Same H H1) (b : Same H1 H2) : Same H H2 := fun c o h => b c o (a c o h)
theorem Same.seq {K : W.Frag} {H H' : Hp} {a : Addr} {xs : List V} (e : Same H H') (h : SqL K H a xs) : SqL K H' a xs := by
 rcases h with (h | ⟨o, h⟩) | h
 ·exact .inl (.inl (e _ _ h))
 ·exact .inl (.inr ⟨o, e _ _ h⟩)
 ·exact .inr h
end L2
namespace L2
open PySem PySem.Spec PyProof.Rows
theorem zgj {v : Value} {o : Option Int} (p : IsPart v o) : ∃ q : Option (Int × Tok), v = partValue q /\ q.map (·.1) = o := by
 cases p with
 | none => exact ⟨none, rfl, rfl⟩
 | int i t => exact ⟨some (i, t), rfl, rfl⟩
def rSlS : V -> Option Int -> Option Int -> Hp -> VK -> Prop := fun x lo hi H Q => ∃ z, x = .str z /\ z.length ≤ sizeLine /\ Q (.str (Txt.slice z lo hi)) H
theorem zih {X : Cx} : SlR X rSlS := by
 intro pins s σ H x v vl vu lo hi sl Q I rx hs pl pu h
 obtain ⟨z, rfl, hz, q⟩ := h
 obtain ⟨t, rfl⟩ := rx
 obtain ⟨ql, rfl, rfl⟩ := zgj pl
 obtain ⟨qu, rfl, rfl⟩ := zgj pu
 refine ⟨"str", _, F.slot_str_getitem.lookup, typeIs_str _ _ _, ?_⟩
 refine wpAny_getItem_str_slice (l := ql) (u := qu) (st := none) hs rfl ?_
 exact post_val_or_str ⟨Nat.le_trans (Txt.slice_le z _ _) hz, fun t' k => ⟨.str _, H, I.tok _, ⟨t', rfl⟩, q⟩⟩
def Its (x : Str) : It := ⟨fun i _ => i < x.cps.size, fun i H v H' => H' = H /\ ∃ c, x.cps[i]? = some c /\ v = .str ⟨#[c]⟩, fun i _ => x.cps.size ≤ i⟩
theorem zeN {P : Program} {w : World} {K : W.Frag} {tg : Expr} (x : Str) (t : Tok) (it : Addr) (ty : String) (hty : ty = "str_ascii_iterator" \/ ty = "str_iterator") :
  Turn P w K tg (Its x) [it] it (fun i h => h.IsStrIter it ty x t i) where
 mem := by simp
 obj := fun i h st b hb => by
  have e : b = it := by simpa using hb
  subst e
  obtain ⟨o, e, c, d⟩ := st
  exact ⟨o, e, fun v z => by rw [d] at z; cases z⟩
 keep := fun i h h' st k => by
  obtain ⟨o, e, r⟩ := st
  exact ⟨o, k it (by simp) o e, r⟩
 item := by
  intro X hP hw hK hc i pins s σ H E I hf st hg
  subst hP hw hK
  obtain ⟨f0, f1, f2, f3, f4, f5⟩ := hf it (by simp)
  have hg' : i < x.cps.size := hg
  have hx : x.cps[i]? = some x.cps[i] := by simp [hg']
  rcases hty with rfl | rfl
  ·refine wpAny_pyNext_ascii_item st hx fun h' st' sb => ?_
   have I1 : Inv X pins σ H { s with heap := h', toks := s.toks + 1 } := I.turned (fun b o hb e => (sb.2 b hb).trans e) f0 f1 f3 f4 f5
   obtain ⟨o, e, c, d⟩ := id st'
   exact ⟨_, rfl, zfJ (s := { s with heap := h', toks := s.toks + 1 }) e c d (by decide) ⟨.str ⟨#[x.cps[i]]⟩, H, I1, ⟨_, rfl⟩, ⟨rfl, _, hx, rfl⟩, st', fun b hb => (hf b hb).1⟩⟩
  ·refine wpAny_pyNext_wide_item st hx fun h' st' sb => ?_
   have I1 : Inv X pins σ H { s with heap := h', toks := s.toks + 1 } := I.turned (fun b o hb e => (sb.2 b hb).trans e) f0 f1 f3 f4 f5
   obtain ⟨o, e, c, d⟩ := id st'
   exact ⟨_, rfl, zfJ (s := { s with heap := h', toks := s.toks + 1 }) e c d (by decide) ⟨.str ⟨#[x.cps[i]]⟩, H, I1, ⟨_, rfl⟩, ⟨rfl, _, hx, rfl⟩, st', fun b hb => (hf b hb).1⟩⟩
 done := by
  intro X hP hw hK hc i pins s σ H E I hf st hg
  subst hP hw hK
  obtain ⟨f0, f1, f2, f3, f4, f5⟩ := hf it (by simp)
  have hx : x.cps[i]? = none := by
   have : x.cps.size ≤ i := hg
   simp [this]
  rcases hty with rfl | rfl
  ·exact wpAny_pyNext_ascii_end (I.ok.hd hc) st hx fun h' eb => ⟨rfl, I.turned (t' := s.toks) (fun b o hb e => eb b o hb e) f0 f1 f3 f4 f5⟩
  ·exact wpAny_pyNext_wide_end (I.ok.hd hc) st hx fun h' eb => ⟨rfl, I.turned (t' := s.toks) (fun b o hb e => eb b o hb e) f0 f1 f3 f4 f5⟩
 self := fun _ _ _ _ _ st h => by
  rcases hty with rfl | rfl
  ·exact wpAny_pyIter_striter_ascii st h
  ·exact wpAny_pyIter_striter_wide st h
theorem zgk {X : Cx} {tg : Expr} {pins : List (Addr × Obj)} {σ : St} {H1 : Hp} {s1 : Shared} {R : It -> Hp -> Prop} {z : Str} {v : Value} {E : Value -> Shared -> Prop} (I1 : Inv X pins σ H1 s1) (r1 : RelV (.str z) v) (q : R (Its z) H1) :
  wpAny (model X.prog X.w) X.A (pyIter v) (PIE X pins σ tg R) E s1 := by
 obtain ⟨t, rfl⟩ := r1
 have fp : ∀ (b : Addr), b ∈ [s1.heap.objs.size] -> FpOk X pins H1 b := fun b hb => by
  have e : b = s1.heap.objs.size := by simpa using hb
  subst e
  exact I1.fpOk (Nat.le_refl _) (I1.hok.fresh (Nat.le_refl _))
 cases ha : z.cps.all (· < 128)
 ·refine wpAny_pyIter_wide ha ?_
  exact ⟨s1.heap.objs.size, [s1.heap.objs.size], _, _, H1, rfl, I1.kept (t' := s1.toks) fun b o e => Heap.get?_push_of_some _ e, zeN z t _ "str_iterator" (.inr rfl), ⟨_, Heap.get?_push_size _ rfl, rfl, rfl⟩, fp, q⟩
 ·refine wpAny_pyIter_ascii ha ?_
  exact ⟨s1.heap.objs.size, [s1.heap.objs.size], _, _, H1, rfl, I1.kept (t' := s1.toks) fun b o e => Heap.get?_push_of_some _ e, zeN z t _ "str_ascii_iterator" (.inl rfl), ⟨_, Heap.get?_push_size _ rfl, rfl, rfl⟩, fp, q⟩
def clos (cells : List (Str × Addr)) : List (Str × NameKind) -> List (Str × Addr) -> List (Str × Addr)
 | [], acc => acc
 | (n, k) :: r, acc => if k == .free then clos cells r ((n, (cells.lookup n).getD 0) :: acc) else clos cells r acc
theorem zcC {scope : Scope} {env : Env} (h : ∀ y ∈ scope.names, y.2 = .free -> ∃ c, env.cells.lookup y.1 = some c) : closureFor scope env = pure (clos env.cells scope.names []) := by
 have go : ∀ (names : List (Str × NameKind)) (acc : List (Str × Addr)), (∀ y ∈ names, y.2 = .free -> ∃ c, env.cells.lookup y.1 = some c) ->
   (forIn names acc fun (x : Str × NameKind) (r : List (Str × Addr)) => (if x.2 == NameKind.free then do let a <- cellOf env x.1; pure (ForInStep.yield ((x.1, a) :: r)) else pure (ForInStep.yield r) : Sem (ForInStep (List (Str × Addr))))) = pure (clos env.cells names acc) := by
  intro names
  induction names with
  | nil => intro acc _; rfl
  | cons x r ih =>
   intro acc hx
   obtain ⟨n, k⟩ := x
   rw [List.forIn_cons]
   have hr : ∀ y ∈ r, y.2 = .free -> ∃ c, env.cells.lookup y.1 = some c := fun y hy => hx y (List.mem_cons_of_mem _ hy)
   by_cases hk : k = .free
   ·subst hk
    obtain ⟨c, hc⟩ := hx (n, .free) List.mem_cons_self rfl
    have hc' : env.cells.lookup n = some c := hc
    have e : cellOf env n = pure c := by unfold cellOf; rw [hc']
    simp only [beq_self_eq_true, if_true, e, pure_bind]
    rw [ih _ hr]
    simp only [clos, beq_self_eq_true, if_true, hc', Option.getD_some]
   ·have hb : (k == NameKind.free) = false := by simpa using hk
    simp only [hb, Bool.false_eq_true, if_false, pure_bind]
    rw [ih _ hr]
    simp only [clos, hb, Bool.false_eq_true, if_false]
 have := go scope.names [] h
 unfold closureFor
 first
  | (rw [this]; rfl)
  | (simp only [this, pure_bind]; rfl)
  | simpa using this
theorem zb5 {cells : List (Str × Addr)} : ∀ (names : List (Str × NameKind)) (acc : List (Str × Addr)) (y : Str) (c : Addr),
  (∀ z ∈ names, z.2 = .free -> ∃ c, cells.lookup z.1 = some c) -> (∀ d, acc.lookup y = some d -> cells.lookup y = some d) -> (clos cells names acc).lookup y = some c -> cells.lookup y = some c
 | [], acc, y, c, _, ha, h => ha c h
 | (n, k) :: r, acc, y, c, hx, ha, h => by
  have hr : ∀ z ∈ r, z.2 = .free -> ∃ c, cells.lookup z.1 = some c := fun z hz => hx z (List.mem_cons_of_mem _ hz)
  by_cases hk : k = .free
  ·subst hk
   simp only [clos, beq_self_eq_true, if_true] at h
   refine zb5 r _ y c hr (fun d hd => ?_) h
   by_cases hy : y = n
   ·subst hy
    obtain ⟨e, he⟩ := hx (y, .free) List.mem_cons_self rfl
    have he' : cells.lookup y = some e := he
    simp only [List.lookup_cons, beq_self_eq_true, he', Option.getD_some] at hd
    rw [he', hd]
   ·have hb : (y == n) = false := by simpa using hy
    simp only [List.lookup_cons, hb] at hd
    exact ha d hd
  ·have hb : (k == NameKind.free) = false := by simpa using hk
   simp only [clos, hb, Bool.false_eq_true, if_false] at h
   exact zb5 r acc y c hr ha h
theorem zcD {cells : List (Str × Addr)} : ∀ (names : List (Str × NameKind)) (acc : List (Str × Addr)) (y : Str), (∃ c, acc.lookup y = some c) -> ∃ c, (clos cells names acc).lookup y = some c
 | [], _, _, h => h
 | (n, k) :: r, acc, y, h => by
  by_cases hk : k = .free
  ·subst hk
   simp only [clos, beq_self_eq_true, if_true]
   refine zcD r _ y ?_
   by_cases hy : y = n
   ·subst hy; exact ⟨(cells.lookup y).getD 0, by simp only [List.lookup_cons, beq_self_eq_true]⟩
   ·have hb : (y == n) = false := by simpa using hy
    simp only [List.lookup_cons, hb]; exact h
  ·have hb : (k == NameKind.free) = false := by simpa using hk
   simp only [clos, hb, Bool.false_eq_true, if_false]
   exact zcD r acc y h
theorem zds {cells : List (Str × Addr)} : ∀ (names : List (Str × NameKind)) (acc : List (Str × Addr)) (y : Str), (y, NameKind.free) ∈ names -> ∃ c, (clos cells names acc).lookup y = some c
 | [], _, _, h => by simp at h
 | (n, k) :: r, acc, y, h => by
  rcases List.mem_cons.mp h with e | h
  ·injection e with e1 e2
   subst e1 e2
   simp only [clos, beq_self_eq_true, if_true]
   exact zcD r _ y ⟨(cells.lookup y).getD 0, by simp only [List.lookup_cons, beq_self_eq_true]⟩
  ·by_cases hk : k = .free
   ·rw [hk]
    simp only [clos, beq_self_eq_true, if_true]
    exact zds r _ y h
   ·have hb : (k == NameKind.free) = false := by simpa using hk
    simp only [clos, hb, Bool.false_eq_true, if_false]
    exact zds r _ y h
theorem relabel_kind {env : Env} : ∀ {names : List (Str × NameKind)} {x : Str} {k : NameKind}, (names.map fun (n, k) => if (k == NameKind.free && env.scope.kind == .function && env.kindOf n == some .cell) then (n, NameKind.cell) else (n, k)).lookup x = some k ->
  names.lookup x = some k \/ (k = .cell /\ names.lookup x = some .free)
 | [], _, _, h => by simp at h
 | (n, j) :: r, x, k, h => by
  have ih := @relabel_kind env r x k
  have h' : List.lookup x ((if (j == NameKind.free && env.scope.kind == .function && env.kindOf n == some .cell) = true then (n, NameKind.cell) else (n, j)) ::
   (r.map fun (n, k) => if (k == NameKind.free && env.scope.kind == .function && env.kindOf n == some .cell) then (n, NameKind.cell) else (n, k))) = some k := h
  cases hx : x == n with
  | true =>
   by_cases hc : (j == NameKind.free && env.scope.kind == .function && env.kindOf n == some .cell) = true
   ·rw [if_pos hc] at h'
    simp only [List.lookup_cons, hx] at h' ⊢
    have hj : j = .free := by
     have : (j == NameKind.free) = true := by
      cases q : (j == NameKind.free) with
      | true => rfl
      | false => rw [q] at hc; simp at hc
     simpa using this
    subst hj
    exact .inr ⟨(Option.some.inj h').symm, rfl⟩
   ·rw [if_neg hc] at h'
    simp only [List.lookup_cons, hx] at h' ⊢
    exact .inl h'
  | false =>
   have h2 : List.lookup x (r.map fun (n, k) => if (k == NameKind.free && env.scope.kind == .function && env.kindOf n == some .cell) then (n, NameKind.cell) else (n, k)) = some k := by
    by_cases hc : (j == NameKind.free && env.scope.kind == .function && env.kindOf n == some .cell) = true
    ·rw [if_pos hc] at h'; simpa only [List.lookup_cons, hx] using h'
    ·rw [if_neg hc] at h'; simpa only [List.lookup_cons, hx] using h'
   rcases ih h2 with q | ⟨q1, q2⟩
   ·exact .inl (by simpa only [List.lookup_cons, hx] using q)
   ·exact .inr ⟨q1, by simpa only [List.lookup_cons, hx] using q2⟩
abbrev cxC (X : Cx) (NC : List Str) (scope : Scope) (C : Addr) (s : Shared) (H : Hp) (ex : List Addr) : Cx :=
 { X with N := NC, s₀ := s, H₀ := H, env := compEnvC scope (clos X.env.cells scope.names []) C X.env, outer := X.stack, stack := X.stack, ex := ex, fn := fun _ => false, pn := [], xe := fun _ _ => False }
def zaG (nt : Nat) (is : List Nat) (σ : St) : St := List.replicate nt none ++ is.map fun i => (σ[i]?).join
theorem zdj (nt : Nat) (is : List Nat) (σ : St) : (zaG nt is σ).length = nt + is.length := by simp [zaG]
def PIf (X : Cx) (ifs : List Expr) (t : TT) : Prop :=
 ∀ (pins : List (Addr × Obj)) (s : Shared) (σ : St) (H : Hp) (Q : Bool -> Hp -> Prop), Inv X pins σ H s -> t σ H Q ->
  wpAny (model X.prog X.w) X.A (forIn ifs true fun c r => if r = true then do let ok <- isTrue c X.env (eval c X.env); pure (ForInStep.yield ok) else pure (ForInStep.yield r)) (TP X pins σ Q) X.xe s
def zkd : TT := fun _ H Q => Q true H
theorem zb6 {X : Cx} : PIf X [] zkd := fun _ _ _ H _ I h => wpAny_tests_nil ⟨H, I, h⟩
theorem zgl {X : Cx} {c : Expr} {t : TT} (h : PT X c t) : PIf X [c] t := fun pins s σ H Q I hw => wpAny_tests_one (h pins s σ H Q I hw)
section
variable {prog : Program} {w : World} {A : Around} {R : Result -> Shared -> Prop} {s : Shared}
theorem zdQ {elt target iter : Expr} {ifs : List Expr} {scope : Scope} {pos : Pos} {it acc : Value} {env : Env} (I : Nat -> Shared -> Prop)
  (turn : ∀ n s, I n s -> wpAny (model prog w) A (pyNext it) (fun r s₁ => match r with
   | none => R (.ok .next) s₁
   | some v => wpAny (model prog w) A (letOwnedTupleGo target it v) (fun _ s₁' => wpAny (model prog w) A (assign target env v) (fun _ s₂ =>
     wpAny (model prog w) A (forIn ifs true fun c r => if r = true then do let ok <- isTrue c env (eval c env); pure (ForInStep.yield ok) else pure (ForInStep.yield r)) (fun ok s₃ =>
      if ok = true then wpAny (model prog w) A (eval elt env) (fun x s₄ =>
       wpAny (model prog w) A (call (.builtin "list.append") [acc, x]) (fun _ s₅ => ∃ m, m < n /\ I m s₅) (fun _ _ => False) s₄) (fun _ _ => False) s₃
      else ∃ m, m < n /\ I m s₃) (fun _ _ => False) s₂) (fun _ _ => False) s₁') (fun _ _ => False) s₁) (fun _ _ => False) s)
  (n : Nat) (h : I n s) :
  codeAny (model prog w) A (.compLoop (.ListComp elt [⟨target, iter, ifs, 0⟩] scope pos) 0 it acc env) R s := by
 refine codeAny_loop rfl I (fun n s hI => ?_) n h
 show wpAny _ A ((compTurn (.ListComp elt [⟨target, iter, ifs, 0⟩] scope pos) 0 it acc env).onRaise (fun x => do noteFrame x env; theTreesLotGoes x)) _ _ s
 refine wpAny_noted ?_
 rw [compTurn_list]
 refine wpAny_bind (wpAny_standAt (wpAny_bind (wpAny_mono (turn n s hI) (fun r s₁ h₁ => ?_) fun _ _ h' => h'.elim)))
 cases r with
 | none => exact wpAny_pure h₁
 | some v =>
  refine wpAny_bind (wpAny_mono h₁ (fun _ s₁' h₁' => ?_) fun _ _ h' => h'.elim)
  refine wpAny_bind (wpAny_mono h₁' (fun _ s₂ h₂ => wpAny_bind (wpAny_mono h₂ (fun ok s₃ h₃ => ?_) fun _ _ h' => h'.elim)) fun _ _ h' => h'.elim)
  cases ok with
  | false => exact wpAny_pure ⟨rfl, h₃⟩
  | true =>
   exact wpAny_bind (wpAny_bind (wpAny_mono h₃ (fun x s₄ h₄ => wpAny_bind (wpAny_mono h₄ (fun _ s₅ h₅ => wpAny_pure (wpAny_pure ⟨rfl, h₅⟩)) fun _ _ h' => h'.elim)) fun _ _ h' => h'.elim))
end
def zhk (wi : TI) (nt : Nat) (is : List Nat) (g : TG) (tt : TT) (te : TE) : TE := fun σ H Q => wi σ H fun J H1 => ∃ W : Nat -> Nat -> List V -> Hp -> Prop, (∃ m, W 0 m [] H1) /\ ∀ i m acc H, W i m acc H ->
 (J.stop i H /\ ∀ p, H p = none -> Q (.ref p) (upd H p (.lst acc))) \/
 (J.go i H /\ acc.length < sizeLine /\ ∃ N : List V -> Hp -> Prop, (∀ acc' H', N acc' H' -> ∃ m', m' < m /\ W (i + 1) m' acc' H') /\ ∀ x H', J.yld i H x H' -> g x (zaG nt is σ) H' fun σ2 H2 => tt σ2 H2 fun b H3 =>
  if b = true then te σ2 H3 fun y H4 => N (acc ++ [y]) H4 else N acc H3)
structure CompSc (X : Cx) (NC : List Str) (nt : Nat) (is : List Nat) (csc : Scope) : Prop where
 kind : csc.kind = .function
 nocell : (csc.names.all fun y => y.2 != .cell) = true
 locs : (csc.names.all fun y => y.2 != .local || csc.names.lookup y.1 == some .local) = true
 frees : (csc.names.all fun y => y.2 != .free || (X.env.kindOf y.1 == some .cell || X.env.kindOf y.1 == some .free)) = true
 len : NC.length = nt + is.length
 slots : (NC.drop nt).map some = is.map fun i => X.N[i]?
 isfree : ((NC.drop nt).all fun y => csc.names.lookup y == some .free) = true
section
variable {X : Cx} {pins : List (Addr × Obj)} {σ : St} {H : Hp} {s : Shared} {NC : List Str} {nt : Nat} {is : List Nat} {csc : Scope}
theorem CompSc.free_kind (S : CompSc X NC nt is csc) {y : Str} (h : (y, NameKind.free) ∈ csc.names) : X.env.kindOf y = some .cell \/ X.env.kindOf y = some .free := by
 have q := List.all_eq_true.mp S.frees _ h
 simpa using q
theorem CompSc.no_cell (S : CompSc X NC nt is csc) {y : Str} (h : (y, NameKind.cell) ∈ csc.names) : False := by
 have q := List.all_eq_true.mp S.nocell _ h
 simp at q
theorem CompSc.has_cells (S : CompSc X NC nt is csc) (I : Inv X pins σ H s) : ∀ y ∈ csc.names, y.2 = .free -> ∃ c, X.env.cells.lookup y.1 = some c := fun y hy e => by
 obtain ⟨n, k⟩ := y
 have e' : k = .free := e
 subst e'
 exact I.ok.has n (S.free_kind hy)
theorem zke {fp : List Addr} (ho : ∀ b ∈ fp, ∃ o, s.heap.get? b = some o) : ∀ b ∈ fp, b < s.heap.objs.size := fun b hb => let ⟨_, e⟩ := ho b hb; Heap.lt_size e
theorem zgm (S : CompSc X NC nt is csc) (I : Inv X pins σ H s) {fp : List Addr} (hf : ∀ b ∈ fp, FpOk X pins H b) (ho : ∀ b ∈ fp, ∃ o, s.heap.get? b = some o) {h' : Heap} {C : Addr} {m : Str -> Option Value} {t' : Nat}
  (hC : s.heap.objs.size ≤ C) (k : ∀ b o, s.heap.get? b = some o -> h'.get? b = some o) (hn : h'.Ns C m) : Inv (cxC X NC csc C s H fp) [] (zaG nt is σ) H { s with heap := h', toks := t' } := by
 have hcells := S.has_cells I
 have hlook : ∀ y c, (clos X.env.cells csc.names []).lookup y = some c -> X.env.cells.lookup y = some c := fun y c h => zb5 csc.names [] y c hcells (by intro d hd; simp at hd) h
 have hlt := zke ho
 have hfree : ∀ y, csc.names.lookup y = some .free -> ∃ c, (clos X.env.cells csc.names []).lookup y = some c := fun y h => zds csc.names [] y (PySem.mem_of_lookup h)
 refine ⟨⟨I.ok.mod, S.kind, I.ok.glob, I.ok.blt, hC, fun x y c h1 h2 => I.ok.inj x y c (hlook x c h1) (hlook y c h2), fun x hx => ?_, fun x c h _ => (Bool.false_ne_true h).elim, I.ok.hd, I.ok.frames, .inl rfl,
  fun b hb => ⟨Nat.ne_of_lt (Nat.lt_of_lt_of_le (hlt b hb) hC), fun x c h => (hf b hb).2.2.2.2.1 x c (hlook x c h)⟩, I.bs, Nat.le_trans I.ok.bsz I.sz, fun b o e hb => ?_, fun b hb hs => ?_, I.stack, I.stkFree⟩,
  rfl, I.bare, Un.kept k, ⟨m, hn, fun i x v e1 e2 e3 => ?_⟩, fun x c h => ?_, I.hok.fresh hC, fun x c h => I.freeC x c (hlook x c h), fun p hp => absurd (show p ∈ ([] : List (Addr × Obj)) from hp) (by simp), I.hok.kept k, ?_⟩
 ·have hx' : (relabel csc X.env).names.lookup x = some .cell \/ (relabel csc X.env).names.lookup x = some .free := hx
  rcases hx' with h | h
  ·rcases relabel_kind h with q | ⟨_, q⟩
   ·exact (S.no_cell (PySem.mem_of_lookup q)).elim
   ·exact hfree x q
  ·rcases relabel_kind h with q | ⟨q, _⟩
   ·exact hfree x q
   ·cases q
 ·rcases (hf b hb).2.2.2.1 with z | z
  ·exact I.ok.noex b o e z
  ·exact absurd (Nat.lt_of_lt_of_le (Heap.lt_size e) (Nat.le_trans I.ok.bsz z)) (Nat.lt_irrefl _)
 ·rcases List.mem_cons.mp (I.stkSub b hs) with e | e
  ·exact (hf b hb).2.1 e
  ·exact (hf b hb).2.2.1 e
 ·have hi : nt ≤ i := by
   by_cases hi : nt ≤ i
   ·exact hi
   ·have : (zaG nt is σ)[i]? = some none := by
     unfold zaG
     rw [List.getElem?_append_left (by simpa using hi), List.getElem?_replicate, if_pos (by omega)]
    rw [this] at e2; cases e2
  obtain ⟨j, rfl⟩ : ∃ j, i = nt + j := ⟨i - nt, by omega⟩
  have e2' : (is.map fun i => (σ[i]?).join)[j]? = some (some v) := by
   unfold zaG at e2
   rw [List.getElem?_append_right (by simp)] at e2
   simpa using e2
  rw [List.getElem?_map] at e2'
  cases ej : is[j]? with
  | none => rw [ej] at e2'; cases e2'
  | some i' =>
   rw [ej] at e2'
   have e3' : (σ[i']?).join = some v := Option.some.inj e2'
   have e4 : σ[i']? = some (some v) := by
    cases q : σ[i']? with
    | none => rw [q] at e3'; cases e3'
    | some o => rw [q] at e3'; exact congrArg some e3'
   have e5 : X.N[i']? = some x := by
    have q := congrArg (fun l => l[j]?) S.slots
    simp only [List.getElem?_map, ej, Option.map_some] at q
    have q2 : (NC.drop nt)[j]? = some x := by rw [List.getElem?_drop]; exact e1
    rw [q2] at q
    simpa using q.symm
   have hxfree : csc.names.lookup x = some .free := by
    have q2 : (NC.drop nt)[j]? = some x := by rw [List.getElem?_drop]; exact e1
    have q := List.all_eq_true.mp S.isfree x (List.mem_of_getElem? q2)
    simpa using q
   have hk := S.free_kind (PySem.mem_of_lookup hxfree)
   obtain ⟨m0, _, hl⟩ := I.loc
   obtain ⟨u, r, l⟩ := hl i' x v e5 e4 (hk.elim (fun z => .inr (.inl z)) fun z => .inr (.inr z))
   refine ⟨u, r, ?_⟩
   rcases l with ⟨z, _⟩ | ⟨_, c, hc, hcell⟩
   ·rw [z] at hk; rcases hk with q | q <;> cases q
   ·obtain ⟨c', hc'⟩ := hfree x hxfree
    have e6 := hlook x c' hc'
    rw [hc] at e6; cases e6
    refine .inr ⟨?_, c, hc', ?_⟩
    ·have e3'' : (relabel csc X.env).names.lookup x = some .local \/ (relabel csc X.env).names.lookup x = some .cell \/ (relabel csc X.env).names.lookup x = some .free := e3
     rcases e3'' with z | z | z
     ·rcases relabel_kind z with q | ⟨q, _⟩
      ·rw [hxfree] at q; cases q
      ·cases q
     ·exact .inl z
     ·exact .inr z
    ·obtain ⟨o, ho, hd⟩ := hcell
     exact ⟨o, k c o ho, hd⟩
 ·obtain ⟨v, o, ho, hd⟩ := I.cell x c (hlook x c h)
  exact ⟨v, o, k c o ho, hd⟩
 ·rw [zdj]; exact S.len.symm
theorem zfq (I : Inv X pins σ H s) {fp : List Addr} (hf : ∀ b ∈ fp, FpOk X pins H b) {σ' : St} {H' : Hp} {s' : Shared} {C D : Addr} {pins' : List (Addr × Obj)} {acc : List V} {its : List Value} {n : Nat}
  (J : Inv (cxC X NC csc C s H fp) pins' σ' H' s') (hC : s.heap.objs.size ≤ C) (hD : s.heap.objs.size ≤ D) (hDo : s'.heap.get? D = some { cls := .type "list", data := .seq its.toArray n }) (hDn : H' D = none) (hv : Vals acc its)
  (hz : acc.length ≤ sizeLine) : Inv X pins σ (upd H' D (.lst acc)) s' := by
 have hne : ∀ b o, s.heap.get? b = some o -> b ≠ D := fun b o e z => absurd (Nat.lt_of_lt_of_le (Heap.lt_size e) (z ▸ hD)) (Nat.lt_irrefl _)
 have hu : Un (frs X.stack) fp H H' s.heap s'.heap := J.base
 refine I.call' (ch := fp) J.os ⟨hu.keep, hu.slot, fun b o e n hx => by rw [za8 (hne b o e)]; exact hu.free b o e n hx, hu.there, fun b xs e => ?_, fun b o u e => ?_, fun b ps e => ?_⟩ (fun b u q => ?_) J.bare fun b hb => ?_
 ·have q := hu.tups b xs e
  rw [za8 (za7 q hDn)]; exact q
 ·have q := hu.frzs b o u e
  rw [za8 (za7 q hDn)]; exact q
 ·obtain ⟨more, q⟩ := hu.tbls b ps e
  exact ⟨more, by rw [za8 (za7 q hDn)]; exact q⟩
 ·by_cases hb : b = D
  ·subst hb
   rw [zac] at q; cases q
   exact ⟨hz, its, n, hv, hDo⟩
  ·rw [za8 hb] at q
   exact (J.hok b u q).stay (fun _ _ _ e => e) (fun c r => by rw [za8 (za7 r hDn)]; exact r) fun c xs r => by rw [za8 (za7 r hDn)]; exact r
 ·obtain ⟨_, f1, f2, f3, f4, f5⟩ := hf b hb
  exact ⟨f3, f1, f4, f5⟩
theorem zeO {elt tg iter : Expr} {ifs : List Expr} {pos : Pos} {wi : TI} {g : TG} {tt : TT} {te : TE} {Q : VK} {use : Option (Value -> Sem Unit)} {QQ : Value -> Shared -> Prop} {epos : Pos}
  (S : CompSc X NC nt is csc) (hc : X.calm = true) (hi : PI X tg iter wi)
  (hg : ∀ C s H ex, PG (cxC X NC csc C s H ex) tg g) (ht : ∀ C s H ex, PIf (cxC X NC csc C s H ex) ifs tt) (he : ∀ C s H ex, PE (cxC X NC csc C s H ex) elt te)
  (hgk : ∀ x (σ : St) H Q, g x σ H Q -> g x σ H fun σ2 H2 => σ2.drop nt = σ.drop nt /\ Q σ2 H2)
  (I : Inv X pins σ H s) (h : zhk wi nt is g tt te σ H Q)
  (fin : ∀ (s' : Shared) (C D : Addr) (H' : Hp) (m : Str -> Option Value), Inv X pins σ H' s' -> Q (.ref D) H' -> s'.heap.Ns C m -> H' C = none -> C ≠ X.env.locals -> X.s₀.heap.objs.size ≤ C -> (∀ x c, X.env.cells.lookup x = some c -> c ≠ C) -> (∀ p ∈ X.pn ++ pins, p.1 ≠ C) ->
   compPost (model X.prog X.w) X.A X.xe use QQ (.ref D) C (.ok .next) s')
  (hs : ∀ x, foldedSetIterable iter X.env x = pure x) :
  wpAny (model X.prog X.w) X.A (comprehension (.ListComp elt [⟨tg, iter, ifs, 0⟩] csc pos) csc X.env epos (newList []) false (eval iter X.env) use) QQ X.xe s := by
 have hcells := S.has_cells I
 have hnames : ∀ x ∈ csc.names, x.2 = .local -> csc.names.lookup x.1 = some .local := fun x hx hl => by
  have q := List.all_eq_true.mp S.locs x hx
  simpa [hl] using q
 have hcell : ∀ y ∈ csc.names, y.2 ≠ .cell := fun y hy e => by
  obtain ⟨n, k⟩ := y
  have e' : k = .cell := e
  subst e'
  exact S.no_cell hy
 refine wpAny_comprehension_free (g := ⟨tg, iter, ifs, 0⟩) (gs := []) (cl := clos X.env.cells csc.names []) rfl hs (zcC hcells) S.kind hnames ?_
 refine thn (hi pins s σ H _ I h) fun v s1 h1 => thn h1 fun itv s2 h2 => ?_
 obtain ⟨it, fp, tn, J, H2, rfl, I2, T, st2, f2, W, ⟨m0, w0⟩, turn⟩ := h2
 have fo : ∀ b ∈ fp, ∃ o, s2.heap.get? b = some o := fun b hb => let ⟨o, e, _⟩ := T.obj 0 _ st2 b hb; ⟨o, e⟩
 have flt := zke fo
 refine wpAny_newObj_type (wpAny_newFunctionEnv hcell (by intro y hy; simp at hy) (fun h₁ hns₁ hsb₁ => ?_) S.kind)
 dsimp only at hns₁ hsb₁ ⊢
 generalize hH2 : s2.heap.push { cls := .type "list", dict := none, data := .seq ([] : List Value).toArray } = P2 at hns₁ hsb₁ ⊢
 have hCs : P2.objs.size = s2.heap.objs.size + 1 := by rw [<- hH2, Heap.size_push]
 generalize hCC : P2.objs.size = C at hns₁ hsb₁ hCs ⊢
 generalize hDD : s2.heap.objs.size = D at hCs ⊢
 have hD : s2.heap.objs.size ≤ D := Nat.le_of_eq hDD
 have hC : s2.heap.objs.size ≤ C := by omega
 have hDC : D ≠ C := by omega
 have old : ∀ b o, s2.heap.get? b = some o -> h₁.get? b = some o := fun b o e => hsb₁.extBut b o (Nat.ne_of_lt (Nat.lt_of_lt_of_le (Heap.lt_size e) hC)) (Heap.get?_push_of_some _ (hH2 ▸ Heap.get?_push_of_some _ e))
 have accO : h₁.get? D = some { cls := .type "list", data := .seq ([] : List Value).toArray 0 } := by
  refine hsb₁.extBut _ _ hDC (Heap.get?_push_of_some _ ?_)
  rw [<- hH2, <- hDD]
  exact Heap.get?_push_size _ rfl
 have Istart : Inv (cxC X NC csc C s2 H2 fp) [] (zaG nt is σ) H2 { s2 with heap := h₁, toks := s2.toks + ([] : List (Str × Value)).length } := zgm S I2 f2 fo hC old hns₁
 have HD0 : H2 D = none := I2.hok.fresh hD
 have HC0 : H2 C = none := I2.hok.fresh hC
 have fpY : ∀ {H' : Hp} {pl : List (Addr × Obj)}, (∀ b ∈ fp, H' b = none) -> (∀ p ∈ pl, p.1 ∉ fp) -> ∀ b ∈ fp, FpOk (cxC X NC csc C s2 H2 fp) pl H' b := fun {H' pl} hn hp b hb => by
  obtain ⟨_, g1, g2, g3, g4, g5⟩ := f2 b hb
  refine ⟨hn b hb, Nat.ne_of_lt (Nat.lt_of_lt_of_le (flt b hb) hC), fun z => ?_, .inl hb, fun x c e => g4 x c (zb5 csc.names [] x c hcells (by intro d hd; simp at hd) e), fun p hpp z => ?_⟩
  ·rcases List.mem_cons.mp (I2.stkSub b z) with e | e
   ·exact g1 e
   ·exact g2 e
  ·exact hp p (by simpa using hpp) (z ▸ hb)
 have dne : D ∉ fp := fun hb => absurd (flt D hb) (Nat.not_lt.mpr hD)
 have cellD : ∀ {σ' : St} {H' : Hp} {s' : Shared} {pl : List (Addr × Obj)} {its : List Value} {n : Nat}, Inv (cxC X NC csc C s2 H2 fp) pl σ' H' s' -> s'.heap.get? D = some { cls := .type "list", data := .seq its.toArray n } ->
   ∀ x c, (cxC X NC csc C s2 H2 fp).env.cells.lookup x = some c -> c ≠ D := fun {σ' H' s' pl its n} K e x c hx z => by
  obtain ⟨v, o, ho, hd⟩ := K.cell x c hx
  rw [z, e] at ho; cases ho; cases hd
 have loop : ∀ s₃ : Shared, s₃ = { s2 with heap := h₁, toks := s2.toks + ([] : List (Str × Value)).length } ->
   codeAny (model X.prog X.w) X.A (.compLoop (.ListComp elt [⟨tg, iter, ifs, 0⟩] csc pos) 0 (.ref it) (.ref D) (compEnvC csc (clos X.env.cells csc.names []) C X.env)) (compPost (model X.prog X.w) X.A X.xe use QQ (.ref D) C) s₃ := by
  rintro s₃ rfl
  refine zdQ (fun n s' => ∃ i H' acc its k, Inv (cxC X NC csc C s2 H2 fp) [] (zaG nt is σ) H' s' /\ tn i s'.heap /\ (∀ b ∈ fp, H' b = none) /\ s'.heap.get? D = some { cls := .type "list", data := .seq its.toArray k } /\ H' D = none /\
   Vals acc its /\ acc.length ≤ sizeLine /\ W i n acc H') ?_ m0 ⟨0, H2, [], [], 0, Istart, T.keep _ _ _ st2 (fun b hb o e => old b o e), fun b hb => (f2 b hb).1, accO, HD0, .nil, Nat.zero_le _, w0⟩
  rintro n s3 ⟨i, H3, acc, its, k, I3, st3, fr3, o3, n3, v3, z3, w3⟩
  have pinD : Inv (cxC X NC csc C s2 H2 fp) [(D, { cls := .type "list", data := .seq its.toArray k })] (zaG nt is σ) H3 s3 := I3.pins_of fun p hp => by
   have e : p = (D, { cls := .type "list", data := .seq its.toArray k }) := by simpa using hp
   subst e
   refine ⟨o3, n3, hDC, fun z => ?_, fun v z => by cases z⟩
   rcases List.mem_cons.mp (I2.stkSub D z) with e | e
   ·exact absurd I2.lt (Nat.not_lt.mpr (by rw [<- e]; exact hD))
   ·exact I2.nofs hD e
  have fpD : ∀ p ∈ [((D, { cls := .type "list", data := .seq its.toArray k }) : Addr × Obj)], p.1 ∉ fp := fun p hp => by
   have e : p = (D, { cls := .type "list", data := .seq its.toArray k }) := by simpa using hp
   subst e; exact dne
  rcases turn i n acc H3 w3 with ⟨stop, qn⟩ | ⟨go, hlen, N, hN, step⟩
  ·refine thn (T.done (cxC X NC csc C s2 H2 fp) rfl rfl rfl hc i _ s3 _ H3 (fun _ _ => False) pinD (fpY fr3 fpD) st3 stop) fun r s4 ⟨hr, I4⟩ => ?_
   subst hr
   obtain ⟨e4, n4, _⟩ := I4.pin (D, { cls := .type "list", data := .seq its.toArray k }) (List.mem_append_right _ (List.mem_singleton.mpr rfl))
   have J := zfq (NC := NC) (csc := csc) I2 f2 I4 hC hD e4 n4 v3 z3
   obtain ⟨m4, hm4, _⟩ := I4.loc
   have nC : H3 C = none := I4.free
   refine fin s4 C D _ m4 J (qn D n4) hm4 (by rw [za8 (Ne.symm hDC)]; exact nC) (fun z => absurd I2.lt (Nat.not_lt.mpr (by rw [<- z]; exact hC))) (Nat.le_trans I2.sz hC) (fun x c e z => ?_) fun p hp z => ?_
   ·obtain ⟨v, o, ho, _⟩ := I2.cell x c e
    exact absurd (Heap.lt_size ho) (Nat.not_lt.mpr (by rw [z]; exact hC))
   ·exact absurd (Heap.lt_size (I2.pin p hp).1) (Nat.not_lt.mpr (by rw [z]; exact hC))
  ·refine thn (T.item (cxC X NC csc C s2 H2 fp) rfl rfl rfl hc i _ s3 _ H3 (fun _ _ => False) pinD (fpY fr3 fpD) st3 go) fun r s4 ⟨u, hr, h4⟩ => ?_
   subst hr
   refine thn h4 fun _ s5 ⟨x, H5, I5, r5, y5, st5, fr5⟩ => ?_
   have I5' := I5.pinned (fpY fr5 fpD) (T.obj _ _ st5)
   refine thn (hg C s2 H2 fp _ s5 _ H5 x u _ I5' r5 (hgk _ _ _ _ (step x H5 y5))) fun _ s6 ⟨σ6, H6, I6, d6, q6⟩ => ?_
   refine thn (ht C s2 H2 fp _ s6 σ6 H6 _ I6 q6) fun ok s7 ⟨H7, I7, q7⟩ => ?_
   have tnk : ∀ {σ' : St} {H' : Hp} {s' : Shared}, Inv (cxC X NC csc C s2 H2 fp) ([(D, { cls := .type "list", data := .seq its.toArray k })] ++ zdG fp s5.heap) σ' H' s' ->
     tn (i + 1) s'.heap /\ (∀ b ∈ fp, H' b = none) /\ s'.heap.get? D = some { cls := .type "list", data := .seq its.toArray k } /\ H' D = none := fun {σ' H' s'} K => by
    refine ⟨T.keep _ _ _ st5 fun b hb o e => (K.pin (b, o) (List.mem_append_right _ (List.mem_append_right _ (zbO hb e)))).1, fun b hb => ?_, ?_, ?_⟩
    ·obtain ⟨o, e, d⟩ := T.obj _ _ st5 b hb
     exact (K.pin (b, o) (List.mem_append_right _ (List.mem_append_right _ (zbO hb e)))).2.1
    ·exact (K.pin (D, { cls := .type "list", data := .seq its.toArray k }) (List.mem_append_right _ (List.mem_append_left _ (List.mem_singleton.mpr rfl)))).1
    ·exact (K.pin (D, { cls := .type "list", data := .seq its.toArray k }) (List.mem_append_right _ (List.mem_append_left _ (List.mem_singleton.mpr rfl)))).2.1
   have reset : ∀ {σ' : St} {H' : Hp} {s' : Shared} {pl : List (Addr × Obj)}, σ'.drop nt = (zaG nt is σ).drop nt -> Inv (cxC X NC csc C s2 H2 fp) pl σ' H' s' -> Inv (cxC X NC csc C s2 H2 fp) [] (zaG nt is σ) H' s' := fun {σ' H' s' pl} hd K => by
    have K0 : Inv (cxC X NC csc C s2 H2 fp) [] σ' H' s' := K.pins_of fun p hp => absurd hp (by simp)
    refine K0.weak ?_ fun j v hj => ?_
    ·rw [zdj, K.len]; exact S.len.symm
    ·by_cases hjn : j < nt
     ·exfalso
      unfold zaG at hj
      rw [List.getElem?_append_left (by simpa using hjn), List.getElem?_replicate, if_pos hjn] at hj
      cases hj
     ·have q := congrArg (fun l => l[j - nt]?) hd
      simp only [List.getElem?_drop] at q
      rw [show nt + (j - nt) = j by omega] at q
      rw [q]; exact hj
   cases ok with
   | false =>
    obtain ⟨m', lt, w7⟩ : ∃ m', m' < n /\ W (i + 1) m' acc H7 := hN _ _ q7
    obtain ⟨t7, f7, e7, n7⟩ := tnk I7
    exact ⟨m', lt, i + 1, H7, acc, its, k, reset d6 I7, t7, f7, e7, n7, v3, z3, w7⟩
   | true =>
    have q7' : te σ6 H7 fun y H4 => N (acc ++ [y]) H4 := q7
    refine thn (he C s2 H2 fp _ s7 σ6 H7 _ I7 q7') fun u8 s8 ⟨y, H8, I8, r8, qN⟩ => ?_
    obtain ⟨m', lt, w8⟩ := hN _ _ qN
    obtain ⟨t8, f8, e8, n8⟩ := tnk I8
    have I8r := reset d6 I8
    have hl := v3.length
    refine call_meets F.slot_list_append ⟨_, e8, rfl⟩ F.entry_list_append (F.args_list_append_2 _ _) (PySem.list_append D its.toArray k u8 (by rw [List.size_toArray]; omega)) ⟨e8, ?_⟩
    have q := PySem.IsL.update e8 (fun a => a.push u8)
    have hq : (its.toArray.push u8) = (its ++ [u8]).toArray := by simp
    rw [hq] at q
    have kk : ∀ b o, b ≠ D -> s8.heap.get? b = some o -> (s8.heap.update D (Obj.mapSeq fun a => a.push u8)).get? b = some o := fun b o hb e => (Heap.get?_update_other s8.heap _ (Ne.symm hb)).trans e
    refine ⟨m', lt, i + 1, H8, acc ++ [y], its ++ [u8], _, I8r.turned (t' := s8.toks) kk n8 hDC (.inr hD) (cellD I8r e8) (fun p hp => absurd (show p ∈ ([] : List (Addr × Obj)) from hp) (by simp)), T.keep _ _ _ t8 (fun b hb o e => kk b o (fun z => dne (z ▸ hb)) e), f8, q, n8, v3.append (.cons r8 .nil), ?_, w8⟩
    rw [List.length_append, List.length_singleton]
    omega
 exact codeAny_compStart_list (loop _ rfl) (T.self X.A 0 _ _ _ (T.keep _ _ _ st2 (fun b hb o e => old b o e)) (loop _ rfl))
theorem zba {i nt : Nat} (hi : i < nt) : ∀ x (σ : St) (H : Hp) Q, zcS i x σ H Q -> zcS i x σ H fun σ2 H2 => σ2.drop nt = σ.drop nt /\ Q σ2 H2 := fun x σ H Q h => ⟨List.drop_set_of_lt hi, h⟩
theorem zbK {elt tg iter : Expr} {ifs : List Expr} {pos : Pos} {wi : TI} {g : TG} {tt : TT} {te : TE} (nt : Nat) (is : List Nat) (NC : List Str)
  (S : CompSc X NC nt is csc) (hc : X.calm = true) (hi : PI X tg iter wi)
  (hg : ∀ C s H ex, PG (cxC X NC csc C s H ex) tg g) (hgk : ∀ x (σ : St) H Q, g x σ H Q -> g x σ H fun σ2 H2 => σ2.drop nt = σ.drop nt /\ Q σ2 H2)
  (ht : ∀ C s H ex, PIf (cxC X NC csc C s H ex) ifs tt) (he : ∀ C s H ex, PE (cxC X NC csc C s H ex) elt te)
  (hs : ∀ x, foldedSetIterable iter X.env x = pure x := by intro _; rfl) : PE X (.ListComp elt [⟨tg, iter, ifs, 0⟩] csc pos) (zhk wi nt is g tt te) := by
 intro pins s σ H Q I h
 rw [eval_ListComp]
 refine zeO S hc hi hg ht he hgk I h (fun s' C D H' m J q hm hC hL hz hcl hp => ⟨m, hm, fun h' hsb => ?_⟩) hs
 exact ⟨.ref D, H', J.turned (t' := s'.toks) (fun b o hb e => hsb.extBut b o hb e) hC hL (.inr hz) hcl hp, rfl, q⟩
theorem zci {i : Nat} {y : Str} {elt tg iter : Expr} {ifs : List Expr} {pos spos py : Pos} {wi : TI} {g : TG} {tt : TT} {te : TE} (nt : Nat) (is : List Nat) (NC : List Str) (hN : X.N.Nodup) (hy : X.N[i]? = some y) (hyl : X.env.scope.names.lookup y = some .local)
  (S : CompSc X NC nt is csc) (hc : X.calm = true) (hi : PI X tg iter wi)
  (hg : ∀ C s H ex, PG (cxC X NC csc C s H ex) tg g) (hgk : ∀ x (σ : St) H Q, g x σ H Q -> g x σ H fun σ2 H2 => σ2.drop nt = σ.drop nt /\ Q σ2 H2)
  (ht : ∀ C s H ex, PIf (cxC X NC csc C s H ex) ifs tt) (he : ∀ C s H ex, PE (cxC X NC csc C s H ex) elt te)
  (hsw : swapsWith (.ListComp elt [⟨tg, iter, ifs, 0⟩] csc pos) (some (.Name y py)) spos.line X.env = pure true := by rfl)
  (hs : ∀ x, foldedSetIterable iter X.env x = pure x := by intro _; rfl) : PS X (.Assign [.Name y py] (.ListComp elt [⟨tg, iter, ifs, 0⟩] csc pos) spos) (tAsg (zhk wi nt is g tt te) (zcS i)) := by
 intro pins s σ H D I h
 rw [exec_Assign_Name_used _ _ _ _ hsw]
 refine wpAny_bind (wpAny_standAt (wpAny_bind ?_))
 show wpAny _ X.A (do let _ <- comprehension (.ListComp elt [⟨tg, iter, ifs, 0⟩] csc pos) csc X.env _ (newList []) false (eval iter X.env) (some (assign (.Name y py) X.env))) _ _ s
 refine wpAny_bind (thn (zeO (QQ := fun _ s' => SP X pins D .next s') S hc hi hg ht he hgk I h (fun s' C Da H' m J q hm hC hL hz hcl hp => ?_) hs) fun _ s' hq => wpAny_pure (wpAny_pure hq))
 show wpAny _ X.A (assign (.Name y py) X.env (.ref Da)) _ _ _
 refine wpAny_assign_Name (zdF J hN hy (.inl hyl) (v := .ref Da) rfl (fun s'' J' ⟨a, hsb, ha⟩ => ⟨m, hm.sameBut hsb (fun z => ?_), fun h3 hs3 => ?_⟩) (.inr hyl))
 ·rcases ha with e | e
  ·exact hL (z.trans e)
  ·exact hcl y a e z.symm
 ·exact ⟨_, H', J'.turned (t' := s''.toks) (fun b o hb e => hs3.extBut b o hb e) hC hL (.inr hz) hcl hp, q⟩
end
section
variable {K : W.Frag} {nt : Nat} {is : List Nat} {g : TG} {tt : TT} {te : TE} {σ : St} {H : Hp} {Q : VK}
def zey (J : It) (nt : Nat) (is : List Nat) (g : TG) (tt : TT) (te : TE) (σ : St) (H : Hp) (Q : VK) : Prop := ∃ W : Nat -> Nat -> List V -> Hp -> Prop, (∃ m, W 0 m [] H) /\ ∀ i m acc H, W i m acc H ->
 (J.stop i H /\ ∀ p, H p = none -> Q (.ref p) (upd H p (.lst acc))) \/
 (J.go i H /\ acc.length < sizeLine /\ ∃ N : List V -> Hp -> Prop, (∀ acc' H', N acc' H' -> ∃ m', m' < m /\ W (i + 1) m' acc' H') /\ ∀ x H', J.yld i H x H' -> g x (zaG nt is σ) H' fun σ2 H2 => tt σ2 H2 fun b H3 =>
  if b = true then te σ2 H3 fun y H4 => N (acc ++ [y]) H4 else N acc H3)
theorem zhl {wi : TI} : zhk wi nt is g tt te σ H Q = wi σ H fun J H1 => zey J nt is g tt te σ H1 Q := rfl
theorem zbY {J : It} {n : Nat} (Pv : Nat -> List V -> Hp -> Prop) (h0 : Pv 0 [] H)
  (hgo : ∀ i acc H, i < n -> Pv i acc H -> J.go i H /\ acc.length < sizeLine /\ ∀ x H', J.yld i H x H' -> g x (zaG nt is σ) H' fun σ2 H2 => tt σ2 H2 fun b H3 => if b = true then te σ2 H3 fun y H4 => Pv (i + 1) (acc ++ [y]) H4 else Pv (i + 1) acc H3)
  (hst : ∀ acc H, Pv n acc H -> J.stop n H /\ ∀ p, H p = none -> Q (.ref p) (upd H p (.lst acc))) : zey J nt is g tt te σ H Q := by
 refine ⟨fun i m acc H => m = n - i /\ i ≤ n /\ Pv i acc H, ⟨n, by simp, Nat.zero_le _, h0⟩, ?_⟩
 rintro i m acc H ⟨rfl, hi, p⟩
 by_cases hlt : i < n
 ·obtain ⟨h1, h2, h3⟩ := hgo i acc H hlt p
  exact .inr ⟨h1, h2, Pv (i + 1), fun acc' H' q => ⟨n - (i + 1), by omega, rfl, hlt, q⟩, h3⟩
 ·have e : i = n := by omega
  subst e
  exact .inl (hst acc H p)
theorem zdk {lo : Int} {n : Nat} (Pv : Nat -> List V -> Hp -> Prop) (h0 : Pv 0 [] H)
  (hs : ∀ i acc H, i < n -> Pv i acc H -> acc.length < sizeLine /\ g (.int (lo + i)) (zaG nt is σ) H fun σ2 H2 => tt σ2 H2 fun b H3 => if b = true then te σ2 H3 fun y H4 => Pv (i + 1) (acc ++ [y]) H4 else Pv (i + 1) acc H3)
  (hd : ∀ acc H, Pv n acc H -> ∀ p, H p = none -> Q (.ref p) (upd H p (.lst acc))) : zey (Itr lo n) nt is g tt te σ H Q := by
 refine zbY (n := n) Pv h0 (fun i acc H hi p => ?_) fun acc H p => ⟨Nat.le_refl _, hd acc H p⟩
 obtain ⟨h1, h2⟩ := hs i acc H hi p
 refine ⟨hi, h1, fun x H' y => ?_⟩
 obtain ⟨rfl, rfl⟩ := y
 exact h2
theorem zeP {z : Str} (Pv : Nat -> List V -> Hp -> Prop) (h0 : Pv 0 [] H)
  (hs : ∀ i c acc H, z.cps.toList[i]? = some c -> Pv i acc H -> acc.length < sizeLine /\ g (.str ⟨#[c]⟩) (zaG nt is σ) H fun σ2 H2 => tt σ2 H2 fun b H3 => if b = true then te σ2 H3 fun y H4 => Pv (i + 1) (acc ++ [y]) H4 else Pv (i + 1) acc H3)
  (hd : ∀ acc H, Pv z.cps.toList.length acc H -> ∀ p, H p = none -> Q (.ref p) (upd H p (.lst acc))) : zey (Its z) nt is g tt te σ H Q := by
 have hl : z.cps.toList.length = z.cps.size := by simp
 refine zbY (n := z.cps.toList.length) Pv h0 (fun i acc H hi p => ?_) fun acc H p => ⟨Nat.le_of_eq hl.symm, hd acc H p⟩
 have hx : z.cps.toList[i]? = some z.cps.toList[i] := by simp [hi]
 obtain ⟨h1, h2⟩ := hs i _ acc H hx p
 refine ⟨(by show i < z.cps.size; omega), h1, fun x H' y => ?_⟩
 obtain ⟨rfl, c, hc, rfl⟩ := y
 rw [<- Array.getElem?_toList, hx] at hc
 cases hc
 exact h2
theorem zdR {a : Addr} {xs : List V} (Pv : Nat -> List V -> Hp -> Prop) (h0 : Pv 0 [] H) (hl : ∀ i acc H, i ≤ xs.length -> Pv i acc H -> SqL K H a xs)
  (hs : ∀ i x acc H, xs[i]? = some x -> Pv i acc H -> acc.length < sizeLine /\ g x (zaG nt is σ) H fun σ2 H2 => tt σ2 H2 fun b H3 => if b = true then te σ2 H3 fun y H4 => Pv (i + 1) (acc ++ [y]) H4 else Pv (i + 1) acc H3)
  (hd : ∀ acc H, Pv xs.length acc H -> ∀ p, H p = none -> Q (.ref p) (upd H p (.lst acc))) : zey (Itl K a) nt is g tt te σ H Q := by
 refine zbY (n := xs.length) Pv h0 (fun i acc H hi p => ?_) fun acc H p => ⟨⟨xs, hl _ _ _ (Nat.le_refl _) p, Nat.le_refl _⟩, hd acc H p⟩
 have hx : xs[i]? = some xs[i] := by simp [hi]
 have q := hl i acc H (Nat.le_of_lt hi) p
 obtain ⟨h1, h2⟩ := hs i _ acc H hx p
 refine ⟨⟨xs, _, q, hx⟩, h1, fun x H' y => ?_⟩
 obtain ⟨rfl, y⟩ := y
 have e := y xs q
 rw [hx] at e
 cases e
 exact h2
theorem zb3 {a : Addr} {xs : List V} (Pv : Nat -> List V -> Hp -> Prop) (h0 : Pv 0 [] H) (hl : ∀ i acc H, i ≤ xs.length -> Pv i acc H -> SqT K H a xs)
  (hs : ∀ i x acc H, xs[i]? = some x -> Pv i acc H -> acc.length < sizeLine /\ g x (zaG nt is σ) H fun σ2 H2 => tt σ2 H2 fun b H3 => if b = true then te σ2 H3 fun y H4 => Pv (i + 1) (acc ++ [y]) H4 else Pv (i + 1) acc H3)
  (hd : ∀ acc H, Pv xs.length acc H -> ∀ p, H p = none -> Q (.ref p) (upd H p (.lst acc))) : zey (Itt K a) nt is g tt te σ H Q := by
 refine zbY (n := xs.length) Pv h0 (fun i acc H hi p => ?_) fun acc H p => ⟨⟨xs, hl _ _ _ (Nat.le_refl _) p, Nat.le_refl _⟩, hd acc H p⟩
 have hx : xs[i]? = some xs[i] := by simp [hi]
 have q := hl i acc H (Nat.le_of_lt hi) p
 obtain ⟨h1, h2⟩ := hs i _ acc H hx p
 refine ⟨⟨xs, _, q, hx⟩, h1, fun x H' y => ?_⟩
 obtain ⟨rfl, y⟩ := y
 have e := y xs q
 rw [hx] at e
 cases e
 exact h2
end
section
variable {X : Cx}
theorem call_all (hc : X.calm = true) : zbo X (.builtin "all") (fun xs H Q => ∃ (p : Addr) (bs : List Bool), xs = [.ref p] /\ SqL X.K H p (bs.map V.bl) /\ Q (.bl (bs.all id)) H) := by
 intro pins s σ H xs us Q I r h
 obtain ⟨p, bs, rfl, hq, q⟩ := h
 obtain ⟨u, rfl, rx⟩ := zdp r
 cases rx
 obtain ⟨its, rv, pl, hz⟩ := I.list hq
 have hlen : bs.length = its.length := by have := rv.length; simpa using this
 refine call_all_walk (wpAny_pyIter_list pl.isList ?_)
 have hne : p ≠ s.heap.objs.size := by
  obtain ⟨o, _, e, _⟩ := pl
  exact Nat.ne_of_lt (Heap.lt_size e)
 refine ⟨s.heap.objs.size, _, _, _, _, _, fun i => bs.getD i false, rfl, Walks.list (A := X.A.in1) (show X.A.in1.handled = none from I.ok.hd hc) _ p hne its.toArray, ⟨⟨_, Heap.get?_push_size _ rfl, rfl, rfl⟩, pl.isList.push _⟩, ?_, fun h' tk hk => ?_⟩
 ·intro i v s' Q' E' hP hQ'
  have hv : its[i]? = some v := by simpa using hP
  have hi : i < bs.length := by rw [hlen]; exact (List.getElem?_eq_some_iff.mp hv).1
  obtain ⟨v', hv', rv'⟩ := rv.get (i := i) (x := V.bl bs[i]) (by simp [hi])
  rw [hv] at hv'; cases hv'
  cases (show v = Value.bool bs[i] from rv')
  have e : bs.getD i false = bs[i] := by simp [hi]
  have hQ2 : Q' (bs.getD i false) s' := hQ'
  rw [e] at hQ2
  exact wpAny_truthy_bool hQ2
 ·have e : ((List.range its.toArray.size).all fun i => bs.getD i false) = bs.all id := by
   rw [List.size_toArray, <- hlen]
   rw [Bool.eq_iff_iff, List.all_eq_true, List.all_eq_true]
   constructor
   ·intro h x hx
    obtain ⟨i, hi, rfl⟩ := List.mem_iff_getElem.mp hx
    have := h i (List.mem_range.mpr hi)
    simpa [hi] using this
   ·intro h i hi
    have hi' := List.mem_range.mp hi
    have := h bs[i] (List.getElem_mem hi')
    simpa [hi'] using this
  rw [e]
  refine ⟨.bl (bs.all id), H, ?_, rfl, q⟩
  exact I.kept (t' := tk) fun b o e => hk b o (fun z => absurd (Heap.lt_size e) (Nat.not_lt.mpr (Nat.le_of_eq (List.mem_singleton.mp z).symm))) (Heap.get?_push_of_some _ e)
theorem zcj : ∀ {ys : List Str} {us : List Value}, Vals (ys.map V.str) us -> StrsAre us ys
 | [], _, r => by rw [List.map_nil] at r; cases r; exact .nil
 | y :: ys, _, r => by
  rw [List.map_cons] at r
  cases r with
  | cons r1 r2 =>
   obtain ⟨t, rfl⟩ := r1
   exact .cons y t (zcj r2)
def zl0 (K : W.Frag) : V -> List V -> Hp -> VK -> Prop := fun x vs H Q => ∃ (sep : Str) (p : Addr) (ys : List Str), x = .str sep /\ vs = [.ref p] /\ SqL K H p (ys.map V.str) /\ (ys.map (·.length)).sum + ys.length * sep.length ≤ 16777216 /\ Q (.str (Txt.join sep ys)) H
def ziC (K : W.Frag) (T : String) : List V -> Hp -> VK -> Prop := fun vs H Q => ∃ x t b, vs = [x, .ty T] /\ TyOf K H x t /\ W.kitOne K t (.type T) = some b /\ Q (.bl b) H
theorem zgn {T : String} : zbo X (.builtin "isinstance") (ziC X.K T) := by
 intro pins s σ H xs us Q I r h
 obtain ⟨x, t, b, rfl, ty, e, q⟩ := h
 obtain ⟨u, u2, rfl, rx, r2⟩ := zi2 r
 cases (show u2 = Value.type T from r2)
 exact zfW I rx ty e fun tk => ⟨.bl b, H, I.tok tk, rfl, q⟩
end
end L2
namespace L2
open PySem PySem.Spec PyProof.Rows
section
variable {X : Cx} {tg l : Expr} {tl : TE} {a : Expr} {pos : Pos} {tA : TT}
theorem zav : OpR X (binaryOp .Mod) (rI (fun _ j => 0 < j) fun i j => .int (i % j)) := zjM
theorem zaI : OpR X (binaryOp .FloorDiv) (rI CDiv fun i j => .int (i / j)) := ziz
def zkf : R2 := fun x y H Q => ∃ i j, x = .str i /\ y = .str j /\ i.length + j.length ≤ sizeLine /\ Q (.str (i ++ j)) H
def zfr (K : W.Frag) : R2 := fun x y H Q => rI0 (fun i j => .int (i + j)) x y H Q \/ (zkf x y H Q \/ (rCat x y H Q \/ zjY K x y H Q))
theorem zgo (K : W.Frag) (hK : X.K = K := by rfl) : OpR X (binaryOp .Add) (zfr K) := hK ▸ (OpR.or zib (OpR.or zde (OpR.or zig zga)) : OpR X (binaryOp .Add) (zfr X.K))
def zhm : R2 := fun x y H Q => rI CMul (fun i j => .int (i * j)) x y H Q \/ rRep x y H Q
theorem zb4 : OpR X (binaryOp .Mult) zhm := OpR.or zjL zkc
theorem zkg (hu : X.A.units + 64 < cLine) : OpR X (compareOp .NotEq) rNe := zjQ
def rLtS : R2 := fun x y H Q => ∃ i j, x = .str i /\ y = .str j /\ Q (.bl (decide (i.cps.toList < j.cps.toList))) H
def rLtA : R2 := fun x y H Q => rI0 (fun i j => .bl (decide (i < j))) x y H Q \/ rLtS x y H Q
theorem zcE : OpR X (compareOp .Lt) rLtA := OpR.or zlw zfQ
def inS (i j : Str) : Bool := !(Builtin.Str.occurrences j i 0 j.length 1).isEmpty
def rInS (neg : Bool) : R2 := fun x y H Q => ∃ i j, x = .str i /\ y = .str j /\ Q (.bl (if neg then !inS i j else inS i j)) H
def rInA (K : W.Frag) (neg : Bool) : R2 := fun x y H Q => rInS neg x y H Q \/ rIn K neg x y H Q
theorem zbZ (K : W.Frag) (hK : X.K = K := by rfl) : OpR X (compareOp .In) (rInA K false) := hK ▸ (OpR.or zfR zgd : OpR X (compareOp .In) (rInA X.K false))
theorem zbL (K : W.Frag) (hK : X.K = K := by rfl) : OpR X (compareOp .NotIn) (rInA K true) := hK ▸ (OpR.or zdN zdM : OpR X (compareOp .NotIn) (rInA X.K true))
def rSlA (K : W.Frag) : V -> Option Int -> Option Int -> Hp -> VK -> Prop := fun x lo hi H Q => rSlS x lo hi H Q \/ (rSlL K x lo hi H Q \/ rSlT K x lo hi H Q)
theorem slA (K : W.Frag) (hK : X.K = K := by rfl) : SlR X (rSlA K) := hK ▸ (SlR.or zih (SlR.or zgc zid) : SlR X (rSlA X.K))
theorem ixA (K : W.Frag) (hK : X.K = K := by rfl) : IxR X (rIx K) := hK ▸ (ix_seq : IxR X (rIx X.K))
def zhn (K : W.Frag) (x : V) (H : Hp) (R : It -> Hp -> Prop) : Prop := (∃ z, x = .str z /\ R (Its z) H) \/ (∃ a, x = .ref a /\ (∃ xs, SqL K H a xs) /\ R (Itl K a) H) \/ (∃ a, x = .ref a /\ (∃ xs, SqT K H a xs) /\ R (Itt K a) H)
def iAny (K : W.Frag) (tl : TE) : TI := fun σ H R => tl σ H fun x H1 => zhn K x H1 R
theorem zca (K : W.Frag) (hl : PE X l tl) (hK : X.K = K := by rfl) : PI X tg l (iAny K tl) := by
 subst hK
 intro pins s σ H R I h
 refine thn (hl pins s σ H _ I h) fun v s1 ⟨x, H1, I1, r1, q1⟩ => ?_
 rcases q1 with ⟨z, rfl, q⟩ | ⟨a, rfl, hq, q⟩ | ⟨a, rfl, hq, q⟩
 ·exact zgk I1 r1 q
 ·obtain ⟨xs, hq⟩ := hq
  cases r1
  obtain ⟨its, rv, p, hz⟩ := I1.list hq
  refine wpAny_pyIter_list p.isList ?_
  refine ⟨s1.heap.objs.size, [s1.heap.objs.size], _, _, H1, rfl, I1.kept (t' := s1.toks) fun b o e => Heap.get?_push_of_some _ e, zfK a _, ⟨_, Heap.get?_push_size _ rfl, rfl, rfl⟩, fun b hb => ?_, q⟩
  have e : b = s1.heap.objs.size := by simpa using hb
  subst e
  exact I1.fpOk (Nat.le_refl _) (I1.hok.fresh (Nat.le_refl _))
 ·obtain ⟨xs, hq⟩ := hq
  cases r1
  obtain ⟨its, rv, p, hz⟩ := I1.tuple hq
  refine wpAny_pyIter_tuple (show s1.heap.IsTuple a its.toArray from p) ?_
  refine ⟨s1.heap.objs.size, [s1.heap.objs.size], _, _, H1, rfl, I1.kept (t' := s1.toks) fun b o e => Heap.get?_push_of_some _ e, zfi a _, ⟨_, Heap.get?_push_size _ rfl, rfl, rfl⟩, fun b hb => ?_, q⟩
  have e : b = s1.heap.objs.size := by simpa using hb
  subst e
  exact I1.fpOk (Nat.le_refl _) (I1.hok.fresh (Nat.le_refl _))
end
section
variable {X : Cx} {o e : Expr} {es : List Expr} {to : TE} {t : TA} {name : Str} {apos cpos : Pos} {T iid : String} {r : V -> List V -> Hp -> VK -> Prop}
def rLen (K : W.Frag) : List V -> Hp -> VK -> Prop := fun xs H Q => ∃ x n, xs = [x] /\ LenV K x H n /\ Q (.int n) H
theorem za4 (K : W.Frag) (hK : X.K = K := by rfl) : zbo X (.builtin "len") (rLen K) := hK ▸ (call_len : zbo X (.builtin "len") (rLen X.K))
def rAll (K : W.Frag) : List V -> Hp -> VK -> Prop := fun xs H Q => ∃ (p : Addr) (bs : List Bool), xs = [.ref p] /\ SqL K H p (bs.map V.bl) /\ Q (.bl (bs.all id)) H
theorem zdS (K : W.Frag) (hc : X.calm = true) (hK : X.K = K := by rfl) : zbo X (.builtin "all") (rAll K) := hK ▸ (call_all hc : zbo X (.builtin "all") (rAll X.K))
def zdt (K : W.Frag) : List V -> Hp -> VK -> Prop := fun xs H Q => ∃ p ys, xs = [.ref p] /\ ((SqL K H p ys /\ ∀ l, H l = none -> Q (.ref l) (upd H l (.tup ys))) \/ (SqT K H p ys /\ Q (.ref p) H))
theorem zaU (K : W.Frag) (hK : X.K = K := by rfl) : zbo X (.type "tuple") (zdt K) := hK ▸ (call_tuple_of : zbo X (.type "tuple") (zdt X.K))
def zez (K : W.Frag) : List V -> Hp -> VK -> Prop := fun xs H Q => ∃ p ys, xs = [.ref p] /\ (SqL K H p ys \/ SqT K H p ys) /\ ∀ l, H l = none -> Q (.ref l) (upd H l (.lst ys))
theorem zfs (K : W.Frag) (hK : X.K = K := by rfl) : zbo X (.type "list") (zez K) := hK ▸ (call_list_of : zbo X (.type "list") (zez X.K))
def zgp : List V -> Hp -> VK -> Prop := fun xs H Q => (∃ i, xs = [.int i] /\ Q (.int i) H) \/ ∃ k, xs = [.bl k] /\ Q (.int (if k then 1 else 0)) H
theorem zcF : zbo X (.type "int") zgp := zfS
theorem zeQ (K : W.Frag) (pa : PlainAttrs T) (slot : Slot T name iid) (hty : typeOf (.builtin iid) = pure (.type "method_descriptor")) (hm : MtR X iid r) (ho : PE X o to) (ha : PA X (e :: es) t) (hK : X.K = K := by rfl)
  (hbase : attributeBase o name X.env (eval o X.env) = eval o X.env := by rfl)
  (hfew : ((backTo cpos (starEach (e :: es) X.env)).all (fun x => !x.1) && (backToKw cpos (keywordEach [] X.env)).all (fun x => x.1.isSome)
   && decide ((e :: es).length + ([] : List Keyword).length + (if ([] : List Keyword).isEmpty then 0 else 1) < 30)) = true := by rfl)
  (hline : (apos.endLine == cpos.line) = true := by rfl) (hs : starEach (e :: es) X.env = (false, eval e X.env) :: starEach es X.env := by rfl) (hplain : (backTo cpos (starEach es X.env)).any (·.1) = false := by rfl) :
  PE X (.Call (.Attribute o name apos) (e :: es) [] cpos) (tBM K T r to t) := hK ▸ zlz pa slot hty hm ho ha hbase hfew hline hs hplain
end
section
variable {K : W.Frag} {g : TG} {tb : TS} {D : Ends} {σ : St} {H : Hp}
def ForW (J : It) (g : TG) (tb : TS) (D : Ends) (σ : St) (H : Hp) : Prop := ∃ W : Nat -> Nat -> St -> Hp -> Prop, (∃ m, W 0 m σ H) /\ ∀ i m σ H, W i m σ H ->
 (J.stop i H /\ D.nx σ H) \/ (J.go i H /\ ∃ N : St -> Hp -> Prop, (∀ σ' H', N σ' H' -> ∃ m', m' < m /\ W (i + 1) m' σ' H') /\ ∀ x H', J.yld i H x H' -> g x σ H' fun σ2 H2 => tb { D with nx := N, ct := N, bk := D.nx } σ2 H2)
theorem ziD {wi : TI} : tFor wi g tb D σ H = wi σ H fun J H1 => ForW J g tb D σ H1 := rfl
theorem zho {a : Addr} {xs : List V} (Pv : Nat -> St -> Hp -> Prop) (h0 : Pv 0 σ H) (hl : ∀ i σ H, i ≤ xs.length -> Pv i σ H -> SqT K H a xs)
  (hs : ∀ i x σ H, xs[i]? = some x -> Pv i σ H -> g x σ H fun σ2 H2 => tb { D with nx := Pv (i + 1), ct := Pv (i + 1), bk := D.nx } σ2 H2) (hd : ∀ σ H, Pv xs.length σ H -> D.nx σ H) : ForW (Itt K a) g tb D σ H := ziy Pv h0 hl hs hd
theorem zck {lo : Int} {n : Nat} (Pv : Nat -> St -> Hp -> Prop) (h0 : Pv 0 σ H)
  (hs : ∀ i σ H, i < n -> Pv i σ H -> g (.int (lo + i)) σ H fun σ2 H2 => tb { D with nx := Pv (i + 1), ct := Pv (i + 1), bk := D.nx } σ2 H2) (hd : ∀ σ H, Pv n σ H -> D.nx σ H) : ForW (Itr lo n) g tb D σ H := zfM Pv h0 hs hd
end
theorem zan {n : Nat} (h : n ≤ 100000) : n ≤ sizeLine := Nat.le_trans h (by rw [sizeLine_eq]; decide)
theorem zbb {n : Nat} (h : n ≤ 100000) : n < sizeLine := Nat.lt_of_le_of_lt h (by rw [sizeLine_eq]; decide)
theorem zab {H : Hp} {p : Addr} (h : H p = none) (o : HO) : Same H (upd H p o) := fun b u q => by rw [za8 (za7 q h)]; exact q
theorem Same.seqT {K : W.Frag} {H H' : Hp} {a : Addr} {xs : List V} (e : Same H H') (h : SqT K H a xs) : SqT K H' a xs := by
 rcases h with (h | ⟨o, h⟩) | h
 ·exact .inl (.inl (e _ _ h))
 ·exact .inl (.inr ⟨o, e _ _ h⟩)
 ·exact .inr h
theorem zhp {α : Type} {xs : List α} {i : Int} (h0 : 0 ≤ i) (h1 : i < xs.length) : ∃ v, v ∈ xs /\ atI xs i = some v := by
 have hk : i.toNat < xs.length := by omega
 have e : i = ((i.toNat : Nat) : Int) := by omega
 refine ⟨xs[i.toNat], List.getElem_mem hk, ?_⟩
 have q : atI xs ((i.toNat : Nat) : Int) = some xs[i.toNat] := zae (by simp [hk])
 rw [<- e] at q
 exact q
theorem zeR {α : Type} {xs : List α} {i : Int} {d : α} (h0 : 0 ≤ i) (h1 : i < xs.length) : atI xs i = some (xs.getD i.toNat d) := by
 have hk : i.toNat < xs.length := by omega
 have e : i = ((i.toNat : Nat) : Int) := by omega
 have q : atI xs ((i.toNat : Nat) : Int) = some xs[i.toNat] := zae (by simp [hk])
 rw [<- e] at q
 rw [q]; simp [hk]
def zgq (K : W.Frag) : Sp := fun vs H Q _ => ∃ (a : Addr) (ns : List Int), vs = [.ref a] /\ SqL K H a (ns.map V.int) /\ ns.length ≤ 63 /\ ∀ H', Q (.bl true) H'
end L2
namespace L2
open PySem PySem.Spec PyProof.Rows
section
variable {K : W.Frag} {H : Hp} {Q : VK} {σ : St} {D : Ends} {ta tb tc te : TE} {tt tA tB' : TT} {t u : TS} {g : TG} {r : R2} {tl : TA} {v0 v1 v2 v3 v4 v5 v6 v7 v8 v9 v10 v11 : V}
 {o0 o1 o2 o3 o4 o5 o6 o7 o8 o9 o10 o11 : Option V} {rr : St}
theorem w_v0 : tVar 0 (some v0 :: rr) H Q = Q v0 H := by simp [tVar]
theorem w_v1 : tVar 1 (o0 :: some v1 :: rr) H Q = Q v1 H := by simp [tVar]
theorem w_v2 : tVar 2 (o0 :: o1 :: some v2 :: rr) H Q = Q v2 H := by simp [tVar]
theorem w_v3 : tVar 3 (o0 :: o1 :: o2 :: some v3 :: rr) H Q = Q v3 H := by simp [tVar]
theorem w_v4 : tVar 4 (o0 :: o1 :: o2 :: o3 :: some v4 :: rr) H Q = Q v4 H := by simp [tVar]
theorem w_v5 : tVar 5 (o0 :: o1 :: o2 :: o3 :: o4 :: some v5 :: rr) H Q = Q v5 H := by simp [tVar]
theorem w_v6 : tVar 6 (o0 :: o1 :: o2 :: o3 :: o4 :: o5 :: some v6 :: rr) H Q = Q v6 H := by simp [tVar]
theorem w_v7 : tVar 7 (o0 :: o1 :: o2 :: o3 :: o4 :: o5 :: o6 :: some v7 :: rr) H Q = Q v7 H := by simp [tVar]
theorem w_v8 : tVar 8 (o0 :: o1 :: o2 :: o3 :: o4 :: o5 :: o6 :: o7 :: some v8 :: rr) H Q = Q v8 H := by simp [tVar]
theorem w_v9 : tVar 9 (o0 :: o1 :: o2 :: o3 :: o4 :: o5 :: o6 :: o7 :: o8 :: some v9 :: rr) H Q = Q v9 H := by simp [tVar]
theorem zl1 : tVar 10 (o0 :: o1 :: o2 :: o3 :: o4 :: o5 :: o6 :: o7 :: o8 :: o9 :: some v10 :: rr) H Q = Q v10 H := by simp [tVar]
theorem zl2 : tVar 11 (o0 :: o1 :: o2 :: o3 :: o4 :: o5 :: o6 :: o7 :: o8 :: o9 :: o10 :: some v11 :: rr) H Q = Q v11 H := by simp [tVar]
theorem w_c {v : V} : tC v σ H Q = Q v H := rfl
theorem zdu : tSeq t u D σ H = t { D with nx := u D } σ H := rfl
theorem zl3 : tIfS tt t u D σ H = tt σ H fun b H1 => if b = true then t D σ H1 else u D σ H1 := rfl
theorem zkh : zgZ D σ H = D.nx σ H := rfl
theorem zl4 : tRet te D σ H = te σ H D.rt := rfl
theorem zki : zjG te D σ H = te σ H fun _ H1 => D.nx σ H1 := rfl
theorem zdv : tAsg te g D σ H = te σ H fun x H1 => g x σ H1 D.nx := rfl
theorem zb7 {i : Nat} {x : V} {Qs : St -> Hp -> Prop} : zcS i x σ H Qs = Qs (σ.set i (some x)) H := rfl
theorem w_op : tOp r ta tb σ H Q = ta σ H fun x H1 => tb σ H1 fun y H2 => r x y H2 Q := rfl
theorem w_un {f : V -> Hp -> VK -> Prop} : tUn f ta σ H Q = ta σ H fun x H1 => f x H1 Q := rfl
variable {Qb : Bool -> Hp -> Prop} {Qs : List V -> Hp -> Prop}
theorem zkj : zi1 te σ H Qb = te σ H fun x H' => ∃ k, x = .bl k /\ Qb k H' := rfl
theorem w_B : tB te σ H Qb = te σ H fun x H' => ∃ k, x = .bl k /\ Qb k H' := rfl
theorem w_bl {b : Bool} {P : Bool -> Prop} : (∃ k, V.bl b = .bl k /\ P k) = P b := by
 refine propext ⟨fun ⟨k, e, h⟩ => ?_, fun h => ⟨b, rfl, h⟩⟩
 cases e; exact h
theorem zmw {b : Bool} {P : Bool -> Prop} {P2 : Bool -> Prop} : (∃ k, V.bl b = .bl k /\ if k = true then P k else P2 k) = if b = true then P b else P2 b := w_bl
theorem zl5 : tAnd tA tB' σ H Qb = tA σ H fun c H1 => if c = true then tB' σ H1 Qb else Qb false H1 := rfl
theorem w_or : tOr tA tB' σ H Qb = tA σ H fun c H1 => if c = true then Qb true H1 else tB' σ H1 Qb := rfl
theorem w_not : tNot tA σ H Qb = tA σ H fun c H1 => Qb (!c) H1 := rfl
theorem zkk : zjD ta tb σ H Q = ta σ H fun x H1 => ∃ c, x = .bl c /\ if c = true then tb σ H1 Q else Q (.bl false) H1 := rfl
theorem zl6 : tOrV ta tb σ H Q = ta σ H fun x H1 => ∃ c, x = .bl c /\ if c = true then Q (.bl true) H1 else tb σ H1 Q := rfl
theorem zkl : zjE ta σ H Q = ta σ H fun x H1 => ∃ c, x = .bl c /\ Q (.bl (!c)) H1 := rfl
theorem w_if : tIf tt ta tb σ H Q = tt σ H fun c H1 => if c = true then ta σ H1 Q else tb σ H1 Q := rfl
theorem zkm : zkd σ H Qb = Qb true H := rfl
theorem zl7 : tNil σ H Qs = Qs [] H := rfl
theorem zkn : zjT ta tl σ H Qs = ta σ H fun x H1 => tl σ H1 fun xs H2 => Qs (x :: xs) H2 := rfl
theorem zl8 : tTup tl σ H Q = tl σ H fun xs H1 => xs.length ≤ sizeLine /\ ∀ p, H1 p = none -> Q (.ref p) (upd H1 p (.tup xs)) := rfl
theorem zl9 : tLst tl σ H Q = tl σ H fun xs H1 => xs.length ≤ sizeLine /\ ∀ p, H1 p = none -> Q (.ref p) (upd H1 p (.lst xs)) := rfl
theorem zko {sp : Sp} {dvs : List V} {E : XK} : zjU sp dvs E tl σ H Q = tl σ H fun vs H1 => sp (vs ++ dvs) H1 Q E := rfl
theorem w_CB {f : List V -> Hp -> VK -> Prop} : tCB f tl σ H Q = tl σ H fun vs H1 => f vs H1 Q := rfl
theorem w_BM {T : String} {f : V -> List V -> Hp -> VK -> Prop} : tBM K T f te tl σ H Q = te σ H fun x H1 => tyV K T x H1 /\ tl σ H1 fun xs H2 => f x xs H2 Q := rfl
theorem zhq {T : String} {x : Str} : tyV K T (.str x) H = (T = "str") := rfl
theorem zgr {T : String} {p : Addr} (h : T = "list") : tyV K T (.ref p) H = ∃ xs, SqL K H p xs := by
 subst h
 refine propext ⟨fun h => ?_, fun h => .inl ⟨rfl, h⟩⟩
 rcases h with ⟨_, h⟩ | ⟨h, _⟩ | ⟨h, _⟩ | ⟨h, _⟩
 ·exact h
 ·exact absurd h (by decide)
 ·exact absurd h (by decide)
 ·exact absurd h (by decide)
variable {tlo thi : TO} {Qo : Option Int -> Hp -> Prop}
theorem w_sl {f : V -> Option Int -> Option Int -> Hp -> VK -> Prop} : tSl f te tlo thi σ H Q = te σ H fun x H1 => tlo σ H1 fun l H2 => thi σ H2 fun u H3 => f x l u H3 Q := rfl
theorem zhr : zfZ σ H Qo = Qo none H := rfl
theorem zkp : zjX te σ H Qo = te σ H fun x H1 => ∃ i, x = .int i /\ Qo (some i) H1 := rfl
theorem zlA {i : Int} {P : Int -> Prop} : (∃ k, V.int i = .int k /\ P k) = P i := by
 refine propext ⟨fun ⟨k, e, h⟩ => ?_, fun h => ⟨i, rfl, h⟩⟩
 cases e; exact h
variable {i j : Int} {x y : Str} {b c : Bool} {p q : Addr} {gi : Int -> Int -> V} {C : Int -> Int -> Prop}
theorem ziE : rI0 gi (.int i) (.int j) H Q = Q (gi i j) H := by
 refine propext ⟨fun ⟨_, _, e1, e2, h⟩ => ?_, fun h => ⟨i, j, rfl, rfl, h⟩⟩
 cases e1; cases e2; exact h
theorem w_rI : rI C gi (.int i) (.int j) H Q = (C i j /\ Q (gi i j) H) := by
 refine propext ⟨fun ⟨_, _, e1, e2, h⟩ => ?_, fun h => ⟨i, j, rfl, rfl, h⟩⟩
 cases e1; cases e2; exact h
theorem zeS : zfr K (.int i) (.int j) H Q = Q (.int (i + j)) H := by
 unfold zfr
 rw [ziE]
 refine propext ⟨fun h => ?_, .inl⟩
 rcases h with h | ⟨_, _, e, _⟩ | ⟨_, _, _, _, e, _⟩ | ⟨_, _, _, _, e, _⟩
 ·exact h
 all_goals cases e
theorem zkq : zfr K (.str x) (.str y) H Q = (x.length + y.length ≤ sizeLine /\ Q (.str (x ++ y)) H) := by
 refine propext ⟨fun h => ?_, fun h => .inr (.inl ⟨x, y, rfl, rfl, h⟩)⟩
 rcases h with ⟨_, _, e, _⟩ | ⟨_, _, e1, e2, h⟩ | ⟨_, _, _, _, e, _⟩ | ⟨_, _, _, _, e, _⟩
 ·cases e
 ·cases e1; cases e2; exact h
 all_goals cases e
theorem zeT : zhm (.int i) (.int j) H Q = (CMul i j /\ Q (.int (i * j)) H) := by
 unfold zhm
 rw [w_rI]
 refine propext ⟨fun h => ?_, .inl⟩
 rcases h with h | ⟨_, _, _, e, _⟩
 ·exact h
 ·cases e
theorem zlB : rNe (.int i) (.int j) H Q = Q (.bl (!decide (i = j))) H := by
 refine propext ⟨fun ⟨_, h⟩ => by simpa using h, fun h => ⟨rfl, by simpa using h⟩⟩
theorem zlC : rNe (.str x) (.str y) H Q = Q (.bl (!decide (x = y))) H := by
 refine propext ⟨fun ⟨_, h⟩ => by simpa using h, fun h => ⟨rfl, by simpa using h⟩⟩
theorem zlD : rLtA (.int i) (.int j) H Q = Q (.bl (decide (i < j))) H := by
 unfold rLtA
 rw [ziE]
 refine propext ⟨fun h => ?_, .inl⟩
 rcases h with h | ⟨_, _, e, _⟩
 ·exact h
 ·cases e
theorem zlE : rInA K false (.str x) (.str y) H Q = Q (.bl (inS x y)) H := by
 refine propext ⟨fun h => ?_, fun h => .inl ⟨x, y, rfl, rfl, h⟩⟩
 rcases h with ⟨_, _, e1, e2, h⟩ | ⟨_, _, e, _⟩
 ·cases e1; cases e2; exact h
 ·cases e
theorem zhs : rInA K true (.str x) (.str y) H Q = Q (.bl (!inS x y)) H := by
 refine propext ⟨fun h => ?_, fun h => .inl ⟨x, y, rfl, rfl, h⟩⟩
 rcases h with ⟨_, _, e1, e2, h⟩ | ⟨_, _, e, _⟩
 ·cases e1; cases e2; exact h
 ·cases e
theorem zlF {v : V} : rInA K false v (.ref p) H Q = ∃ xs, (SqL K H p xs \/ SqT K H p xs) /\ zbt v = true /\ xs.all zbt = true /\ Q (.bl (inV v xs)) H := by
 refine propext ⟨fun h => ?_, fun ⟨xs, h⟩ => .inr ⟨p, xs, rfl, h⟩⟩
 rcases h with ⟨_, _, _, e2, _⟩ | ⟨_, xs, e, h⟩
 ·cases e2
 ·cases e; exact ⟨xs, h⟩
theorem zht {v : V} : rInA K true v (.ref p) H Q = ∃ xs, (SqL K H p xs \/ SqT K H p xs) /\ zbt v = true /\ xs.all zbt = true /\ Q (.bl (!inV v xs)) H := by
 refine propext ⟨fun h => ?_, fun ⟨xs, h⟩ => .inr ⟨p, xs, rfl, h⟩⟩
 rcases h with ⟨_, _, _, e2, _⟩ | ⟨_, xs, e, h⟩
 ·cases e2
 ·cases e; exact ⟨xs, h⟩
theorem zlG : rIx K (.str x) (.int i) H Q = (x.length ≤ sizeLine /\ ∃ c, atI x.cps.toList i = some c /\ Q (.str ⟨#[c]⟩) H) := by
 refine propext ⟨fun h => ?_, fun ⟨h1, c, h2, h3⟩ => .inr (.inr ⟨x, i, c, rfl, rfl, h1, h2, h3⟩)⟩
 rcases h with ⟨_, _, _, _, e, _⟩ | ⟨_, _, _, _, e, _⟩ | ⟨_, _, c, e1, e2, h1, h2, h3⟩
 ·cases e
 ·cases e
 ·cases e1; cases e2; exact ⟨h1, c, h2, h3⟩
theorem zdT : rIx K (.ref p) (.int i) H Q = ∃ xs, (SqL K H p xs \/ SqT K H p xs) /\ ∃ v, atI xs i = some v /\ Q v H := by
 refine propext ⟨fun h => ?_, fun ⟨xs, h, v, e, q⟩ => ?_⟩
 ·rcases h with ⟨_, xs, _, v, e1, e2, h1, h2, h3⟩ | ⟨_, xs, _, v, e1, e2, h1, h2, h3⟩ | ⟨_, _, _, e, _⟩
  ·cases e1; cases e2; exact ⟨xs, .inl h1, v, h2, h3⟩
  ·cases e1; cases e2; exact ⟨xs, .inr h1, v, h2, h3⟩
  ·cases e
 ·rcases h with h | h
  ·exact .inl ⟨p, xs, i, v, rfl, rfl, h, e, q⟩
  ·exact .inr (.inl ⟨p, xs, i, v, rfl, rfl, h, e, q⟩)
theorem zkr : rLen K [.str x] H Q = (x.length ≤ sizeLine /\ Q (.int x.length) H) := by
 refine propext ⟨fun ⟨_, n, e, h, q⟩ => ?_, fun ⟨h, q⟩ => ⟨_, _, rfl, ⟨h, rfl⟩, q⟩⟩
 cases e
 obtain ⟨h1, rfl⟩ := h
 exact ⟨h1, q⟩
theorem zks : rLen K [.ref p] H Q = ∃ xs, (SqL K H p xs \/ SqT K H p xs) /\ Q (.int (xs.length : Nat)) H := by
 refine propext ⟨fun ⟨_, n, e, h, q⟩ => ?_, fun ⟨xs, h, q⟩ => ?_⟩
 ·cases e
  rcases h with ⟨xs, h, rfl⟩ | ⟨xs, h, rfl⟩
  ·exact ⟨xs, .inl h, q⟩
  ·exact ⟨xs, .inr h, q⟩
 ·rcases h with h | h
  ·exact ⟨_, _, rfl, .inl ⟨xs, h, rfl⟩, q⟩
  ·exact ⟨_, _, rfl, .inr ⟨xs, h, rfl⟩, q⟩
theorem zlH {lo hi : Option Int} : rSlA K (.str x) lo hi H Q = (x.length ≤ sizeLine /\ Q (.str (Txt.slice x lo hi)) H) := by
 refine propext ⟨fun h => ?_, fun h => .inl ⟨x, rfl, h⟩⟩
 rcases h with ⟨_, e, h⟩ | ⟨_, _, e, _⟩ | ⟨_, _, e, _⟩
 ·cases e; exact h
 ·cases e
 ·cases e
theorem zlI : rAll K [.ref p] H Q = ∃ bs : List Bool, SqL K H p (bs.map V.bl) /\ Q (.bl (bs.all id)) H := by
 refine propext ⟨fun ⟨_, bs, e, h⟩ => ?_, fun ⟨bs, h⟩ => ⟨p, bs, rfl, h⟩⟩
 cases e; exact ⟨bs, h⟩
theorem zkt {sep : Str} : zl0 K (.str sep) [.ref p] H Q = ∃ ys : List Str, SqL K H p (ys.map V.str) /\ (ys.map (·.length)).sum + ys.length * sep.length ≤ 16777216 /\ Q (.str (Txt.join sep ys)) H := by
 refine propext ⟨fun ⟨_, _, ys, e1, e2, h⟩ => ?_, fun ⟨ys, h⟩ => ⟨sep, p, ys, rfl, rfl, h⟩⟩
 cases e1; cases e2; exact ⟨ys, h⟩
theorem zku {b : Bool} : zgp [.bl b] H Q = Q (.int (if b then 1 else 0)) H := by
 refine propext ⟨fun h => ?_, fun h => .inr ⟨b, rfl, h⟩⟩
 rcases h with ⟨_, e, _⟩ | ⟨_, e, h⟩
 ·cases e
 ·cases e; exact h
theorem zkv : zgp [.int i] H Q = Q (.int i) H := by
 refine propext ⟨fun h => ?_, fun h => .inl ⟨i, rfl, h⟩⟩
 rcases h with ⟨_, e, h⟩ | ⟨_, e, _⟩
 ·cases e; exact h
 ·cases e
variable {R : It -> Hp -> Prop}
theorem zlJ : zhn K (.str x) H R = R (Its x) H := by
 refine propext ⟨fun h => ?_, fun h => .inl ⟨x, rfl, h⟩⟩
 rcases h with ⟨_, e, h⟩ | ⟨_, e, _⟩ | ⟨_, e, _⟩
 ·cases e; exact h
 ·cases e
 ·cases e
theorem zlK : zhn K (.ref p) H R = (((∃ xs, SqL K H p xs) /\ R (Itl K p) H) \/ ((∃ xs, SqT K H p xs) /\ R (Itt K p) H)) := by
 refine propext ⟨fun h => ?_, fun h => ?_⟩
 ·rcases h with ⟨_, e, _⟩ | ⟨_, e, h⟩ | ⟨_, e, h⟩
  ·cases e
  ·cases e; exact .inl h
  ·cases e; exact .inr h
 ·rcases h with h | h
  ·exact .inr (.inl ⟨p, rfl, h⟩)
  ·exact .inr (.inr ⟨p, rfl, h⟩)
theorem zkw : iAny K te σ H R = te σ H fun x H1 => zhn K x H1 R := rfl
theorem zkx : zjK tl σ H R = tl σ H fun vs H1 => ∃ j : Int, vs = [.int j] /\ -(2 ^ 62) ≤ j /\ j < 2 ^ 62 /\ R (Itr 0 j.toNat) H1 := rfl
theorem zky {P : Int -> Prop} : (∃ j : Int, [V.int i] = [.int j] /\ P j) = P i := by
 refine propext ⟨fun ⟨_, e, h⟩ => ?_, fun h => ⟨i, rfl, h⟩⟩
 cases e; exact h
end
end L2
namespace L2
open PySem PySem.Spec PyProof.Rows
section
variable {K : W.Frag} {H : Hp} {Q : VK} {σ : St} {D : Ends} {ta tb tc te ti to : TE} {i j : Int} {x y : Str} {p q : Addr} {v : V} {T : String} {lo hi : Option Int}
theorem ziF {P : Int -> Int -> Prop} : (∃ i' j', [V.int i, V.int j] = [V.int i', V.int j'] /\ P i' j') = P i j := by
 refine propext ⟨fun ⟨_, _, e, h⟩ => ?_, fun h => ⟨i, j, rfl, h⟩⟩
 cases e; exact h
theorem zgs : zdt K [.ref p] H Q = ∃ ys, (SqL K H p ys /\ ∀ l, H l = none -> Q (.ref l) (upd H l (.tup ys))) \/ (SqT K H p ys /\ Q (.ref p) H) := by
 refine propext ⟨fun ⟨_, ys, e, h⟩ => ?_, fun ⟨ys, h⟩ => ⟨p, ys, rfl, h⟩⟩
 cases e; exact ⟨ys, h⟩
theorem zhu : zez K [.ref p] H Q = ∃ ys, (SqL K H p ys \/ SqT K H p ys) /\ ∀ l, H l = none -> Q (.ref l) (upd H l (.lst ys)) := by
 refine propext ⟨fun ⟨_, ys, e, h⟩ => ?_, fun ⟨ys, h⟩ => ⟨p, ys, rfl, h⟩⟩
 cases e; exact ⟨ys, h⟩
theorem zhv : zew (.ref p) [v] H Q = ∃ xs, H p = some (.lst xs) /\ xs.length < sizeLine /\ Q .non (upd H p (.lst (xs ++ [v]))) := by
 refine propext ⟨fun ⟨_, xs, _, e1, e2, h⟩ => ?_, fun ⟨xs, h⟩ => ⟨p, xs, v, rfl, rfl, h⟩⟩
 cases e1; cases e2; exact ⟨xs, h⟩
theorem zhw : zex (.ref p) [.ref q] H Q = ∃ xs zs, H p = some (.lst xs) /\ H q = some (.lst zs) /\ xs.length + zs.length ≤ sizeLine /\ Q .non (upd H p (.lst (xs ++ zs))) := by
 refine propext ⟨fun ⟨_, _, xs, zs, e1, e2, h⟩ => ?_, fun ⟨xs, zs, h⟩ => ⟨p, q, xs, zs, rfl, rfl, h⟩⟩
 cases e1; cases e2; exact ⟨xs, zs, h⟩
theorem zkz {Qh : Hp -> Prop} : zka (.ref p) (.int i) v H Qh = ∃ xs j, H p = some (.lst xs) /\ ixN xs.length i = some j /\ Qh (upd H p (.lst (xs.set j v))) := by
 refine propext ⟨fun ⟨_, xs, _, j, e1, e2, h⟩ => ?_, fun ⟨xs, j, h⟩ => ⟨p, xs, i, j, rfl, rfl, h⟩⟩
 cases e1; cases e2; exact ⟨xs, j, h⟩
theorem zk0 {t : TSet} {Qs : St -> Hp -> Prop} : gSub to ti t v σ H Qs = to σ H fun o H1 => ti σ H1 fun i H2 => t o i v H2 fun H3 => Qs σ H3 := rfl
theorem zgt : ziC K T [.int i, .ty T] H Q = ∃ b, W.kitOne K (.type "int") (.type T) = some b /\ Q (.bl b) H := by
 refine propext ⟨fun ⟨_, _, b, e, t, h⟩ => ?_, fun ⟨b, h⟩ => ⟨_, _, b, rfl, .int i, h⟩⟩
 cases e; cases t; exact ⟨b, h⟩
theorem zgu : ziC K T [.str x, .ty T] H Q = ∃ b, W.kitOne K (.type "str") (.type T) = some b /\ Q (.bl b) H := by
 refine propext ⟨fun ⟨_, _, b, e, t, h⟩ => ?_, fun ⟨b, h⟩ => ⟨_, _, b, rfl, .str x, h⟩⟩
 cases e; cases t; exact ⟨b, h⟩
theorem zlL : rSlA K (.ref p) lo hi H Q = ∃ xs, (SqL K H p xs /\ ∀ q, H q = none -> Q (.ref q) (upd H q (.lst (cutV xs lo hi)))) \/
  (SqT K H p xs /\ ¬ (HT.sIx xs.length 0 lo = 0 /\ HT.sIx xs.length xs.length hi = xs.length) /\ ∀ q, H q = none -> Q (.ref q) (upd H q (.tup (cutV xs lo hi)))) := by
 refine propext ⟨fun h => ?_, fun ⟨xs, h⟩ => ?_⟩
 ·rcases h with ⟨_, e, _⟩ | ⟨_, xs, e, h⟩ | ⟨_, xs, e, h⟩
  ·cases e
  ·cases e; exact ⟨xs, .inl h⟩
  ·cases e; exact ⟨xs, .inr h⟩
 ·rcases h with h | h
  ·exact .inr (.inl ⟨p, xs, rfl, h⟩)
  ·exact .inr (.inr ⟨p, xs, rfl, h⟩)
theorem zk1 : zfr K (.ref p) (.ref q) H Q = ∃ xs zs, (H p = some (.lst xs) /\ H q = some (.lst zs) /\ xs.length + zs.length ≤ sizeLine /\ ∀ r, H r = none -> Q (.ref r) (upd H r (.lst (xs ++ zs)))) \/
  (SqT K H p xs /\ SqT K H q zs /\ xs ≠ [] /\ xs.length + zs.length ≤ sizeLine /\ (zs = [] -> Q (.ref p) H) /\ (zs ≠ [] -> ∀ r, H r = none -> Q (.ref r) (upd H r (.tup (xs ++ zs))))) := by
 refine propext ⟨fun h => ?_, fun ⟨xs, zs, h⟩ => ?_⟩
 ·rcases h with ⟨_, _, e, _⟩ | ⟨_, _, e, _⟩ | ⟨_, _, xs, zs, e1, e2, h⟩ | ⟨_, _, xs, zs, e1, e2, h⟩
  ·cases e
  ·cases e
  ·cases e1; cases e2; exact ⟨xs, zs, .inl h⟩
  ·cases e1; cases e2; exact ⟨xs, zs, .inr h⟩
 ·rcases h with h | h
  ·exact .inr (.inr (.inl ⟨p, q, xs, zs, rfl, rfl, h⟩))
  ·exact .inr (.inr (.inr ⟨p, q, xs, zs, rfl, rfl, h⟩))
end
theorem zcl {X : Cx} : MtR X "list.append" zew := zge
theorem zft {X : Cx} : MtR X "list.extend" zex := zgf
theorem Same.upd {H0 H : Hp} {p : Addr} {o : HO} (s : Same H0 H) (h : H0 p = none) : Same H0 (upd H p o) := fun b u q => by rw [za8 (za7 q h)]; exact s b u q
theorem zbp {H : Hp} {p a : Addr} {o u : HO} (hn : H p = none) (h : H a = some u) : upd H p o a = some u := by rw [za8 (za7 h hn)]; exact h
inductive Bi where | and | or | thn
 deriving DecidableEq
def Bi.txt : Bi -> Str | .and => "and" | .or => "or" | .thn => "then"
def qtx : Bool -> Str | true => "all" | false => "some"
inductive Stm where
 | is (w : Str) (ts : List Str) | fls | neg (A : Stm) | bi (o : Bi) (A B : Stm) | qu (q : Bool) (X : Str) (A : Stm)
 deriving DecidableEq
namespace Stm
def deep : Stm -> Nat
 | .is _ _ => 1 | .fls => 1 | .neg A => A.deep + 1 | .bi _ A B => max A.deep B.deep + 1 | .qu _ _ A => A.deep + 1
def parts : Stm -> List Stm
 | .is _ _ => [] | .fls => [] | .neg A => [A] | .bi _ A B => [A, B] | .qu _ _ A => [A]
def tag : Stm -> Str
 | .is _ _ => "is" | .fls => "false" | .neg _ => "not" | .bi o _ _ => o.txt | .qu q _ _ => qtx q
theorem deep_pos (S : Stm) : 1 ≤ S.deep := by cases S <;> simp [deep]
end Stm
def smallS : Str := "abcdefghijklmnopqrstuvwxyz"
def greatS : Str := "ABCDEFGHIJKLMNOPQRSTUVWXYZ"
def sofS : Str := "abcdefghijklmnopqrstuvwxyz0123456789"
def keptW : List Str := ["not", "and", "or", "then", "all", "some", "false"]
def Nm (f x : Str) : Prop := ∃ c r, x.cps.toList = c :: r /\ c ∈ f.cps.toList /\ (∀ d ∈ r, d ∈ sofS.cps.toList) /\ r.length ≤ 7 /\ x ∉ keptW
def Stm.Ok : Stm -> Prop
 | .is w ts => Nm smallS w /\ ts.length ≤ 3 /\ ∀ t ∈ ts, Nm smallS t \/ Nm greatS t
 | .fls => True
 | .neg A => A.Ok
 | .bi _ A B => A.Ok /\ B.Ok
 | .qu _ X A => Nm greatS X /\ A.Ok
theorem Nm.len {f x : Str} (h : Nm f x) : x.length ≤ 8 /\ 1 ≤ x.length := by
 obtain ⟨c, r, e, _, _, h, _⟩ := h
 have : x.length = x.cps.toList.length := by simp [Str.length]
 rw [this, e, List.length_cons]
 omega
def RepS (K : W.Frag) (H : Hp) : Stm -> V -> Prop
 | .is w ts, v => ∃ a b, v = .ref a /\ SqT K H a [.str "is", .str w, .ref b] /\ SqT K H b (ts.map V.str)
 | .fls, v => ∃ a, v = .ref a /\ SqT K H a [.str "false"]
 | .neg A, v => ∃ a u, v = .ref a /\ SqT K H a [.str "not", u] /\ RepS K H A u
 | .bi o A B, v => ∃ a u u', v = .ref a /\ SqT K H a [.str o.txt, u, u'] /\ RepS K H A u /\ RepS K H B u'
 | .qu q X A, v => ∃ a u, v = .ref a /\ SqT K H a [.str (qtx q), .str X, u] /\ RepS K H A u
theorem RepS.same {K : W.Frag} {H H' : Hp} (e : Same H H') : ∀ {S : Stm} {v : V}, RepS K H S v -> RepS K H' S v
 | .is _ _, _, ⟨a, b, h1, h2, h3⟩ => ⟨a, b, h1, e.seqT h2, e.seqT h3⟩
 | .fls, _, ⟨a, h1, h2⟩ => ⟨a, h1, e.seqT h2⟩
 | .neg _, _, ⟨a, u, h1, h2, h3⟩ => ⟨a, u, h1, e.seqT h2, RepS.same e h3⟩
 | .bi _ _ _, _, ⟨a, u, u', h1, h2, h3, h4⟩ => ⟨a, u, u', h1, e.seqT h2, RepS.same e h3, RepS.same e h4⟩
 | .qu _ _ _, _, ⟨a, u, h1, h2, h3⟩ => ⟨a, u, h1, e.seqT h2, RepS.same e h3⟩
theorem RepS.tag {K : W.Frag} {H : Hp} {S : Stm} {v : V} (h : RepS K H S v) : ∃ a xs, v = .ref a /\ SqT K H a (.str S.tag :: xs) := by
 cases S with
 | is w ts => obtain ⟨a, b, h1, h2, _⟩ := h; exact ⟨a, _, h1, h2⟩
 | fls => obtain ⟨a, h1, h2⟩ := h; exact ⟨a, _, h1, h2⟩
 | neg A => obtain ⟨a, u, h1, h2, _⟩ := h; exact ⟨a, _, h1, h2⟩
 | bi o A B => obtain ⟨a, u, u', h1, h2, _⟩ := h; exact ⟨a, _, h1, h2⟩
 | qu q X A => obtain ⟨a, u, h1, h2, _⟩ := h; exact ⟨a, _, h1, h2⟩
abbrev RepL (K : W.Frag) (H : Hp) : List Stm -> List V -> Prop := Paired (RepS K H)
theorem RepL.same {K : W.Frag} {H H' : Hp} (e : Same H H') {Ss : List Stm} {vs : List V} (h : RepL K H Ss vs) : RepL K H' Ss vs := Paired.mapP h fun _ _ => RepS.same e
theorem RepL.get {K : W.Frag} {H : Hp} : ∀ {Ss : List Stm} {vs : List V} {i : Nat} {v : V}, RepL K H Ss vs -> vs[i]? = some v -> ∃ S, Ss[i]? = some S /\ RepS K H S v
 | _, _, _, _, .nil, e => by simp at e
 | _, _, 0, _, .cons r _, e => by simp at e; subst e; exact ⟨_, rfl, r⟩
 | _, _, i + 1, x, .cons _ t, e => by
  obtain ⟨u, h1, h2⟩ := RepL.get (i := i) (v := x) t (by simpa using e)
  exact ⟨u, by simpa using h1, h2⟩
theorem zb1 (x y : Str) : (x ++ y).cps.toList = x.cps.toList ++ y.cps.toList := by
 rw [Str.cps_append]; simp
theorem zb8 (x : Str) : x.cps.toList.length = x.length := by simp [Str.length]
theorem zhx (p q : Int) (a b : Nat) (hp : p = a) (hq : q = b) : sliceRange p q 1 = (List.range (b - a)).map fun k => a + k := by
 subst hp hq
 unfold sliceRange
 simp only [show (1 : Int) > 0 by decide, if_true]
 by_cases hab : a < b
 ·rw [if_pos (by omega)]
  have e : (((b : Int) - a + 1 - 1) / 1).toNat = b - a := by omega
  rw [e]
  refine List.map_congr_left fun k _ => ?_
  omega
 ·rw [if_neg (by omega), show b - a = 0 by omega]
  rfl
theorem zhy (lo hi : Option Int) (n : Nat) : Builtin.Str.strSliceIndices lo hi 1 n = (List.range (HT.sIx n n hi - HT.sIx n 0 lo)).map fun k => HT.sIx n 0 lo + k := by
 have cl : ∀ (v : Int) (d : Nat), max 0 (min (if v < 0 then v + (n : Int) else v) (n : Int)) = ((HT.sIx n d (some v) : Nat) : Int) := fun v d => by
  rw [<- HT.clip_eq]; split <;> omega
 refine zhx _ _ _ _ ?_ ?_
 ·cases lo with
  | none => rfl
  | some v => exact cl v 0
 ·cases hi with
  | none => rfl
  | some v => exact cl v n
theorem zgv (x : Str) (lo hi : Option Int) : (Txt.slice x lo hi).cps.toList = (x.cps.toList.drop (HT.sIx x.length 0 lo)).take (HT.sIx x.length x.length hi - HT.sIx x.length 0 lo) := by
 have hl := zb8 x
 have ha : HT.sIx x.length 0 lo ≤ x.length := HT.sIx_le _ 0 (Nat.zero_le _) lo
 have hb : HT.sIx x.length x.length hi ≤ x.length := HT.sIx_le _ _ (Nat.le_refl _) hi
 unfold Txt.slice
 rw [zhy]
 generalize HT.sIx x.length 0 lo = a at *
 generalize HT.sIx x.length x.length hi = b at *
 split
 ·rename_i h
  simp at h
  have : a = 0 /\ b = x.length \/ x.length = 0 := by omega
  rcases this with ⟨rfl, rfl⟩ | h0
  ·rw [List.drop_zero, Nat.sub_zero, List.take_of_length_le (by omega)]
  ·have : x.cps.toList = [] := List.eq_nil_of_length_eq_zero (by omega)
   rw [this]; simp
 ·by_cases hab : a ≤ b
  ·have h := StrLaws.picks x.cps.toList (b - a) a (by rw [hl]; omega)
   rw [<- h]
   simp only [List.toList_toArray]
   congr 1
   funext k
   simp
  ·rw [show b - a = 0 by omega]; simp
theorem zfu (x : Str) (n : Nat) : (Txt.slice x (some (n : Int)) none).cps.toList = x.cps.toList.drop n := by
 have hl := zb8 x
 rw [zgv, HT.sIx_nat, HT.sIx_none]
 rw [List.take_of_length_le (by rw [List.length_drop]; omega)]
 by_cases h : n ≤ x.length
 ·rw [Nat.min_eq_left h]
 ·rw [List.drop_eq_nil_of_le (by omega), List.drop_eq_nil_of_le (by omega)]
theorem ziG {x : Str} {i : Int} {P : Nat -> Prop} (h : 0 < x.length) (k : ∀ c ∈ x.cps.toList, P c) : ∃ c, atI x.cps.toList (i % (x.length : Int)) = some c /\ P c := by
 have e := zb8 x
 obtain ⟨c, hc', hc⟩ := zhp (xs := x.cps.toList) (i := i % (x.length : Int)) (Int.emod_nonneg _ (by omega)) (by rw [e]; exact Int.emod_lt_of_pos _ (by omega))
 exact ⟨c, hc, k c hc'⟩
theorem cdiv {i j : Int} (h : 0 < j := by decide) (h2 : j < 1073741824 := by decide) : CDiv i j := ⟨h, h2⟩
theorem zdw {i j : Int} (h : -(2 ^ 64) < i /\ i < 2 ^ 64 := by decide) : CMul i j := .inl h
theorem ziH {i j : Int} (h : -(2 ^ 64) < j /\ j < 2 ^ 64 := by decide) : CMul i j := .inr h
theorem zhz {ns : List Int} {i : Int} (h0 : 0 ≤ i) (h1 : i < (ns.length : Int)) : atI (ns.map V.int) i = some (.int (ns.getD i.toNat 0)) := by
 have hk : i.toNat < ns.length := by omega
 rw [zeR (d := .int 0) h0 (by simpa using h1)]
 simp [hk]
theorem ziI {ts : List Str} {i : Int} (h0 : 0 ≤ i) (h1 : i < (ts.length : Int)) : ∃ z, z ∈ ts /\ atI (ts.map V.str) i = some (.str z) := by
 have hk : i.toNat < ts.length := by omega
 refine ⟨ts[i.toNat], List.getElem_mem hk, ?_⟩
 rw [zeR (d := .non) h0 (by simpa using h1)]
 simp [hk]
theorem zk2 {n : Nat} {i : Int} (h0 : 0 ≤ i) (h1 : i < n) : ixN n i = some i.toNat := by
 unfold ixN; rw [if_pos h0, if_pos h1]
theorem ziJ (c : Nat) (x : Str) : inS ⟨#[c]⟩ x = decide (c ∈ x.cps.toList) := StrLaws.found_one x c
theorem zdx (x : Str) : ∀ ts : List Str, inV (.str x) (ts.map V.str) = decide (x ∈ ts)
 | [] => by simp [inV]
 | t :: ts => by
  have ih := zdx x ts
  unfold inV at ih ⊢
  rw [List.map_cons, List.any_cons, ih]
  have e : eqV (V.str t) (V.str x) = decide (x = t) := by
   show (t == x) = decide (x = t)
   by_cases h : x = t
   ·subst h; simp
   ·have h' : ¬ t = x := fun e => h e.symm
    simp [h, h']
  rw [e]
  simp
theorem zdU (ts : List Str) : (ts.map V.str).all zbt = true := by
 rw [List.all_map, List.all_eq_true]; intro t _; rfl
def zdV (f : Str) (cs : List Nat) : Prop := ∃ c r, cs = c :: r /\ c ∈ f.cps.toList /\ (∀ d ∈ r, d ∈ sofS.cps.toList) /\ r.length ≤ 7
theorem zgw : ∀ c ∈ smallS.cps.toList, c ∈ sofS.cps.toList := by decide +kernel
theorem zfv : ∀ z ∈ keptW, 1 ≤ z.length /\ z.length ≤ 5 /\ ∀ c ∈ z.cps.toList, c ∈ smallS.cps.toList := by decide +kernel
theorem zgx : ∀ y ∈ keptW, y.cps.toList.getLast? ≠ some 48 := by decide +kernel
theorem zeU {f x : Str} {cs : List Nat} (g : zdV f cs) (e : x.cps.toList = cs) (h : x ∉ keptW) : Nm f x := by
 obtain ⟨c, r, rfl, h1, h2, h3⟩ := g
 exact ⟨c, r, e, h1, h2, h3, h⟩
theorem zdW {f x y : Str} {cs : List Nat} (g : zdV f cs) (e : x.cps.toList = cs) (h : x ∈ keptW) (ey : y = x ++ "0") : Nm f y := by
 obtain ⟨c, r, rfl, h1, h2, h3⟩ := g
 have hl := (zfv x h).2.1
 rw [<- zb8, e, List.length_cons] at hl
 have e2 : y.cps.toList = c :: (r ++ [48]) := by
  rw [ey, zb1, e]; rfl
 refine ⟨c, r ++ [48], e2, h1, fun d hd => ?_, by rw [List.length_append, List.length_singleton]; omega, fun hy => ?_⟩
 ·rcases List.mem_append.mp hd with q | q
  ·exact h2 d q
  ·rw [List.mem_singleton.mp q]; decide +kernel
 ·refine zgx y hy ?_
  rw [e2, <- List.cons_append, List.getLast?_concat]
def ziK (K : W.Frag) : Sp := fun vs H Q _ => ∃ v S, vs = [v] /\ RepS K H S v /\ ∀ p us H', Same H H' -> SqT K H' p us -> RepL K H' S.parts us -> Q (.ref p) H'
theorem zb2 (o : Bi) : inV (.str o.txt) [V.str "all", V.str "some"] = false := by cases o <;> decide +kernel
theorem zcb (q : Bool) : inV (.str (qtx q)) [V.str "all", V.str "some"] = true := by cases q <;> decide +kernel
theorem zgy (o : Bi) : ¬ o.txt = "is" := by cases o <;> decide +kernel
theorem zk3 (o : Bi) : ¬ o.txt = "all" := by cases o <;> decide +kernel
theorem ziL (o : Bi) : ¬ o.txt = "some" := by cases o <;> decide +kernel
theorem zgz (q : Bool) : ¬ qtx q = "is" := by cases q <;> decide +kernel
end L2
namespace L2
open PySem PySem.Spec PyProof.Rows
section
variable {X : Cx} {K : W.Frag} {H : Hp} {Q : VK} {p q : Addr}
def zk4 (K : W.Frag) : V -> List V -> Hp -> VK -> Prop := fun x vs H Q => ∃ (sep : Str) (p : Addr) (ys : List Str), x = .str sep /\ vs = [.ref p] /\ (SqL K H p (ys.map V.str) \/ SqT K H p (ys.map V.str)) /\ (ys.map (·.length)).sum + ys.length * sep.length ≤ 16777216 /\ Q (.str (Txt.join sep ys)) H
theorem ziM {sep : Str} : zk4 K (.str sep) [.ref p] H Q = ∃ ys : List Str, (SqL K H p (ys.map V.str) \/ SqT K H p (ys.map V.str)) /\ (ys.map (·.length)).sum + ys.length * sep.length ≤ 16777216 /\ Q (.str (Txt.join sep ys)) H := by
 refine propext ⟨fun ⟨_, _, ys, e1, e2, h⟩ => ?_, fun ⟨ys, h⟩ => ⟨sep, p, ys, rfl, rfl, h⟩⟩
 cases e1; cases e2; exact ⟨ys, h⟩
end
inductive EqD (K : W.Frag) (H : Hp) : Nat -> V -> V -> Bool -> Prop
 | flat {n : Nat} {x y : V} (hx : zbt x = true) (hy : zbt y = true) : EqD K H n x y (eqV x y)
 | tups {n : Nat} {a b : Addr} {xs ys : List V} (e : Nat -> Bool) (ha : SqT K H a xs) (hb : SqT K H b ys) (he : ∀ (j : Nat) x y, xs[j]? = some x -> ys[j]? = some y -> EqD K H n x y (e j)) :
   EqD K H (n + 1) (.ref a) (.ref b) ((List.range (min xs.length ys.length)).all e && xs.length == ys.length)
 | lsts {n : Nat} {a b : Addr} {xs ys : List V} (e : Nat -> Bool) (ha : SqL K H a xs) (hb : SqL K H b ys) (hl : xs.length = ys.length) (he : ∀ (j : Nat) x y, xs[j]? = some x -> ys[j]? = some y -> EqD K H n x y (e j)) :
   EqD K H (n + 1) (.ref a) (.ref b) ((List.range xs.length).all e)
 | lstsN {n : Nat} {a b : Addr} {xs ys : List V} (ha : SqL K H a xs) (hb : SqL K H b ys) (hl : xs.length ≠ ys.length) : EqD K H (n + 1) (.ref a) (.ref b) false
 | strTup {n : Nat} {a : Addr} {x : Str} {xs : List V} (ha : SqT K H a xs) : EqD K H (n + 1) (.str x) (.ref a) false
 | tupStr {n : Nat} {a : Addr} {x : Str} {xs : List V} (ha : SqT K H a xs) : EqD K H (n + 1) (.ref a) (.str x) false
 | nonTup {n : Nat} {a : Addr} {xs : List V} (ha : SqT K H a xs) : EqD K H (n + 1) .non (.ref a) false
 | tupNon {n : Nat} {a : Addr} {xs : List V} (ha : SqT K H a xs) : EqD K H (n + 1) (.ref a) .non false
section
variable {X : Cx} {pins : List (Addr × Obj)} {σ : St} {H : Hp} {s : Shared}
theorem zh0 {x : V} (h : zbt x = true) : eqV x x = true := by
 cases x <;> simp_all [zbt, eqV]
theorem EqD.self (I : Inv X pins σ H s) {n : Nat} {x y : V} {b : Bool} (h : EqD X.K H n x y b) : x = y -> b = true := by
 induction h with
 | flat hx hy => rintro rfl; exact zh0 hx
 | @tups n a b xs ys e ha hb he ih =>
  intro q
  cases q
  have := I.tuple_inj ha hb
  subst this
  rw [Bool.and_eq_true]
  refine ⟨List.all_eq_true.mpr fun j hj => ?_, by simp⟩
  have hj' : j < xs.length := by simpa using hj
  exact ih j xs[j] xs[j] (by simp [hj']) (by simp [hj']) rfl
 | @lsts n a b xs ys e ha hb hl he ih =>
  intro q
  cases q
  have := I.list_inj ha hb
  subst this
  refine List.all_eq_true.mpr fun j hj => ?_
  have hj' : j < xs.length := by simpa using hj
  exact ih j xs[j] xs[j] (by simp [hj']) (by simp [hj']) rfl
 | lstsN ha hb hl =>
  intro q
  cases q
  exact absurd (congrArg List.length (I.list_inj ha hb)) hl
 | strTup => intro q; cases q
 | tupStr => intro q; cases q
 | nonTup => intro q; cases q
 | tupNon => intro q; cases q
theorem getD_some {xs : List V} {its : List Value} (r : Vals xs its) {j : Nat} (h : j < its.toArray.size) : ∃ x, xs[j]? = some x /\ RelV x its.toArray[j] := by
 have h' : j < its.length := by simpa using h
 have hx : j < xs.length := by rw [r.length]; exact h'
 obtain ⟨u, e, ru⟩ := r.get (i := j) (x := xs[j]) (by simp [hx])
 have : its[j]? = some its[j] := by simp [h']
 rw [this] at e
 cases e
 exact ⟨xs[j], by simp [hx], by simpa using ru⟩
theorem EqD.at (I : Inv X pins σ H s) {n : Nat} {x y : V} {b : Bool} (h : EqD X.K H n x y b) : ∀ {A : Around} {u v : Value}, A.units + n < cLine -> RelV x u -> RelV y v ->
  SeqAt.EqAt A s u v b /\ ((zbt x = false \/ zbt y = false) -> SeqAt.RcAt A s u v b) := by
 induction h with
 | flat hx hy =>
  intro A u v _ ru rv
  exact ⟨zie ru rv hx hy, fun e => by rw [hx, hy] at e; simp at e⟩
 | @tups n a b xs ys e ha hb he ih =>
  intro A u v hu ru rv
  cases ru; cases rv
  obtain ⟨its, r1, p1, _⟩ := I.tuple ha
  obtain ⟨its2, r2, p2, _⟩ := I.tuple hb
  have l1 : its.toArray.size = xs.length := by rw [List.size_toArray]; exact r1.length.symm
  have l2 : its2.toArray.size = ys.length := by rw [List.size_toArray]; exact r2.length.symm
  have rc : SeqAt.RcAt A s (.ref a) (.ref b) ((List.range (min xs.length ys.length)).all e && xs.length == ys.length) := by
   have := SeqAt.RcAt.tuples (A := A) (e := e) p1 p2 (by omega) (fun j h1 h2 => by
    obtain ⟨x, ex, rx⟩ := getD_some r1 h1
    obtain ⟨y, ey, ry⟩ := getD_some r2 h2
    exact (ih j x y ex ey (A := A.in1) (by show A.units + 1 + n < cLine; omega) rx ry).1)
   rw [l1, l2] at this
   exact this
  refine ⟨?_, fun _ => rc⟩
  by_cases hab : a = b
  ·subst hab
   have := EqD.self I (.tups e ha hb he) rfl
   rw [this]
   exact SeqAt.EqAt.same _
  ·exact SeqAt.EqAt.of_refs hab rc
 | @lsts n a b xs ys e ha hb hl he ih =>
  intro A u v hu ru rv
  cases ru; cases rv
  obtain ⟨its, r1, p1, _⟩ := I.list ha
  obtain ⟨its2, r2, p2, _⟩ := I.list hb
  have l1 : its.toArray.size = xs.length := by rw [List.size_toArray]; exact r1.length.symm
  have l2 : its2.toArray.size = ys.length := by rw [List.size_toArray]; exact r2.length.symm
  have rc : SeqAt.RcAt A s (.ref a) (.ref b) ((List.range xs.length).all e) := by
   have := SeqAt.RcAt.lists (A := A) (e := e) p1.isList p2.isList (by omega) (by omega) (fun j h1 h2 => by
    obtain ⟨x, ex, rx⟩ := getD_some r1 h1
    obtain ⟨y, ey, ry⟩ := getD_some r2 h2
    exact (ih j x y ex ey (A := A.in1) (by show A.units + 1 + n < cLine; omega) rx ry).1)
   rw [l1] at this
   exact this
  refine ⟨?_, fun _ => rc⟩
  by_cases hab : a = b
  ·subst hab
   have := EqD.self I (.lsts e ha hb hl he) rfl
   rw [this]
   exact SeqAt.EqAt.same _
  ·exact SeqAt.EqAt.of_refs hab rc
 | @lstsN n a b xs ys ha hb hl =>
  intro A u v hu ru rv
  cases ru; cases rv
  obtain ⟨its, r1, p1, _⟩ := I.list ha
  obtain ⟨its2, r2, p2, _⟩ := I.list hb
  have l1 : its.toArray.size = xs.length := by rw [List.size_toArray]; exact r1.length.symm
  have l2 : its2.toArray.size = ys.length := by rw [List.size_toArray]; exact r2.length.symm
  have rc := SeqAt.RcAt.lists_lengths (A := A) p1.isList p2.isList (by rw [l1, l2]; simpa using hl) (by omega)
  refine ⟨?_, fun _ => rc⟩
  by_cases hab : a = b
  ·subst hab
   exact absurd (congrArg List.length (I.list_inj ha hb)) hl
  ·exact SeqAt.EqAt.of_refs hab rc
 | strTup ha =>
  intro A u v hu ru rv
  cases rv; obtain ⟨t, rfl⟩ := ru
  obtain ⟨its, r1, p1, _⟩ := I.tuple ha
  exact ⟨SeqAt.EqAt.str_tuple _ _ p1 (by omega), fun _ => SeqAt.RcAt.str_tuple _ _ p1 (by omega)⟩
 | tupStr ha =>
  intro A u v hu ru rv
  cases ru; obtain ⟨t, rfl⟩ := rv
  obtain ⟨its, r1, p1, _⟩ := I.tuple ha
  exact ⟨SeqAt.EqAt.tuple_str _ _ p1 (by omega), fun _ => SeqAt.RcAt.tuple_str _ _ p1 (by omega)⟩
 | nonTup ha =>
  intro A u v hu ru rv
  cases rv; cases ru
  obtain ⟨its, r1, p1, _⟩ := I.tuple ha
  exact ⟨SeqAt.EqAt.none_tuple p1 (by omega), fun _ => SeqAt.RcAt.none_tuple p1 (by omega)⟩
 | tupNon ha =>
  intro A u v hu ru rv
  cases ru; cases rv
  obtain ⟨its, r1, p1, _⟩ := I.tuple ha
  exact ⟨SeqAt.EqAt.tuple_none p1 (by omega), fun _ => SeqAt.RcAt.tuple_none p1 (by omega)⟩
end
section
variable {X : Cx} {K : W.Frag} {H : Hp} {Q : VK} {p q : Addr} {i j : Int} {x y : Str}
def rEqD (K : W.Frag) : R2 := fun x y H Q => ∃ d b, d ≤ 60 /\ (zbt x = false \/ zbt y = false) /\ EqD K H d x y b /\ Q (.bl b) H
theorem zk5 (hu : X.A.units + 64 < cLine) : OpR X (compareOp .Eq) (rEqD X.K) := by
 intro pins s σ H x y v u Q I rx ry h
 obtain ⟨d, b, hd, e, h, k⟩ := h
 exact (h.at I (A := X.A) (by omega) rx ry).2 e X.prog X.w X.xe _ ⟨.bl b, H, I, rfl, k⟩
def rEqB (K : W.Frag) : R2 := fun x y H Q => rEq x y H Q \/ rEqD K x y H Q
theorem za9 (K : W.Frag) (hu : X.A.units + 64 < cLine) (hK : X.K = K := by rfl) : OpR X (compareOp .Eq) (rEqB K) := hK ▸ (OpR.or zjP (zk5 hu) : OpR X (compareOp .Eq) (rEqB X.K))
theorem zk6 : rEqB K (.int i) (.int j) H Q = Q (.bl (decide (i = j))) H := by
 refine propext ⟨fun h => ?_, fun h => .inl ⟨rfl, by simpa using h⟩⟩
 rcases h with ⟨_, h⟩ | ⟨_, _, _, e, _⟩
 ·simpa using h
 ·rcases e with e | e <;> cases e
theorem zii : rEqB K (.str x) (.str y) H Q = Q (.bl (decide (x = y))) H := by
 refine propext ⟨fun h => ?_, fun h => .inl ⟨rfl, by simpa using h⟩⟩
 rcases h with ⟨_, h⟩ | ⟨_, _, _, e, _⟩
 ·simpa using h
 ·rcases e with e | e <;> cases e
theorem zk7 {u : V} : rEqB K (.ref p) u H Q = ∃ d b, d ≤ 60 /\ EqD K H d (.ref p) u b /\ Q (.bl b) H := by
 refine propext ⟨fun h => ?_, fun ⟨d, b, hd, h, k⟩ => .inr ⟨d, b, hd, .inl rfl, h, k⟩⟩
 rcases h with ⟨e, _⟩ | ⟨d, b, hd, _, h, k⟩
 ·cases u <;> cases e
 ·exact ⟨d, b, hd, h, k⟩
theorem zk8 {u : V} : rEqB K u (.ref p) H Q = ∃ d b, d ≤ 60 /\ EqD K H d u (.ref p) b /\ Q (.bl b) H := by
 refine propext ⟨fun h => ?_, fun ⟨d, b, hd, h, k⟩ => .inr ⟨d, b, hd, .inr rfl, h, k⟩⟩
 rcases h with ⟨e, _⟩ | ⟨d, b, hd, _, h, k⟩
 ·cases u <;> cases e
 ·exact ⟨d, b, hd, h, k⟩
inductive TyB (K : W.Frag) (H : Hp) : V -> Value -> Prop where
 | of {x : V} {t : Value} (h : TyOf K H x t) : TyB K H x t
 | tup {a : Addr} {xs : List V} (h : SqT K H a xs) : TyB K H (.ref a) (.type "tuple")
 | lst {a : Addr} {xs : List V} (h : SqL K H a xs) : TyB K H (.ref a) (.type "list")
def zcc (K : W.Frag) (T : String) : List V -> Hp -> VK -> Prop := fun vs H Q => ∃ x t b, vs = [x, .ty T] /\ TyB K H x t /\ W.kitOne K t (.type T) = some b /\ Q (.bl b) H
theorem call_instB {T : String} : zbo X (.builtin "isinstance") (zcc X.K T) := by
 intro pins s σ H xs us Q I r h
 obtain ⟨x, t, b, rfl, ty, e, q⟩ := h
 cases ty with
 | of ty => exact zgn pins s σ H _ us Q I r ⟨x, t, b, rfl, ty, e, q⟩
 | tup hq =>
  obtain ⟨u, u2, rfl, rx, r2⟩ := zi2 r
  cases (show u2 = Value.type T from r2)
  cases rx
  obtain ⟨its, _, ⟨o, h1, h2, _⟩, _⟩ := I.tuple hq
  exact W.kia_one W.kitx_tuple I.kIn ⟨o, h1, h2⟩ e (fun z => nomatch z) fun tk => ⟨.bl b, H, I.tok tk, rfl, q⟩
 | lst hq =>
  obtain ⟨u, u2, rfl, rx, r2⟩ := zi2 r
  cases (show u2 = Value.type T from r2)
  cases rx
  obtain ⟨its, _, pl, _⟩ := I.list hq
  obtain ⟨o, h1, h2, _⟩ := pl.isList
  exact W.kia_one W.kitx_list I.kIn ⟨o, h1, h2⟩ e (fun z => nomatch z) fun tk => ⟨.bl b, H, I.tok tk, rfl, q⟩
theorem zbz (K : W.Frag) (T : String) (hK : X.K = K := by rfl) : zbo X (.builtin "isinstance") (zcc K T) := hK ▸ (call_instB : zbo X (.builtin "isinstance") (zcc X.K T))
theorem zfw {T : String} : zcc K T [.int i, .ty T] H Q = ∃ b, W.kitOne K (.type "int") (.type T) = some b /\ Q (.bl b) H := by
 refine propext ⟨fun ⟨_, _, b, e, t, h⟩ => ?_, fun ⟨b, h⟩ => ⟨_, _, b, rfl, .of (.int i), h⟩⟩
 cases e
 rcases t with t | t | t
 cases t; exact ⟨b, h⟩
theorem zfx {T : String} : zcc K T [.str x, .ty T] H Q = ∃ b, W.kitOne K (.type "str") (.type T) = some b /\ Q (.bl b) H := by
 refine propext ⟨fun ⟨_, _, b, e, t, h⟩ => ?_, fun ⟨b, h⟩ => ⟨_, _, b, rfl, .of (.str x), h⟩⟩
 cases e
 rcases t with t | t | t
 cases t; exact ⟨b, h⟩
theorem zh1 {T : String} : zcc K T [.ref p, .ty T] H Q = ∃ t b, TyB K H (.ref p) t /\ W.kitOne K t (.type T) = some b /\ Q (.bl b) H := by
 refine propext ⟨fun ⟨_, t, b, e, ty, h⟩ => ?_, fun ⟨t, b, ty, h⟩ => ⟨_, t, b, rfl, ty, h⟩⟩
 cases e; exact ⟨t, b, ty, h⟩
end
def Stm.txt : Stm -> Str
 | .is w ts => if ts.length = 0 then w else w ++ "(" ++ Txt.join ", " ts ++ ")"
 | .fls => "false"
 | .neg A => "not " ++ A.txt
 | .bi o A B => "(" ++ A.txt ++ " " ++ o.txt ++ " " ++ B.txt ++ ")"
 | .qu q X A => qtx q ++ " " ++ X ++ " " ++ A.txt
def Stm.put (x n : Str) : Stm -> Stm
 | .is w ts => .is w (ts.map fun t => if t = x then n else t)
 | .fls => .fls
 | .neg A => .neg (A.put x n)
 | .bi o A B => .bi o (A.put x n) (B.put x n)
 | .qu q X A => if X = x then .qu q X A else .qu q X (A.put x n)
def zk9 (K : W.Frag) (d : Nat) : Sp := fun vs H Q _ => ∃ v S x n, vs = [v, .str x, .str n] /\ RepS K H S v /\ S.deep ≤ d /\ S.Ok /\ ∀ u H', Same H H' -> RepS K H' (S.put x n) u -> Q u H'
theorem Stm.put_deep (x n : Str) : ∀ S : Stm, (S.put x n).deep = S.deep
 | .is w ts => rfl
 | .fls => rfl
 | .neg A => by simp only [Stm.put, Stm.deep, Stm.put_deep x n A]
 | .bi o A B => by simp only [Stm.put, Stm.deep, Stm.put_deep x n A, Stm.put_deep x n B]
 | .qu q X A => by
  simp only [Stm.put]
  split
  ·rfl
  ·simp only [Stm.deep, Stm.put_deep x n A]
end L2
namespace L2
open PySem PySem.Spec PyProof.Rows
section
variable {t : SetTable} {es : Array (Int × Value)} {h : Int} {x : Value} {n : Nat}
theorem zdy : (t.orStandIn n).led = t.led := by unfold SetTable.orStandIn; split <;> rfl
theorem zcG (p : t.plain = false) : (t.orStandIn n).plain = false := by unfold SetTable.orStandIn; split; exact p; rfl
theorem zfy : (layNew t es h x).2.1.led = t.led := by
 unfold layNew
 split
 ·exact zdy
 ·rfl
theorem zdX (p : t.plain = false) : (layNew t es h x).2.1.plain = false := by
 unfold layNew
 split
 ·exact zcG p
 ·rfl
theorem zcu {hs : Array Int} {wanted : Nat} {t' : SetTable} {order : Array Nat} (e : t.relaid hs wanted = some (t', order)) : t'.led = t.led /\ t'.plain = t.plain := by
 unfold SetTable.relaid SetTable.laid at e
 cases q : SetTable.layClean (SetTable.sizeAbove wanted - 1) hs with
 | none => rw [q] at e; cases e
 | some owner => rw [q] at e; cases e; exact ⟨rfl, rfl⟩
theorem zdY {wanted : Nat} : (relayAll t es wanted).2.1.led = t.led := by
 unfold relayAll
 split
 ·rename_i t' order e
  dsimp only
  split
  ·exact (zcu e).1
  ·rfl
 ·rfl
theorem zcT {wanted : Nat} (p : t.plain = false) : (relayAll t es wanted).2.1.plain = false := by
 unfold relayAll
 split
 ·rename_i t' order e
  dsimp only
  split
  ·exact (zcu e).2.trans p
  ·rfl
 ·rfl
end
def svT : Value -> Str
 | .str x _ => x
 | _ => ""
def zbu (es : Array (Int × Value)) : List Str := es.toList.map fun e => svT e.2
def zcv (w : World) : Bool := w.params.followText "set-order"
def SetS (prog : Program) (w : World) (h : Heap) (a : Addr) (us : List Str) : Prop :=
 ∃ o es ep tb, h.get? a = some o /\ o.ExactSet /\ o.data = .set es ep tb /\ ElemsOf (PySem.strKind prog w) es.toList /\ zbu es = us /\ us.Nodup /\ es.size < scanBound /\ tb.fits es.size = true /\ tb.led = !zcv w /\ (us ≠ [] -> tb.plain = false)
theorem zij {prog : Program} {w : World} {x : Str} {v : Value} (e : (PySem.strKind prog w).is x v = true) : svT v = x := by
 obtain ⟨t, rfl⟩ := Value.isStrOf_shape e
 rfl
theorem zik {prog : Program} {w : World} (x : Str) (t : Tok) : (PySem.strKind prog w).is x (.str x t) = true := zfD x t
theorem SetS.at {prog : Program} {w : World} {h h' : Heap} {a : Addr} {us : List Str} (s : SetS prog w h a us) (k : ∀ o, h.get? a = some o -> h'.get? a = some o) : SetS prog w h' a us := by
 obtain ⟨o, es, ep, tb, ho, r⟩ := s
 exact ⟨o, es, ep, tb, k o ho, r⟩
theorem zcd {prog : Program} {w : World} {x : Str} : ∀ {l : List (Int × Value)}, ElemsOf (PySem.strKind prog w) l -> ((∃ e ∈ l, (PySem.strKind prog w).is x e.2 = true) ↔ x ∈ l.map fun e => svT e.2) := by
 intro l hl
 constructor
 ·rintro ⟨e, he, q⟩
  rw [List.mem_map]
  exact ⟨e, he, zij q⟩
 ·intro hx
  obtain ⟨e, he, q⟩ := List.mem_map.mp hx
  obtain ⟨⟨k, hk, _⟩, _⟩ := hl e he
  have := zij hk
  rw [q] at this
  subst this
  exact ⟨e, he, hk⟩
section
variable {prog : Program} {w : World} {A : Around} {E : Value -> Shared -> Prop} {s : Shared}
theorem SetS.stored {hp : Heap} {a : Addr} {o : Obj} {es es1 : Array (Int × Value)} {ep : Nat} {t t1 : SetTable} (ho : hp.get? a = some o) (hx : o.ExactSet) (hd : o.data = .set es ep t)
  (hel : ElemsOf (PySem.strKind prog w) es1.toList) (nd : (zbu es1).Nodup) (hb : es1.size < scanBound) (hf : t1.fits es1.size = true) (hl : t1.led = !zcv w) (hp1 : t1.plain = false) :
  SetS prog w (hp.update a (Obj.putSet es1 t1)) a (zbu es1) /\ (hp.update a (Obj.putSet es1 t1)).get? a = some { o with data := .set es1 (ep + 1) t1 } := by
 have g := (SetOf_store (knd := PySem.strKind prog w) (S' := fun k => decide (∃ e ∈ es1.toList, (PySem.strKind prog w).is k e.2 = true)) ho hx hd hel (fun k => by rw [decide_eq_true_eq]) hb hf).1
 exact ⟨⟨_, es1, ep + 1, t1, g, hx, rfl, hel, rfl, nd, hb, hf, hl, fun _ => hp1⟩, g⟩
theorem zfz {es es1 : Array (Int × Value)} (p : List.Perm es1.toList es.toList) : List.Perm (zbu es1) (zbu es) := p.map _
theorem ze0 {a : Addr} {us : List Str} {x : Str} {tk : Tok} {Q : Bool -> Shared -> Prop} (hS : SetS prog w s.heap a us) (hroom : us.length + 1 < scanBound)
  (yes : x ∈ us -> Q false s) (no : x ∉ us -> ∀ hp us', Heap.SameBut a s.heap hp -> List.Perm us' (us ++ [x]) -> SetS prog w hp a us' -> Q true { s with heap := hp }) :
  wpAny (model prog w) A (setAddHashed a (.str x tk) ((PySem.strKind prog w).hash x)) Q E s := by
 obtain ⟨o, es, ep, tb, ho, hex, hd, hel, hus, nd, hb, hf, hl, hpl⟩ := hS
 have hkey : (PySem.strKind prog w).is x (.str x tk) = true := zik x tk
 have hsc : (Value.str x tk).scannable = true := rfl
 have hlen : us.length = es.size := by rw [<- hus]; simp [zbu]
 unfold setAddHashed setAddHashedIn
 refine wpAny_holding (wpAny_bind (wpAny_setState_of ho hd hf ?_))
 dsimp only
 rw [byScan_of hsc hb hel, if_pos rfl]
 unfold setAddByScan
 refine wpAny_bind (wpAny_bind (wpAny_rule (wpAny_bind (wpAny_setScan_of hkey ho hd hf hel ?_))))
 cases hr : List.findIdx? (fun e => (PySem.strKind prog w).is x e.2) es.toList with
 | some j =>
  dsimp only
  obtain ⟨hj, q, _⟩ := List.findIdx?_eq_some_iff_getElem.mp hr
  have hm : x ∈ us := by rw [<- hus]; exact (zcd hel).mp ⟨_, List.getElem_mem hj, q⟩
  exact wpAny_pure (wpAny_pure (yes hm))
 | none =>
  dsimp only
  have hm : x ∉ us := fun hm => by
   rw [<- hus] at hm
   obtain ⟨e, he, q⟩ := (zcd hel).mpr hm
   have z := List.findIdx?_eq_none_iff.mp hr e he
   rw [q] at z
   cases z
  have gw : ∀ (b : Bool) {s₁ : Shared} {Q' : Unit -> Shared -> Prop}, Q' () s₁ -> wpAny (model prog w) A (match b with | true => rule "set.scan.the-table-gave-way" | false => pure ()) Q' E s₁ := fun b s₁ Q' hq => by
   cases b
   ·exact wpAny_pure hq
   ·exact wpAny_rule hq
  have p1 := layNew_perm tb es ((PySem.strKind prog w).hash x) (.str x tk)
  have f1 := layNew_fits tb es ((PySem.strKind prog w).hash x) (.str x tk)
  have l1' := zfy (t := tb) (es := es) (h := (PySem.strKind prog w).hash x) (x := .str x tk)
  have g1 := zdX (t := tb) (es := es) (h := (PySem.strKind prog w).hash x) (x := .str x tk)
  generalize layNew tb es ((PySem.strKind prog w).hash x) (.str x tk) = L at p1 f1 l1' g1 ⊢
  obtain ⟨es1, t1, wd, gave⟩ := L
  dsimp only at p1 f1 l1' g1 ⊢
  rw [Array.toList_push] at p1
  have el1 : ElemsOf (PySem.strKind prog w) es1.toList := (hel.push hkey hsc).perm p1
  have pu : List.Perm (zbu es1) (us ++ [x]) := by
   have := p1.map fun e => svT e.2
   rw [List.map_append, List.map_singleton] at this
   rw [<- hus]
   exact this
  have nd1 : (zbu es1).Nodup := pu.nodup_iff.mpr (List.nodup_append.mpr ⟨nd, by simp, fun y hy z hz => by
   rw [List.mem_singleton] at hz
   subst hz
   exact fun e => hm (e ▸ hy)⟩)
  have sz1 : es1.size = es.size + 1 := by rw [<- Array.length_toList, p1.length_eq, List.length_append, Array.length_toList]; rfl
  have b1 : es1.size < scanBound := by omega
  refine wpAny_bind (gw _ ?_)
  have go : ∀ t2 : SetTable, t2.fits es1.size = true -> t2.led = !zcv w -> t2.plain = false -> wpAny (model prog w) A (do
    storeSet a es1 t2
    if (!wd && t2.tooFull) = true then do
      (match (relayAll t2 es1 (SetTable.grown es1.size)).2.2 with | true => rule "set.scan.the-table-gave-way" | false => pure ())
      storeSet a (relayAll t2 es1 (SetTable.grown es1.size)).1 (relayAll t2 es1 (SetTable.grown es1.size)).2.1
      pure (some true)
     else pure (some true)) (fun r s' => r = some true /\ Q true s') E s := fun t2 f2 l2' g2 => by
   refine wpAny_bind (wpAny_storeSet_of ho hd ?_ (fits_of_scanBound b1))
   obtain ⟨S1, o1⟩ := SetS.stored (prog := prog) (w := w) ho hex hd el1 nd1 b1 f2 l2' g2
   have sb1 := Heap.SameBut.update s.heap a (Obj.putSet es1 t2)
   split
   ·have p3 := relayAll_perm t2 es1 (SetTable.grown es1.size)
    have f3 := relayAll_fits t2 es1 (SetTable.grown es1.size)
    have l3 := zdY (t := t2) (es := es1) (wanted := SetTable.grown es1.size)
    have g3 := zcT (t := t2) (es := es1) (wanted := SetTable.grown es1.size) g2
    generalize relayAll t2 es1 (SetTable.grown es1.size) = R3 at p3 f3 l3 g3 ⊢
    obtain ⟨es2, t3, gave2⟩ := R3
    dsimp only at p3 f3 l3 g3 ⊢
    have sz2 : es2.size = es1.size := by rw [<- Array.length_toList, p3.length_eq, Array.length_toList]
    have p4 := zfz p3
    refine wpAny_bind (gw _ (wpAny_bind (wpAny_storeSet_of o1 rfl ?_ (fits_of_scanBound (by omega)))))
    obtain ⟨S2, _⟩ := SetS.stored (prog := prog) (w := w) o1 hex rfl (el1.perm p3) (p4.nodup_iff.mpr nd1) (by omega) f3 (l3.trans l2') g3
    exact wpAny_pure ⟨rfl, no hm _ _ (sb1.trans (Heap.SameBut.update _ a _)) (p4.trans pu) S2⟩
   ·exact wpAny_pure ⟨rfl, no hm _ _ sb1 pu S1⟩
  split
  ·refine wpAny_bind ?_
   rw [hashByValue_scannable 8 hsc]
   refine wpAny_pure (wpAny_mono (go _ (SetTable.fits_plain_off f1) (l1'.trans hl) rfl) (fun r s' h => ?_) fun _ _ h => h)
   obtain ⟨rfl, h⟩ := h
   exact wpAny_pure h
  ·rename_i hq
   refine wpAny_bind (wpAny_pure ?_)
   rw [if_pos rfl]
   refine wpAny_mono (go _ f1 (l1'.trans hl) (by simpa using hq)) (fun r s' h => ?_) fun _ _ h => h
   obtain ⟨rfl, h⟩ := h
   exact wpAny_pure h
end
section
variable {prog : Program} {w : World} {A : Around} {E : Value -> Shared -> Prop} {s : Shared}
abbrev zbi (w : World) : Obj := { cls := .type "set", dict := none, data := .set #[] 0 (.fresh 0 0 (!zcv w)) }
theorem ze1 {hp : Heap} {a : Addr} (e : hp.get? a = some (zbi w)) : SetS prog w hp a [] :=
 ⟨_, #[], 0, _, e, ⟨rfl, rfl, rfl⟩, rfl, fun x hx => by simp at hx, rfl, List.nodup_nil, by decide, by rfl, rfl, fun z => absurd rfl z⟩
theorem ze2 (x : Value) {Q : Value -> Shared -> Prop} (h : Q (.ref s.heap.objs.size) { s with heap := s.heap.push (zbi w) }) :
  codeAny (model prog w) A (.call (.builtin "set.__new__") ⟨[.type "set", x], []⟩) (wants Q E) s := by
 apply codeAny_of_tree
 show wpAny _ A.in1 (checkBuiltinCall "set.__new__" ⟨[.type "set", x], []⟩ >>= fun _ => again (.builtin "set.__new__" ⟨[.type "set", x], []⟩)) _ _ s
 apply wpAny_bind
 apply wpAny_of_eq (PySem.F.newCall_set_1 x)
 refine wpAny_pure ⟨plainId_quiet PySem.F.plain_set_new _, codeAny_builtin PySem.F.entry_set_new ?_⟩
 rw [show A.under (.builtin "set.__new__" ⟨[.type "set", x], []⟩) = A.in1 from Around.under_plainId PySem.F.plain_set_new _]
 unfold Builtin.«set.__new__»; unfold Builtin.Frozenset.newClass
 have sub := PySem.F.called_set.sub
 obtain ⟨hp, g, d, tk, os⟩ := s
 dsimp only; wp_walk
 apply wpAny_askSetting; apply wpAny_pure
 dsimp only; simp only [newObj]
 exact wpAny_bind (wpAny_alloc (wpAny_pure (wpAny_pure h)))
end
section
variable {prog : Program} {w : World} {A : Around} {R : Result -> Shared -> Prop} {I : Addr} {fp wr : List Addr} {G : Array GenState -> Array GenState -> Prop} {n : Nat} {P : Nat -> Value -> Prop} {St : Nat -> Shared -> Prop}
theorem zh2 (W : WalksS prog w A.in1 I fp wr G n P St) {S : Addr} (hSf : S ∉ fp) (val : Nat -> Str) (hval : ∀ i v, P i v -> ∃ t, v = .str (val i) t) (hb : n + 1 < scanBound) :
  ∀ (k i : Nat) (s : Shared) (us : List Str), n - i = k -> i ≤ n -> St i s -> SetS prog w s.heap S us -> us.length ≤ i -> (∀ x, x ∈ us ↔ ∃ j, j < i /\ val j = x) ->
   (∀ s' us', Moved (S :: wr) G s s' -> SetS prog w s'.heap S us' -> us'.length ≤ n -> (∀ x, x ∈ us' ↔ ∃ j, j < n /\ val j = x) -> R (.ok (.ret .none)) s') ->
   codeAny (model prog w) A (.builtin "set.update.loop" ⟨[.ref S, .ref I], []⟩) R s := by
 have hSw : S ∉ wr := fun q => hSf (W.sub _ q)
 have sub : ∀ b ∈ wr, b ∈ S :: wr := fun b q => List.mem_cons_of_mem _ q
 intro k
 induction k with
 | zero =>
  intro i s us hk hi st hS hlen hmem hR
  obtain rfl : i = n := by omega
  apply codeAny_builtin PyProof.Rows.F.entry_set_update_loop
  rw [Around.under_plainId PyProof.Rows.F.plain_set_update_loop _]
  show wpAny _ A.in1 (pyNext (.ref I) >>= _) _ _ s
  apply wpAny_bind
  refine W.done s _ _ st fun s' hm => ?_
  show wpAny _ A.in1 (ret Value.none) _ _ s'
  exact wpAny_pure (hR s' us (hm.mono sub) (hS.at fun o ho => hm.heap S o hSw ho) hlen hmem)
 | succ k ih =>
  intro i s us hk hi st hS hlen hmem hR
  have hlt : i < n := by omega
  apply codeAny_builtin PyProof.Rows.F.entry_set_update_loop
  rw [Around.under_plainId PyProof.Rows.F.plain_set_update_loop _]
  show wpAny _ A.in1 (pyNext (.ref I) >>= _) _ _ s
  apply wpAny_bind
  refine W.item i s _ _ hlt st fun v s' hP st' hm => ?_
  obtain ⟨t, rfl⟩ := hval i v hP
  have hS' : SetS prog w s'.heap S us := hS.at fun o ho => hm.heap S o hSw ho
  show wpAny _ A.in1 (holding [Value.str (val i) t] (setAdd S (.str (val i) t)) >>= _) _ _ s'
  apply wpAny_bind; apply wpAny_holding
  unfold setAdd
  apply wpAny_holding; apply wpAny_bind
  refine (PySem.strKind prog w).pyHash (k := val i) (zik _ _) ?_
  have step : ∀ (hp : Heap) (us' : List Str), Heap.SameBut S s'.heap hp -> SetS prog w hp S us' -> us'.length ≤ i + 1 -> (∀ x, x ∈ us' ↔ ∃ j, j < i + 1 /\ val j = x) ->
    wpAny (model prog w) A.in1 (again (.builtin "set.update.loop" ⟨[.ref S, .ref I], []⟩)) (fun fin s₂ => match fin with | .done f => R (.ok f) s₂ | .again c => c.quiet = true /\ codeAny (model prog w) A c R s₂) (fun e s₂ => R (.error e) s₂) { s' with heap := hp, toks := s'.toks + 1 } := fun hp us' sb S2 l2 m2 => by
   refine wpAny_pure ⟨plainId_quiet PyProof.Rows.F.plain_set_update_loop _, ih (i + 1) _ us' (by omega) hlt (W.frame _ s' _ _ st' (Nat.le_succ _) fun b q o e => ?_) S2 l2 m2 fun s'' us2 hm2 S3 l3 m3 => ?_⟩
   ·exact (sb.2 b fun z : b = S => hSf (z ▸ q)).trans e
   ·exact hR s'' us2 (Moved.trans W.gtrans ((hm.mono sub).then_heap (Nat.le_succ _) fun b o q e => (sb.2 b fun z : b = S => q (z ▸ List.mem_cons_self)).trans e) hm2) S3 l3 m3
  refine ze0 (s := { s' with toks := s'.toks + 1 }) hS' (by omega) (fun hx => ?_) fun hx hp us' sb pu S2 => ?_
  ·exact step s'.heap us (Heap.SameBut.refl S s'.heap) hS' (by omega) fun x => by
    rw [hmem]
    constructor
    ·rintro ⟨j, hj, e⟩; exact ⟨j, by omega, e⟩
    ·rintro ⟨j, hj, e⟩
     by_cases q : j = i
     ·subst q; exact (hmem x).mp (e ▸ hx)
     ·exact ⟨j, by omega, e⟩
  ·refine step hp us' sb S2 (by rw [pu.length_eq, List.length_append]; simp; omega) fun x => ?_
   rw [pu.mem_iff, List.mem_append, hmem, List.mem_singleton]
   constructor
   ·rintro (⟨j, hj, e⟩ | rfl)
    ·exact ⟨j, by omega, e⟩
    ·exact ⟨i, by omega, rfl⟩
   ·rintro ⟨j, hj, e⟩
    by_cases q : j = i
    ·subst q; exact .inr e.symm
    ·exact .inl ⟨j, by omega, e⟩
end
section
variable {prog : Program} {w : World} {A : Around} {E : Value -> Shared -> Prop} {s : Shared}
theorem zg0 : ∀ {vs : List Value} {ts : List Str}, StrsAre vs ts -> ∀ (i : Nat) (v : Value), vs[i]? = some v -> ∃ t, v = .str (ts.getD i "") t
 | _, _, .nil, i, v, h => by simp at h
 | _, _, .cons x t r, 0, v, h => by simp at h; exact ⟨t, h ▸ rfl⟩
 | _, _, .cons x t r, i + 1, v, h => by
  obtain ⟨t', e⟩ := zg0 r i v (by simpa using h)
  exact ⟨t', by rw [e]; rfl⟩
def zg1 (prog : Program) (w : World) (s : Shared) (ts : List Str) (s' : Shared) : Prop :=
 ∃ hp tk us, s' = { s with heap := hp, toks := tk } /\ SetS prog w hp s.heap.objs.size us /\ us.length ≤ ts.length /\ (∀ x, x ∈ us ↔ x ∈ ts) /\ ∀ b o, b < s.heap.objs.size -> s.heap.get? b = some o -> hp.get? b = some o
theorem zh3 {ts : List Str} {x : Str} : (∃ j, j < ts.length /\ ts.getD j "" = x) ↔ x ∈ ts := by
 constructor
 ·rintro ⟨j, hj, e⟩
  rw [<- e, List.getD_eq_getElem?_getD, List.getElem?_eq_getElem hj]
  exact List.getElem_mem hj
 ·intro hx
  obtain ⟨j, hj, e⟩ := List.mem_iff_getElem.mp hx
  exact ⟨j, hj, by rw [List.getD_eq_getElem?_getD, List.getElem?_eq_getElem hj]; exact e⟩
set_option maxHeartbeats 8000000 in
theorem zdz {l : Addr} {items : Array Value} {ts : List Str} {Q : Value -> Shared -> Prop} (hh : A.handled = none) (hl : s.heap.IsList l items) (hi : StrsAre items.toList ts) (hb : items.size + 1 < scanBound)
  (h : ∀ s', zg1 prog w s ts s' -> Q (.ref s.heap.objs.size) s') : wpAny (model prog w) A (call (.type "set") [.ref l]) Q E s := by
 have hlen : ts.length = items.size := by have := hi.length; simpa using this.symm
 obtain ⟨c, tl, hmro⟩ := PySem.F.called_set.mro
 have made := PySem.F.called_set.made
 have sub := PySem.F.called_set.sub
 apply wpAny_call; apply codeAny_of_tree
 show wpAny _ _ (callAny (.type "set") _) _ _ _
 apply wpAny_pure; refine ⟨Code.quiet_builtin _ (by decide +kernel), codeAny_builtin PySem.F.entry_type_call ?_⟩
 rw [show A.under (.builtin "type.__call__" ⟨.type "set" :: [.ref l], []⟩) = A.in1 from Around.under_plain (weight_type_call_type "set" [.ref l] []) rfl]
 have q1 := PySem.F.called_set.notType
 have q2 := PySem.F.called_set.canCreate
 have q3 := PySem.F.typeCall_set_1 (.ref l)
 repeat (any_goals (first | assumption | wp_step))
 refine codeAny_mono (ze2 (.ref l) (E := E) (Q := fun obj s₁ => obj = .ref s.heap.objs.size /\ s₁ = { s with heap := s.heap.push (zbi w) }) ⟨rfl, rfl⟩) fun r s₁ hr => ?_
 cases r with
 | error e => exact hr
 | ok fl =>
  cases fl with
  | ret obj =>
   obtain ⟨rfl, rfl⟩ := hr
   have hS : (s.heap.push (zbi w)).get? s.heap.objs.size = some (zbi w) := Heap.get?_push_size _ rfl
   have hT : Shared.TypeIs { s with heap := s.heap.push (zbi w) } (.ref s.heap.objs.size) "set" := ⟨_, hS, rfl⟩
   have li := PySem.F.called_set.init.lookup
   have bi := PySem.F.called_set.init.bind (.ref s.heap.objs.size)
   repeat (any_goals (first | assumption | wp_step))
   refine codeAny_mono (codeAny_call_builtin (R := wants (fun r s₂ => r = .none /\ zg1 prog w s ts s₂) E) PySem.F.called_set.init.plain PySem.F.entry_set_init (check_set_init_1 hT ?_)) fun r₂ s₂ hr₂ => ?_
   ·obtain ⟨⟨oc, od, odt, osl⟩, hol, hcl, nl, hdl⟩ := hl
    simp only at hcl hdl
    subst hcl; subst hdl
    have hol' : (s.heap.push (zbi w)).get? l = some { cls := .type "list", dict := od, data := .seq items nl, slots := osl } := Heap.get?_push_of_some _ hol
    have z1 := PySem.F.sub_list_set
    have z2 := PySem.F.sub_list_frozenset
    have z3 : (Value.type "list" == Value.type "dict") = false := by decide
    have isl : (s.heap.push (zbi w)).IsList l items := ⟨_, hol', rfl, nl, rfl⟩
    unfold Builtin.«set.__init__» noKeywords Builtin.Frozenset.updateFrom
    generalize hPI : pyIter = PI
    wp_walk
    subst hPI
    refine wpAny_pyIter_list isl (wpAny_bind (wpAny_runValue ?_))
    have hlS : l < s.heap.objs.size := Heap.lt_size hol
    have a3 : A.in1.in1.in1.handled = none := by simp [hh]
    have sz : (s.heap.push (zbi w)).objs.size = s.heap.objs.size + 1 := Heap.size_push ..
    have nI : l ≠ (s.heap.push (zbi w)).objs.size := Nat.ne_of_lt (by rw [sz]; exact Nat.lt_succ_of_lt hlS)
    have nf : s.heap.objs.size ∉ [(s.heap.push (zbi w)).objs.size, l] := by
     simp only [List.mem_cons, List.not_mem_nil, or_false, not_or]
     exact ⟨Nat.ne_of_lt (by rw [sz]; exact Nat.lt_succ_self _), Nat.ne_of_gt hlS⟩
    have hv : ∀ (i : Nat) (v : Value), items[i]? = some v -> ∃ t, v = .str ((fun i => ts.getD i "") i) t := fun i v e => zg0 hi i v (by rw [Array.getElem?_toList]; exact e)
    refine zh2 ((Walks.list a3 _ l nI items).toS) nf (fun i => ts.getD i "") hv hb (items.size - 0) 0 _ [] (by omega) (Nat.zero_le _)
     ⟨⟨_, Heap.get?_push_size _ rfl, rfl, rfl⟩, isl.push _⟩ (ze1 (Heap.get?_push_of_some _ hS)) (Nat.zero_le _) (fun x => by simp) fun s' us' hm S' l' m' => ?_
    obtain ⟨hp, g', d', tk', os'⟩ := s'
    obtain rfl : g' = s.gens := hm.gens
    obtain rfl : d' = s.drawn := hm.drawn
    obtain rfl : os' = s.os := hm.os
    show wpAny _ _ _ _ _ _
    apply wpAny_pure
    show wpAny _ _ (ret Value.none) _ _ _
    refine wpAny_pure ⟨rfl, hp, tk', us', rfl, S', by omega, fun x => (m' x).trans ?_, fun b o hb' e => ?_⟩
    ·rw [<- hlen]; exact zh3
    ·refine hm.heap b o ?_ (Heap.get?_push_of_some _ (Heap.get?_push_of_some _ e))
     simp only [List.mem_cons, List.not_mem_nil, or_false, not_or]
     exact ⟨Nat.ne_of_lt hb', Nat.ne_of_lt (by rw [sz]; exact Nat.lt_succ_of_lt hb')⟩
   ·cases r₂ with
    | error e => exact hr₂
    | ok fl₂ =>
     cases fl₂ with
     | ret r =>
      obtain ⟨rfl, hm⟩ := hr₂
      obtain ⟨hp, tk, us, rfl, S', r1, r2, r3⟩ := id hm
      repeat (any_goals (first | assumption | wp_step))
      exact h _ hm
     | _ => exact hr₂.elim
  | _ => exact hr.elim
end
end L2
namespace L2
open PySem PySem.Spec PyProof.Rows
theorem zcU : entryFor table "set.__iter__" = some Builtin.«frozenset.__iter__» := entryFor_alias (id' := "frozenset.__iter__") (by kernel_rfl) rfl (by decide +kernel) (by kernel_rfl)
theorem zd0 : entryFor table "set_iterator.__next__" = some Builtin.«set_iterator.__next__» := by first | exact entryFor_of_tree (by kernel_rfl) | exact entryFor_of_fast (by kernel_rfl)
theorem slot_si_next : Slot "set_iterator" "__next__" "set_iterator.__next__" :=
 .of (owner := "set_iterator") (n := "__next__") (by rw [typeLookup_type, builtinLookup_eq_fast]; kernel_rfl) (by decide +kernel) (by decide +kernel) (by decide +kernel) (by first | exact .inl (by decide +kernel) | exact .inr (by decide +kernel)) (by rw [isSubtype_type]; kernel_rfl)
theorem zdZ (a : Value) : argsOk "set_iterator.__next__" ⟨[a], []⟩ := by unfold argsOk; kernel_rfl
theorem zd1 : entryFor table "set_iterator.__iter__" = some Builtin.«dict_keyiterator.__iter__» := entryFor_alias (id' := "dict_keyiterator.__iter__") (by kernel_rfl) rfl (by decide +kernel) (by kernel_rfl)
theorem zcw : Slot "set_iterator" "__iter__" "set_iterator.__iter__" :=
 .of (owner := "set_iterator") (n := "__iter__") (by rw [typeLookup_type, builtinLookup_eq_fast]; kernel_rfl) (by decide +kernel) (by decide +kernel) (by decide +kernel) (by first | exact .inl (by decide +kernel) | exact .inr (by decide +kernel)) (by rw [isSubtype_type]; kernel_rfl)
theorem zea (a : Value) : argsOk "set_iterator.__iter__" ⟨[a], []⟩ := by unfold argsOk; kernel_rfl
theorem zcV : typeLookup (.type "set") "__len__" = pure (some (.builtin "set.__len__")) := by rw [typeLookup_type, builtinLookup_eq_fast]; kernel_rfl
end L2
namespace L2
open PySem PySem.Spec PyProof.Rows
abbrev zcm (first : Value) (i : Nat) (S : Addr) (n ep : Nat) : Obj := { cls := .type "set_iterator", data := .fields #[first, rawInt i, .ref S, rawInt n, rawInt ep] }
section
variable {prog : Program} {w : World} {A : Around} {E : Value -> Shared -> Prop} {s : Shared}
theorem zg2 {M : Model} {a : Addr} {o : Obj} {vs : Array Value} {Q : Array Value -> Shared -> Prop} (ho : s.heap.get? a = some o) (hd : o.data = .fields vs) (h : Q vs s) : wpAny M A (fieldsOf (.ref a)) Q E s := by
 unfold fieldsOf
 apply wpAny_bind; apply wpAny_load ho
 rw [hd]; exact wpAny_pure h
theorem zcH {α : Type} {Q : α -> Shared -> Prop} {E' : Value -> Shared -> Prop} (hh : A.handled = none)
  (h : ∀ hp, (∀ b o, s.heap.get? b = some o -> hp.get? b = some o) -> ∀ a ob, hp.get? a = some ob -> ob.cls = .type "StopIteration" -> E' (.ref a) { s with heap := hp }) :
  wpAny (model prog w) A (newExc (Value.type "StopIteration") [] >>= fun e => (raiseNew e : Sem α)) Q E' s := by
 apply wpAny_bind
 simp only [newExc, newTuple]
 apply wpAny_bind
 refine wpAny_newObj_type ?_ (by size_fits)
 apply wpAny_bind (m := firstArgMember _ _)
 refine wpAny_of_eq (a := Value.none) (by first | rfl | (simp only [firstArgMember]; rfl)) ?_
 refine wpAny_newObj_type ?_ (by size_fits)
 simp only [raiseNew]
 apply wpAny_bind
 refine wpAny_handled ?_
 rw [hh]
 refine wpAny_bind (wpAny_pure (wpAny_throw (h _ (fun b o e => Heap.get?_push_of_some _ (Heap.get?_push_of_some _ e)) _ _ (Heap.get?_push_size _ rfl) rfl)))
theorem zeV {hp : Heap} {I S : Addr} {first : Value} {i n ep : Nat} (hI : hp.get? I = some (zcm first i S n ep)) (k : Nat) (v : Value) (vs : Array Value)
  (e : (#[first, rawInt i, Value.ref S, rawInt n, rawInt ep] : Array Value).setIfInBounds k v = vs) :
  (hp.update I (Obj.mapFields (·.setIfInBounds k v))).get? I = some { cls := .type "set_iterator", data := .fields vs } := by
 subst e
 exact Heap.get?_update_self _ hI (Obj.isFreed_of_fields (Obj.data_mapFields rfl _))
variable {I S T : Addr} {first : Value} {i n ep slot : Nat} {o : Obj} {es : Array (Int × Value)} {tb : SetTable} {Q : Option Value -> Shared -> Prop}
theorem zd2 (hI : s.heap.get? I = some (zcm first i S n ep)) (ho : s.heap.get? S = some o) (hd : o.data = .set es ep tb) (hf : tb.fits es.size = true) (hn : es.size = n)
  (h : wpAny (model prog w) A.in1 (match first with
    | Value.int slot tok => do
     match <- setNext S slot.toNat i ep with
      | some (x, next) => do
       setField (Value.ref I) 0 (rawInt (next : Nat))
       setField (Value.ref I) 1 (rawInt ((i : Int) + 1))
       ret x
      | none => do
       setField (Value.ref I) 2 Value.none
       raiseNew (<- newExc (Value.type "StopIteration") [])
    | x => do
     match <- seqItems? first with
      | some places =>
       match places[i]? with
       | some (Value.int place tok) => do
        let x <- setNextDrawn S place.toNat ep
        setField (Value.ref I) 1 (rawInt ((i : Int) + 1))
        ret x
       | some val => unsupported "internal:set_iterator"
       | none => do
        setField (Value.ref I) 0 (rawInt 0)
        setField (Value.ref I) 2 Value.none
        raiseNew (<- newExc (Value.type "StopIteration") [])
      | x => unsupported "internal:set_iterator")
   (fun fin s' => ∃ x, fin = .done (.ret x) /\ Q (some x) s') (fun e s' => s'.TypeIs e "StopIteration" /\ Q none s') s) : wpAny (model prog w) A (pyNext (.ref I)) Q E s := by
 have ty : s.TypeIs (.ref I) "set_iterator" := ⟨_, hI, rfl⟩
 unfold pyNext
 apply wpAny_bind; apply wpAny_attempt
 refine wpAny_callSpecial?_slot (name := Str.ofString "__next__") ty slot_si_next (wpAny_call_entry slot_si_next ty zd0 ?_ (zdZ _))
 unfold Builtin.«set_iterator.__next__»
 apply wpAny_bind
 refine wpAny_pure ?_
 dsimp only
 refine wpAny_bind (zg2 hI rfl ?_)
 dsimp only [rawInt]
 refine wpAny_bind (wpAny_setEntries_of ho hd hf ?_)
 rw [hn, if_neg (by simp)]
 refine wpAny_mono h (fun fin s' hq => ?_) fun e s' hq => ?_
 ·obtain ⟨x, rfl, hq⟩ := hq
  exact ⟨x, rfl, wpAny_pure hq⟩
 ·obtain ⟨ty, hq⟩ := hq
  exact wpAny_bind (wpAny_isInstance (T := "StopIteration") (b := true) ty isSubtype_stop (wpAny_pure hq))
theorem zg3 {slot nx : Nat} {x : Value} (hI : s.heap.get? I = some (zcm (rawInt slot) i S n ep)) (ho : s.heap.get? S = some o) (hd : o.data = .set es ep tb) (hf : tb.fits es.size = true) (hn : es.size = n)
  (hx : ∀ (E' : Value -> Shared -> Prop) (Q' : Option (Value × Nat) -> Shared -> Prop), Q' (some (x, nx)) s -> wpAny (model prog w) A.in1 (setNext S slot i ep) Q' E' s)
  (h : ∀ hp, hp.get? I = some (zcm (rawInt nx) (i + 1) S n ep) -> Heap.SameBut I s.heap hp -> Q (some x) { s with heap := hp }) : wpAny (model prog w) A (pyNext (.ref I)) Q E s := by
 refine zd2 hI ho hd hf hn ?_
 show wpAny _ _ (setNext S ((slot : Nat) : Int).toNat i ep >>= _) _ _ s
 rw [Int.toNat_natCast]
 apply wpAny_bind; apply hx
 dsimp only
 have h1 := zeV hI 0 (rawInt (nx : Nat)) #[rawInt nx, rawInt i, .ref S, rawInt n, rawInt ep] rfl
 refine wpAny_bind (wpAny_setField hI rfl (by simp) ?_)
 refine wpAny_bind (wpAny_setField h1 rfl (by simp) (wpAny_pure ⟨x, rfl, ?_⟩))
 exact h _ (zeV h1 1 (rawInt ((i : Int) + 1)) _ rfl) ((Heap.SameBut.update ..).trans (Heap.SameBut.update ..))
theorem zil {slot : Nat} (hh : A.handled = none) (hI : s.heap.get? I = some (zcm (rawInt slot) i S n ep)) (ho : s.heap.get? S = some o) (hd : o.data = .set es ep tb) (hf : tb.fits es.size = true) (hn : es.size = n)
  (hx : ∀ (E' : Value -> Shared -> Prop) (Q' : Option (Value × Nat) -> Shared -> Prop), Q' none s -> wpAny (model prog w) A.in1 (setNext S slot i ep) Q' E' s)
  (h : ∀ hp, (∀ b o, b ≠ I -> s.heap.get? b = some o -> hp.get? b = some o) -> Q none { s with heap := hp }) : wpAny (model prog w) A (pyNext (.ref I)) Q E s := by
 refine zd2 hI ho hd hf hn ?_
 show wpAny _ _ (setNext S ((slot : Nat) : Int).toNat i ep >>= _) _ _ s
 rw [Int.toNat_natCast]
 apply wpAny_bind; apply hx
 dsimp only
 refine wpAny_bind (wpAny_setField hI rfl (by simp) ?_)
 refine zcH hh fun hp hk a ob ha hc => ⟨⟨ob, ha, hc⟩, h hp fun b o hb e => hk b o ?_⟩
 exact (Heap.get?_update_other _ _ (Ne.symm hb)).trans e
theorem ziN {places : Array Value} {c p : Nat} {hsh : Int} {x : Value} (hI : s.heap.get? I = some (zcm (.ref T) i S n ep)) (hT : s.heap.get? T = some { cls := .type "tuple", data := .seq places c })
  (ho : s.heap.get? S = some o) (hd : o.data = .set es ep tb) (hf : tb.fits es.size = true) (hn : es.size = n) (hp : places[i]? = some (rawInt p)) (hx : es[p]? = some (hsh, x))
  (h : ∀ hp, hp.get? I = some (zcm (.ref T) (i + 1) S n ep) -> Heap.SameBut I s.heap hp -> Q (some x) { s with heap := hp }) : wpAny (model prog w) A (pyNext (.ref I)) Q E s := by
 refine zd2 hI ho hd hf hn ?_
 show wpAny _ _ (seqItems? (.ref T) >>= _) _ _ s
 refine wpAny_bind (wpAny_seqItems hT rfl ?_)
 dsimp only
 rw [hp]
 dsimp only [rawInt]
 unfold setNextDrawn
 refine wpAny_bind (wpAny_bind (wpAny_setState_of ho hd hf ?_))
 dsimp only
 rw [if_neg (by simp), Int.toNat_natCast, hx]
 refine wpAny_pure (wpAny_bind (wpAny_setField hI rfl (by simp) (wpAny_pure ⟨x, rfl, ?_⟩)))
 exact h _ (zeV hI 1 (rawInt ((i : Int) + 1)) _ rfl) (Heap.SameBut.update ..)
theorem zkA {places : Array Value} {c : Nat} (hh : A.handled = none) (hI : s.heap.get? I = some (zcm (.ref T) i S n ep)) (hT : s.heap.get? T = some { cls := .type "tuple", data := .seq places c })
  (ho : s.heap.get? S = some o) (hd : o.data = .set es ep tb) (hf : tb.fits es.size = true) (hn : es.size = n) (hp : places[i]? = none)
  (h : ∀ hp, (∀ b o, b ≠ I -> s.heap.get? b = some o -> hp.get? b = some o) -> Q none { s with heap := hp }) : wpAny (model prog w) A (pyNext (.ref I)) Q E s := by
 refine zd2 hI ho hd hf hn ?_
 show wpAny _ _ (seqItems? (.ref T) >>= _) _ _ s
 refine wpAny_bind (wpAny_seqItems hT rfl ?_)
 dsimp only
 rw [hp]
 dsimp only
 have h1 := zeV hI 0 (rawInt (0 : Nat)) #[rawInt (0 : Nat), rawInt i, .ref S, rawInt n, rawInt ep] rfl
 refine wpAny_bind (wpAny_setField hI rfl (by simp) (wpAny_bind (wpAny_setField h1 rfl (by simp) ?_)))
 refine zcH hh fun hp hk a ob ha hc => ⟨⟨ob, ha, hc⟩, h hp fun b o hb e => hk b o ?_⟩
 exact (Heap.get?_update_other _ _ (Ne.symm hb)).trans ((Heap.get?_update_other _ _ (Ne.symm hb)).trans e)
end
end L2
namespace L2
open PySem PySem.Spec PyProof.Rows
theorem zcn {α : Type} {x : α} : ∀ {l : List α} {i : Nat}, l[i]? = some x -> List.Perm (x :: l.eraseIdx i) l
 | [], _, h => by simp at h
 | y :: r, 0, h => by simp at h; subst h; simp
 | y :: r, i + 1, h => by
  have ih := zcn (l := r) (i := i) (by simpa using h)
  rw [List.eraseIdx_cons_succ]
  exact (List.Perm.swap y x _).trans (ih.cons y)
theorem zg4 {α : Type} (f : Nat -> Nat) : ∀ (fuel k : Nat) (left : List α) (out : Array α), left.length ≤ fuel -> List.Perm (pickOrder.go f fuel k left out).toList (out.toList ++ left)
 | 0, k, left, out, h => by
  have : left = [] := List.eq_nil_of_length_eq_zero (by omega)
  subst this
  simp [pickOrder.go]
 | fuel + 1, k, left, out, h => by
  unfold pickOrder.go
  cases e : left[f k % left.length]? with
  | none =>
   have : left = [] := by
    cases left with
    | nil => rfl
    | cons y r =>
     have := List.getElem?_eq_none_iff.mp e
     have := Nat.mod_lt (f k) (show 0 < (y :: r).length by simp)
     omega
   subst this
   simp
  | some x =>
   dsimp only
   have hi := (List.getElem?_eq_some_iff.mp e).1
   have ih := zg4 f fuel (k + 1) (left.eraseIdx (f k % left.length)) (out.push x) (by rw [List.length_eraseIdx_of_lt hi]; omega)
   refine ih.trans ?_
   rw [Array.toList_push, List.append_assoc]
   refine List.Perm.append_left _ ?_
   exact zcn e
theorem zg5 {α : Type} (f : Nat -> Nat) (xs : Array α) : List.Perm (pickOrder f xs).toList xs.toList := by
 have := zg4 f xs.size 0 xs.toList #[] (by simp)
 simpa [pickOrder] using this
section
variable {prog : Program} {w : World} {A : Around} {E : Value -> Shared -> Prop} {s : Shared} {S : Addr} {i n ep slot : Nat} {o : Obj} {es : Array (Int × Value)} {tb : SetTable}
theorem zeb {α : Type} {Q : List α -> Shared -> Prop} : ∀ (k : Nat) (xs : List α) (s : Shared), xs.length = k -> (∀ ys d, List.Perm ys xs -> Q ys { s with drawn := d }) -> wpAny (model prog w) A (drawOrder k xs) Q E s
 | 0, xs, s, h, q => by
  have : xs = [] := List.eq_nil_of_length_eq_zero h
  subst this
  exact wpAny_pure (q [] s.drawn .nil)
 | k + 1, xs, s, h, q => by
  cases xs with
  | nil => simp at h
  | cons y r =>
   unfold drawOrder
   apply wpAny_bind
   refine fun Γ p hΓ => ⟨by simp, ?_⟩
   have hlt : (model prog w).w.draws .order (s.drawn.get .order) % (y :: r).length < (y :: r).length := Nat.mod_lt _ (by simp)
   generalize (model prog w).w.draws .order (s.drawn.get .order) % (y :: r).length = j at hlt
   have e : (y :: r)[j]? = some (y :: r)[j] := by simp [hlt]
   generalize (y :: r)[j] = z at e
   refine (?_ : wpAny (model prog w) A _ _ _ _) Γ p hΓ
   refine wpAny_pure ?_
   rw [e]
   dsimp only
   apply wpAny_bind
   refine zeb k ((y :: r).eraseIdx j) _ (by rw [List.length_eraseIdx_of_lt hlt]; omega) fun ys d hp => wpAny_pure ?_
   exact q (z :: ys) d ((hp.cons z).trans (zcn e))
theorem zec {Q : Option (Value × Nat) -> Shared -> Prop} (hb : zcv w = true) (ho : s.heap.get? S = some o) (hd : o.data = .set es ep tb) (hf : tb.fits es.size = true)
  (h : Q (((pickOrder (w.params.setOrder S ep) es)[i]?).map fun e => (e.2, slot)) s) : wpAny (model prog w) A (setNext S slot i ep) Q E s := by
 unfold setNext
 refine wpAny_bind (wpAny_setState_of ho hd hf ?_)
 dsimp only
 unfold setsByText
 refine wpAny_bind (wpAny_bind (wpAny_askSetting (wpAny_pure ?_)))
 refine wpAny_ite_split (fun _ => ?_) fun z => absurd hb z
 rw [if_neg (by simp)]
 unfold setWalk
 refine wpAny_bind (wpAny_bind (wpAny_setState_of ho hd hf ?_))
 dsimp only
 unfold setsByText
 refine wpAny_bind (wpAny_bind (wpAny_askSetting (wpAny_pure ?_)))
 refine wpAny_ite_split (fun _ => ?_) fun z => absurd hb z
 refine wpAny_bind (wpAny_askSetting (wpAny_pure (wpAny_pure ?_)))
 exact h
theorem zdl {Q : Option (Value × Nat) -> Shared -> Prop} (hb : zcv w = false) (ho : s.heap.get? S = some o) (hd : o.data = .set es ep tb) (hf : tb.fits es.size = true) (hs : es.size ≤ 1) (hl : tb.led = true)
  (h : Q (match es[SetTable.below tb.place slot]?, tb.place[SetTable.below tb.place slot]? with | some (_, x), some j => some (x, j + 1) | _, _ => none) s) : wpAny (model prog w) A (setNext S slot i ep) Q E s := by
 unfold setNext
 refine wpAny_bind (wpAny_setState_of ho hd hf ?_)
 dsimp only
 unfold setsByText
 refine wpAny_bind (wpAny_bind (wpAny_askSetting (wpAny_pure ?_)))
 refine wpAny_ite_split (fun z => absurd (z.symm.trans (show _ = false from hb)) (by decide)) fun _ => ?_
 have hz : (!tb.plain && decide (es.size > 1)) = false := by rw [decide_eq_false (by omega), Bool.and_false]
 show wpAny _ _ (if (!tb.plain && decide (es.size > 1)) = true then _ else _) _ _ s
 rw [hz, if_neg (by decide)]
 show wpAny _ _ ((if (!tb.led && !es.isEmpty) = true then unsupported "set:maker-not-led" else pure ()) >>= _) _ _ s
 rw [hl]
 refine wpAny_bind (wpAny_pure (wpAny_pure ?_))
 exact h
end
section
variable {prog : Program} {w : World} {A : Around} {E : Value -> Shared -> Prop} {s : Shared}
theorem ze3 {I S : Addr} {first : Value} {i n ep : Nat} {Q : Value -> Shared -> Prop} (hI : s.heap.get? I = some (zcm first i S n ep)) (h : Q (.ref I) s) : wpAny (model prog w) A (pyIter (.ref I)) Q E s := by
 have ty : s.TypeIs (.ref I) "set_iterator" := ⟨_, hI, rfl⟩
 refine wpAny_pyIter_slot ty zcw (wpAny_call_entry zcw ty zd1 ?_ (zea _))
 show wpAny _ _ (ret (.ref I)) _ _ s
 exact wpAny_pure ⟨_, rfl, "set_iterator", _, ty, slot_si_next.lookup, h⟩
theorem zg6 {I : Addr} {hp : Heap} (h : ∀ b o, b ≠ I -> s.heap.get? b = some o -> hp.get? b = some o) : Moved [I] Eq s { s with heap := hp } :=
 ⟨fun b o hb e => h b o (fun z => hb (by simp [z])) e, rfl, rfl, rfl, Nat.le_refl _⟩
theorem zd3 {I : Addr} {fp : List Addr} {vs : List Value} {St : Nat -> Heap -> Prop} (hI : I ∈ fp) (frame : ∀ i h h', St i h -> (∀ b ∈ fp, ∀ o, h.get? b = some o -> h'.get? b = some o) -> St i h')
  (item : ∀ i v (s : Shared) (Q : Option Value -> Shared -> Prop) (E : Value -> Shared -> Prop), vs[i]? = some v -> St i s.heap -> (∀ hp, St (i + 1) hp -> (∀ b o, b ≠ I -> s.heap.get? b = some o -> hp.get? b = some o) -> Q (some v) { s with heap := hp }) -> wpAny (model prog w) A (pyNext (.ref I)) Q E s)
  (done : ∀ (s : Shared) (Q : Option Value -> Shared -> Prop) (E : Value -> Shared -> Prop), St vs.length s.heap -> (∀ hp, (∀ b o, b ≠ I -> s.heap.get? b = some o -> hp.get? b = some o) -> Q none { s with heap := hp }) -> wpAny (model prog w) A (pyNext (.ref I)) Q E s)
  (self : ∀ i (s : Shared) (Q : Value -> Shared -> Prop) (E : Value -> Shared -> Prop), St i s.heap -> Q (.ref I) s -> wpAny (model prog w) A (pyIter (.ref I)) Q E s) :
  WalksS prog w A I fp [I] Eq vs.length (fun i v => vs[i]? = some v) (fun i s => St i s.heap) where
 sub := fun b hb => by rw [List.mem_singleton.mp hb]; exact hI
 grefl := fun _ => rfl
 gtrans := fun _ _ _ => Eq.trans
 frame := fun i s h' tk st _ k => frame i _ _ st k
 item := fun i s Q E hi st q => by
  refine item i vs[i] s Q E (by simp [hi]) st fun hp st' k => ?_
  exact q _ _ (by simp [hi]) st' (zg6 k)
 done := fun s Q E st q => done s Q E st fun hp k => q _ (zg6 k)
 self := self
end
end L2
namespace L2
open PySem PySem.Spec PyProof.Rows
structure zkB (prog : Program) (w : World) (s : Shared) (S : Addr) (us : List Str) (I : Addr) (s' : Shared) (vs : List Value) (fp : List Addr) (St : Nat -> Heap -> Prop) : Prop where
 heap : ∀ b o, s.heap.get? b = some o -> s'.heap.get? b = some o
 rest : ∃ d, s' = { s with heap := s'.heap, drawn := d }
 new : s.heap.objs.size ≤ I
 fps : ∀ b ∈ fp, b = S \/ s.heap.objs.size ≤ b
 lt : ∀ b ∈ fp, b < s'.heap.objs.size
 mem : I ∈ fp
 txts : ∃ us', StrsAre vs us' /\ us'.Perm us
 st : St 0 s'.heap
 walk : ∀ A : Around, A.handled = none -> WalksS prog w A I fp [I] Eq vs.length (fun i v => vs[i]? = some v) (fun i s => St i s.heap)
def StT (o : Obj) (S I : Addr) (n ep : Nat) : Nat -> Heap -> Prop := fun i h => h.get? S = some o /\ h.get? I = some (zcm (rawInt (0 : Nat)) i S n ep)
def StP (o : Obj) (S I : Addr) (n ep j : Nat) : Nat -> Heap -> Prop := fun i h => h.get? S = some o /\ h.get? I = some (zcm (rawInt ((if i = 0 then 0 else j + 1 : Nat))) i S n ep)
def StD (o : Obj) (S I T : Addr) (n ep : Nat) (places : Array Value) : Nat -> Heap -> Prop := fun i h => h.get? S = some o /\ h.get? I = some (zcm (.ref T) i S n ep) /\ h.get? T = some { cls := .type "tuple", data := .seq places 0 }
theorem zbv {prog : Program} {w : World} : ∀ {l : List (Int × Value)}, ElemsOf (PySem.strKind prog w) l -> StrsAre (l.map (·.2)) (l.map fun e => svT e.2)
 | [], _ => .nil
 | e :: r, h => by
  obtain ⟨⟨k, hk, _⟩, _⟩ := h.head
  obtain ⟨t, q⟩ := Value.isStrOf_shape hk
  rw [List.map_cons, List.map_cons, q]
  exact .cons _ t (zbv h.tail)
theorem zed (j k : Nat) : SetTable.below #[j] k = if j < k then 1 else 0 := by
 unfold SetTable.below
 show SetTable.below.go _ _ 1 0 1 = _
 unfold SetTable.below.go
 rw [if_pos (by decide)]
 show (if (#[j] : Array Nat).getD 0 k < k then SetTable.below.go _ _ 0 1 1 else SetTable.below.go _ _ 0 0 0) = _
 have e : (#[j] : Array Nat).getD 0 k = j := rfl
 rw [e]
 split <;> rfl
section
variable {prog : Program} {w : World} {A : Around} {E : Value -> Shared -> Prop} {s : Shared}
theorem zaT {h : Heap} {ob : Obj} : ∀ b o, h.get? b = some o -> (h.push ob).get? b = some o := fun b o e => Heap.get?_push_of_some _ e
theorem zh4 {S : Addr} {us : List Str} {Q : Value -> Shared -> Prop} (hS : SetS prog w s.heap S us) (h : ∀ I s' vs fp St, zkB prog w s S us I s' vs fp St -> Q (.ref I) s') : wpAny (model prog w) A (pyIter (.ref S)) Q E s := by
  obtain ⟨o, es, ep, tb, ho, hex, hd, hel, hus, nd, hb, hf, hl, hpl⟩ := hS
  have ty : s.TypeIs (.ref S) "set" := ⟨o, ho, hex.1⟩
  have hlt : S < s.heap.objs.size := Heap.lt_size ho
  refine wpAny_pyIter_slot ty PySem.F.slot_set_iter (wpAny_call_entry PySem.F.slot_set_iter ty zcU ?_ (PySem.F.args_set_iter_1 _))
  unfold Builtin.«frozenset.__iter__»
  apply wpAny_bind
  refine wpAny_pure ?_
  unfold Builtin.Frozenset.sizeOf
  refine wpAny_bind (wpAny_bind (wpAny_setEntries_of ho hd hf (wpAny_pure ?_)))
  unfold setDrawn
  refine wpAny_bind (wpAny_bind (wpAny_setState_of ho hd hf ?_))
  dsimp only
  unfold setsByText
  refine wpAny_bind (wpAny_bind (wpAny_askSetting (wpAny_pure (wpAny_pure ?_))))
  show wpAny _ _ (if (!zcv w && (!tb.plain && decide (es.size > 1))) = true then _ else _) _ _ s
  have lens : us.length = es.size := by rw [<- hus]; simp [zbu]
  have psz : tb.place.size = es.size := by
    have := hf
    simp only [SetTable.fits, Bool.and_eq_true, beq_iff_eq, decide_eq_true_eq] at this
    exact this.1
  have lay : ∀ (hp : Heap) (d : Drawn) (first : Value) (vs : List Value) (fp : List Addr) (St : Nat -> Heap -> Prop), (∀ b o, s.heap.get? b = some o -> hp.get? b = some o) -> zkB prog w s S us hp.objs.size { s with heap := hp.push (zcm first 0 S es.size ep), drawn := d } vs fp St ->
      wpAny (model prog w) A.in1 (do ret (<- newFields "set_iterator" [first, rawInt 0, .ref S, rawInt es.size, rawInt (<- setEpoch S)])) (fun fin s' => ∃ it, fin = .done (.ret it) /\ ∃ T' r, s'.TypeIs it T' /\ typeLookup (.type T') "__next__" = pure (some r) /\ Q it s') E { s with heap := hp, drawn := d } := fun hp d first vs fp St k R => by
    refine wpAny_bind (wpAny_setEpoch_of (k _ _ ho) hd hf ?_)
    unfold newFields
    refine wpAny_bind (wpAny_newObj_type ?_ (by size_fits))
    refine wpAny_pure ⟨_, rfl, "set_iterator", _, ⟨_, Heap.get?_push_size _ rfl, rfl⟩, slot_si_next.lookup, ?_⟩
    exact h _ _ _ _ _ R
  cases hbt : zcv w with
  | true =>
    rw [if_neg (by simp)]
    refine wpAny_bind (wpAny_pure ?_)
    have pp := zg5 (w.params.setOrder S ep) es
    refine lay s.heap s.drawn (rawInt (0 : Nat)) ((pickOrder (w.params.setOrder S ep) es).toList.map (·.2)) [s.heap.objs.size, S] (StT o S s.heap.objs.size es.size ep) (fun _ _ e => e)
      ⟨zaT, ⟨s.drawn, rfl⟩, Nat.le_refl _, fun b hb' => ?_, fun b hb' => ?_, List.mem_cons_self, ⟨_, zbv (hel.perm pp), ?_⟩, ⟨zaT _ _ ho, Heap.get?_push_size _ rfl⟩, fun A' hh => ?_⟩
    · rcases List.mem_cons.mp hb' with rfl | q
      · exact .inr (Nat.le_refl _)
      · exact .inl (List.mem_singleton.mp q)
    · show b < (s.heap.push _).objs.size
      rw [Heap.size_push]
      rcases List.mem_cons.mp hb' with rfl | q
      · exact Nat.lt_succ_self _
      · rw [List.mem_singleton.mp q]; exact Nat.lt_succ_of_lt hlt
    · rw [<- hus]; exact pp.map _
    · refine zd3 (St := StT o S s.heap.objs.size es.size ep) List.mem_cons_self (fun i h h' st k => ⟨k _ (by simp) _ st.1, k _ (by simp) _ st.2⟩) (fun i v s1 Q1 E1 hv st q => ?_) (fun s1 Q1 E1 st q => ?_) fun i s1 Q1 E1 st q => ze3 st.2 q
      · have ne : S ≠ s.heap.objs.size := Nat.ne_of_lt hlt
        rw [List.getElem?_map] at hv
        cases e : (pickOrder (w.params.setOrder S ep) es).toList[i]? with
        | none => rw [e] at hv; cases hv
        | some z =>
          rw [e] at hv
          cases hv
          refine zg3 (nx := 0) st.2 st.1 hd hf rfl (fun E' Q' hq => zec hbt st.1 hd hf ?_) fun hp h1 sb => q hp ⟨(sb.2 S ne).trans st.1, h1⟩ fun b o' hb' e' => (sb.2 b hb').trans e'
          rw [Array.getElem?_toList] at e
          rw [e]
          exact hq
      · refine zil hh st.2 st.1 hd hf rfl (fun E' Q' hq => zec hbt st.1 hd hf ?_) fun hp k => q hp k
        have : (pickOrder (w.params.setOrder S ep) es)[((pickOrder (w.params.setOrder S ep) es).toList.map (·.2)).length]? = none := by simp
        rw [this]
        exact hq
  | false =>
    have led : tb.led = true := by rw [hl, hbt]; rfl
    by_cases h2 : es.size ≤ 1
    · rw [if_neg (by rw [decide_eq_false (show ¬ es.size > 1 by omega)]; simp)]
      refine wpAny_bind (wpAny_pure ?_)
      refine lay s.heap s.drawn (rawInt (0 : Nat)) (es.toList.map (·.2)) [s.heap.objs.size, S] (StP o S s.heap.objs.size es.size ep (tb.place.getD 0 0)) (fun _ _ e => e)
        ⟨zaT, ⟨s.drawn, rfl⟩, Nat.le_refl _, fun b hb' => ?_, fun b hb' => ?_, List.mem_cons_self, ⟨_, zbv hel, ?_⟩, ⟨zaT _ _ ho, Heap.get?_push_size _ rfl⟩, fun A' hh => ?_⟩
      · rcases List.mem_cons.mp hb' with rfl | q
        · exact .inr (Nat.le_refl _)
        · exact .inl (List.mem_singleton.mp q)
      · show b < (s.heap.push _).objs.size
        rw [Heap.size_push]
        rcases List.mem_cons.mp hb' with rfl | q
        · exact Nat.lt_succ_self _
        · rw [List.mem_singleton.mp q]; exact Nat.lt_succ_of_lt hlt
      · rw [<- hus]; exact .rfl
      · have ne : S ≠ s.heap.objs.size := Nat.ne_of_lt hlt
        refine zd3 (St := StP o S s.heap.objs.size es.size ep (tb.place.getD 0 0)) List.mem_cons_self (fun i h h' st k => ⟨k _ (by simp) _ st.1, k _ (by simp) _ st.2⟩) (fun i v s1 Q1 E1 hv st q => ?_) (fun s1 Q1 E1 st q => ?_) fun i s1 Q1 E1 st q => ze3 st.2 q
        · have hi : i < es.size := by have := (List.getElem?_eq_some_iff.mp hv).1; simpa using this
          obtain rfl : i = 0 := by omega
          obtain ⟨j, hj⟩ : ∃ j, tb.place = #[j] := by
            have z : tb.place.size = 1 := by omega
            exact ⟨tb.place[0], by apply Array.ext; · simp [z]
                                   · intro k h1 h2; have : k = 0 := by omega
                                     subst this; rfl⟩
          rw [List.getElem?_map] at hv
          cases e : es.toList[0]? with
          | none => rw [e] at hv; cases hv
          | some z =>
            rw [e] at hv
            cases hv
            rw [Array.getElem?_toList] at e
            refine zg3 (slot := 0) (nx := j + 1) st.2 st.1 hd hf rfl (fun E' Q' hq => zdl hbt st.1 hd hf h2 led ?_) fun hp h1 sb => q hp ⟨(sb.2 S ne).trans st.1, ?_⟩ fun b o' hb' e' => (sb.2 b hb').trans e'
            · rw [hj, zed, if_neg (by omega), e]
              exact hq
            · rw [h1, hj]; rfl
        · have hlen : (es.toList.map (·.2)).length = es.size := by simp
          rw [hlen] at st
          refine zil hh st.2 st.1 hd hf rfl (fun E' Q' hq => zdl hbt st.1 hd hf h2 led ?_) fun hp k => q hp k
          by_cases h0 : es.size = 0
          · have z : ∀ k : Nat, es[k]? = none := fun k => Array.getElem?_eq_none (by omega)
            rw [z]
            exact hq
          · obtain ⟨j, hj⟩ : ∃ j, tb.place = #[j] := by
              have z : tb.place.size = 1 := by omega
              exact ⟨tb.place[0], by apply Array.ext; · simp [z]
                                     · intro k h1 h2; have : k = 0 := by omega
                                       subst this; rfl⟩
            have z : SetTable.below tb.place (if es.size = 0 then 0 else tb.place.getD 0 0 + 1) = 1 := by
              rw [if_neg h0, hj, zed]
              exact if_pos (by show j < j + 1; omega)
            rw [z]
            have z1 : es[1]? = none := Array.getElem?_eq_none (by omega)
            rw [z1]
            exact hq
    · have plain : tb.plain = false := hpl (fun z => by rw [z] at lens; simp at lens; omega)
      rw [if_pos (by rw [plain, decide_eq_true (show es.size > 1 by omega)]; rfl)]
      refine wpAny_bind (zeb es.size (List.range es.size) s (by simp) fun ys d hp => ?_)
      unfold newTuple; apply wpAny_bind
      have hyl : ys.length = es.size := by rw [hp.length_eq]; simp
      refine wpAny_newObj_type ?_ (by show ((ys.map fun (i : Nat) => rawInt i).toArray).size ≤ sizeLine; rw [List.size_toArray, List.length_map, hyl]; exact fits_of_scanBound hb)
      have hin : ∀ j ∈ ys, j < es.size := fun j hj => by have := hp.mem_iff.mp hj; simpa using this
      have perm : List.Perm (ys.map fun j => es.toList.getD j (0, .none)) es.toList := by
        have z := hp.map fun j => es.toList.getD j (0, .none)
        refine z.trans (List.Perm.of_eq ?_)
        apply List.ext_getElem?
        intro k
        rw [List.getElem?_map]
        by_cases hk : k < es.size
        · simp [hk]
        · simp [hk]
      refine lay (s.heap.push { cls := .type "tuple", data := .seq (ys.map fun (i : Nat) => rawInt i).toArray }) d (.ref s.heap.objs.size) ((ys.map fun j => es.toList.getD j (0, .none)).map (·.2)) [(s.heap.push { cls := .type "tuple", data := .seq (ys.map fun (i : Nat) => rawInt i).toArray }).objs.size, S, s.heap.objs.size]
        (StD o S (s.heap.push { cls := .type "tuple", data := .seq (ys.map fun (i : Nat) => rawInt i).toArray }).objs.size s.heap.objs.size es.size ep (ys.map fun (i : Nat) => rawInt i).toArray) zaT
        ⟨fun b o' e => zaT _ _ (zaT _ _ e), ⟨d, rfl⟩, by rw [Heap.size_push]; exact Nat.le_succ _, fun b hb' => ?_, fun b hb' => ?_, List.mem_cons_self, ⟨_, zbv (hel.perm perm), ?_⟩, ⟨zaT _ _ (zaT _ _ ho), Heap.get?_push_size _ rfl, zaT _ _ (Heap.get?_push_size _ rfl)⟩, fun A' hh => ?_⟩
      · rcases List.mem_cons.mp hb' with rfl | q
        · exact .inr (by rw [Heap.size_push]; exact Nat.le_succ _)
        · rcases List.mem_cons.mp q with rfl | q
          · exact .inl rfl
          · exact .inr (Nat.le_of_eq (List.mem_singleton.mp q).symm)
      · show b < ((s.heap.push _).push _).objs.size
        rw [Heap.size_push, Heap.size_push]
        rcases List.mem_cons.mp hb' with rfl | q
        · rw [Heap.size_push]; exact Nat.lt_succ_self _
        · rcases List.mem_cons.mp q with rfl | q
          · exact Nat.lt_succ_of_lt (Nat.lt_succ_of_lt hlt)
          · rw [List.mem_singleton.mp q]; exact Nat.lt_succ_of_lt (Nat.lt_succ_self _)
      · rw [<- hus]; exact perm.map _
      · have ne : S ≠ (s.heap.push { cls := .type "tuple", data := .seq (ys.map fun (i : Nat) => rawInt i).toArray }).objs.size := Nat.ne_of_lt (by rw [Heap.size_push]; exact Nat.lt_succ_of_lt hlt)
        have ne2 : s.heap.objs.size ≠ (s.heap.push { cls := .type "tuple", data := .seq (ys.map fun (i : Nat) => rawInt i).toArray }).objs.size := Nat.ne_of_lt (by rw [Heap.size_push]; exact Nat.lt_succ_self _)
        generalize (s.heap.push { cls := .type "tuple", data := .seq (ys.map fun (i : Nat) => rawInt i).toArray }).objs.size = I at ne ne2
        refine zd3 (St := StD o S I s.heap.objs.size es.size ep (ys.map fun (i : Nat) => rawInt i).toArray) List.mem_cons_self (fun i h h' st k => ⟨k _ (by simp) _ st.1, k _ (by simp) _ st.2.1, k _ (by simp) _ st.2.2⟩) (fun i v s1 Q1 E1 hv st q => ?_) (fun s1 Q1 E1 st q => ?_) fun i s1 Q1 E1 st q => ze3 st.2.1 q
        · rw [List.map_map, List.getElem?_map] at hv
          cases e : ys[i]? with
          | none => rw [e] at hv; cases hv
          | some p =>
            rw [e] at hv
            cases hv
            have hp' : p < es.size := hin p (List.mem_of_getElem? e)
            refine ziN (p := p) (hsh := (es.toList.getD p (0, .none)).1) st.2.1 st.2.2 st.1 hd hf rfl (by simp [e]) (by simp [hp']) fun hp1 h1 sb => q hp1 ⟨(sb.2 S ne).trans st.1, h1, (sb.2 _ ne2).trans st.2.2⟩ fun b o' hb' e' => (sb.2 b hb').trans e'
        · exact zkA hh st.2.1 st.2.2 st.1 hd hf rfl (by simp) fun hp1 k => q hp1 k
end
end L2
namespace L2
open PySem PySem.Spec PyProof.Rows
section
variable {prog : Program} {w : World} {A : Around} {E : Value -> Shared -> Prop} {s : Shared}
theorem zh5 {S : Addr} {Q : Bool -> Shared -> Prop} (ty : s.TypeIs (.ref S) "set") (h : Q false s) : wpAny (model prog w) A (Builtin.List.listLengthHint (.ref S)) Q E s := by
 unfold Builtin.List.listLengthHint
 refine wpAny_bind (wpAny_specialOf ty zcV ?_)
 generalize hid : ("set.__len__" : String) = lid
 wp_delta
 rw [show splitId lid = some ("set", "__len__") from by subst hid; decide +kernel]
 subst hid
 refine wpAny_bind (wpAny_isInstance (b := true) ty PySem.F.called_set.sub ?_)
 rw [if_neg (by decide)]
 dsimp only
 refine wpAny_ite_split (fun _ => ?_) fun z => absurd (by decide +kernel) z
 refine wpAny_bind (wpAny_typeOf ty ?_)
 exact wpAny_pure h
theorem ze4 {S : Addr} {us : List Str} {Q : List Value -> Shared -> Prop} (hh : A.handled = none) (hS : SetS prog w s.heap S us) (hn : us.length ≤ sizeLine)
  (h : ∀ hp tk d vs us', (∀ b o, s.heap.get? b = some o -> hp.get? b = some o) -> s.heap.objs.size ≤ hp.objs.size -> StrsAre vs us' -> us'.Perm us -> Q vs { s with heap := hp, toks := tk, drawn := d }) : wpAny (model prog w) A (collect (.ref S)) Q E s := by
 have hlt : S < s.heap.objs.size := by obtain ⟨o, _, _, _, ho, _⟩ := hS; exact Heap.lt_size ho
 unfold collect
 apply wpAny_bind; apply wpAny_runValue; apply codeAny_builtin PySem.F.entry_proto_collect
 rw [Around.under_plainId PySem.F.plain_proto_collect _]
 show wpAny _ A.in1 (newList [] >>= fun l => again (.builtin "list.__iadd__" ⟨[l, .ref S], []⟩)) _ _ s
 apply wpAny_bind
 refine wpAny_newObj_type (wpAny_pure ⟨plainId_quiet PySem.F.plain_list_iadd _, codeAny_builtin PySem.F.entry_list_iadd ?_⟩)
 rw [Around.under_plainId PySem.F.plain_list_iadd _]
 show wpAny _ A.in1 (Builtin.List.listExtendWith (.ref s.heap.objs.size) (.ref S) (.ref s.heap.objs.size)) _ _ _
 generalize hL : s.heap.objs.size = L
 have hLo : (s.heap.push { cls := .type "list", data := .seq ([] : List Value).toArray }).get? L = some { cls := .type "list", data := .seq #[] } := by rw [<- hL]; exact Heap.get?_push_size _ rfl
 have sz : (s.heap.push { cls := .type "list", data := .seq ([] : List Value).toArray }).objs.size = L + 1 := by rw [Heap.size_push, hL]
 have keep1' : ∀ b o, s.heap.get? b = some o -> (s.heap.push { cls := .type "list", data := .seq ([] : List Value).toArray }).get? b = some o := zaT
 have new1 : ∀ b o, s.heap.get? b = some o -> b ≠ L := fun b o e => by rw [<- hL]; exact Nat.ne_of_lt (Heap.lt_size e)
 have hS1 := hS.at (h' := s.heap.push { cls := .type "list", data := .seq ([] : List Value).toArray }) fun o e => zaT _ _ e
 have hSL : S ≠ L := by rw [<- hL]; exact Nat.ne_of_lt hlt
 generalize s.heap.push { cls := .type "list", data := .seq ([] : List Value).toArray } = h1 at hLo sz keep1' hS1
 have ty1 : Shared.TypeIs { s with heap := h1 } (.ref S) "set" := by obtain ⟨o, _, _, _, ho, hx, _⟩ := hS1; exact ⟨o, ho, hx.1⟩
 unfold Builtin.List.listExtendWith
 refine wpAny_bind (wpAny_typeOf ty1 ?_)
 have e1 : Builtin.List.listSameRef (.ref L) (.ref S) = false := by
  unfold Builtin.List.listSameRef
  simpa using fun z : L = S => hSL z.symm
 rw [e1]
 rw [if_neg (by decide)]
 refine wpAny_bind (zh4 (s := { s with heap := h1 }) hS1 fun I s2 vs fp St R => ?_)
 obtain ⟨d, e2⟩ := R.rest
 obtain ⟨us', hvs, hpu⟩ := R.txts
 have ty2 : Shared.TypeIs s2 (.ref S) "set" := by obtain ⟨o, ho, hc⟩ := ty1; exact ⟨o, R.heap _ _ ho, hc⟩
 have lf : L ∉ fp := fun m => by
  rcases R.fps L m with z | z
  ·exact hSL z.symm
  ·have z' : h1.objs.size ≤ L := z
   omega
 have hvl : vs.length ≤ sizeLine := by
  have a1 := hvs.length
  have a2 := hpu.length_eq
  omega
 refine wpAny_bind (wpAny_holding (zh5 ty2 ?_))
 have loop : ∀ (hp : Heap) (c : Nat), St 0 hp -> (∀ b o, b ≠ L -> s2.heap.get? b = some o -> hp.get? b = some o) -> hp.get? L = some { cls := .type "list", dict := none, data := .seq #[] c, slots := #[] } ->
   codeAny (model prog w) A (.builtin "list.extend.loop" ⟨[.ref L, .ref I, .ref L], []⟩) (fun r s' => ∃ f, r = .ok (.ret f) /\ wpAny (model prog w) A (match f with
    | .ref a => do
     match (<- load a).data with
     | .seq xs _ => pure xs.toList
     | _ => unsupported "internal:collect"
    | _ => unsupported "internal:collect") Q E s') { s2 with heap := hp } := fun hp c st k hl => by
  refine codeAny_extend_loopS (R.walk A.in1 hh) hvl L lf (.ref L) vs.length 0 { s2 with heap := hp } #[] c rfl (Nat.zero_le _) st hl (ItemsOf.nil _) fun s3 acc c' hm hL3 hacc => ⟨_, rfl, ?_⟩
  show wpAny _ A (load L >>= _) _ _ _
  refine wpAny_bind (wpAny_load hL3 (wpAny_pure ?_))
  have ea : acc.toList = vs := by
   apply List.ext_getElem?
   intro j
   by_cases hj : j < acc.size
   ·have : acc[j]? = some acc[j] := by simp [hj]
    have q := hacc.2 j _ this
    rw [Array.getElem?_toList, this, q]
   ·rw [Array.getElem?_toList, Array.getElem?_eq_none (by omega)]
    have := hacc.1
    exact (List.getElem?_eq_none (by omega)).symm
  rw [ea]
  obtain ⟨hp3, g3, d3, tk3, os3⟩ := s3
  obtain rfl : s2.gens = g3 := hm.gens
  obtain rfl : d3 = s2.drawn := hm.drawn
  obtain rfl : os3 = s2.os := hm.os
  have := h hp3 tk3 d vs us' (fun b o e => hm.heap b o (fun z => ?_) (k b o (new1 b o e) (R.heap b o (keep1' b o e)))) (by rw [hL]; exact Nat.le_of_lt (Heap.lt_size hL3)) hvs hpu
  ·rw [e2]; exact this
  ·rcases List.mem_cons.mp z with z | z
   ·exact new1 b o e z
   ·have n1 := R.new
    have n2 := Heap.lt_size (keep1' b o e)
    rw [List.mem_singleton.mp z] at n2
    have n1' : h1.objs.size ≤ I := n1
    exact absurd n2 (Nat.not_lt.mpr n1')
 have hL2 : s2.heap.get? L = some { cls := .type "list", dict := none, data := .seq #[] 0, slots := #[] } := R.heap L _ hLo
 have conv : ∀ (r : Result) (s' : Shared), (∃ f, r = .ok (.ret f) /\ wpAny (model prog w) A (match f with
    | .ref a => do
     match (<- load a).data with
     | .seq xs _ => pure xs.toList
     | _ => unsupported "internal:collect"
    | _ => unsupported "internal:collect") Q E s') -> (match r with
    | Except.ok (Flow.ret v) => wpAny (model prog w) A (match v with
      | .ref a => do
       match (<- load a).data with
       | .seq xs _ => pure xs.toList
       | _ => unsupported "internal:collect"
      | _ => unsupported "internal:collect") Q E s'
    | Except.ok a => False
    | Except.error e => E e s') := fun r s' ⟨f, e, q⟩ => by subst e; exact q
 refine wpAny_ite_split (fun _ => ?_) fun _ => wpAny_pure ⟨plainId_quiet PySem.F.plain_extend_loop _, codeAny_mono (loop s2.heap 0 R.st (fun b o _ e => e) hL2) conv⟩
 apply wpAny_bind; apply wpAny_rule; apply wpAny_bind
 show wpAny _ _ (updateSeq L (·.push .none) >>= fun _ => updateSeq L (·.pop)) _ _ _
 refine wpAny_bind (wpAny_updateSeq hL2 rfl ?_)
 have hL3 := Heap.get?_update_self (Obj.mapSeq (·.push Value.none)) hL2 rfl
 refine wpAny_updateSeq (hz := by seq_fits) hL3 rfl ?_
 have hL4 := Heap.get?_update_self (Obj.mapSeq (·.pop)) hL3 rfl
 have kp : ∀ b o, b ≠ L -> s2.heap.get? b = some o -> ((s2.heap.update L (Obj.mapSeq (·.push Value.none))).update L (Obj.mapSeq (·.pop))).get? b = some o := fun b o z e => by
  rw [Heap.get?_update_other _ _ (Ne.symm z), Heap.get?_update_other _ _ (Ne.symm z)]; exact e
 refine wpAny_pure ⟨plainId_quiet PySem.F.plain_extend_loop _, codeAny_mono (loop _ _ ?_ kp hL4) conv⟩
 exact (R.walk A.in1 hh).frame 0 s2 _ s2.toks R.st (Nat.le_refl _) fun b m o e => kp b o (fun z => lf (z ▸ m)) e
theorem ze5 {x : Value} {n : Nat} {Q : Value -> Shared -> Prop} (hx : wpAny (model prog w) A.in1 (collect x) (fun vs s1 => ∃ ts, StrsAre vs ts /\ ts.length < 64 /\
   ∀ l hp (us : List Str) (out : List Value), (∀ b o, s1.heap.get? b = some o -> hp.get? b = some o) -> s1.heap.objs.size ≤ l -> (∃ c, hp.get? l = some { cls := .type "list", data := .seq out.toArray c }) -> StrsAre out us -> us.Perm ts -> sortedS us = true -> Q (.ref l) { s1 with heap := hp }) E s) :
  wpAny (model prog w) A (call (.builtin "sorted") [x]) Q E s := by
 refine Calls.call_function_entry kind_sorted plain_sorted entry_sorted (args_sorted1 _) ?_
 unfold Builtin.«sorted»
 apply wpAny_bind (m := checkCount "sorted" 1 1 _)
 refine wpAny_pure (wpAny_bind (wpAny_mono hx (fun vs s1 q => ?_) fun _ _ z => z))
 obtain ⟨ts, hvs, h64, k⟩ := q
 have hl : vs.length = ts.length := hvs.length
 refine wpAny_bind (wpAny_newList ?_ (by rw [hl]; exact zan (by omega)))
 have ho : (s1.heap.push (seqObj "list" vs.toArray 0)).get? s1.heap.objs.size = some (seqObj "list" vs.toArray 0) := Heap.get?_push_size _ rfl
 have sz : (s1.heap.push (seqObj "list" vs.toArray 0)).objs.size = s1.heap.objs.size + 1 := Heap.size_push ..
 have k1 : ∀ b o, s1.heap.get? b = some o -> (s1.heap.push (seqObj "list" vs.toArray 0)).get? b = some o := zaT
 show wpAny _ _ _ _ _ { s1 with heap := s1.heap.push (seqObj "list" vs.toArray 0) }
 refine wpAny_bind (wpAny_holding (wpAny_call_entry slot_list_sort ⟨_, ho, rfl⟩ entry_list_sort (list_sort_treeK strKind_oneLt ho hvs.keysOf (fun v₁ v₂ rest e => keyKind_strs (by rw [<- e]; exact hvs)) (by omega) fun st' a1 a2 => ⟨_, rfl, ?_⟩) (args_list_sort _)))
 obtain ⟨us, b1, b2, b3⟩ := sorted_out_str hvs a1 a2
 obtain ⟨c, hc⟩ := sortedHeap_at (vs := vs) (out := (arrOf st').map (·.2)) ho
 refine wpAny_pure ⟨_, rfl, k _ _ us ((arrOf st').map (·.2)).toList (fun b o e => ?_) (Nat.le_refl _) ⟨c, ?_⟩ b1 b2 b3⟩
 ·have hlt := Heap.lt_size e
  rw [sortedHeap_old (Nat.ne_of_lt hlt) (by rw [sz]; exact Nat.lt_succ_of_lt hlt)]
  exact k1 b o e
 ·rw [hc]
end
end L2
namespace L2
open PySem PySem.Spec PyProof.Rows
def SetO (prog : Program) (w : World) (S : Addr) (us : List Str) : HO := .ext fun h => SetS prog w h S us
section
variable {X : Cx} {pins : List (Addr × Obj)} {σ : St} {H : Hp} {s : Shared}
theorem Inv.draw (I : Inv X pins σ H s) (d : Drawn) : Inv X pins σ H { s with drawn := d } := ⟨I.ok, I.os, I.bare, I.base, I.loc, I.cell, I.free, I.freeC, I.pin, I.hok, I.len⟩
def zg7 (P : Program) (w : World) (K : W.Frag) : List V -> Hp -> VK -> Prop := fun xs H Q => ∃ (a : Addr) (ts : List Str), xs = [.ref a] /\ SqL K H a (ts.map V.str) /\ ts.length < 4000 /\
 ∀ S us, H S = none -> us.Nodup -> us.length ≤ ts.length -> (∀ x, x ∈ us ↔ x ∈ ts) -> Q (.ref S) (upd H S (SetO P w S us))
theorem zf0 (hc : X.calm = true) : zbo X (.type "set") (zg7 X.prog X.w X.K) := by
 intro pins s σ H xs us Q I r h
 obtain ⟨a, ts, rfl, hq, hl, k⟩ := h
 obtain ⟨u, rfl, ru⟩ := zdp r
 cases ru
 obtain ⟨its, rv, pl, _⟩ := I.list hq
 have hlen : its.length = ts.length := by have := rv.length; simpa using this.symm
 refine zdz (I.ok.hd hc) pl.isList (by simpa using zcj rv) (by rw [List.size_toArray, hlen]; show ts.length + 1 < 4096; omega) fun s' hm => ?_
 obtain ⟨hp, tk, us', rfl, S, l1, m1, kp⟩ := hm
 obtain ⟨o, es, ep, tb, ho, hex, hd, hel, hus, nd, rest⟩ := id S
 refine ⟨.ref s.heap.objs.size, _, I.laid (t' := tk) (o := SetO X.prog X.w s.heap.objs.size us') (fun b o e => kp b o (Heap.lt_size e) e) (Nat.le_refl _) ⟨S, ⟨o, ho⟩, fun h1 h2 s1 k1 => s1.at k1⟩, rfl, k _ us' (I.hok.fresh (Nat.le_refl _)) nd l1 m1⟩
def ze6 (P : Program) (w : World) (K : W.Frag) : List V -> Hp -> VK -> Prop := fun xs H Q => ∃ (a : Addr) (us : List Str), xs = [.ref a] /\ (H a = some (SetO P w a us) \/ SqL K H a (us.map V.str)) /\ us.length < 64 /\
 ∀ l vs, H l = none -> sortedS vs = true -> vs.Perm us -> Q (.ref l) (upd H l (.lst (vs.map V.str)))
theorem zcI : ∀ {us : List Value} {ys : List Str}, StrsAre us ys -> Vals (ys.map V.str) us
 | _, _, .nil => .nil
 | _, _, .cons x t r => .cons ⟨t, rfl⟩ (zcI r)
theorem zee (hc : X.calm = true) : zbo X (.builtin "sorted") (ze6 X.prog X.w X.K) := by
 intro pins s σ H xs us Q I r h
 obtain ⟨a, ts, rfl, hq, hl, k⟩ := h
 obtain ⟨u, rfl, ru⟩ := zdp r
 cases ru
 have fin : ∀ (hp : Heap) (tk : Nat) (d : Drawn), (∀ b o, s.heap.get? b = some o -> hp.get? b = some o) -> s.heap.objs.size ≤ hp.objs.size -> ∀ us' : List Str, us'.Perm ts -> ∀ (l : Addr) (hp2 : Heap) (vs : List Str) (out : List Value), (∀ b o, hp.get? b = some o -> hp2.get? b = some o) -> hp.objs.size ≤ l ->
   (∃ c, hp2.get? l = some { cls := .type "list", data := .seq out.toArray c }) -> StrsAre out vs -> vs.Perm us' -> sortedS vs = true -> EP X pins σ Q (.ref l) { s with heap := hp2, toks := tk, drawn := d } := fun hp tk d k1 z1 us' p1 l hp2 vs out k2 hn ⟨c, hc'⟩ ho pv hs => by
  have hsz : s.heap.objs.size ≤ l := Nat.le_trans z1 hn
  refine ⟨.ref l, _, (I.laid (t' := tk) (o := .lst (vs.map V.str)) (fun b o e => k2 b o (k1 b o e)) hsz ⟨?_, out, c, zcI ho, hc'⟩).draw d, rfl, k l vs (I.hok.fresh hsz) hs (pv.trans p1)⟩
  rw [List.length_map, (pv.trans p1).length_eq]
  exact zan (by omega)
 rcases hq with hq | hq
 ·have S : SetS X.prog X.w s.heap a ts := (I.hok a _ hq).1
  refine ze5 (n := 0) (ze4 (I.ok.hd hc) S (zan (by omega)) fun hp tk d vs us' k1 z1 hv hp' => ⟨us', hv, by rw [hp'.length_eq]; exact hl, fun l hp2 vs2 out k2 hn hl2 ho pv hs => fin hp tk d k1 z1 us' hp' l hp2 vs2 out k2 hn hl2 ho pv hs⟩)
 ·obtain ⟨its, rv, pl, _⟩ := I.list hq
  have hlen : its.length = ts.length := by have := rv.length; simpa using this.symm
  refine sorted_strs pl.isList (zcj rv) (by omega) fun out vs ho pv hs => ?_
  obtain ⟨c, hc'⟩ := sortedAll_at s.heap its out
  have z : ({ s with heap := sortedAll s.heap its out } : Shared) = { s with heap := sortedAll s.heap its out, toks := s.toks, drawn := s.drawn } := rfl
  rw [z]
  refine ⟨.ref (s.heap.objs.size + 1), _, (I.laid (t' := s.toks) (o := .lst (vs.map V.str)) (fun b o e => sortedAll_old e) (Nat.le_succ _) ⟨?_, out.toList, c, zcI ho, by rw [hc']⟩).draw s.drawn, rfl, k _ vs (I.hok.fresh (Nat.le_succ _)) hs pv⟩
  rw [List.length_map, pv.length_eq]
  exact zan (by omega)
variable {P : Program} {w : World} {K : W.Frag} {Q : VK} {p : Addr}
theorem zg8 (P : Program) (w : World) (K : W.Frag) (hc : X.calm = true) (hK : X.K = K := by rfl) (hP : X.prog = P := by rfl) (hw : X.w = w := by rfl) : zbo X (.type "set") (zg7 P w K) := by
 subst hK hP hw; exact zf0 hc
theorem zef (P : Program) (w : World) (K : W.Frag) (hc : X.calm = true) (hK : X.K = K := by rfl) (hP : X.prog = P := by rfl) (hw : X.w = w := by rfl) : zbo X (.builtin "sorted") (ze6 P w K) := by
 subst hK hP hw; exact zee hc
theorem ziO : zg7 P w K [.ref p] H Q = ∃ ts : List Str, SqL K H p (ts.map V.str) /\ ts.length < 4000 /\ ∀ S us, H S = none -> us.Nodup -> us.length ≤ ts.length -> (∀ x, x ∈ us ↔ x ∈ ts) -> Q (.ref S) (upd H S (SetO P w S us)) := by
 refine propext ⟨fun ⟨_, ts, e, h⟩ => ?_, fun ⟨ts, h⟩ => ⟨p, ts, rfl, h⟩⟩
 cases e; exact ⟨ts, h⟩
theorem zh6 : ze6 P w K [.ref p] H Q = ∃ us : List Str, (H p = some (SetO P w p us) \/ SqL K H p (us.map V.str)) /\ us.length < 64 /\ ∀ l vs, H l = none -> sortedS vs = true -> vs.Perm us -> Q (.ref l) (upd H l (.lst (vs.map V.str))) := by
 refine propext ⟨fun ⟨_, us, e, h⟩ => ?_, fun ⟨us, h⟩ => ⟨p, us, rfl, h⟩⟩
 cases e; exact ⟨us, h⟩
end
end L2
namespace L2
open PySem PySem.Spec PyProof.Rows
structure Fnc (X : Cx) : Prop where
 stk : X.stack = X.env :: X.outer
 fr : X.env.frame = some X.env.locals
 ex : X.ex = []
section
variable {X : Cx} {σ : St} {H : Hp} {s : Shared} {l : List Addr} {e C : Addr} {fl : Option Value}
end
section
variable {X : Cx} {G : Addr -> St -> Hp -> Prop} {u : Value} {s : Shared}
end
def xnames : List Str := ["__init__", "__getattribute__", "__getattr__", "__class__"]
inductive zh7 (h : Heap) (bmB : List Value) : List Value -> Prop
 | base : zh7 h bmB bmB
 | own {A : Addr} {c0 : Value} {dd : Option Addr} {cd : ClassData} {sl : Array (Option Value)} {mA : Str -> Option Value} {tl : List Value} :
   h.get? A = some { cls := c0, dict := dd, data := .cls cd, slots := sl } -> h.Ns cd.ns mA -> (∀ n ∈ xnames, mA n = none) -> zh7 h bmB tl -> zh7 h bmB (.ref A :: tl)
def XCls (K : W.Frag) (mg : Str -> Option Value) (x : Str) (C : Addr) (ch : List Addr) (bm : List Value) (newId : String) : Prop := mg x = some (.ref C) /\ ∀ h : Heap, K.In h ->
 ∃ N nm q bs hdct sn sub ab col dd k0 k1 k2 k3 k5 mN, h.get? C = some (excClassObj nm q C N bs (ch.map Value.ref ++ bm) hdct sn sub ab col dd k0 k1 k2 k3 k5 newId) /\ h.Ns N mN /\ (∀ n ∈ xnames, mN n = none) /\ zh7 h bm (ch.map Value.ref ++ bm)
section
variable {X : Cx} {G : Addr -> St -> Hp -> Prop}
end
section
variable {X : Cx} {G : Addr -> St -> Hp -> Prop} {k : Nat} {f : Addr} {fd : FuncData} {ps : List Str} {sp : Sp} {dvs : List V} {ds : List Value} {x : Str} {p pos : Pos} {e : Expr} {es : List Expr} {t : TA}
end
end L2
namespace L2
open PySem PySem.Spec PyProof.Rows
section
variable {X : Cx} {pins : List (Addr × Obj)} {σ : St} {H : Hp} {s : Shared} {E : Value -> Shared -> Prop} {e : Addr}
end
end L2
namespace L2
open PySem PySem.Spec PyProof.Rows
section
variable {X : Cx}
end
end L2
namespace L2
open PySem PySem.Spec PyProof.Rows
section
variable {prog : Program} {w : World} {A : Around} {E : Value -> Shared -> Prop} {h : Heap} {g : Array GenState} {d : Drawn} {t : Nat} {os : OsState} {a : Addr} {o : Obj} {vs : Array Value}
 {nm q : Str} {C N : Addr} {bs bm bmB : List Value} {hdct : Bool} {sn : List Str} {sub : List Value} {ab : Bool} {col : Option Bool} {dd : Option Addr} {k0 k1 k2 k3 k5 : Option Value} {B newId : String} {mN : Str -> Option Value}
structure zmx (B : String) (bmB : List Value) : Prop extends ExcAttrBase B bmB where
 lkC : typeLookup (.type B) "__class__" = pure (some (.builtin "object.__class__"))
 hasObj : bmB.contains (.type "object") = true
end
end L2
namespace L2
open PySem PySem.Spec PyProof.Rows
structure zlM (k : Nat) (A : Around) : Prop where
 dp : A.depth + 3 * k + 5 < recursionLimit
 un : A.units + 16 * k + 200 < cLine
structure zmy (P : Program) (w : World) (K : W.Frag) (mg : Str -> Option Value) (base : Heap) (k : Nat) (f : Addr) (fd : FuncData) (ps : List Str) (sp : Sp) : Prop where
 len : ∀ vs H Q E, sp vs H Q E -> vs.length = ps.length
 run : ∀ (A : Around) (outer : List Env) (s : Shared) (H : Hp) (args : Args) (us : List Value) (vs : List V) (Q : VK), zlM k A -> Env0 P w K mg base A outer s H -> BindsTo s fd args (ps.zip us) -> Vals vs us -> sp vs H Q E0 ->
  codeAny (model P w) A (.call (.ref f) args) (CR CX0 outer P w H s Q E0) s
section
variable {X : Cx} {k : Nat} {f : Addr} {fd : FuncData} {ps : List Str} {sp : Sp} {dvs : List V} {ds : List Value} {x : Str} {p pos : Pos} {e : Expr} {es : List Expr} {t : TA}
end
end L2
namespace L2
open PySem PySem.Spec PyProof.Rows
structure CNs (K : W.Frag) (N : Addr) : Prop where
 ok : ∃ oc od es ep sl, K.lookup N = some ⟨oc, od, .dict (List.toArray es) ep, sl⟩ /\ (es.all fun e => match e.key with | .str _ _ => true | _ => false) = true
 n1 : W.nsIn K N "__init__" = some none
 n2 : W.nsIn K N "__getattribute__" = some none
 n3 : W.nsIn K N "__getattr__" = some none
 n4 : W.nsIn K N "__class__" = some none
theorem CNs.quiet {K : W.Frag} {h : Heap} {N : Addr} (c : CNs K N) (X : K.In h) : h.Ns N (h.nsMap N) /\ ∀ n ∈ xnames, h.nsMap N n = none := by
 have ok : W.nsOkIn K N = true := by
  obtain ⟨oc, od, es, ep, sl, e, q⟩ := c.ok
  unfold W.nsOkIn
  rw [e]
  exact (List.all_toArray (l := es)).trans q
 refine ⟨.of_isNs (W.isNs_of_in X ok), fun n hn => W.nsMap_none_of_in X ok ?_⟩
 simp only [xnames, List.mem_cons, List.not_mem_nil, or_false] at hn
 rcases hn with rfl | rfl | rfl | rfl
 ·exact c.n1
 ·exact c.n2
 ·exact c.n3
 ·exact c.n4
section
variable {K : W.Frag} {mg : Str -> Option Value} {x nm q nm' q' : Str} {C D N N' : Addr} {bm bs bs' bm' : List Value} {hdct hdct' : Bool} {sn sn' : List Str} {sub sub' : List Value} {ab ab' : Bool} {col col' : Option Bool} {dd dd' : Option Addr} {k0 k1 k2 k3 k5 k0' k1' k2' k3' k5' : Option Value} {newId newId' : String} {b : Bool}
theorem zlN (m : mg x = some (.ref C)) (l : K.lookup C = some (excClassObj nm q C N bs bm hdct sn sub ab col dd k0 k1 k2 k3 k5 newId)) (c : CNs K N) : XCls K mg x C [] bm newId :=
 ⟨m, fun h X => ⟨N, nm, q, bs, hdct, sn, sub, ab, col, dd, k0, k1, k2, k3, k5, _, X _ _ l, (c.quiet X).1, (c.quiet X).2, .base⟩⟩
theorem zlO (m : mg x = some (.ref C)) (l : K.lookup C = some (excClassObj nm q C N bs (.ref D :: bm) hdct sn sub ab col dd k0 k1 k2 k3 k5 newId)) (c : CNs K N)
  (l' : K.lookup D = some (excClassObj nm' q' D N' bs' bm hdct' sn' sub' ab' col' dd' k0' k1' k2' k3' k5' newId')) (c' : CNs K N') : XCls K mg x C [D] bm newId :=
 ⟨m, fun h X => ⟨N, nm, q, bs, hdct, sn, sub, ab, col, dd, k0, k1, k2, k3, k5, _, X _ _ l, (c.quiet X).1, (c.quiet X).2, .own (X _ _ l') (c'.quiet X).1 (c'.quiet X).2 .base⟩⟩
end
end L2
namespace L2
open PySem PySem.Spec PyProof.Rows
abbrev TJ := Str -> St -> Hp -> (Str -> Hp -> Prop) -> Prop
section
variable {X : Cx} {e v : Expr} {es : List Expr} {te : TE} {tr : TJ} {pos : Pos}
end
end L2
namespace L2
open PySem PySem.Spec PyProof.Rows
section
variable {σ : St} {H : Hp} {Q : VK} {D : Ends} {te : TE} {tr : TJ} {acc y : Str} {i : Int} {R : Str -> Hp -> Prop} {G : Addr -> St -> Hp -> Prop} {sp : Sp} {dvs : List V} {t : TA}
theorem ziP {p : Str -> Prop} : (∃ y', V.str y = V.str y' /\ p y') = p y := propext ⟨fun ⟨_, e, h⟩ => by cases e; exact h, fun h => ⟨y, rfl, h⟩⟩
theorem ziQ {p : Str -> Prop} {q : Int -> Prop} : ((∃ y', V.str y = V.str y' /\ p y') \/ ∃ i, V.str y = V.int i /\ q i) = p y := propext ⟨fun h => by rcases h with ⟨_, e, h⟩ | ⟨_, e, _⟩ <;> cases e; exact h, fun h => .inl ⟨y, rfl, h⟩⟩
theorem ziR {p : Str -> Prop} {q : Int -> Prop} : ((∃ y', V.int i = V.str y' /\ p y') \/ ∃ j, V.int i = V.int j /\ q j) = q i := propext ⟨fun h => by rcases h with ⟨_, e, _⟩ | ⟨_, e, h⟩ <;> cases e; exact h, fun h => .inr ⟨i, rfl, h⟩⟩
end
end L2
namespace L2
open PySem PySem.Spec PyProof.Rows
abbrev TM := St -> Hp -> (Hp -> Prop) -> Prop
section
variable {X : Cx} {e v : Expr} {es : List Expr} {te : TE} {tp tr : TM} {pos : Pos}
end
section
variable {σ : St} {H : Hp} {Q : VK} {te : TE} {tp tr tm : TM} {R : Hp -> Prop} {y : Str} {i : Int}
end
end L2
namespace L2
open PySem PySem.Spec PyProof.Rows
section
variable {X : Cx} {G : Addr -> St -> Hp -> Prop} {k : Nat} {f C : Addr} {fd : FuncData} {ps : List Str} {sp : Sp} {dvs : List V} {ds : List Value} {x m : Str} {p pos apos : Pos} {e o : Expr} {es : List Expr} {ta : TE} {t : TA}
end
section
variable {K : W.Frag} {σ : St} {H : Hp} {Q : VK} {D : Ends} {ta tv : TE} {t : TA} {f m : Str} {p C : Addr} {sp : Sp} {dvs : List V} {E : XK} {G : Addr -> St -> Hp -> Prop} {rd : V -> V -> Hp -> VK -> Prop}
theorem zlP : tFld K ta f σ H Q = ta σ H fun x H1 => ∃ a C dx fs v, x = .ref a /\ H1 a = some (.ins C dx fs) /\ Cls K C /\ NoAttr K C f /\ fs.lookup f = some v /\ Q v H1 := rfl
theorem zkC : sFld K ta tv f D σ H = tv σ H fun y H1 => ta σ H1 fun x H2 => ∃ a C dx fs, x = .ref a /\ H2 a = some (.ins C dx fs) /\ Cls K C /\ NoAttr K C f /\ fs.length < 1000 /\ D.nx σ (upd H2 a (.ins C dx (putF f y fs))) := rfl
theorem zkD : zjV C m sp dvs E ta t σ H Q = ta σ H fun x H1 => ∃ a dx fs, x = .ref a /\ H1 a = some (.ins C dx fs) /\ fs.lookup m = none /\ t σ H1 fun vs H2 => sp (x :: (vs ++ dvs)) H2 Q E := rfl
theorem zkE : zjW C sp dvs E t σ H Q = t σ H fun vs H1 => ∀ x dx, H1 x = none -> H1 dx = none -> dx ≠ x -> sp (.ref x :: (vs ++ dvs)) (upd (upd H1 dx (.own x)) x (.ins C dx [])) (fun v H2 => v = .non /\ Q (.ref x) H2) E := rfl
end
end L2
namespace L2
open PySem PySem.Spec PyProof.Rows
inductive Dt where
 | int (i : Int) | str (x : Str) | non | tup (l : List Dt) | lst (l : List Dt)
mutual
def Dt.beq : Dt -> Dt -> Bool
 | .int i, .int j => i == j
 | .str x, .str y => decide (x = y)
 | .non, .non => true
 | .tup l, .tup m => Dt.beqs l m
 | .lst l, .lst m => Dt.beqs l m
 | _, _ => false
def Dt.beqs : List Dt -> List Dt -> Bool
 | [], [] => true
 | a :: l, b :: m => Dt.beq a b && Dt.beqs l m
 | _, _ => false
end
mutual
theorem Dt.beq_iff : ∀ a b : Dt, Dt.beq a b = true ↔ a = b
 | .int i, b => by cases b <;> simp [Dt.beq]
 | .str x, b => by cases b <;> simp [Dt.beq]
 | .non, b => by cases b <;> simp [Dt.beq]
 | .tup l, b => by cases b with
  | tup m => simp only [Dt.beq, Dt.tup.injEq]; exact Dt.beqs_iff l m
  | _ => simp [Dt.beq]
 | .lst l, b => by cases b with
  | lst m => simp only [Dt.beq, Dt.lst.injEq]; exact Dt.beqs_iff l m
  | _ => simp [Dt.beq]
theorem Dt.beqs_iff : ∀ l m : List Dt, Dt.beqs l m = true ↔ l = m
 | [], m => by cases m <;> simp [Dt.beqs]
 | a :: l, m => by cases m with
  | nil => simp [Dt.beqs]
  | cons b m => simp only [Dt.beqs, Bool.and_eq_true, List.cons.injEq]; rw [Dt.beq_iff a b, Dt.beqs_iff l m]
end
instance : DecidableEq Dt := fun a b => if h : Dt.beq a b = true then isTrue ((Dt.beq_iff a b).mp h) else isFalse fun e => h ((Dt.beq_iff a b).mpr e)
theorem Dt.beq_dec (a b : Dt) : Dt.beq a b = decide (a = b) := by
 by_cases h : a = b
 ·rw [decide_eq_true h]; exact (Dt.beq_iff a b).mpr h
 ·rw [decide_eq_false h]; exact Bool.eq_false_iff.mpr fun e => h ((Dt.beq_iff a b).mp e)
theorem Dt.beqs_all : ∀ (l m : List Dt) (e : Nat -> Bool), (∀ (j : Nat) a b, l[j]? = some a -> m[j]? = some b -> e j = Dt.beq a b) -> ((List.range (min l.length m.length)).all e && l.length == m.length) = Dt.beqs l m
 | [], [], e, _ => by simp [Dt.beqs]
 | [], b :: m, e, _ => by simp [Dt.beqs]
 | a :: l, [], e, _ => by simp [Dt.beqs]
 | a :: l, b :: m, e, h => by
  have ih := Dt.beqs_all l m (fun j => e (j + 1)) fun j x y h1 h2 => h (j + 1) x y (by simpa using h1) (by simpa using h2)
  have h0 := h 0 a b rfl rfl
  simp only [Dt.beqs]
  rw [<- ih, <- h0]
  simp only [List.length_cons]
  rw [show min (l.length + 1) (m.length + 1) = min l.length m.length + 1 by omega, List.range_succ_eq_map]
  simp only [List.all_cons, List.all_map]
  have : ((l.length + 1 == m.length + 1) : Bool) = (l.length == m.length) := by simp
  rw [this, Bool.and_assoc]
  rfl
mutual
def Dt.dep : Dt -> Nat
 | .tup l => Dt.deps l + 1
 | .lst l => Dt.deps l + 1
 | _ => 0
def Dt.deps : List Dt -> Nat
 | [] => 0
 | a :: l => max (Dt.dep a) (Dt.deps l)
end
theorem Dt.dep_mem : ∀ {l : List Dt} {j : Nat} {a : Dt}, l[j]? = some a -> Dt.dep a ≤ Dt.deps l
 | [], j, a, h => by simp at h
 | b :: l, 0, a, h => by simp at h; subst h; simp only [Dt.deps]; omega
 | b :: l, j + 1, a, h => by have := Dt.dep_mem (l := l) (j := j) (a := a) (by simpa using h); simp only [Dt.deps]; omega
inductive RepD (K : W.Frag) (H : Hp) : Dt -> V -> Prop
 | int (i : Int) : RepD K H (.int i) (.int i)
 | str (x : Str) : RepD K H (.str x) (.str x)
 | non : RepD K H .non .non
 | tup {a : Addr} {xs : List V} {l : List Dt} (h : SqT K H a xs) (hl : l.length = xs.length) (hr : ∀ (j : Nat) d x, l[j]? = some d -> xs[j]? = some x -> RepD K H d x) : RepD K H (.tup l) (.ref a)
 | lst {a : Addr} {xs : List V} {l : List Dt} (h : SqL K H a xs) (hl : l.length = xs.length) (hr : ∀ (j : Nat) d x, l[j]? = some d -> xs[j]? = some x -> RepD K H d x) : RepD K H (.lst l) (.ref a)
theorem isL {X : Cx} {pins : List (Addr × Obj)} {σ : St} {H : Hp} {s : Shared} {a : Addr} {xs : List V} (I : Inv X pins σ H s) (h : SqL X.K H a xs) : ∃ its : List Value, Vals xs its /\ s.heap.IsList a its.toArray := by
 obtain ⟨its, r, p, _⟩ := I.list h
 exact ⟨its, r, p.isList⟩
theorem isT {X : Cx} {pins : List (Addr × Obj)} {σ : St} {H : Hp} {s : Shared} {a : Addr} {xs : List V} (I : Inv X pins σ H s) (h : SqT X.K H a xs) : ∃ its : List Value, Vals xs its /\ s.heap.IsTuple a its.toArray := by
 obtain ⟨its, r, p, _⟩ := I.tuple h
 exact ⟨its, r, p⟩
section
variable {X : Cx} {pins : List (Addr × Obj)} {σ : St} {H : Hp} {s : Shared}
theorem RepD.inj (I : Inv X pins σ H s) {d : Dt} {x : V} (h : RepD X.K H d x) : ∀ {d' : Dt}, RepD X.K H d' x -> d = d' := by
 induction h with
 | int i => intro d' h; cases h; rfl
 | str x => intro d' h; cases h; rfl
 | non => intro d' h; cases h; rfl
 | @tup a xs l h hl hr ih =>
  intro d' h'
  cases h' with
  | @tup _ xs' l' h' hl' hr' =>
   obtain rfl := I.tuple_inj h h'
   congr 1
   apply List.ext_getElem?
   intro j
   by_cases hj : j < l.length
   ·have e1 : l[j]? = some l[j] := by simp [hj]
    have e2 : xs[j]? = some xs[j] := by simp
    have hj' : j < l'.length := by omega
    have e3 : l'[j]? = some l'[j] := by simp [hj']
    rw [e1, e3, ih j _ _ e1 e2 (hr' j _ _ e3 e2)]
   ·rw [List.getElem?_eq_none (by omega), List.getElem?_eq_none (by omega)]
  | @lst _ xs' l' h' hl' hr' =>
   obtain ⟨_, _, p⟩ := isT I h
   obtain ⟨_, _, q⟩ := isL I h'
   exact absurd rfl (SeqAt.ne_of_list_tuple q p)
 | @lst a xs l h hl hr ih =>
  intro d' h'
  cases h' with
  | @lst _ xs' l' h' hl' hr' =>
   obtain rfl := I.list_inj h h'
   congr 1
   apply List.ext_getElem?
   intro j
   by_cases hj : j < l.length
   ·have e1 : l[j]? = some l[j] := by simp [hj]
    have e2 : xs[j]? = some xs[j] := by simp
    have hj' : j < l'.length := by omega
    have e3 : l'[j]? = some l'[j] := by simp [hj']
    rw [e1, e3, ih j _ _ e1 e2 (hr' j _ _ e3 e2)]
   ·rw [List.getElem?_eq_none (by omega), List.getElem?_eq_none (by omega)]
  | @tup _ xs' l' h' hl' hr' =>
   obtain ⟨_, _, p⟩ := isL I h
   obtain ⟨_, _, q⟩ := isT I h'
   exact absurd rfl (SeqAt.ne_of_list_tuple p q)
theorem RepD.at (I : Inv X pins σ H s) {d : Dt} {x : V} (h : RepD X.K H d x) : ∀ {d' : Dt} {y : V}, RepD X.K H d' y -> ∀ {A : Around} {u v : Value}, A.units + Dt.dep d < cLine -> RelV x u -> RelV y v ->
  SeqAt.RcAt A s u v (Dt.beq d d') /\ SeqAt.EqAt A s u v (Dt.beq d d') := by
 induction h with
 | int i =>
  intro d' y h' A u v hu ru rv
  obtain ⟨t, rfl⟩ := ru
  cases h' with
  | int j => obtain ⟨t', rfl⟩ := rv; exact ⟨SeqAt.RcAt.int_int _ _ _ _, SeqAt.EqAt.int_int _ _ _ _⟩
  | str z => obtain ⟨t', rfl⟩ := rv; exact ⟨SeqAt.RcAt.int_str _ _ _ _, SeqAt.EqAt.int_str _ _ _ _⟩
  | non => cases rv; exact ⟨SeqAt.RcAt.int_none _ _, SeqAt.EqAt.int_none _ _⟩
  | tup h => cases rv; obtain ⟨_, _, p⟩ := isT I h; exact ⟨SeqAt.RcAt.int_tuple _ _ p (by omega), SeqAt.EqAt.int_tuple _ _ p (by omega)⟩
  | lst h => cases rv; obtain ⟨_, _, p⟩ := isL I h; exact ⟨SeqAt.RcAt.int_list _ _ p (by omega), SeqAt.EqAt.int_list _ _ p (by omega)⟩
 | str z =>
  intro d' y h' A u v hu ru rv
  obtain ⟨t, rfl⟩ := ru
  cases h' with
  | int j => obtain ⟨t', rfl⟩ := rv; exact ⟨SeqAt.RcAt.str_int _ _ _ _, SeqAt.EqAt.str_int _ _ _ _⟩
  | str z' =>
   obtain ⟨t', rfl⟩ := rv
   have e : (z == z') = Dt.beq (.str z) (.str z') := by simp only [Dt.beq]; rw [Bool.beq_eq_decide_eq]
   rw [<- e]; exact ⟨SeqAt.RcAt.str_str _ _ _ _, SeqAt.EqAt.str_str _ _ _ _⟩
  | non => cases rv; exact ⟨SeqAt.RcAt.str_none _ _, SeqAt.EqAt.str_none _ _⟩
  | tup h => cases rv; obtain ⟨_, _, p⟩ := isT I h; exact ⟨SeqAt.RcAt.str_tuple _ _ p (by omega), SeqAt.EqAt.str_tuple _ _ p (by omega)⟩
  | lst h => cases rv; obtain ⟨_, _, p⟩ := isL I h; exact ⟨SeqAt.RcAt.str_list _ _ p (by omega), SeqAt.EqAt.str_list _ _ p (by omega)⟩
 | non =>
  intro d' y h' A u v hu ru rv
  cases ru
  cases h' with
  | int j => obtain ⟨t', rfl⟩ := rv; exact ⟨SeqAt.RcAt.none_int _ _, SeqAt.EqAt.none_int _ _⟩
  | str z' => obtain ⟨t', rfl⟩ := rv; exact ⟨SeqAt.RcAt.none_str _ _, SeqAt.EqAt.none_str _ _⟩
  | non => cases rv; exact ⟨SeqAt.RcAt.none_none, SeqAt.EqAt.same _⟩
  | tup h => cases rv; obtain ⟨_, _, p⟩ := isT I h; exact ⟨SeqAt.RcAt.none_tuple p (by omega), SeqAt.EqAt.none_tuple p (by omega)⟩
  | lst h => cases rv; obtain ⟨_, _, p⟩ := isL I h; exact ⟨SeqAt.RcAt.none_list p (by omega), SeqAt.EqAt.none_list p (by omega)⟩
 | @tup a xs l h hl hr ih =>
  intro d' y h' A u v hu ru rv
  have h0 := h'
  cases ru
  obtain ⟨its, r1, p1⟩ := isT I h
  cases h' with
  | int j => obtain ⟨t', rfl⟩ := rv; exact ⟨SeqAt.RcAt.tuple_int _ _ p1 (by omega), SeqAt.EqAt.tuple_int _ _ p1 (by omega)⟩
  | str z' => obtain ⟨t', rfl⟩ := rv; exact ⟨SeqAt.RcAt.tuple_str _ _ p1 (by omega), SeqAt.EqAt.tuple_str _ _ p1 (by omega)⟩
  | non => cases rv; exact ⟨SeqAt.RcAt.tuple_none p1 (by omega), SeqAt.EqAt.tuple_none p1 (by omega)⟩
  | lst h2 => cases rv; obtain ⟨_, _, p2⟩ := isL I h2; exact ⟨SeqAt.RcAt.tuple_list p1 p2 (by omega), SeqAt.EqAt.tuple_list p1 p2 (by omega)⟩
  | @tup b ys m h2 hl2 hr2 =>
   cases rv
   obtain ⟨its2, r2, p2⟩ := isT I h2
   have l1 : its.toArray.size = xs.length := by rw [List.size_toArray]; exact r1.length.symm
   have l2 : its2.toArray.size = ys.length := by rw [List.size_toArray]; exact r2.length.symm
   have rc : SeqAt.RcAt A s (.ref a) (.ref b) (Dt.beq (.tup l) (.tup m)) := by
    have hd : Dt.dep (.tup l) = Dt.deps l + 1 := by simp only [Dt.dep]
    rw [hd] at hu
    have := SeqAt.RcAt.tuples (A := A) (e := fun j => match l[j]?, m[j]? with | some x, some y => Dt.beq x y | _, _ => true) p1 p2 (by omega) (fun j h1 h2 => by
     obtain ⟨x, ex, rx⟩ := getD_some r1 h1
     obtain ⟨y, ey, ry⟩ := getD_some r2 h2
     have j1 : j < l.length := by omega
     have j2 : j < m.length := by omega
     have e1 : l[j]? = some l[j] := by simp [j1]
     have e2 : m[j]? = some m[j] := by simp [j2]
     rw [e1, e2]
     exact (ih j _ _ e1 ex (hr2 j _ _ e2 ey) (A := A.in1) (by show A.units + 1 + _ < cLine; have := Dt.dep_mem e1; omega) rx ry).2)
    rw [l1, l2, <- hl, <- hl2, Dt.beqs_all l m _ (fun j x y h1 h2 => by simp only [h1, h2])] at this
    simp only [Dt.beq]
    exact this
   refine ⟨rc, ?_⟩
   by_cases hab : a = b
   ·subst hab
    rw [(Dt.beq_iff _ _).mpr ((RepD.tup h hl hr).inj I h0)]
    exact SeqAt.EqAt.same _
   ·exact SeqAt.EqAt.of_refs hab rc
 | @lst a xs l h hl hr ih =>
  intro d' y h' A u v hu ru rv
  have h0 := h'
  cases ru
  obtain ⟨its, r1, p1⟩ := isL I h
  cases h' with
  | int j => obtain ⟨t', rfl⟩ := rv; exact ⟨SeqAt.RcAt.list_int _ _ p1 (by omega), SeqAt.EqAt.list_int _ _ p1 (by omega)⟩
  | str z' => obtain ⟨t', rfl⟩ := rv; exact ⟨SeqAt.RcAt.list_str _ _ p1 (by omega), SeqAt.EqAt.list_str _ _ p1 (by omega)⟩
  | non => cases rv; exact ⟨SeqAt.RcAt.list_none p1 (by omega), SeqAt.EqAt.list_none p1 (by omega)⟩
  | tup h2 => cases rv; obtain ⟨_, _, p2⟩ := isT I h2; exact ⟨SeqAt.RcAt.list_tuple p1 p2 (by omega), SeqAt.EqAt.list_tuple p1 p2 (by omega)⟩
  | @lst b ys m h2 hl2 hr2 =>
   cases rv
   obtain ⟨its2, r2, p2⟩ := isL I h2
   have l1 : its.toArray.size = xs.length := by rw [List.size_toArray]; exact r1.length.symm
   have l2 : its2.toArray.size = ys.length := by rw [List.size_toArray]; exact r2.length.symm
   have rc : SeqAt.RcAt A s (.ref a) (.ref b) (Dt.beq (.lst l) (.lst m)) := by
    have hd : Dt.dep (.lst l) = Dt.deps l + 1 := by simp only [Dt.dep]
    rw [hd] at hu
    simp only [Dt.beq]
    by_cases hlen : l.length = m.length
    ·have := SeqAt.RcAt.lists (A := A) (e := fun j => match l[j]?, m[j]? with | some x, some y => Dt.beq x y | _, _ => true) p1 p2 (by omega) (by omega) (fun j h1 h2 => by
      obtain ⟨x, ex, rx⟩ := getD_some r1 h1
      obtain ⟨y, ey, ry⟩ := getD_some r2 h2
      have j1 : j < l.length := by omega
      have j2 : j < m.length := by omega
      have e1 : l[j]? = some l[j] := by simp [j1]
      have e2 : m[j]? = some m[j] := by simp [j2]
      rw [e1, e2]
      exact (ih j _ _ e1 ex (hr2 j _ _ e2 ey) (A := A.in1) (by show A.units + 1 + _ < cLine; have := Dt.dep_mem e1; omega) rx ry).2)
     have q := Dt.beqs_all l m (fun j => match l[j]?, m[j]? with | some x, some y => Dt.beq x y | _, _ => true) (fun j x y h1 h2 => by simp only [h1, h2])
     rw [<- q]
     have q1 : (l.length == m.length) = true := by simpa using hlen
     have q2 : min l.length m.length = its.toArray.size := by omega
     rw [q1, Bool.and_true, q2]
     exact this
    ·have q : Dt.beqs l m = false := Bool.eq_false_iff.mpr fun e => hlen (congrArg List.length ((Dt.beqs_iff l m).mp e))
     rw [q]
     exact SeqAt.RcAt.lists_lengths p1 p2 (by rw [l1, l2]; simp; omega) (by omega)
   refine ⟨rc, ?_⟩
   by_cases hab : a = b
   ·subst hab
    rw [(Dt.beq_iff _ _).mpr ((RepD.lst h hl hr).inj I h0)]
    exact SeqAt.EqAt.same _
   ·exact SeqAt.EqAt.of_refs hab rc
theorem RepD.ne (I : Inv X pins σ H s) {d d' : Dt} {x y : V} (h : RepD X.K H d x) (h' : RepD X.K H d' y) {A : Around} {u v : Value} (hu : A.units + Dt.dep d < cLine) (ru : RelV x u) (rv : RelV y v) :
  SeqAt.RcNeAt A s u v (!Dt.beq d d') := by
 cases h with
 | int i =>
  obtain ⟨t, rfl⟩ := ru
  cases h' with
  | int j => obtain ⟨t', rfl⟩ := rv; exact SeqAt.RcNeAt.int_int _ _ _ _
  | str z => obtain ⟨t', rfl⟩ := rv; exact SeqAt.RcNeAt.int_str _ _ _ _
  | non => cases rv; exact SeqAt.RcNeAt.int_none _ _
  | tup h => cases rv; obtain ⟨_, _, p⟩ := isT I h; exact SeqAt.RcNeAt.int_tuple _ _ p (by omega)
  | lst h => cases rv; obtain ⟨_, _, p⟩ := isL I h; exact SeqAt.RcNeAt.int_list _ _ p (by omega)
 | str z =>
  obtain ⟨t, rfl⟩ := ru
  cases h' with
  | int j => obtain ⟨t', rfl⟩ := rv; exact SeqAt.RcNeAt.str_int _ _ _ _
  | str z' =>
   obtain ⟨t', rfl⟩ := rv
   have e : (z == z') = Dt.beq (.str z) (.str z') := by simp only [Dt.beq]; rw [Bool.beq_eq_decide_eq]
   rw [<- e]; exact SeqAt.RcNeAt.str_str _ _ _ _
  | non => cases rv; exact SeqAt.RcNeAt.str_none _ _
  | tup h => cases rv; obtain ⟨_, _, p⟩ := isT I h; exact SeqAt.RcNeAt.str_tuple _ _ p (by omega)
  | lst h => cases rv; obtain ⟨_, _, p⟩ := isL I h; exact SeqAt.RcNeAt.str_list _ _ p (by omega)
 | non =>
  cases ru
  cases h' with
  | int j => obtain ⟨t', rfl⟩ := rv; exact SeqAt.RcNeAt.none_int _ _
  | str z' => obtain ⟨t', rfl⟩ := rv; exact SeqAt.RcNeAt.none_str _ _
  | non => cases rv; exact SeqAt.RcNeAt.none_none
  | tup h => cases rv; obtain ⟨_, _, p⟩ := isT I h; exact SeqAt.RcNeAt.none_tuple p (by omega)
  | lst h => cases rv; obtain ⟨_, _, p⟩ := isL I h; exact SeqAt.RcNeAt.none_list p (by omega)
 | @tup a xs l h hl hr =>
  cases ru
  obtain ⟨its, r1, p1⟩ := isT I h
  cases h' with
  | int j => obtain ⟨t', rfl⟩ := rv; exact SeqAt.RcNeAt.tuple_int _ _ p1 (by omega)
  | str z' => obtain ⟨t', rfl⟩ := rv; exact SeqAt.RcNeAt.tuple_str _ _ p1 (by omega)
  | non => cases rv; exact SeqAt.RcNeAt.tuple_none p1 (by omega)
  | lst h2 => cases rv; obtain ⟨_, _, p2⟩ := isL I h2; exact SeqAt.RcNeAt.tuple_list p1 p2 (by omega)
  | @tup b ys m h2 hl2 hr2 =>
   cases rv
   obtain ⟨its2, r2, p2⟩ := isT I h2
   have l1 : its.toArray.size = xs.length := by rw [List.size_toArray]; exact r1.length.symm
   have l2 : its2.toArray.size = ys.length := by rw [List.size_toArray]; exact r2.length.symm
   have hd : Dt.dep (.tup l) = Dt.deps l + 1 := by simp only [Dt.dep]
   rw [hd] at hu
   have := SeqAt.RcNeAt.tuples (A := A) (e := fun j => match l[j]?, m[j]? with | some x, some y => Dt.beq x y | _, _ => true) p1 p2 (by omega) (fun j h1 h2 => by
    obtain ⟨x, ex, rx⟩ := getD_some r1 h1
    obtain ⟨y, ey, ry⟩ := getD_some r2 h2
    have j1 : j < l.length := by omega
    have j2 : j < m.length := by omega
    have e1 : l[j]? = some l[j] := by simp [j1]
    have e2 : m[j]? = some m[j] := by simp [j2]
    rw [e1, e2]
    exact (RepD.at I (hr j _ _ e1 ex) (hr2 j _ _ e2 ey) (A := A.in1) (by show A.units + 1 + _ < cLine; have := Dt.dep_mem e1; omega) rx ry).2)
   rw [l1, l2, <- hl, <- hl2, Dt.beqs_all l m _ (fun j x y h1 h2 => by simp only [h1, h2])] at this
   simp only [Dt.beq]
   exact this
 | @lst a xs l h hl hr =>
  cases ru
  obtain ⟨its, r1, p1⟩ := isL I h
  cases h' with
  | int j => obtain ⟨t', rfl⟩ := rv; exact SeqAt.RcNeAt.list_int _ _ p1 (by omega)
  | str z' => obtain ⟨t', rfl⟩ := rv; exact SeqAt.RcNeAt.list_str _ _ p1 (by omega)
  | non => cases rv; exact SeqAt.RcNeAt.list_none p1 (by omega)
  | tup h2 => cases rv; obtain ⟨_, _, p2⟩ := isT I h2; exact SeqAt.RcNeAt.list_tuple p1 p2 (by omega)
  | @lst b ys m h2 hl2 hr2 =>
   cases rv
   obtain ⟨its2, r2, p2⟩ := isL I h2
   have l1 : its.toArray.size = xs.length := by rw [List.size_toArray]; exact r1.length.symm
   have l2 : its2.toArray.size = ys.length := by rw [List.size_toArray]; exact r2.length.symm
   have hd : Dt.dep (.lst l) = Dt.deps l + 1 := by simp only [Dt.dep]
   rw [hd] at hu
   simp only [Dt.beq]
   by_cases hlen : l.length = m.length
   ·have := SeqAt.RcNeAt.lists (A := A) (e := fun j => match l[j]?, m[j]? with | some x, some y => Dt.beq x y | _, _ => true) p1 p2 (by omega) (by omega) (fun j h1 h2 => by
     obtain ⟨x, ex, rx⟩ := getD_some r1 h1
     obtain ⟨y, ey, ry⟩ := getD_some r2 h2
     have j1 : j < l.length := by omega
     have j2 : j < m.length := by omega
     have e1 : l[j]? = some l[j] := by simp [j1]
     have e2 : m[j]? = some m[j] := by simp [j2]
     rw [e1, e2]
     exact (RepD.at I (hr j _ _ e1 ex) (hr2 j _ _ e2 ey) (A := A.in1) (by show A.units + 1 + _ < cLine; have := Dt.dep_mem e1; omega) rx ry).2)
    have q := Dt.beqs_all l m (fun j => match l[j]?, m[j]? with | some x, some y => Dt.beq x y | _, _ => true) (fun j x y h1 h2 => by simp only [h1, h2])
    rw [<- q]
    have q1 : (l.length == m.length) = true := by simpa using hlen
    have q2 : min l.length m.length = its.toArray.size := by omega
    rw [q1, Bool.and_true, q2]
    exact this
   ·have q : Dt.beqs l m = false := Bool.eq_false_iff.mpr fun e => hlen (congrArg List.length ((Dt.beqs_iff l m).mp e))
    rw [q]
    exact SeqAt.RcNeAt.lists_lengths p1 p2 (by rw [l1, l2]; simp; omega) (by omega)
theorem RepD.mem (I : Inv X pins σ H s) {d : Dt} {x : V} {l : List Dt} {xs : List V} {its : List Value} (hx : RepD X.K H d x) (hl : l.length = xs.length) (hr : ∀ (j : Nat) d x, l[j]? = some d -> xs[j]? = some x -> RepD X.K H d x)
  (r : Vals xs its) {A : Around} {v : Value} (hu : ∀ a ∈ l, A.units + Dt.dep a < cLine) (rv : RelV x v) :
  ∃ e : Value -> Bool, (∀ u ∈ its, SeqAt.EqAt A s u v (e u)) /\ its.any e = decide (d ∈ l) := by
 classical
 have item : ∀ u ∈ its, ∃ (j : Nat) (y : V) (a : Dt), its[j]? = some u /\ xs[j]? = some y /\ l[j]? = some a /\ RelV y u := fun u hm => by
  obtain ⟨j, hj, e⟩ := List.getElem_of_mem hm
  have hx' : j < xs.length := by rw [r.length]; exact hj
  have hl' : j < l.length := by omega
  obtain ⟨u', e', ru⟩ := r.get (i := j) (x := xs[j]) (by simp [hx'])
  have : its[j]? = some u := by simp [hj, e]
  rw [this] at e'; cases e'
  exact ⟨j, xs[j], l[j], this, by simp [hx'], by simp [hl'], ru⟩
 refine ⟨fun u => decide (∃ y, RelV y u /\ RepD X.K H d y), fun u hm => ?_, ?_⟩
 ·obtain ⟨j, y, a, _, hy, ha, ru⟩ := item u hm
  have ry := hr j a y ha hy
  have e : decide (∃ y, RelV y u /\ RepD X.K H d y) = Dt.beq a d := by
   rw [Dt.beq_dec]
   congr 1
   refine propext ⟨fun ⟨y', r1, r2⟩ => ?_, fun z => ⟨y, ru, z ▸ ry⟩⟩
   obtain rfl := ru.inj r1
   exact ry.inj I r2
  show SeqAt.EqAt A s u v (decide (∃ y, RelV y u /\ RepD X.K H d y))
  rw [e]
  exact (ry.at I hx (hu a (List.mem_of_getElem? ha)) ru rv).2
 ·apply Bool.eq_iff_iff.mpr
  simp only [List.any_eq_true, decide_eq_true_eq]
  constructor
  ·rintro ⟨u, hm, y', r1, r2⟩
   obtain ⟨j, y, a, _, hy, ha, ru⟩ := item u hm
   obtain rfl := ru.inj r1
   have := (hr j a y ha hy).inj I r2
   subst this
   exact List.mem_of_getElem? ha
  ·intro hm
   obtain ⟨j, hj, e⟩ := List.getElem_of_mem hm
   have hx' : j < xs.length := by omega
   obtain ⟨u, hu', ru⟩ := r.get (i := j) (x := xs[j]) (by simp [hx'])
   exact ⟨u, List.mem_of_getElem? hu', xs[j], ru, e ▸ hr j l[j] xs[j] (by simp [hj]) (by simp [hx'])⟩
end
section
variable {X : Cx} {K : W.Frag} {H : Hp} {Q : VK}
def rEqT (K : W.Frag) : R2 := fun x y H Q => ∃ d d', RepD K H d x /\ RepD K H d' y /\ Dt.dep d ≤ 60 /\ Q (.bl (decide (d = d'))) H
def rNeT (K : W.Frag) : R2 := fun x y H Q => ∃ d d', RepD K H d x /\ RepD K H d' y /\ Dt.dep d ≤ 60 /\ Q (.bl (!decide (d = d'))) H
theorem zkF (hu : X.A.units + 64 < cLine) : OpR X (compareOp .Eq) (rEqT X.K) := by
 intro pins s σ H x y v u Q I rx ry ⟨d, d', h, h', hd, q⟩
 exact (h.at I h' (A := X.A) (by omega) rx ry).1 X.prog X.w X.xe _ ⟨.bl _, H, I, rfl, by rw [Dt.beq_dec]; exact q⟩
theorem zkG (hu : X.A.units + 64 < cLine) : OpR X (compareOp .NotEq) (rNeT X.K) := by
 intro pins s σ H x y v u Q I rx ry ⟨d, d', h, h', hd, q⟩
 exact (h.ne I h' (A := X.A) (by omega) rx ry) X.prog X.w X.xe _ ⟨.bl _, H, I, rfl, by rw [Dt.beq_dec]; exact q⟩
def rInT (K : W.Frag) (neg : Bool) : R2 := fun x y H Q => ∃ d l, RepD K H d x /\ (RepD K H (.tup l) y \/ RepD K H (.lst l) y) /\ Dt.deps l ≤ 60 /\ Q (.bl (if neg then !decide (d ∈ l) else decide (d ∈ l))) H
theorem Dt.deps_mem {l : List Dt} {a : Dt} (h : a ∈ l) : Dt.dep a ≤ Dt.deps l := by
 obtain ⟨j, hj, e⟩ := List.getElem_of_mem h
 exact Dt.dep_mem (j := j) (by simp [hj, e])
theorem zmu (hu : X.A.units + 64 < cLine) : OpR X (compareOp .In) (rInT X.K false) := by
 intro pins s σ H x y v u Q I rx ry ⟨d, l, h, h', hd, q⟩
 rcases h' with h' | h'
 ·cases h' with
  | @tup a xs _ hq hl hr =>
   cases ry
   obtain ⟨its, r, p⟩ := isT I hq
   obtain ⟨e, he, ha⟩ := RepD.mem I h hl hr r (A := X.A.in1) (fun a hm => by show X.A.units + 1 + _ < cLine; have := Dt.deps_mem hm; omega) rx
   refine SeqAt.in_tupleAt e p (fun w hw => he w (by simpa using hw)) ⟨.bl _, H, I, rfl, ?_⟩
   rw [show its.toArray.any e = its.any e by simp, ha]
   exact q
 ·cases h' with
  | @lst a xs _ hq hl hr =>
   cases ry
   obtain ⟨its, r, p⟩ := isL I hq
   obtain ⟨e, he, ha⟩ := RepD.mem I h hl hr r (A := X.A.in1) (fun a hm => by show X.A.units + 1 + _ < cLine; have := Dt.deps_mem hm; omega) rx
   refine SeqAt.in_listAt e p (fun w hw => he w (by simpa using hw)) ⟨.bl _, H, I, rfl, ?_⟩
   rw [show its.toArray.any e = its.any e by simp, ha]
   exact q
theorem zg9 (hu : X.A.units + 64 < cLine) : OpR X (compareOp .NotIn) (rInT X.K true) := by
 intro pins s σ H x y v u Q I rx ry ⟨d, l, h, h', hd, q⟩
 rcases h' with h' | h'
 ·cases h' with
  | @tup a xs _ hq hl hr =>
   cases ry
   obtain ⟨its, r, p⟩ := isT I hq
   obtain ⟨e, he, ha⟩ := RepD.mem I h hl hr r (A := X.A.in1) (fun a hm => by show X.A.units + 1 + _ < cLine; have := Dt.deps_mem hm; omega) rx
   refine SeqAt.notIn_tupleAt e p (fun w hw => he w (by simpa using hw)) ⟨.bl _, H, I, rfl, ?_⟩
   rw [show its.toArray.any e = its.any e by simp, ha]
   exact q
 ·cases h' with
  | @lst a xs _ hq hl hr =>
   cases ry
   obtain ⟨its, r, p⟩ := isL I hq
   obtain ⟨e, he, ha⟩ := RepD.mem I h hl hr r (A := X.A.in1) (fun a hm => by show X.A.units + 1 + _ < cLine; have := Dt.deps_mem hm; omega) rx
   refine SeqAt.notIn_listAt e p (fun w hw => he w (by simpa using hw)) ⟨.bl _, H, I, rfl, ?_⟩
   rw [show its.toArray.any e = its.any e by simp, ha]
   exact q
end
end L2
namespace L2
open PySem PySem.Spec PyProof.Rows
theorem RepD.strs {K : W.Frag} {H : Hp} {a : Addr} {ts : List Str} (h : SqT K H a (ts.map V.str)) : RepD K H (.tup (ts.map Dt.str)) (.ref a) :=
 .tup h (by simp) fun j d x h1 h2 => by
  rw [List.getElem?_map] at h1 h2
  cases e : ts[j]? with
  | none => rw [e] at h1; cases h1
  | some t => rw [e] at h1 h2; cases h1; cases h2; exact .str t
theorem RepD.t1 {K : W.Frag} {H : Hp} {a : Addr} {x : V} {d : Dt} (h : SqT K H a [x]) (h1 : RepD K H d x) : RepD K H (.tup [d]) (.ref a) :=
 .tup h rfl fun j d' x' e1 e2 => match j, e1, e2 with | 0, e1, e2 => by cases e1; cases e2; exact h1
theorem RepD.t2 {K : W.Frag} {H : Hp} {a : Addr} {x y : V} {d d2 : Dt} (h : SqT K H a [x, y]) (h1 : RepD K H d x) (h2 : RepD K H d2 y) : RepD K H (.tup [d, d2]) (.ref a) :=
 .tup h rfl fun j d' x' e1 e2 => match j, e1, e2 with
  | 0, e1, e2 => by cases e1; cases e2; exact h1
  | 1, e1, e2 => by cases e1; cases e2; exact h2
theorem RepD.t3 {K : W.Frag} {H : Hp} {a : Addr} {x y z : V} {d d2 d3 : Dt} (h : SqT K H a [x, y, z]) (h1 : RepD K H d x) (h2 : RepD K H d2 y) (h3 : RepD K H d3 z) : RepD K H (.tup [d, d2, d3]) (.ref a) :=
 .tup h rfl fun j d' x' e1 e2 => match j, e1, e2 with
  | 0, e1, e2 => by cases e1; cases e2; exact h1
  | 1, e1, e2 => by cases e1; cases e2; exact h2
  | 2, e1, e2 => by cases e1; cases e2; exact h3
namespace Stm
def dt : Stm -> Dt
 | .is w ts => .tup [.str "is", .str w, .tup (ts.map .str)]
 | .fls => .tup [.str "false"]
 | .neg A => .tup [.str "not", A.dt]
 | .bi o A B => .tup [.str o.txt, A.dt, B.dt]
 | .qu q X A => .tup [.str (qtx q), .str X, A.dt]
theorem zeg : ∀ ts : List Str, Dt.deps (ts.map Dt.str) = 0
 | [] => rfl
 | t :: r => by simp [Dt.deps, Dt.dep, zeg r]
theorem dep_dt : ∀ S : Stm, Dt.dep S.dt ≤ S.deep + 1
 | .is w ts => by simp [dt, Dt.dep, Dt.deps, zeg, deep]
 | .fls => by simp [dt, Dt.dep, Dt.deps, deep]
 | .neg A => by have := dep_dt A; simp [dt, Dt.dep, Dt.deps, deep]; omega
 | .bi o A B => by have := dep_dt A; have := dep_dt B; simp [dt, Dt.dep, Dt.deps, deep]; omega
 | .qu q X A => by have := dep_dt A; simp [dt, Dt.dep, Dt.deps, deep]; omega
end Stm
theorem RepS.repD {K : W.Frag} {H : Hp} : ∀ {S : Stm} {v : V}, RepS K H S v -> RepD K H S.dt v
 | .is _ _, _, ⟨a, b, h1, h2, h3⟩ => by subst h1; exact .t3 h2 (.str _) (.str _) (.strs h3)
 | .fls, _, ⟨a, h1, h2⟩ => by subst h1; exact .t1 h2 (.str _)
 | .neg _, _, ⟨a, u, h1, h2, h3⟩ => by subst h1; exact .t2 h2 (.str _) (RepS.repD h3)
 | .bi _ _ _, _, ⟨a, u, u', h1, h2, h3, h4⟩ => by subst h1; exact .t3 h2 (.str _) (RepS.repD h3) (RepS.repD h4)
 | .qu _ _ _, _, ⟨a, u, h1, h2, h3⟩ => by subst h1; exact .t3 h2 (.str _) (.str _) (RepS.repD h3)
theorem Dt.strs_inj : ∀ {l m : List Str}, l.map Dt.str = m.map Dt.str -> l = m
 | [], [], _ => rfl
 | [], _ :: _, h => by simp at h
 | _ :: _, [], h => by simp at h
 | a :: l, b :: m, h => by
  simp only [List.map_cons, List.cons.injEq, Dt.str.injEq] at h
  rw [h.1, Dt.strs_inj h.2]
theorem Stm.dt_inj : ∀ {A B : Stm}, A.dt = B.dt -> A = B := by
 have ob : ∀ (o : Bi) , o.txt ≠ "is" /\ o.txt ≠ "all" /\ o.txt ≠ "some" := fun o => by cases o <;> refine ⟨?_, ?_, ?_⟩ <;> decide
 have oi : ∀ (o p : Bi), o.txt = p.txt -> o = p := fun o p => by cases o <;> cases p <;> decide
 have qi : ∀ (q r : Bool), qtx q = qtx r -> q = r := fun q r => by cases q <;> cases r <;> decide
 have qo : ∀ (q : Bool) (o : Bi), qtx q ≠ o.txt := fun q o => by cases q <;> cases o <;> decide
 have qs : ∀ (q : Bool), qtx q ≠ "is" := fun q => by cases q <;> decide
 have nt : (Str.ofString "false") ≠ (Str.ofString "not") := by decide
 intro A
 induction A with
 | is w ts =>
  intro B h
  cases B with
  | is w' ts' => simp only [dt, Dt.tup.injEq, List.cons.injEq, Dt.str.injEq] at h; obtain ⟨_, rfl, h, _⟩ := h; rw [Dt.strs_inj h]
  | bi o A B => simp only [dt, Dt.tup.injEq, List.cons.injEq, Dt.str.injEq] at h; exact absurd h.1.symm (ob o).1
  | qu q X A => simp only [dt, Dt.tup.injEq, List.cons.injEq, Dt.str.injEq] at h; exact absurd h.1.symm (qs q)
  | fls => simp [dt] at h
  | neg A => simp [dt] at h
 | fls =>
  intro B h
  cases B with
  | fls => rfl
  | _ => simp [dt] at h
 | neg A ih =>
  intro B h
  cases B with
  | neg B => simp only [dt, Dt.tup.injEq, List.cons.injEq, Dt.str.injEq] at h; rw [ih h.2.1]
  | _ => simp [dt] at h
 | bi o A B ihA ihB =>
  intro C h
  cases C with
  | bi p C D => simp only [dt, Dt.tup.injEq, List.cons.injEq, Dt.str.injEq] at h; rw [oi _ _ h.1, ihA h.2.1, ihB h.2.2.1]
  | is w ts => simp only [dt, Dt.tup.injEq, List.cons.injEq, Dt.str.injEq] at h; exact absurd h.1 (ob o).1
  | qu q X C => simp only [dt, Dt.tup.injEq, List.cons.injEq, Dt.str.injEq] at h; exact absurd h.1.symm (qo q o)
  | fls => simp [dt] at h
  | neg A => simp [dt] at h
 | qu q X A ih =>
  intro B h
  cases B with
  | qu r Y B => simp only [dt, Dt.tup.injEq, List.cons.injEq, Dt.str.injEq] at h; rw [qi _ _ h.1, h.2.1, ih h.2.2.1]
  | is w ts => simp only [dt, Dt.tup.injEq, List.cons.injEq, Dt.str.injEq] at h; exact absurd h.1 (qs q)
  | bi o A B => simp only [dt, Dt.tup.injEq, List.cons.injEq, Dt.str.injEq] at h; exact absurd h.1 (qo q o)
  | fls => simp [dt] at h
  | neg A => simp [dt] at h
theorem Stm.dt_dec (A B : Stm) : decide (A.dt = B.dt) = decide (A = B) := by
 by_cases h : A = B
 ·subst h; simp
 ·rw [decide_eq_false h, decide_eq_false fun e => h (Stm.dt_inj e)]
section
variable {X : Cx}
def rEqC (K : W.Frag) : R2 := fun x y H Q => rEq x y H Q \/ rEqT K x y H Q
def rNeC (K : W.Frag) : R2 := fun x y H Q => rNe x y H Q \/ rNeT K x y H Q
def rInC (K : W.Frag) (neg : Bool) : R2 := fun x y H Q => rInA K neg x y H Q \/ rInT K neg x y H Q
theorem zbd (K : W.Frag) (hu : X.A.units + 64 < cLine) (hK : X.K = K := by rfl) : OpR X (compareOp .Eq) (rEqC K) := hK ▸ (OpR.or zjP (zkF hu) : OpR X (compareOp .Eq) (rEqC X.K))
theorem zim (K : W.Frag) (hu : X.A.units + 64 < cLine) (hK : X.K = K := by rfl) : OpR X (compareOp .NotEq) (rNeC K) := hK ▸ (OpR.or zjQ (zkG hu) : OpR X (compareOp .NotEq) (rNeC X.K))
theorem zgA (K : W.Frag) (hu : X.A.units + 64 < cLine) (hK : X.K = K := by rfl) : OpR X (compareOp .NotIn) (rInC K true) := hK ▸ (OpR.or (zbL X.K) (zg9 hu) : OpR X (compareOp .NotIn) (rInC X.K true))
end
end L2
namespace L2
open PySem PySem.Spec PyProof.Rows
section
variable {K : W.Frag} {H : Hp} {Q : VK} {i j : Int} {x y : Str} {p q : Addr} {u : V} {neg : Bool}
theorem RepD.of_int {d : Dt} (h : RepD K H d (.int i)) : d = .int i := by cases h; rfl
theorem RepD.of_str {d : Dt} (h : RepD K H d (.str x)) : d = .str x := by cases h; rfl
theorem zkH : rEqC K (.int i) (.int j) H Q = Q (.bl (decide (i = j))) H := by
 refine propext ⟨fun h => ?_, fun h => .inl ⟨rfl, by simpa using h⟩⟩
 rcases h with ⟨_, h⟩ | ⟨d, d', h1, h2, _, h⟩
 ·simpa using h
 ·rw [h1.of_int, h2.of_int] at h; simpa using h
theorem zkI : rEqC K (.str x) (.str y) H Q = Q (.bl (decide (x = y))) H := by
 refine propext ⟨fun h => ?_, fun h => .inl ⟨rfl, by simpa using h⟩⟩
 rcases h with ⟨_, h⟩ | ⟨d, d', h1, h2, _, h⟩
 ·simpa using h
 ·rw [h1.of_str, h2.of_str] at h; simpa using h
theorem zkJ : rNeC K (.int i) (.int j) H Q = Q (.bl (!decide (i = j))) H := by
 refine propext ⟨fun h => ?_, fun h => .inl ⟨rfl, by simpa using h⟩⟩
 rcases h with ⟨_, h⟩ | ⟨d, d', h1, h2, _, h⟩
 ·simpa using h
 ·rw [h1.of_int, h2.of_int] at h; simpa using h
theorem zkK : rNeC K (.str x) (.str y) H Q = Q (.bl (!decide (x = y))) H := by
 refine propext ⟨fun h => ?_, fun h => .inl ⟨rfl, by simpa using h⟩⟩
 rcases h with ⟨_, h⟩ | ⟨d, d', h1, h2, _, h⟩
 ·simpa using h
 ·rw [h1.of_str, h2.of_str] at h; simpa using h
theorem zkL : rEqC K (.ref p) u H Q = ∃ d d', RepD K H d (.ref p) /\ RepD K H d' u /\ Dt.dep d ≤ 60 /\ Q (.bl (decide (d = d'))) H := by
 refine propext ⟨fun h => ?_, fun h => .inr h⟩
 rcases h with ⟨e, _⟩ | h
 ·cases u <;> cases e
 ·exact h
theorem zkM : rEqC K u (.ref p) H Q = ∃ d d', RepD K H d u /\ RepD K H d' (.ref p) /\ Dt.dep d ≤ 60 /\ Q (.bl (decide (d = d'))) H := by
 refine propext ⟨fun h => ?_, fun h => .inr h⟩
 rcases h with ⟨e, _⟩ | h
 ·cases u <;> cases e
 ·exact h
theorem zkN : rNeC K (.ref p) u H Q = ∃ d d', RepD K H d (.ref p) /\ RepD K H d' u /\ Dt.dep d ≤ 60 /\ Q (.bl (!decide (d = d'))) H := by
 refine propext ⟨fun h => ?_, fun h => .inr h⟩
 rcases h with ⟨e, _⟩ | h
 ·cases u <;> cases e
 ·exact h
theorem zkO : rNeC K u (.ref p) H Q = ∃ d d', RepD K H d u /\ RepD K H d' (.ref p) /\ Dt.dep d ≤ 60 /\ Q (.bl (!decide (d = d'))) H := by
 refine propext ⟨fun h => ?_, fun h => .inr h⟩
 rcases h with ⟨e, _⟩ | h
 ·cases u <;> cases e
 ·exact h
theorem zkP : rInC K false (.str x) (.str y) H Q = Q (.bl (inS x y)) H := by
 refine propext ⟨fun h => ?_, fun h => .inl (.inl ⟨x, y, rfl, rfl, h⟩)⟩
 rcases h with (⟨_, _, e1, e2, h⟩ | ⟨_, _, e, _⟩) | ⟨_, _, _, h, _⟩
 ·cases e1; cases e2; exact h
 ·cases e
 ·rcases h with h | h <;> cases h
theorem zgB : rInC K true (.str x) (.str y) H Q = Q (.bl (!inS x y)) H := by
 refine propext ⟨fun h => ?_, fun h => .inl (.inl ⟨x, y, rfl, rfl, h⟩)⟩
 rcases h with (⟨_, _, e1, e2, h⟩ | ⟨_, _, e, _⟩) | ⟨_, _, _, h, _⟩
 ·cases e1; cases e2; exact h
 ·cases e
 ·rcases h with h | h <;> cases h
theorem zkQ : rInC K neg u (.ref p) H Q = (rIn K neg u (.ref p) H Q \/ rInT K neg u (.ref p) H Q) := by
 refine propext ⟨fun h => ?_, fun h => ?_⟩
 ·rcases h with (⟨_, _, _, e2, _⟩ | h) | h
  ·cases e2
  ·exact .inl h
  ·exact .inr h
 ·rcases h with h | h
  ·exact .inl (.inr h)
  ·exact .inr h
end
end L2
namespace L2
open PySem PySem.Spec PyProof.Rows
open PySem.Builtin PySem.Builtin.Str
section
variable {X : Cx}
def rIs (f : Str -> Bool) : V -> List V -> Hp -> VK -> Prop := fun x vs H Q => ∃ z, x = .str z /\ vs = [] /\ Q (.bl (f z)) H
def rIs2 (f : Str -> Str -> Bool) : V -> List V -> Hp -> VK -> Prop := fun x vs H Q => ∃ z y, x = .str z /\ vs = [.str y] /\ Q (.bl (f z y)) H
def zkR : V -> List V -> Hp -> VK -> Prop := fun x vs H Q => ∃ z, x = .str z /\ vs = [] /\ z.length ≤ sizeLine /\ Q (.str (Txt.strip z)) H
def zkS : V -> List V -> Hp -> VK -> Prop := fun x vs H Q => ∃ z y, x = .str z /\ vs = [.str y] /\ y ≠ Str.empty /\ z.length ≤ 1000000 /\ ∀ p, H p = none -> Q (.ref p) (upd H p (.lst ((Txt.split z y).map V.str)))
def zin (z : Str) (n : Nat) : Str := ⟨(List.replicate n z.cps).foldl (· ++ ·) #[]⟩
def zlQ : R2 := fun x y H Q => ∃ z n, x = .str z /\ y = .int n /\ n < 1000 /\ -1000 < n /\ z.length ≤ 1000 /\ Q (.str (zin z n.toNat)) H
end
section
variable {K : W.Frag} {H : Hp} {Q : VK} {x y : Str} {f : Str -> Bool} {g : Str -> Str -> Bool}
theorem zkT {n : Int} : zlQ (.str x) (.int n) H Q = (n < 1000 /\ -1000 < n /\ x.length ≤ 1000 /\ Q (.str (zin x n.toNat)) H) := propext ⟨fun ⟨_, _, e, e', h⟩ => by cases e; cases e'; exact h, fun h => ⟨x, n, rfl, rfl, h⟩⟩
theorem w_is : rIs f (.str x) [] H Q = Q (.bl (f x)) H := propext ⟨fun ⟨_, e, _, h⟩ => by cases e; exact h, fun h => ⟨x, rfl, rfl, h⟩⟩
theorem zlR : rIs2 g (.str x) [.str y] H Q = Q (.bl (g x y)) H := propext ⟨fun ⟨_, _, e, e', h⟩ => by cases e; cases e'; exact h, fun h => ⟨x, y, rfl, rfl, h⟩⟩
theorem ziS : zkR (.str x) [] H Q = (x.length ≤ sizeLine /\ Q (.str (Txt.strip x)) H) := propext ⟨fun ⟨_, e, _, h⟩ => by cases e; exact h, fun h => ⟨x, rfl, rfl, h⟩⟩
theorem ziT : zkS (.str x) [.str y] H Q = (y ≠ Str.empty /\ x.length ≤ 1000000 /\ ∀ p, H p = none -> Q (.ref p) (upd H p (.lst ((Txt.split x y).map V.str)))) := propext ⟨fun ⟨_, _, e, e', h⟩ => by cases e; cases e'; exact h, fun h => ⟨x, y, rfl, rfl, h⟩⟩
end
end L2
namespace L2
open PySem PySem.Spec PyProof.Rows
section
variable {X : Cx} {o : Expr} {name : Str} {to : TE} {T iid : String} {r : V -> List V -> Hp -> VK -> Prop} {apos cpos : Pos}
end
end L2
namespace L2
open PySem PySem.Spec PyProof.Rows
section
variable {X : Cx}
def rAny (K : W.Frag) : List V -> Hp -> VK -> Prop := fun xs H Q => ∃ (p : Addr) (bs : List Bool), xs = [.ref p] /\ SqL K H p (bs.map V.bl) /\ Q (.bl (bs.any id)) H
theorem zlS {K : W.Frag} {p : Addr} {H : Hp} {Q : VK} : rAny K [.ref p] H Q = ∃ bs : List Bool, SqL K H p (bs.map V.bl) /\ Q (.bl (bs.any id)) H := by
 refine propext ⟨fun ⟨_, bs, e, h⟩ => ?_, fun ⟨bs, h⟩ => ⟨p, bs, rfl, h⟩⟩
 cases e; exact ⟨bs, h⟩
def rSum (K : W.Frag) : List V -> Hp -> VK -> Prop := fun xs H Q => ∃ (p : Addr) (ns : List Int), xs = [.ref p] /\ SqL K H p (ns.map V.int) /\ Q (.int ns.sum) H
theorem zlT {K : W.Frag} {p : Addr} {H : Hp} {Q : VK} : rSum K [.ref p] H Q = ∃ ns : List Int, SqL K H p (ns.map V.int) /\ Q (.int ns.sum) H := by
 refine propext ⟨fun ⟨_, bs, e, h⟩ => ?_, fun ⟨bs, h⟩ => ⟨p, bs, rfl, h⟩⟩
 cases e; exact ⟨bs, h⟩
end
end L2
namespace L2
open PySem PySem.Spec PyProof.Rows
section
variable {K : W.Frag} {σ : St} {H : Hp} {Q : VK} {D : Ends} {ta tb tc te : TE} {r r' : R2} {i n : Nat} {ti : TIp} {g : TG} {gs : TGs} {v : V} {vs : List V} {R : St -> Hp -> Prop} {f : Int -> Int -> Int} {a b : Int}
theorem ziU : zic r r' ta tb tc σ H Q = ta σ H fun x H1 => tb σ H1 fun y H2 => r x y H2 fun z H3 => ∃ k, z = .bl k /\ (if k = true then tc σ H3 fun w' H4 => r' y w' H4 Q else Q (.bl false) H3) := rfl
theorem zlU : ipI f (.int a) (.int b) H Q = Q (.int (f a b)) H := propext ⟨fun ⟨_, _, e, e', h⟩ => by cases e; cases e'; exact h, fun h => ⟨a, b, rfl, rfl, h⟩⟩
theorem zio {p : Addr} : gTup K n gs (.ref p) σ H R = ∃ xs, SqT K H p xs /\ xs.length = n /\ gs xs σ H R := propext ⟨fun ⟨_, xs, e, h⟩ => by cases e; exact ⟨xs, h⟩, fun ⟨xs, h⟩ => ⟨p, xs, rfl, h⟩⟩
theorem ziV : zfh g gs (v :: vs) σ H R = g v σ H fun σ' H' => gs vs σ' H' R := propext ⟨fun ⟨_, _, e, h⟩ => by cases e; exact h, fun h => ⟨v, vs, rfl, h⟩⟩
theorem zkU : gNil [] σ H R = R σ H := propext ⟨fun h => h.2, fun h => ⟨rfl, h⟩⟩
end
end L2
namespace L2
open PySem PySem.Spec PyProof.Rows
section
variable {X : Cx} {pins : List (Addr × Obj)} {σ : St} {H : Hp} {s : Shared}
end
end L2
namespace L2
open PySem PySem.Spec PyProof.Rows
section
variable {X : Cx}
end
end L2
namespace L2
open PySem PySem.Spec PyProof.Rows
section
variable {X : Cx} {e : Expr} {es : List Expr} {st : Stmt} {rest : List Stmt} {te : TE} {ta : TA} {t u : TS} {pos : Pos}
end
structure zmz (P : Program) (w : World) (K : W.Frag) (mg : Str -> Option Value) (base : Heap) (CX : CXT) (k : Nat) (f : Addr) (fd : FuncData) (ps : List Str) (sp : Sp) : Prop where
 len : ∀ vs H Q E, sp vs H Q E -> vs.length = ps.length
 run : ∀ (A : Around) (outer : List Env) (s : Shared) (H : Hp) (args : Args) (us : List Value) (vs : List V) (Q : VK) (E : XK), 1 ≤ s.toks -> Room k A -> Env0 P w K mg base A outer s H -> BindsTo s fd args (ps.zip us) -> Vals vs us -> sp vs H Q E ->
  codeAny (model P w) A (.call (.ref f) args) (CR CX outer P w H s Q E) s
section
variable {X : Cx} {CX : CXT} {k : Nat} {f C : Addr} {fd : FuncData} {ps : List Str} {sp : Sp} {dvs : List V} {ds : List Value} {E : XK} {x : Str} {p pos : Pos} {e : Expr} {es : List Expr} {t : TA}
end
end L2
namespace L2
open PySem PySem.Spec PyProof.Rows
section
variable {X : Cx} {CX : CXT} {k : Nat} {f C : Addr} {fd : FuncData} {ps : List Str} {sp : Sp} {dvs : List V} {ds : List Value} {E : XK} {x : Str} {p pos : Pos} {e : Expr} {es : List Expr} {te : TE} {t : TA} {tt u : TS} {st : Stmt} {rest : List Stmt}
end
end L2
namespace L2
open PySem PySem.Spec PyProof.Rows
end L2
namespace L2
open PySem PySem.Spec PyProof.Rows
def sgn (c : Nat) : Prop := c = 40 \/ c = 41 \/ c = 44
instance (c : Nat) : Decidable (sgn c) := by unfold sgn; infer_instance
end L2
namespace HT
open PySem PyProof.Rows
section
variable {prog : Program} {w : World} {A : Around} {E : Value -> Shared -> Prop} {s : Shared}
theorem getItem_tuple_whole {t sl : Addr} {items : Array Value} {vl vu : Value} {lo hi : Option Int} {Q : Value -> Shared -> Prop} (ht : IsTup s.heap t items) (hs : s.heap.IsSliceOf sl vl vu .none) (pl : IsPart vl lo) (pu : IsPart vu hi)
  (hw : sIx items.size 0 lo = 0 /\ sIx items.size items.size hi = items.size) (h : Q (.ref t) s) : wpAny (model prog w) A (getItem (.ref t) (.ref sl)) Q E s := by
 obtain ⟨os, hos, hcs, hds⟩ := id hs
 have hTs : s.TypeIs (.ref sl) "slice" := ⟨os, hos, hcs⟩
 unfold getItem
 try with_reducible refine wpAny_holding ?_
 first | refine wpAny_bind (wpAny_pure ?_) | skip
 refine wpAny_bind (wpAny_sequenceKey ht.typeIs (by decide) ?_)
 refine wpAny_bind (wpAny_callSpecial?_slot (name := Str.ofString "__getitem__") ht.typeIs PyProof.Rows.slot_tuple_getitem
  (wpAny_call_entry PyProof.Rows.slot_tuple_getitem ht.typeIs entry_tuple_getitem ?_ (args_tuple_getitem _ _)))
 show wpAny _ _ (Builtin.Tuple.tupleItemsOf (.ref t) >>= _) _ _ s
 refine wpAny_bind (tupleItemsOf_ ht ?_)
 refine wpAny_bind (wpAny_typeOf hTs ?_)
 rw [if_pos (by decide)]
 refine wpAny_bind (zbH hs pl pu ?_)
 show wpAny _ _ (if (((sIx items.size 0 lo : Nat) : Int) == 0 && (1 : Int) == 1 && (sIx items.size items.size hi - sIx items.size 0 lo) == items.size) = true then _ else _) _ _ s
 rw [hw.1, hw.2, if_pos (by simp)]
 refine wpAny_bind (m := Builtin.Tuple.tupleIsExact _) (wpAny_bind (wpAny_typeOf ht.typeIs (wpAny_pure ?_)))
 rw [if_pos (by decide)]
 exact wpAny_bind (wpAny_rule (wpAny_pure ⟨_, rfl, wpAny_pure h⟩))
theorem cat_tup0 {t b : Addr} {vs ws : List Value} {Q : Value -> Shared -> Prop} (ht : IsTup s.heap t vs.toArray) (hb : IsTup s.heap b ws.toArray) (hv : vs = [])
  (h1 : Q (.ref b) s) : wpAny (model prog w) A (binaryOp .Add (.ref t) (.ref b)) Q E s := by
 obtain ⟨⟨cls, dd, data, sl⟩, ho, hc, n, hd⟩ := id ht
 obtain ⟨⟨cls2, dd2, data2, sl2⟩, ho2, hc2, n2, hd2⟩ := id hb
 simp only at hc hd hc2 hd2
 subst hc hd hc2 hd2
 exact concat_meets ⟨_, ho, rfl⟩ ⟨_, ho2, rfl⟩ noFill_tuple_add seq_tuple_add PySem.F.slot_tuple_add PySem.F.entry_tuple_add (PySem.F.args_tuple_add_2 _ _)
   (tuple_addW0 t b vs.toArray ws.toArray n n2 dd dd2 sl sl2 (by simp [hv])) ⟨ho, ho2, h1⟩
end
end HT
namespace L2
open PySem PySem.Spec PyProof.Rows
section
variable {X : Cx}
def zkV (K : W.Frag) : V -> Option Int -> Option Int -> Hp -> VK -> Prop := fun x lo hi H Q => ∃ a xs, x = .ref a /\ SqT K H a xs /\ ∀ q H', Same H H' -> SqT K H' q (cutV xs lo hi) -> Q (.ref q) H'
theorem ziW : SlR X (zkV X.K) := by
 intro pins s σ H x v vl vu lo hi sl Q I rx hs pl pu h
 obtain ⟨a, xs, rfl, hx, q⟩ := h
 by_cases hw : HT.sIx xs.length 0 lo = 0 /\ HT.sIx xs.length xs.length hi = xs.length
 ·cases rx
  obtain ⟨its, r, ht, hz⟩ := I.tuple hx
  have hlen : its.toArray.size = xs.length := by rw [List.size_toArray]; exact r.length.symm
  refine ⟨"tuple", _, PyProof.Rows.slot_tuple_getitem.lookup, ht.typeIs, ?_⟩
  refine HT.getItem_tuple_whole ht hs pl pu (by rw [hlen]; exact hw) ⟨.ref a, H, I, rfl, q a H (Same.refl H) ?_⟩
  have e : cutV xs lo hi = xs := by unfold cutV; rw [hw.1, hw.2]; simp
  rw [e]; exact hx
 ·exact zid pins s σ H _ v vl vu lo hi sl Q I rx hs pl pu ⟨a, xs, rfl, hx, hw, fun p hp => q p _ (zab hp _) (SqT.of zac)⟩
def rSlB (K : W.Frag) : V -> Option Int -> Option Int -> Hp -> VK -> Prop := fun x lo hi H Q => rSlS x lo hi H Q \/ (rSlL K x lo hi H Q \/ zkV K x lo hi H Q)
theorem slB (K : W.Frag) (hK : X.K = K := by rfl) : SlR X (rSlB K) := hK ▸ (SlR.or zih (SlR.or zgc ziW) : SlR X (rSlB X.K))
def ziq (K : W.Frag) : R2 := fun x y H Q => ∃ a b xs ys, x = .ref a /\ y = .ref b /\ SqT K H a xs /\ SqT K H b ys /\ xs.length + ys.length ≤ sizeLine /\ ∀ q H', Same H H' -> SqT K H' q (xs ++ ys) -> Q (.ref q) H'
theorem zh8 : OpR X (binaryOp .Add) (ziq X.K) := by
 intro pins s σ H x y v u Q I rx ry h
 obtain ⟨a, b, xs, ys, rfl, rfl, ha, hb, hz, q⟩ := h
 by_cases hx : xs = []
 ·subst hx
  cases rx; cases ry
  obtain ⟨its, r1, p1, _⟩ := I.tuple ha
  obtain ⟨its2, r2, p2, _⟩ := I.tuple hb
  exact HT.cat_tup0 p1 p2 (r1.nil_iff.mpr rfl) ⟨.ref b, H, I, rfl, q b H (Same.refl H) hb⟩
 ·exact zga pins s σ H _ _ v u Q I rx ry ⟨a, b, xs, ys, rfl, rfl, ha, hb, hx, hz, fun e => q a H (Same.refl H) (by subst e; rw [List.append_nil]; exact ha), fun _ p hp => q p _ (zab hp _) (SqT.of zac)⟩
def zgC (K : W.Frag) : R2 := fun x y H Q => rI0 (fun i j => .int (i + j)) x y H Q \/ (zkf x y H Q \/ (rCat x y H Q \/ ziq K x y H Q))
theorem za5 (K : W.Frag) (hK : X.K = K := by rfl) : OpR X (binaryOp .Add) (zgC K) := hK ▸ (OpR.or zib (OpR.or zde (OpR.or zig zh8)) : OpR X (binaryOp .Add) (zgC X.K))
end
section
variable {K : W.Frag} {σ : St} {H : Hp} {Q : VK} {D : Ends} {p q : Addr} {x y : Str} {i j : Int} {lo hi : Option Int} {a b : Bool} {tc : TT} {tb : TS} {ta : TA} {te : TE} {R : It -> Hp -> Prop}
theorem zkW : rSlB K (.str x) lo hi H Q = (x.length ≤ sizeLine /\ Q (.str (Txt.slice x lo hi)) H) := by
 refine propext ⟨fun h => ?_, fun ⟨h, k⟩ => .inl ⟨x, rfl, h, k⟩⟩
 rcases h with ⟨_, e, h⟩ | ⟨_, _, e, _⟩ | ⟨_, _, e, _⟩
 ·cases e; exact h
 ·cases e
 ·cases e
theorem zkX : rSlB K (.ref p) lo hi H Q = ∃ xs, (SqL K H p xs /\ ∀ q, H q = none -> Q (.ref q) (upd H q (.lst (cutV xs lo hi)))) \/
  (SqT K H p xs /\ ∀ q H', Same H H' -> SqT K H' q (cutV xs lo hi) -> Q (.ref q) H') := by
 refine propext ⟨fun h => ?_, fun ⟨xs, h⟩ => ?_⟩
 ·rcases h with ⟨_, e, _⟩ | ⟨_, xs, e, h⟩ | ⟨_, xs, e, h⟩
  ·cases e
  ·cases e; exact ⟨xs, .inl h⟩
  ·cases e; exact ⟨xs, .inr h⟩
 ·rcases h with h | h
  ·exact .inr (.inl ⟨p, xs, rfl, h⟩)
  ·exact .inr (.inr ⟨p, xs, rfl, h⟩)
theorem zd4 : zgC K (.int i) (.int j) H Q = Q (.int (i + j)) H := by
 refine propext ⟨fun h => ?_, fun h => .inl ⟨i, j, rfl, rfl, h⟩⟩
 rcases h with ⟨_, _, e1, e2, h⟩ | ⟨_, _, e, _⟩ | ⟨_, _, _, _, e, _⟩ | ⟨_, _, _, _, e, _⟩
 ·cases e1; cases e2; exact h
 ·cases e
 ·cases e
 ·cases e
theorem ziX : zgC K (.str x) (.str y) H Q = (x.length + y.length ≤ sizeLine /\ Q (.str (x ++ y)) H) := by
 refine propext ⟨fun h => ?_, fun ⟨h, k⟩ => .inr (.inl ⟨x, y, rfl, rfl, h, k⟩)⟩
 rcases h with ⟨_, _, e, _⟩ | ⟨_, _, e1, e2, h⟩ | ⟨_, _, _, _, e, _⟩ | ⟨_, _, _, _, e, _⟩
 ·cases e
 ·cases e1; cases e2; exact h
 ·cases e
 ·cases e
theorem ziY : zgC K (.ref p) (.ref q) H Q = ∃ xs zs, (H p = some (.lst xs) /\ H q = some (.lst zs) /\ xs.length + zs.length ≤ sizeLine /\ ∀ r, H r = none -> Q (.ref r) (upd H r (.lst (xs ++ zs)))) \/
  (SqT K H p xs /\ SqT K H q zs /\ xs.length + zs.length ≤ sizeLine /\ ∀ r H', Same H H' -> SqT K H' r (xs ++ zs) -> Q (.ref r) H') := by
 refine propext ⟨fun h => ?_, fun ⟨xs, zs, h⟩ => ?_⟩
 ·rcases h with ⟨_, _, e, _⟩ | ⟨_, _, e, _⟩ | ⟨_, _, xs, zs, e1, e2, h⟩ | ⟨_, _, xs, zs, e1, e2, h⟩
  ·cases e
  ·cases e
  ·cases e1; cases e2; exact ⟨xs, zs, .inl h⟩
  ·cases e1; cases e2; exact ⟨xs, zs, .inr h⟩
 ·rcases h with h | h
  ·exact .inr (.inr (.inl ⟨p, q, xs, zs, rfl, rfl, h⟩))
  ·exact .inr (.inr (.inr ⟨p, q, xs, zs, rfl, rfl, h⟩))
theorem zgD {T : String} : zcc K T [.bl a, .ty T] H Q = ∃ c, W.kitOne K (.type "bool") (.type T) = some c /\ Q (.bl c) H := by
 refine propext ⟨fun ⟨_, _, b, e, t, h⟩ => ?_, fun ⟨b, h⟩ => ⟨_, _, b, rfl, .of (.bl a), h⟩⟩
 cases e
 rcases t with t | t | t
 cases t; exact ⟨b, h⟩
theorem zeW : rEq (.bl a) (.bl b) H Q = Q (.bl (decide (a = b))) H := by
 refine propext ⟨fun ⟨_, h⟩ => ?_, fun h => ⟨rfl, ?_⟩⟩
 ·rw [zdb] at h; exact h
 ·rw [zdb]; exact h
theorem zgE : rNe (.bl a) (.bl b) H Q = Q (.bl (!decide (a = b))) H := by
 refine propext ⟨fun ⟨_, h⟩ => ?_, fun h => ⟨rfl, ?_⟩⟩
 ·rw [zdb] at h; exact h
 ·rw [zdb]; exact h
theorem ziZ : rEqB K (.bl a) (.bl b) H Q = Q (.bl (decide (a = b))) H := by
 refine propext ⟨fun h => ?_, fun h => .inl (zeW ▸ h)⟩
 rcases h with h | ⟨d, b, hd, h, _⟩
 ·rw [zeW] at h; exact h
 ·rcases h with h | h <;> cases h
theorem zja : rEqC K (.bl a) (.bl b) H Q = Q (.bl (decide (a = b))) H := by
 refine propext ⟨fun h => ?_, fun h => .inl (zeW ▸ h)⟩
 rcases h with h | ⟨d, d', h, _⟩
 ·rw [zeW] at h; exact h
 ·cases h
theorem zjb : rNeC K (.bl a) (.bl b) H Q = Q (.bl (!decide (a = b))) H := by
 refine propext ⟨fun h => ?_, fun h => .inl (zgE ▸ h)⟩
 rcases h with h | ⟨d, d', h, _⟩
 ·rw [zgE] at h; exact h
 ·cases h
theorem zjc : zhY D σ H = D.bk σ H := rfl
theorem zlV : tIsN te σ H Q = te σ H fun x H1 => Q (.bl (decide (x = .non))) H1 := rfl
theorem zjd : zia tc tb D σ H = ∃ W : Nat -> St -> Hp -> Prop, (∃ m, W m σ H) /\ ∀ m σ H, W m σ H ->
 tc σ H fun b H1 => if b = true then ∃ N : St -> Hp -> Prop, (∀ σ' H', N σ' H' -> ∃ m', m' < m /\ W m' σ' H') /\ tb { D with nx := N, ct := N, bk := D.nx } σ H1 else D.nx σ H1 := rfl
theorem zlW : rLtA (.str x) (.str y) H Q = Q (.bl (decide (x.cps.toList < y.cps.toList))) H := by
 refine propext ⟨fun h => ?_, fun h => .inr ⟨x, y, rfl, rfl, h⟩⟩
 rcases h with ⟨_, _, e, _⟩ | ⟨_, _, e1, e2, h⟩
 ·cases e
 ·cases e1; cases e2; exact h
theorem zeh (xs : List V) (n : Nat) : cutV xs none (some (n : Int)) = xs.take n := by
 unfold cutV
 rw [HT.sIx_none, HT.sIx_nat, List.drop_zero, Nat.sub_zero]
 by_cases h : n ≤ xs.length
 ·rw [Nat.min_eq_left h]
 ·rw [Nat.min_eq_right (by omega), List.take_of_length_le (Nat.le_refl _), List.take_of_length_le (by omega)]
theorem SqT.keepL {xs ys zs : List V} (h : SqT K H q xs) (hp : H p = some (.lst ys)) : SqT K (upd H p (.lst zs)) q xs := by
 rcases h with (h | ⟨o, h⟩) | h
 ·exact .inl (.inl (by rw [za8]; exact h; rintro rfl; rw [hp] at h; cases h))
 ·exact .inl (.inr ⟨o, by rw [za8]; exact h; rintro rfl; rw [hp] at h; cases h⟩)
 ·exact .inr h
end
end L2
namespace L2
open PySem PySem.Spec PyProof.Rows
def opn (r : Str) : Bool := inV (.str r) [V.str "guess", V.str "new", V.str "case"]
def o1 (r : Str) : Nat := if opn r = true then 1 else 0
def nxt (k : Nat) (r : Str) (l : Nat) (p : List Nat) : List Nat := if opn r = true then p.take (l - 1) ++ [k] else p.take l
def pathAt (rs : List Str) (g : Nat -> Nat) : Nat -> List Nat
 | 0 => []
 | i + 1 => nxt i (rs.getD i "") (g i) (pathAt rs g i)
def iv (p : List Nat) : List V := p.map fun n : Nat => V.int n
theorem zeX (p : List Nat) : (iv p).length = p.length := by simp [iv]
theorem zd5 (p : List Nat) (n : Nat) : (iv p).take n = iv (p.take n) := by simp [iv, List.map_take]
def idt (p : List Nat) : Dt := .tup (p.map fun n : Nat => Dt.int n)
theorem zeY : ∀ {p q : List Nat}, (p.map fun n : Nat => Dt.int n) = (q.map fun n : Nat => Dt.int n) -> p = q
 | [], [], _ => rfl
 | [], b :: q, h => by simp at h
 | a :: p, [], h => by simp at h
 | a :: p, b :: q, h => by
  simp only [List.map_cons, List.cons.injEq, Dt.int.injEq] at h
  rw [zeY h.2, show a = b from by have := h.1; omega]
theorem zje {p q : List Nat} (h : idt p = idt q) : p = q := zeY (Dt.tup.inj h)
theorem zjf (p q : List Nat) : decide (idt p = idt q) = decide (p = q) := by
 by_cases h : p = q
 ·subst h; simp
 ·rw [decide_eq_false h, decide_eq_false (fun z => h (zje z))]
theorem zjg (p : List Nat) : Dt.dep (idt p) ≤ 60 := by
 have : Dt.deps (p.map fun n : Nat => Dt.int n) = 0 := by
  induction p with
  | nil => rfl
  | cons a p ih => show max (Dt.dep (.int a)) (Dt.deps (p.map fun n : Nat => Dt.int n)) = 0; rw [ih]; rfl
 show Dt.deps (p.map fun n : Nat => Dt.int n) + 1 ≤ 60
 omega
section
variable {K : W.Frag} {H H' : Hp} {a q p : Addr} {us : List V} {f : Nat -> List Nat}
theorem zgF {l : List Nat} (h : SqT K H a (iv l)) : RepD K H (idt l) (.ref a) :=
 .tup h (by simp [iv]) fun j d x h1 h2 => by
  unfold iv at h2
  rw [List.getElem?_map] at h1 h2
  cases e : l[j]? with
  | none => rw [e] at h1; cases h1
  | some t => rw [e] at h1 h2; cases h1; cases h2; exact .int t
def RepPs (K : W.Frag) (H : Hp) (f : Nat -> List Nat) (us : List V) : Prop := ∀ i v, us[i]? = some v -> ∃ a, v = .ref a /\ SqT K H a (iv (f i))
theorem RepPs.same (e : Same H H') (h : RepPs K H f us) : RepPs K H' f us := fun i v hv => let ⟨a, e1, h1⟩ := h i v hv; ⟨a, e1, e.seqT h1⟩
theorem RepPs.nil : RepPs K H f [] := fun i v hv => by simp at hv
theorem RepPs.snoc (h : RepPs K H f us) (h1 : SqT K H a (iv (f us.length))) : RepPs K H f (us ++ [.ref a]) := fun i v hv => by
 rw [List.getElem?_append] at hv
 split at hv
 ·exact h i v hv
 ·next hi =>
  have e : i = us.length := by
   have := List.getElem?_eq_some_iff.mp hv
   obtain ⟨z, _⟩ := this
   simp at z; omega
  subst e
  simp at hv
  subst hv
  exact ⟨a, rfl, h1⟩
theorem RepPs.keepL {ys zs : List V} (h : RepPs K H f us) (hp : H p = some (.lst ys)) : RepPs K (upd H p (.lst zs)) f us := fun i v hv => let ⟨a, e1, h1⟩ := h i v hv; ⟨a, e1, h1.keepL hp⟩
theorem RepPs.at (h : RepPs K H f us) {i : Nat} (hi : i < us.length) : ∃ a, us[i]? = some (.ref a) /\ SqT K H a (iv (f i)) := by
 obtain ⟨a, e, h1⟩ := h i us[i] (by simp [hi])
 exact ⟨a, by rw [<- e]; simp [hi], h1⟩
end
def room (g : Nat -> Nat) (j : Nat) : Nat := if j = 0 then 0 else g (j - 1)
def LvOk (rs : List Str) (g : Nat -> Nat) (n : Nat) : Prop := ∀ j, j < n -> o1 (rs.getD j "") ≤ g j /\ g j ≤ room g j + o1 (rs.getD j "") /\ g j ≤ 60
def zh9 (K : W.Frag) : Sp := fun vs H Q _ => ∃ (a b : Addr) (p q : List Nat), vs = [.ref a, .ref b] /\ SqT K H a (iv p) /\ SqT K H b (iv q) /\ ∀ H', Same H H' -> Q (.bl (decide (p.take q.length = q))) H'
def zkY (K : W.Frag) : Sp := fun vs H Q _ => ∃ (a : Addr) (us : List V) (f : Nat -> List Nat) (k i : Nat), vs = [.ref a, .int k, .int i] /\ SqT K H a us /\ RepPs K H f us /\ k < us.length /\ i < us.length /\
 ∀ H', Same H H' -> Q (.bl (decide (i < k) && decide ((f k).take (f i).length = f i))) H'
end L2
namespace L2
open PySem PySem.Spec PyProof.Rows
section
variable {X : Cx}
end
end L2
namespace L2
open PySem PySem.Spec PyProof.Rows
section
variable {K : W.Frag} {σ : St} {H H' : Hp} {Q : VK} {ta : TA} {p : Addr} {k : Int}
theorem zkZ : zhm (.ref p) (.int k) H Q = ∃ xs, H p = some (.lst xs) /\ -(2 ^ 63) ≤ k /\ k < 2 ^ 63 /\ xs.length * k.toNat ≤ sizeLine /\ ∀ q, H q = none -> Q (.ref q) (upd H q (.lst (List.replicate k.toNat xs).flatten)) := by
 refine propext ⟨fun h => ?_, fun ⟨xs, h⟩ => .inr ⟨p, k, xs, rfl, rfl, h⟩⟩
 rcases h with ⟨_, _, e, _⟩ | ⟨_, _, xs, e1, e2, h⟩
 ·cases e
 ·cases e1; cases e2; exact ⟨xs, h⟩
theorem zb9 {c : Prop} [Decidable c] {tt : TT} {t u : TS} {D : Ends} (ht : ∀ Qb : Bool -> Hp -> Prop, Qb (decide c) H -> tt σ H Qb) (h1 : c -> t { D with nx := u D } σ H) (h2 : ¬ c -> u D σ H) : tSeq (tIfS tt t zgZ) u D σ H := by
 show tt σ H fun b H1 => if b = true then t { D with nx := u D } σ H1 else u D σ H1
 refine ht _ ?_
 by_cases hc : c
 ·rw [decide_eq_true hc, if_pos rfl]; exact h1 hc
 ·rw [decide_eq_false hc, if_neg (by decide)]; exact h2 hc
end
end L2
namespace L2
open PySem PySem.Spec PyProof.Rows
section
variable {X : Cx}
def zir (X : Cx) (tv : TE) (t : TA) : TE := fun σ H Q => tv σ H fun z H1 => ∃ (f : Addr) (CX : CXT) (k : Nat) (fd : FuncData) (ps : List Str) (sp : Sp) (ds : List Value) (dvs : List V) (E : XK), z = .ref f /\ FnOk X.prog X.w X.K X.mg X.base CX k f fd ps sp /\ Room k X.A /\
 W.keepIn X.K (.ref f) = true /\ Binds X.K fd ps ds /\ Vals dvs ds /\ zct CX X E /\ t σ H1 fun vs H2 => sp (vs ++ dvs) H2 Q E
theorem zhA {x : Str} {p pos : Pos} {e : Expr} {es : List Expr} {tv : TE} {t : TA} (hv : PE X (.Name x p) tv) (ha : PA X (e :: es) t)
  (he : starEach (e :: es) X.env = (false, eval e X.env) :: starEach es X.env := by rfl) (hpl : (backTo pos (starEach es X.env)).any (·.1) = false := by rfl) : PE X (.Call (.Name x p) (e :: es) [] pos) (zir X tv t) := by
 intro pins s σ H Q I h
 refine wpAny_Call_Name_kw (thn (hv pins s σ H _ I h) fun u s1 ⟨z, H1, I1, r, q⟩ => ?_)
 obtain ⟨f, CX, k, fd, ps, sp, ds, dvs, E, rfl, F, hr, hk, hb, hd, hx, q⟩ := q
 cases r
 refine W.callWith_K (h₀ := X.base) I1.ok.mod.kin hk (thn (ha pos pins s1 σ H1 _ I1 q) fun us s2 ⟨vs, H2, I2, r2, q2⟩ => ⟨I2.kIn, ?_⟩) he hpl
 exact zfX F hr hb hd hx I2 r2 q2
theorem zjh {tv : TE} {t : TA} {σ : St} {H : Hp} {Q : VK} : zir X tv t σ H Q = tv σ H fun z H1 => ∃ (f : Addr) (CX : CXT) (k : Nat) (fd : FuncData) (ps : List Str) (sp : Sp) (ds : List Value) (dvs : List V) (E : XK), z = .ref f /\ FnOk X.prog X.w X.K X.mg X.base CX k f fd ps sp /\ Room k X.A /\
 W.keepIn X.K (.ref f) = true /\ Binds X.K fd ps ds /\ Vals dvs ds /\ zct CX X E /\ t σ H1 fun vs H2 => sp (vs ++ dvs) H2 Q E := rfl
end
end L2
namespace L2
open PySem PySem.Spec PySem.Calls PyProof.V PyProof.Rows PyProof.Rows.KTD
section
variable {X : Cx}
def TabK (K : W.Frag) (a : Addr) (D : List (Str × V)) : Prop :=
 (a == sysModules) = false /\ ∃ (o : Obj) (es : Array DictEntry) (ep : Nat), K.lookup a = some o /\ o.ExactDict /\ o.data = .dict es ep /\ KTD.Rows (fun d v => RelV d v) es.toList D
theorem zcJ {prog : Program} {w : World} {A : Around} {E : Value -> Shared -> Prop} {s : Shared} {a : Addr} {o : Obj} {es : Array DictEntry} {ep : Nat} {D : List (Str × V)} {k : Str} {tk : Tok} {Q : Option Value -> Shared -> Prop}
  (ho : s.heap.get? a = some o) (hd : o.data = .dict es ep) (hr : KTD.Rows (fun d v => RelV d v) es.toList D) (hq : Q ((es.toList.find? fun e => e.key.isStr k).map (·.val)) { s with toks := s.toks + 1 }) :
  wpAny (model prog w) A (dictGet a (.str k tk)) Q E s := by
 unfold dictGet
 try with_reducible refine wpAny_holding ?_
 refine wpAny_bind (wpAny_pyHash_str (wpAny_bind (kt_dictFind_strs (s := { s with toks := s.toks + 1 }) ho hd (by obtain ⟨l⟩ := es; simpa using hr.exact) ?_)))
 have hf : findBy (fun k v => v.isStr k) es k = (es.toList.find? fun e => e.key.isStr k).map (·.val) := by
  obtain ⟨l⟩ := es
  simp [findBy]
 rw [<- hf, findBy_of_findIdx?] at hq
 cases hi : es.findIdx? fun e => e.key.isStr k with
 | none => rw [hi] at hq; exact wpAny_pure hq
 | some i => rw [hi] at hq; exact wpAny_bind (wpAny_dictEntries (s := { s with toks := s.toks + 1 }) ho hd (wpAny_pure hq))
def zeZ (K : W.Frag) : R2 := fun x y H Q => ∃ k p D, x = .str k /\ y = .ref p /\ TabK K p D /\ Q (.bl (inKeys k D)) H
theorem op_in_tab : OpR X (compareOp .In) (zeZ X.K) := by
 intro pins s σ H x y v u Q I rx ry h
 obtain ⟨k, p, D, rfl, rfl, ⟨hp, o, es, ep, hl, hc, hd, hr⟩, q⟩ := h
 obtain ⟨tk, rfl⟩ := rx
 cases ry
 have ho := I.kIn p o hl
 have hT : s.TypeIs (.ref p) "dict" := ⟨o, ho, hc.1⟩
 have fin : EP X pins σ Q (.bool (inKeys k D)) { s with toks := s.toks + 1 } := ⟨.bl (inKeys k D), H, I.tok _, rfl, q⟩
 show wpAny _ _ (do return Value.bool (<- contains (.ref p) (.str k tk)) : Sem Value) _ _ s
 refine wpAny_bind ?_
 unfold contains
 try with_reducible refine wpAny_holding ?_
 refine wpAny_bind (wpAny_specialOf hT slot_dict_contains.lookup ?_)
 show wpAny _ _ (if (some (Value.builtin "dict.__contains__") == some Value.none) = true then _ else _) _ _ s
 rw [if_neg (by rw [beq_builtin_none]; exact Bool.false_ne_true)]
 refine wpAny_bind (wpAny_callSpecialUnlessNone?_slot (name := Str.ofString "__contains__") hT slot_dict_contains
  (wpAny_call_entry slot_dict_contains hT entry_dict_contains ?_ (args_dict_contains _ _)))
 show wpAny _ _ (dictGet p (.str k tk) >>= _) _ _ s
 refine wpAny_bind (zcJ ho hd hr ?_)
 cases hat : datumAt k D with
 | some d =>
  obtain ⟨v, hv, hfl⟩ := hr.find_some hat
  have hb : inKeys k D = true := by rw [<- isSome_datumAt, hat]; rfl
  rw [hb] at fin
  rw [hv]
  show wpAny _ _ (ret (.bool true)) _ _ _
  exact wpAny_pure ⟨_, rfl, wpAny_truthy_bool (wpAny_pure fin)⟩
 | none =>
  have hb : inKeys k D = false := by rw [<- isSome_datumAt, hat]; rfl
  rw [hb] at fin
  rw [hr.find_none hat]
  show wpAny _ _ (Builtin.Dict.pendingKey? p (.str k tk) >>= _) _ _ _
  exact wpAny_bind (wpAny_pendingKey_other hp (wpAny_pure ⟨_, rfl, wpAny_truthy_bool (wpAny_pure fin)⟩))
theorem zla (K : W.Frag) (hK : X.K = K := by rfl) : OpR X (compareOp .In) (zeZ K) := hK ▸ (op_in_tab : OpR X (compareOp .In) (zeZ X.K))
def zfa (K : W.Frag) : R2 := fun x y H Q => ∃ k p D z, x = .ref p /\ y = .str k /\ TabK K p D /\ datumAt k D = some z /\ Q z H
theorem ix_tab : IxR X (zfa X.K) := by
 intro value slice pins s σ H x y v u Q I rx ry h hs
 obtain ⟨k, p, D, z, rfl, rfl, ⟨hp, o, es, ep, hl, hc, hd, hr⟩, hat, q⟩ := h
 cases rx
 obtain ⟨tk, rfl⟩ := ry
 have ho := I.kIn p o hl
 have hT : s.TypeIs (.ref p) "dict" := ⟨o, ho, hc.1⟩
 obtain ⟨w, hw, rw'⟩ := hr.find_some hat
 have fin : EP X pins σ Q w { s with toks := s.toks + 1 } := ⟨z, H, I.tok _, rw', q⟩
 refine subscriptTail_builtinR (x := w) hT slot_dict_getitem.lookup ?_ hs
 unfold getItem
 try with_reducible refine wpAny_holding ?_
 refine wpAny_bind (wpAny_sequenceKey hT (by decide) ?_)
 refine wpAny_bind (wpAny_callSpecial?_slot (name := Str.ofString "__getitem__") hT slot_dict_getitem
  (wpAny_call_entry slot_dict_getitem hT entry_dict_getitem ?_ (args_dict_getitem _ _)))
 show wpAny _ _ (dictGet p (.str k tk) >>= _) _ _ s
 refine wpAny_bind (zcJ ho hd hr ?_)
 rw [hw]
 exact wpAny_pure ⟨w, rfl, wpAny_pure ⟨rfl, fin⟩⟩
theorem ixT (K : W.Frag) (hK : X.K = K := by rfl) : IxR X (zfa K) := hK ▸ (ix_tab : IxR X (zfa X.K))
theorem TabK.mk {K : W.Frag} {a : Addr} {D : List (Str × V)} {dd : List DictEntry} {ep : Nat} (h : K.lookup a = some ⟨.type "dict", none, .dict dd.toArray ep, #[]⟩) (ha : (a == sysModules) = false)
  (hr : KTD.Rows (fun d v => RelV d v) dd D) : TabK K a D := ⟨ha, _, _, _, h, ⟨rfl, rfl, rfl⟩, rfl, by simpa using hr⟩
end
end L2
namespace L2
open PySem PySem.Spec PyProof.Rows
open AutoSeq1 (wpAny_loadPart')
section
variable {prog : Program} {w : World} {A : Around} {E : Value -> Shared -> Prop} {s : Shared}
theorem zbP {j t : Addr} {i : Nat} {us : Array Value} {v : Value} {R : Value -> Shared -> Prop} (hJ : s.heap.IsTupleIter j t i) (hT : s.heap.IsTuple t us) (hv : us[i]? = some v)
  (k : ∀ h1, h1.IsTupleIter j t (i + 1) -> Heap.SameBut j s.heap h1 -> R v { s with heap := h1 }) : wpAny (model prog w) A (Builtin.SmallTypes.nextOf (.ref j)) R E s := by
 obtain ⟨oj, gj, cj, dj⟩ := id hJ
 obtain ⟨ot, gt, _, n, dt⟩ := hT
 unfold Builtin.SmallTypes.nextOf
 refine wpAny_bind (wpAny_callSpecial?_slot (name := Str.ofString "__next__") hJ.typeIs PySem.F.slot_tuple_iterator_next (wpAny_call_entry PySem.F.slot_tuple_iterator_next hJ.typeIs PySem.F.entry_tuple_iterator_next ?_ (PySem.F.args_tuple_iterator_next_1 _)))
 show wpAny _ _ (field (.ref j) 0 >>= _) _ _ s
 refine wpAny_bind (wpAny_field gj dj (x := .ref t) rfl ?_)
 show wpAny _ _ (if ((Value.ref t : Value) == Value.none) = true then _ else _) _ _ s
 rw [if_neg (by intro z; cases z)]
 show wpAny _ _ (field (.ref j) 1 >>= _) _ _ s
 refine wpAny_bind (wpAny_field gj dj (x := .int i 0) rfl ?_)
 refine wpAny_bind (m := seqItems? (.ref t)) (wpAny_seqItems gt dt ?_)
 simp only [Int.toNat_natCast, hv]
 refine wpAny_bind (wpAny_setField gj dj (by simp) (wpAny_pure ⟨v, rfl, wpAny_pure (k _ ?_ (Heap.SameBut.update ..))⟩))
 refine ⟨_, Heap.get?_update_self _ gj (Obj.isFreed_of_fields (Obj.data_mapFields dj _)), (Obj.cls_mapFields ..).trans cj, ?_⟩
 rw [Obj.data_mapFields dj]
 simp [rawInt]
theorem zcK {j t : Addr} {i : Nat} {us : Array Value} {R : Value -> Shared -> Prop} (hh : A.handled = none) (hJ : s.heap.IsTupleIter j t i) (hT : s.heap.IsTuple t us) (hv : us[i]? = none)
  (k : ∀ h1 x, Heap.ExtBut j s.heap h1 -> (∃ o, h1.get? x = some o /\ o.cls = .type "StopIteration") -> E (.ref x) { s with heap := h1 }) : wpAny (model prog w) A (Builtin.SmallTypes.nextOf (.ref j)) R E s := by
 obtain ⟨oj, gj, cj, dj⟩ := id hJ
 obtain ⟨ot, gt, _, n, dt⟩ := hT
 unfold Builtin.SmallTypes.nextOf
 refine wpAny_bind (wpAny_callSpecial?_slot (name := Str.ofString "__next__") hJ.typeIs PySem.F.slot_tuple_iterator_next (wpAny_call_entry PySem.F.slot_tuple_iterator_next hJ.typeIs PySem.F.entry_tuple_iterator_next ?_ (PySem.F.args_tuple_iterator_next_1 _)))
 show wpAny _ _ (field (.ref j) 0 >>= _) _ _ s
 refine wpAny_bind (wpAny_field gj dj (x := .ref t) rfl ?_)
 show wpAny _ _ (if ((Value.ref t : Value) == Value.none) = true then _ else _) _ _ s
 rw [if_neg (by intro z; cases z)]
 show wpAny _ _ (field (.ref j) 1 >>= _) _ _ s
 refine wpAny_bind (wpAny_field gj dj (x := .int i 0) rfl ?_)
 refine wpAny_bind (m := seqItems? (.ref t)) (wpAny_seqItems gt dt ?_)
 simp only [Int.toNat_natCast, hv]
 refine wpAny_bind (wpAny_rule (wpAny_bind (wpAny_setField gj dj (by simp) ?_)))
 show wpAny _ _ ((newExc (.type "StopIteration") []) >>= _) _ _ _
 refine wpAny_bind ?_
 simp only [newExc, newTuple]
 refine wpAny_bind (wpAny_newObj_type (wpAny_bind (m := firstArgMember _ _) (wpAny_of_eq (a := Value.none) (by first | rfl | (simp only [firstArgMember]; rfl)) (wpAny_newObj_type ?_ (by size_fits)))) (by size_fits))
 simp only [raiseNew]
 refine wpAny_bind (wpAny_handled ?_)
 first | rw [show A.in1.handled = none from hh] | rw [hh]
 refine wpAny_bind (wpAny_pure (wpAny_throw ?_))
 exact k _ _ (((Heap.SameBut.update ..).extBut.push _).push _) ⟨_, Heap.get?_push_size _ rfl, rfl⟩
theorem zf1 {e j t : Addr} {i : Nat} {us : Array Value} {v old : Value} {R : Option Value -> Shared -> Prop} (hE : IsEnum s.heap e j i old) (hJ : s.heap.IsTupleIter j t i) (hT : s.heap.IsTuple t us) (hv : us[i]? = some v) (hne : e ≠ j)
  (k : ∀ (h3 h' : Heap), (∀ b o, b ≠ e -> b ≠ j -> s.heap.get? b = some o -> h3.get? b = some o) -> h3.objs.size = s.heap.objs.size ->
   Heap.SameBut e (h3.push { cls := .type "tuple", data := .seq #[.int i s.toks, v] }) h' -> IsEnumOut h' e j ((i : Int) + 1) v s.heap.objs.size -> h'.IsTupleIter j t (i + 1) ->
   R (some (.ref s.heap.objs.size)) { s with heap := h', toks := s.toks + 1 }) : wpAny (model prog w) A (pyNext (.ref e)) R E s := by
 have hTy : s.TypeIs (.ref e) "enumerate" := ⟨_, hE, rfl⟩
 unfold pyNext
 refine wpAny_bind (wpAny_attempt (wpAny_callSpecial?_slot (name := Str.ofString "__next__") hTy PySem.F.slot_enumerate_next (wpAny_call_entry PySem.F.slot_enumerate_next hTy PySem.F.entry_enumerate_next ?_ (PySem.F.args_enumerate_next_1 _))))
 obtain ⟨hp, g, d, tk, os⟩ := s
 show wpAny _ _ (field (.ref e) 2 >>= _) _ _ _
 refine wpAny_bind (wpAny_field hE rfl (x := .ref j) rfl (wpAny_bind (zbP hJ hT hv fun h1 hJ1 hs1 => ?_)))
 replace hs1 : Heap.SameBut j hp h1 := hs1
 have e1 : IsEnum h1 e j i old := (hs1.2 e hne).trans hE
 show wpAny _ _ (field (.ref e) 3 >>= _) _ _ ⟨h1, g, d, tk, os⟩
 refine wpAny_bind (wpAny_field e1 rfl (x := rawInt i) rfl ?_)
 show wpAny _ _ (field (.ref e) 4 >>= _) _ _ ⟨h1, g, d, tk, os⟩
 refine wpAny_bind (wpAny_field e1 rfl (x := .none) rfl ?_)
 show wpAny _ _ (mkInt i >>= _) _ _ ⟨h1, g, d, tk, os⟩
 refine wpAny_bind (wpAny_mkInt ?_)
 show wpAny _ _ (setField (.ref e) 3 (rawInt ((i : Int) + 1)) >>= _) _ _ ⟨h1, g, d, tk + 1, os⟩
 refine wpAny_bind (wpAny_setField_rec e1 (by simp) fun h2 e2 hs2 => ?_)
 replace hs2 : Heap.SameBut e h1 h2 := hs2
 replace e2 : IsEnum h2 e j ((i : Int) + 1) old := e2
 show wpAny _ _ (setField (.ref e) 4 .none >>= _) _ _ ⟨h2, g, d, tk + 1, os⟩
 refine wpAny_bind (wpAny_setField_rec e2 (by simp) fun h3 e3 hs3 => ?_)
 replace hs3 : Heap.SameBut e h2 h3 := hs3
 replace e3 : IsEnum h3 e j ((i : Int) + 1) old := e3
 show wpAny _ _ (newTuple [.int i tk, v] >>= _) _ _ ⟨h3, g, d, tk + 1, os⟩
 refine wpAny_bind (wpAny_newTuple ?_)
 have hsz : h3.objs.size = hp.objs.size := by rw [hs3.1, hs2.1, hs1.1]
 have hJ3 : h3.IsTupleIter j t (i + 1) := (hJ1.extBut hs2.extBut (Ne.symm hne)).extBut hs3.extBut (Ne.symm hne)
 have k3 : ∀ b o, b ≠ e -> b ≠ j -> hp.get? b = some o -> h3.get? b = some o := fun b o he hj hb => hs3.extBut b o he (hs2.extBut b o he (hs1.extBut b o hj hb))
 have e4 : IsEnum (h3.push { cls := .type "tuple", data := .seq #[.int i tk, v] }) e j ((i : Int) + 1) old := Heap.get?_push_of_some _ e3
 have hJ4 : (h3.push { cls := .type "tuple", data := .seq #[.int i tk, v] }).IsTupleIter j t (i + 1) := let ⟨o, a, r⟩ := hJ3; ⟨o, Heap.get?_push_of_some _ a, r⟩
 have k' := k h3
 generalize h3.push { cls := .type "tuple", data := .seq #[.int i tk, v] } = h4 at e4 hJ4 k'
 show wpAny _ _ (Builtin.SmallTypes.ownedTupleIsFree (.ref e) >>= _) _ _ ⟨h4, g, d, tk + 1, os⟩
 rw [hsz]
 refine wpAny_bind ?_
 unfold Builtin.SmallTypes.ownedTupleIsFree
 refine wpAny_bind (wpAny_field e4 rfl (x := .none) rfl (wpAny_pure ?_))
 simp only [if_true]
 refine wpAny_bind (wpAny_rule (wpAny_bind (wpAny_field e4 rfl (x := old) rfl (wpAny_bind (wpAny_setField_rec e4 (by simp) fun h5 e5 hs5 => ?_)))))
 replace hs5 : Heap.SameBut e h4 h5 := hs5
 replace e5 : IsEnum h5 e j ((i : Int) + 1) v := e5
 show wpAny _ _ (Builtin.SmallTypes.ownedTupleHandOut (.ref e) (.ref hp.objs.size) >>= _) _ _ ⟨h5, g, d, tk + 1, os⟩
 refine wpAny_bind ?_
 unfold Builtin.SmallTypes.ownedTupleHandOut
 refine wpAny_bind (wpAny_setField_rec e5 (by simp) fun h6 e6 hs6 => ?_)
 replace hs6 : Heap.SameBut e h5 h6 := hs6
 replace e6 : IsEnumOut h6 e j ((i : Int) + 1) v hp.objs.size := e6
 refine wpAny_setField_rec e6 (by simp) fun h7 e7 hs7 => ?_
 replace hs7 : Heap.SameBut e h6 h7 := hs7
 replace e7 : IsEnumOut h7 e j ((i : Int) + 1) v hp.objs.size := e7
 have hs : Heap.SameBut e h4 h7 := ⟨by rw [hs7.1, hs6.1, hs5.1], fun b hb => (hs7.2 b hb).trans ((hs6.2 b hb).trans (hs5.2 b hb))⟩
 exact wpAny_bind (wpAny_letGo (wpAny_pure ⟨_, rfl, wpAny_pure (k' h7 k3 hsz hs e7 (hJ4.extBut hs.extBut (Ne.symm hne)))⟩))
theorem zgG {e j t : Addr} {i : Nat} {us : Array Value} {old : Value} {R : Option Value -> Shared -> Prop} (hh : A.handled = none) (hE : IsEnum s.heap e j i old) (hJ : s.heap.IsTupleIter j t i) (hT : s.heap.IsTuple t us) (hv : us[i]? = none)
  (k : ∀ h1, Heap.ExtBut j s.heap h1 -> R none { s with heap := h1 }) : wpAny (model prog w) A (pyNext (.ref e)) R E s := by
 have hTy : s.TypeIs (.ref e) "enumerate" := ⟨_, hE, rfl⟩
 unfold pyNext
 refine wpAny_bind (wpAny_attempt (wpAny_callSpecial?_slot (name := Str.ofString "__next__") hTy PySem.F.slot_enumerate_next (wpAny_call_entry PySem.F.slot_enumerate_next hTy PySem.F.entry_enumerate_next ?_ (PySem.F.args_enumerate_next_1 _))))
 show wpAny _ _ (field (.ref e) 2 >>= _) _ _ _
 refine wpAny_bind (wpAny_field hE rfl (x := .ref j) rfl (wpAny_bind (zcK hh hJ hT hv fun h1 x hb ⟨o, ho, hc⟩ => ?_)))
 exact wpAny_bind (wpAny_isInstance (T := "StopIteration") (b := true) ⟨o, ho, hc⟩ isSubtype_stop (wpAny_pure (k _ hb)))
theorem zf2 (l : Addr) (us : Array Value) (n : Nat) (dct : Option Addr) (sl : Array (Option Value)) :
  Meets (Builtin.«enumerate.__new__» ⟨[.type "enumerate", .ref l], []⟩) (fun _ R s => s.heap.get? l = some { cls := .type "tuple", dict := dct, data := .seq us n, slots := sl } /\
   R (.ok (.ret (.ref (s.heap.push { cls := .type "tuple_iterator", data := .fields #[.ref l, .int 0 0] }).objs.size)))
    { s with heap := (s.heap.push { cls := .type "tuple_iterator", data := .fields #[.ref l, .int 0 0] }).push { cls := .type "enumerate", data := .fields #[.none, .bool false, .ref s.heap.objs.size, rawInt 0, .none, .none] } }) :=
 .of_wp fun prog w A R s z => by
  obtain ⟨hp, g, d, tk, os⟩ := s; obtain ⟨hl, z⟩ := z
  have hsub := sub_enumerate
  have hL : Heap.IsTuple (Shared.heap ⟨hp, g, d, tk, os⟩) l us := ⟨_, hl, rfl, n, rfl⟩
  wp_walk using wpAny_loadPart' hl
  refine wpAny_stack_any fun st => wpAny_pure ?_
  split
  ·rename_i c _ _ _ _ _
   cases (c == Value.type "enumerate") <;> (wp_walk using wpAny_loadPart' hl, wpAny_pyIter_tuple hL; exact ⟨_, rfl, z⟩)
  ·wp_walk using wpAny_loadPart' hl, wpAny_pyIter_tuple hL; exact ⟨_, rfl, z⟩
theorem zgH {l : Addr} {us : Array Value} {R : Value -> Shared -> Prop} (hL : s.heap.IsTuple l us)
  (k : ∀ h', IsEnum h' (s.heap.objs.size + 1) s.heap.objs.size 0 .none -> h'.IsTupleIter s.heap.objs.size l 0 -> h'.objs.size = s.heap.objs.size + 2 ->
   (∀ b o, s.heap.get? b = some o -> h'.get? b = some o) -> R (.ref (s.heap.objs.size + 1)) { s with heap := h' }) : wpAny (model prog w) A (call (.type "enumerate") [.ref l]) R E s := by
 obtain ⟨⟨c, dct, dt, sl⟩, hl, hc, n, hd⟩ := hL
 replace hc : c = .type "tuple" := hc
 replace hd : dt = .seq us n := hd
 subst hc hd
 have hz : (s.heap.push { cls := .type "tuple_iterator", data := .fields #[.ref l, .int 0 0] }).objs.size = s.heap.objs.size + 1 := Heap.size_push ..
 have he := Heap.get?_push_size (s.heap.push { cls := .type "tuple_iterator", data := .fields #[.ref l, .int 0 0] }) (o := { cls := .type "enumerate", data := .fields #[.none, .bool false, .ref s.heap.objs.size, rawInt 0, .none, .none] }) rfl
 rw [hz] at he
 refine callType_new PySem.F.called_enumerate (by decide) (PySem.F.typeCall_enumerate_1 _) (PySem.F.newCall_enumerate_1 _) (fun obj => PySem.F.args_object_init_2 obj _) PySem.F.entry_enumerate_new (zf2 l us n dct sl) ⟨hl, ?_⟩
 show _ /\ _
 rw [hz]
 exact ⟨⟨_, he, rfl⟩, k _ he ⟨_, Heap.get?_push_of_some _ (Heap.get?_push_size _ rfl), rfl, rfl⟩ (by rw [Heap.size_push, hz]) fun b o x => Heap.get?_push_of_some _ (Heap.get?_push_of_some _ x)⟩
end
section
variable {X : Cx} {pins : List (Addr × Obj)} {σ : St} {H : Hp} {s : Shared} {h' : Heap}
theorem Inv.turned2 {t' : Nat} {e j : Addr} (I : Inv X pins σ H s) (k : ∀ b o, b ≠ e -> b ≠ j -> s.heap.get? b = some o -> h'.get? b = some o) (fe : FpOk X pins H e) (fj : FpOk X pins H j) : Inv X pins σ H { s with heap := h', toks := t' } := by
 have ne : ∀ b u, H b = some u -> b ≠ e := fun b u q z => by rw [z, fe.1] at q; cases q
 have nj : ∀ b u, H b = some u -> b ≠ j := fun b u q z => by rw [z, fj.1] at q; cases q
 have k2 : ∀ b o, b ∉ [e, j] -> s.heap.get? b = some o -> h'.get? b = some o := fun b o hb q => k b o (fun z => hb (by simp [z])) (fun z => hb (by simp [z])) q
 refine I.step (g' := s.gens) (d' := s.drawn) (ch := [e, j]) (fun b hb => ?_) (fun b o _ _ hc q _ => k2 b o hc q) (fun b o _ _ hc q _ => ⟨o.slots, k2 b o hc q⟩) (fun _ _ _ _ n => n)
  (fun b o hc q => ⟨o, k2 b o hc q⟩) (fun _ _ q => q) (fun _ _ _ q => q) (fun b ps q => ⟨#[], by rw [q]; simp⟩) (fun m hm => ?_) (fun b u q => ?_) I.bare
 ·rcases List.mem_cons.mp hb with rfl | hb
  ·exact ⟨fe.2.2.2.1, fe.2.1, fe.2.2.2.2.1, fe.2.2.2.2.2⟩
  ·rw [List.mem_singleton.mp hb]; exact ⟨fj.2.2.2.1, fj.2.1, fj.2.2.2.2.1, fj.2.2.2.2.2⟩
 ·obtain ⟨o, es, ep, ho, r⟩ := hm
  exact ⟨o, es, ep, k _ o (Ne.symm fe.2.1) (Ne.symm fj.2.1) ho, r⟩
 ·refine (I.hok b u q).stay (fun c v hc q2 => ?_) (fun _ q => q) fun _ _ q => q
  rcases hc with z | z
  ·rw [z] at q2 ⊢; exact k b v (ne b u q) (nj b u q) q2
  ·exact k c v (ne c _ z) (nj c _ z) q2
end
def Ite (K : W.Frag) (a : Addr) : It :=
 ⟨fun i H => ∃ xs x, SqT K H a xs /\ xs[i]? = some x, fun i H v H' => ∃ t y, v = .ref t /\ H t = none /\ H' = upd H t (.tup [.int i, y]) /\ ∀ xs, SqT K H a xs -> xs[i]? = some y, fun i H => ∃ xs, SqT K H a xs /\ xs.length ≤ i⟩
theorem zgI {P : Program} {w : World} {K : W.Frag} {es : List Expr} {kx : Nat} {pos : Pos} (a e j : Addr) (hne : e ≠ j) : Turn P w K (.Tuple es kx pos) (Ite K a) [e, j] e (fun i h => (∃ old, IsEnum h e j i old) /\ h.IsTupleIter j a i) where
 mem := by simp
 obj := fun i h st b hb => by
  obtain ⟨⟨old, he⟩, hj⟩ := st
  rcases List.mem_cons.mp hb with rfl | hb
  ·exact ⟨_, he, fun v z => by
    have z' : Data.fields _ = Data.cell v := z
    cases z'⟩
  ·rw [List.mem_singleton.mp hb]
   obtain ⟨o, e1, c, d⟩ := hj
   exact ⟨o, e1, fun v z => by rw [d] at z; cases z⟩
 keep := fun i h h' st k => let ⟨⟨old, he⟩, hj⟩ := st; ⟨⟨old, k e (by simp) _ he⟩, hj.at fun o q => k j (by simp) o q⟩
 item := by
  intro X hP hw hK hc i pins s σ H E I hf st hg
  subst hP hw hK
  obtain ⟨xs, x, hq, hx⟩ := hg
  obtain ⟨its, rv, p, hz⟩ := I.tuple hq
  obtain ⟨u, hu, ru⟩ := rv.get hx
  have fe := hf e (by simp)
  have fj := hf j (by simp)
  obtain ⟨⟨old, he⟩, hj⟩ := st
  have hlt : e < s.heap.objs.size := Heap.lt_size he
  have hltj : j < s.heap.objs.size := let ⟨_, q, _⟩ := hj; Heap.lt_size q
  refine zf1 he hj (show s.heap.IsTuple a its.toArray from p) (v := u) (by simpa using hu) hne fun h3 h' k3 hsz hs ho hj' => ?_
  have I3 : Inv X pins σ H { s with heap := h3, toks := s.toks + 1 } := I.turned2 k3 fe fj
  have I4 : Inv X pins σ (upd H s.heap.objs.size (.tup [.int i, x])) { s with heap := h3.push { cls := .type "tuple", data := .seq #[.int i s.toks, u] }, toks := s.toks + 1 } := by
   rw [<- hsz]
   exact I3.laid (t' := s.toks + 1) (fun b o q => Heap.get?_push_of_some _ q) (Nat.le_refl _) ⟨zan (by decide : 2 ≤ 100000), _, .cons ⟨s.toks, rfl⟩ (.cons ru .nil), IsTup.new _ _⟩
  have ne : upd H s.heap.objs.size (.tup [.int i, x]) e = none := by rw [za8 (Nat.ne_of_lt hlt)]; exact fe.1
  have nj : upd H s.heap.objs.size (.tup [.int i, x]) j = none := by rw [za8 (Nat.ne_of_lt hltj)]; exact fj.1
  have I5 := I4.turned (h' := h') (it := e) (t' := s.toks + 1) (fun b o hb q => (hs.2 b hb).trans q) ne fe.2.1 fe.2.2.2.1 fe.2.2.2.2.1 fe.2.2.2.2.2
  refine ⟨_, rfl, wpAny_letOwnedTupleGo_enum ho fun h8 he8 hs8 => ?_⟩
  have I6 := I5.turned (h' := h8) (it := e) (t' := s.toks + 1) (fun b o hb q => (hs8.2 b hb).trans q) ne fe.2.1 fe.2.2.2.1 fe.2.2.2.2.1 fe.2.2.2.2.2
  refine ⟨.ref s.heap.objs.size, _, I6, rfl, ⟨_, x, rfl, I.hok.fresh (Nat.le_refl _), rfl, fun ys hy => by rw [I.tuple_inj hy hq]; exact hx⟩, ⟨⟨_, by simpa using he8⟩, hj'.extBut hs8.extBut (Ne.symm hne)⟩, fun b hb => ?_⟩
  rcases List.mem_cons.mp hb with rfl | hb
  ·exact ne
  ·rw [List.mem_singleton.mp hb]; exact nj
 done := by
  intro X hP hw hK hc i pins s σ H E I hf st hg
  subst hP hw hK
  obtain ⟨xs, hq, hx⟩ := hg
  obtain ⟨its, rv, p, hz⟩ := I.tuple hq
  obtain ⟨f0, f1, f2, f3, f4, f5⟩ := hf j (by simp)
  obtain ⟨⟨old, he⟩, hj⟩ := st
  have hl := rv.length
  exact zgG (I.ok.hd hc) he hj (show s.heap.IsTuple a its.toArray from p) (by simp; omega) fun h' eb => ⟨rfl, I.turned (t' := s.toks) (fun b o hb e => eb b o hb e) f0 f1 f3 f4 f5⟩
 self := fun _ _ _ _ _ st h => let ⟨⟨_, he⟩, _⟩ := st; wpAny_pyIter_enum he h
section
variable {X : Cx}
def zlb (K : W.Frag) (ta : TA) : TI := fun σ H R => ta σ H fun vs H1 => ∃ a, vs = [.ref a] /\ (∃ xs, SqT K H1 a xs) /\ R (Ite K a) H1
theorem zji (K : W.Frag) {es : List Expr} {kx : Nat} {pt p pos : Pos} {a : Expr} {ta : TA} (hg : Gl X "enumerate") (hm : X.mg "enumerate" = none) (ha : PA X [a] ta) (hs : starEach [a] X.env = [(false, eval a X.env)] := by rfl) (hK : X.K = K := by rfl) :
  PI X (.Tuple es kx pt) (.Call (.Name "enumerate" p) [a] [] pos) (zlb K ta) := by
 subst hK
 intro pins s σ H R I h
 refine Call_ (zcZ I hg hm boot_enumerate (PyProof.Rows.callWith_type1 (thn (ha pos pins s σ H _ I h) fun us s1 ⟨vs, H1, I1, r1, q1⟩ => ?_) hs rfl))
 obtain ⟨a, e, ⟨xs, hq⟩, q⟩ := q1
 subst e
 cases r1 with
 | cons r rr =>
  cases rr
  cases r
  obtain ⟨its, rv, pp, hz⟩ := I1.tuple hq
  refine zgH (show s1.heap.IsTuple a its.toArray from pp) fun h' he hj hsz kk => wpAny_pyIter_enum he ?_
  refine ⟨s1.heap.objs.size + 1, [s1.heap.objs.size + 1, s1.heap.objs.size], _, _, H1, rfl, I1.kept (t' := s1.toks) kk, zgI a (s1.heap.objs.size + 1) s1.heap.objs.size (Nat.succ_ne_self _), ⟨⟨_, he⟩, hj⟩, fun b hb => ?_, q⟩
  rcases List.mem_cons.mp hb with rfl | hb
  ·exact I1.fpOk (by omega) (I1.hok.fresh (by omega))
  ·rw [List.mem_singleton.mp hb]; exact I1.fpOk (Nat.le_refl _) (I1.hok.fresh (Nat.le_refl _))
theorem zlc {K : W.Frag} {σ : St} {H : Hp} {R : It -> Hp -> Prop} {ta : TA} : zlb K ta σ H R = ta σ H fun vs H1 => ∃ a, vs = [.ref a] /\ (∃ xs, SqT K H1 a xs) /\ R (Ite K a) H1 := rfl
theorem zgJ {K : W.Frag} {a : Addr} {xs : List V} {g : TG} {tb : TS} {D : Ends} {σ : St} {H : Hp} (Pv : Nat -> St -> Hp -> Prop) (h0 : Pv 0 σ H) (hl : ∀ i σ H, i ≤ xs.length -> Pv i σ H -> SqT K H a xs)
  (hs : ∀ i x σ H, xs[i]? = some x -> Pv i σ H -> ∀ t, H t = none -> g (.ref t) σ (upd H t (.tup [.int i, x])) fun σ2 H2 => tb { D with nx := Pv (i + 1), ct := Pv (i + 1), bk := D.nx } σ2 H2) (hd : ∀ σ H, Pv xs.length σ H -> D.nx σ H) : ForW (Ite K a) g tb D σ H := by
 refine ⟨fun i m σ H => m = xs.length - i /\ i ≤ xs.length /\ Pv i σ H, ⟨xs.length, by simp, Nat.zero_le _, h0⟩, ?_⟩
 rintro i m σ H ⟨rfl, hi, p⟩
 by_cases hlt : i < xs.length
 ·have hx : xs[i]? = some xs[i] := by simp [hlt]
  refine .inr ⟨⟨xs, _, hl _ _ _ hi p, hx⟩, Pv (i + 1), fun σ' H' q => ⟨xs.length - (i + 1), by omega, rfl, hlt, q⟩, fun x H' y => ?_⟩
  obtain ⟨t, z, rfl, hn, rfl, hz⟩ := y
  have e := hz xs (hl _ _ _ hi p)
  rw [hx] at e
  cases e
  exact hs i _ σ H hx p t hn
 ·have e : i = xs.length := by omega
  subst e
  exact .inl ⟨⟨xs, hl _ _ _ hi p, Nat.le_refl _⟩, hd σ H p⟩
end
section
variable {X : Cx}
def zld (K : W.Frag) : V -> List V -> Hp -> VK -> Prop := fun x vs H Q => ∃ p xs k, x = .ref p /\ vs = [k] /\ SqL K H p xs /\ xs.all zbt = true /\ zbt k = true /\ Q (.int ((xs.countP fun y => eqV y k : Nat) : Int)) H
theorem zjj {K : W.Frag} {p : Addr} {k : V} {H : Hp} {Q : VK} : zld K (.ref p) [k] H Q = ∃ xs, SqL K H p xs /\ xs.all zbt = true /\ zbt k = true /\ Q (.int ((xs.countP fun y => eqV y k : Nat) : Int)) H := by
 refine propext ⟨fun ⟨_, xs, _, e1, e2, h⟩ => ?_, fun ⟨xs, h⟩ => ⟨p, xs, k, rfl, rfl, h⟩⟩
 cases e1; cases e2; exact ⟨xs, h⟩
end
end L2
namespace L2
open PySem PySem.Spec PyProof.Rows
open AutoSeq1 (wpAny_loadPart')
section
variable {prog : Program} {w : World} {A : Around} {E : Value -> Shared -> Prop} {s : Shared}
theorem zbe {h h' : Heap} {j t : Addr} {us : Array Value} (hT : h.IsTuple t us) (k : Heap.ExtBut j h h') (hn : t ≠ j) : h'.IsTuple t us := let ⟨o, e, r⟩ := hT; ⟨o, k _ _ hn e, r⟩
theorem zgK {z TI TO i1 i2 l1 l2 : Addr} {k1 k2 : Nat} {xs ys : Array Value} {x y a b : Value} {Q : Option Value -> Shared -> Prop} (D : ZipApart z TI TO i1 i2 l1 l2)
  (hz : IsZip s.heap z TI TO .none) (hTI : IsPair s.heap TI (.ref i1) (.ref i2)) (hTO : IsPair s.heap TO a b)
  (h1 : s.heap.IsTupleIter i1 l1 k1) (h2 : s.heap.IsTupleIter i2 l2 k2) (hl1 : s.heap.IsTuple l1 xs) (hl2 : s.heap.IsTuple l2 ys) (hx : xs[k1]? = some x) (hy : ys[k2]? = some y)
  (hQ : ∀ (h5 h' : Heap), (∀ c o, c ≠ z -> c ≠ TO -> c ≠ i1 -> c ≠ i2 -> s.heap.get? c = some o -> h5.get? c = some o) -> h5.objs.size = s.heap.objs.size ->
   Heap.SameBut z (h5.push { cls := .type "tuple", data := .seq #[x, y] }) h' -> IsZip h' z TI TO (rawInt s.heap.objs.size) -> IsPair h' TI (.ref i1) (.ref i2) -> IsPair h' TO x y -> h'.IsTupleIter i1 l1 (k1 + 1) -> h'.IsTupleIter i2 l2 (k2 + 1) ->
   Q (some (.ref s.heap.objs.size)) { s with heap := h' }) :
  wpAny (model prog w) A (pyNext (.ref z)) Q E s := by
 have hT : s.TypeIs (.ref z) "zip" := ⟨_, hz, rfl⟩
 unfold pyNext
 refine wpAny_bind (wpAny_attempt (wpAny_callSpecial?_slot (name := Str.ofString "__next__") hT PySem.F.slot_zip_next
  (wpAny_call_entry PySem.F.slot_zip_next hT PySem.F.entry_zip_next ?_ (PySem.F.args_zip_next_1 _))))
 show wpAny _ _ (field (.ref z) 2 >>= _) _ _ _
 refine wpAny_bind (wpAny_field hz rfl (x := .bool false) rfl ?_)
 show wpAny _ _ (field (.ref z) 3 >>= _) _ _ _
 refine wpAny_bind (wpAny_field hz rfl (x := .ref TI) rfl ?_)
 refine wpAny_bind (wpAny_seqItems hTI rfl ?_)
 show wpAny _ _ (Builtin.SmallTypes.ownedTupleIsFree (.ref z) >>= _) _ _ _
 refine wpAny_bind ?_
 unfold Builtin.SmallTypes.ownedTupleIsFree
 refine wpAny_bind (wpAny_field hz rfl (x := .none) rfl (wpAny_pure ?_))
 simp only [if_true]
 refine wpAny_bind (wpAny_rule ?_)
 refine wpAny_bind (wpAny_field hz rfl (x := .ref TO) rfl ?_)
 refine wpAny_bind (wpAny_setField_rec hz (by simp) fun h₁ hz₁ hs₁ => ?_)
 replace hz₁ : IsZip h₁ z TI TO .ellipsis := hz₁
 refine wpAny_bind ?_
 simp only [List.zipIdx_cons, List.zipIdx_nil, List.forIn_cons, List.forIn_nil]
 refine wpAny_bind (wpAny_bind (wpAny_onRaise ?_))
 show wpAny _ _ (Builtin.SmallTypes.nextOf (.ref i1) >>= _) _ _ _
 refine wpAny_bind (zbP (h1.extBut hs₁.extBut D.i1z) (zbe hl1 hs₁.extBut D.l1z) hx fun h₂ h1₂ hs₂ => wpAny_pure ?_)
 have hTO₂ : IsPair h₂ TO a b := hs₂.extBut _ _ D.TOi1 (hs₁.extBut _ _ D.TOz hTO)
 refine wpAny_bind (wpAny_seqItems hTO₂ rfl ?_)
 refine wpAny_bind (wpAny_updateSeq_pair hTO₂ fun h₃ hTO₃ hs₃ => ?_)
 replace hTO₃ : IsPair h₃ TO x b := hTO₃
 refine wpAny_bind (wpAny_letGo (wpAny_pure ?_))
 refine wpAny_bind (wpAny_bind (wpAny_onRaise ?_))
 show wpAny _ _ (Builtin.SmallTypes.nextOf (.ref i2) >>= _) _ _ _
 refine wpAny_bind (zbP (((h2.extBut hs₁.extBut D.i2z).extBut hs₂.extBut D.i12.symm).extBut hs₃.extBut D.TOi2.symm)
  (zbe (zbe (zbe hl2 hs₁.extBut D.l2z) hs₂.extBut D.l2i1) hs₃.extBut D.l2TO) hy fun h₄ h2₄ hs₄ => wpAny_pure ?_)
 have hTO₄ : IsPair h₄ TO x b := hs₄.extBut _ _ D.TOi2 hTO₃
 refine wpAny_bind (wpAny_seqItems hTO₄ rfl ?_)
 refine wpAny_bind (wpAny_updateSeq_pair hTO₄ fun h₅ hTO₅ hs₅ => ?_)
 replace hTO₅ : IsPair h₅ TO x y := hTO₅
 refine wpAny_bind (wpAny_letGo (wpAny_pure (wpAny_pure ?_)))
 refine wpAny_bind (wpAny_seqItems hTO₅ rfl ?_)
 refine wpAny_bind (wpAny_newTuple ?_)
 have hsz : h₅.objs.size = s.heap.objs.size := by rw [hs₅.1, hs₄.1, hs₃.1, hs₂.1, hs₁.1]
 have hz₅ : IsZip h₅ z TI TO .ellipsis := hs₅.extBut _ _ D.TOz.symm (hs₄.extBut _ _ D.i2z.symm (hs₃.extBut _ _ D.TOz.symm (hs₂.extBut _ _ D.i1z.symm hz₁)))
 have hk₅ : ∀ c o, c ≠ z -> c ≠ TO -> c ≠ i1 -> c ≠ i2 -> s.heap.get? c = some o -> h₅.get? c = some o := fun c o c1 c2 c3 c4 e =>
  hs₅.extBut _ _ c2 (hs₄.extBut _ _ c4 (hs₃.extBut _ _ c2 (hs₂.extBut _ _ c3 (hs₁.extBut _ _ c1 e))))
 have h1₅ : h₅.IsTupleIter i1 l1 (k1 + 1) := ((h1₂.extBut hs₃.extBut D.TOi1.symm).extBut hs₄.extBut D.i12).extBut hs₅.extBut D.TOi1.symm
 have h2₅ : h₅.IsTupleIter i2 l2 (k2 + 1) := h2₄.extBut hs₅.extBut D.TOi2.symm
 show wpAny _ _ (Builtin.SmallTypes.ownedTupleHandOut (.ref z) (.ref h₅.objs.size) >>= _) _ _ _
 refine wpAny_bind ?_
 unfold Builtin.SmallTypes.ownedTupleHandOut
 have hz₆ : IsZip (h₅.push { cls := .type "tuple", data := .seq #[x, y] }) z TI TO .ellipsis := Heap.get?_push_of_some _ hz₅
 refine wpAny_bind (wpAny_setField_rec hz₆ (by simp) fun h₇ hz₇ hs₇ => ?_)
 replace hz₇ : IsZip h₇ z TI TO (rawInt h₅.objs.size) := hz₇
 refine wpAny_setField_rec hz₇ (by simp) fun h₈ hz₈ hs₈ => ?_
 replace hz₈ : IsZip h₈ z TI TO (rawInt h₅.objs.size) := hz₈
 have up : ∀ c o, c ≠ z -> h₅.get? c = some o -> h₈.get? c = some o := fun c o c1 e => hs₈.extBut _ _ c1 (hs₇.extBut _ _ c1 (Heap.get?_push_of_some _ e))
 have hs : Heap.SameBut z (h₅.push { cls := .type "tuple", data := .seq #[x, y] }) h₈ := ⟨by rw [hs₈.1, hs₇.1], fun c hc => (hs₈.2 c hc).trans (hs₇.2 c hc)⟩
 rw [hsz] at hz₈
 refine wpAny_pure ⟨_, rfl, wpAny_pure ?_⟩
 show Q (some (.ref h₅.objs.size)) _
 rw [hsz]
 exact hQ h₅ h₈ hk₅ hsz hs hz₈ (up _ _ D.TIz (hk₅ _ _ D.TIz D.TITO D.TIi1 D.TIi2 hTI)) (up _ _ D.TOz hTO₅) (h1₅.at fun o e => up _ o D.i1z e) (h2₅.at fun o e => up _ o D.i2z e)
theorem zhB {z TI TO i1 i2 l1 l2 : Addr} {k1 k2 : Nat} {xs ys : Array Value} {a b : Value} {Q : Option Value -> Shared -> Prop} (hh : A.handled = none) (D : ZipApart z TI TO i1 i2 l1 l2)
  (hz : IsZip s.heap z TI TO .none) (hTI : IsPair s.heap TI (.ref i1) (.ref i2)) (hTO : IsPair s.heap TO a b)
  (h1 : s.heap.IsTupleIter i1 l1 k1) (h2 : s.heap.IsTupleIter i2 l2 k2) (hl1 : s.heap.IsTuple l1 xs) (hl2 : s.heap.IsTuple l2 ys) (hend : xs[k1]? = none \/ ys[k2]? = none)
  (hQ : ∀ h', (∀ c o, c ≠ z -> c ≠ TO -> c ≠ i1 -> c ≠ i2 -> s.heap.get? c = some o -> h'.get? c = some o) -> Q none { s with heap := h' }) :
  wpAny (model prog w) A (pyNext (.ref z)) Q E s := by
 have hT : s.TypeIs (.ref z) "zip" := ⟨_, hz, rfl⟩
 have hE : ∀ h' e, (∀ c o, c ≠ z -> c ≠ TO -> c ≠ i1 -> c ≠ i2 -> s.heap.get? c = some o -> h'.get? c = some o) -> (∃ o, h'.get? e = some o /\ o.cls = .type "StopIteration") ->
   wpAny (model prog w) A (do let b <- isInstance (.ref e) (.type "StopIteration"); if b = true then pure none else throw (.ref e)) Q E { s with heap := h' } := fun h' e hk he => by
  obtain ⟨o, ho, hc⟩ := he
  exact wpAny_bind (wpAny_isInstance (T := "StopIteration") (b := true) ⟨o, ho, hc⟩ isSubtype_stop (wpAny_pure (hQ _ hk)))
 unfold pyNext
 refine wpAny_bind (wpAny_attempt (wpAny_callSpecial?_slot (name := Str.ofString "__next__") hT PySem.F.slot_zip_next
  (wpAny_call_entry PySem.F.slot_zip_next hT PySem.F.entry_zip_next ?_ (PySem.F.args_zip_next_1 _))))
 show wpAny _ _ (field (.ref z) 2 >>= _) _ _ _
 refine wpAny_bind (wpAny_field hz rfl (x := .bool false) rfl ?_)
 show wpAny _ _ (field (.ref z) 3 >>= _) _ _ _
 refine wpAny_bind (wpAny_field hz rfl (x := .ref TI) rfl ?_)
 refine wpAny_bind (wpAny_seqItems hTI rfl ?_)
 show wpAny _ _ (Builtin.SmallTypes.ownedTupleIsFree (.ref z) >>= _) _ _ _
 refine wpAny_bind ?_
 unfold Builtin.SmallTypes.ownedTupleIsFree
 refine wpAny_bind (wpAny_field hz rfl (x := .none) rfl (wpAny_pure ?_))
 simp only [if_true]
 refine wpAny_bind (wpAny_rule ?_)
 refine wpAny_bind (wpAny_field hz rfl (x := .ref TO) rfl ?_)
 refine wpAny_bind (wpAny_setField_rec hz (by simp) fun h₁ hz₁ hs₁ => ?_)
 replace hz₁ : IsZip h₁ z TI TO .ellipsis := hz₁
 refine wpAny_bind ?_
 simp only [List.zipIdx_cons, List.zipIdx_nil, List.forIn_cons, List.forIn_nil]
 refine wpAny_bind (wpAny_bind (wpAny_onRaise ?_))
 show wpAny _ _ (Builtin.SmallTypes.nextOf (.ref i1) >>= _) _ _ _
 cases hx : xs[k1]? with
 | none =>
  refine wpAny_bind (zcK hh (h1.extBut hs₁.extBut D.i1z) (zbe hl1 hs₁.extBut D.l1z) hx fun h₂ e hs₂ he => ?_)
  obtain ⟨oe, hoe, hce⟩ := he
  have hz₂ : IsZip h₂ z TI TO .ellipsis := hs₂ _ _ D.i1z.symm hz₁
  have hez : e ≠ z := fun x => by subst x; rw [hz₂] at hoe; cases hoe; simp at hce
  exact wpAny_setField_rec hz₂ (by simp) fun h₃ _ hs₃ => hE h₃ e (fun c o c1 _ c3 _ x => hs₃.extBut _ _ c1 (hs₂ _ _ c3 (hs₁.extBut _ _ c1 x))) ⟨oe, hs₃.extBut _ _ hez hoe, hce⟩
 | some x =>
  have hy : ys[k2]? = none := by rcases hend with h | h; rw [hx] at h; cases h; exact h
  refine wpAny_bind (zbP (h1.extBut hs₁.extBut D.i1z) (zbe hl1 hs₁.extBut D.l1z) hx fun h₂ h1₂ hs₂ => wpAny_pure ?_)
  have hTO₂ : IsPair h₂ TO a b := hs₂.extBut _ _ D.TOi1 (hs₁.extBut _ _ D.TOz hTO)
  refine wpAny_bind (wpAny_seqItems hTO₂ rfl ?_)
  refine wpAny_bind (wpAny_updateSeq_pair hTO₂ fun h₃ hTO₃ hs₃ => ?_)
  refine wpAny_bind (wpAny_letGo (wpAny_pure ?_))
  refine wpAny_bind (wpAny_bind (wpAny_onRaise ?_))
  show wpAny _ _ (Builtin.SmallTypes.nextOf (.ref i2) >>= _) _ _ _
  refine wpAny_bind (zcK hh (((h2.extBut hs₁.extBut D.i2z).extBut hs₂.extBut D.i12.symm).extBut hs₃.extBut D.TOi2.symm)
   (zbe (zbe (zbe hl2 hs₁.extBut D.l2z) hs₂.extBut D.l2i1) hs₃.extBut D.l2TO) hy fun h₄ e hs₄ he => ?_)
  obtain ⟨oe, hoe, hce⟩ := he
  have hz₄ : IsZip h₄ z TI TO .ellipsis := hs₄ _ _ D.i2z.symm (hs₃.extBut _ _ D.TOz.symm (hs₂.extBut _ _ D.i1z.symm hz₁))
  have hez : e ≠ z := fun x => by subst x; rw [hz₄] at hoe; cases hoe; simp at hce
  exact wpAny_setField_rec hz₄ (by simp) fun h₅ _ hs₅ => hE h₅ e (fun c o c1 c2 c3 c4 x => hs₅.extBut _ _ c1 (hs₄ _ _ c4 (hs₃.extBut _ _ c2 (hs₂.extBut _ _ c3 (hs₁.extBut _ _ c1 x))))) ⟨oe, hs₅.extBut _ _ hez hoe, hce⟩
abbrev zpH1 (h : Heap) (l1 : Addr) : Heap := h.push { cls := .type "tuple_iterator", data := .fields #[.ref l1, .int 0 0] }
abbrev zpH2 (h : Heap) (l1 l2 : Addr) : Heap := (zpH1 h l1).push { cls := .type "tuple_iterator", data := .fields #[.ref l2, .int 0 0] }
abbrev zpH3 (h : Heap) (l1 l2 : Addr) : Heap := (zpH2 h l1 l2).push { cls := .type "tuple", data := .seq #[.ref h.objs.size, .ref (zpH1 h l1).objs.size] }
abbrev zpH4 (h : Heap) (l1 l2 : Addr) : Heap := (zpH3 h l1 l2).push { cls := .type "tuple", data := .seq #[.none, .none] }
abbrev zpH5 (h : Heap) (l1 l2 : Addr) : Heap := (zpH4 h l1 l2).push { cls := .type "zip", data := .fields #[.none, .bool false, .bool false, .ref (zpH2 h l1 l2).objs.size, .ref (zpH3 h l1 l2).objs.size] }
theorem zgL (l1 l2 : Addr) (xs ys : Array Value) :
  Meets (Builtin.«zip.__new__» ⟨[.type "zip", .ref l1, .ref l2], []⟩) (fun _ R s => s.heap.IsTuple l1 xs /\ s.heap.IsTuple l2 ys /\
   R (.ok (.ret (.ref (zpH4 s.heap l1 l2).objs.size))) { s with heap := zpH5 s.heap l1 l2 }) :=
 .of_wp fun prog w A R s h => by
  obtain ⟨hp, g, d, tk, os⟩ := s; obtain ⟨hl1, hl2, h⟩ := h
  have hsub := sub_zip
  have hL1 : Heap.IsTuple (Shared.heap ⟨hp, g, d, tk, os⟩) l1 xs := hl1
  have hL2 : Heap.IsTuple (Shared.heap ⟨hp.push { cls := .type "tuple_iterator", data := .fields #[.ref l1, .int 0 0] }, g, d, tk, os⟩) l2 ys := let ⟨o, e, r⟩ := hl2; ⟨o, Heap.get?_push_of_some _ e, r⟩
  wp_walk using wpAny_pyIter_tuple hL1, wpAny_pyIter_tuple hL2
  exact ⟨_, rfl, h⟩
theorem zhC {l1 l2 : Addr} {xs ys : Array Value} {Q : Value -> Shared -> Prop} (hl1 : s.heap.IsTuple l1 xs) (hl2 : s.heap.IsTuple l2 ys)
  (h : ∀ h', IsZip h' (s.heap.objs.size + 4) (s.heap.objs.size + 2) (s.heap.objs.size + 3) .none -> IsPair h' (s.heap.objs.size + 2) (.ref s.heap.objs.size) (.ref (s.heap.objs.size + 1)) ->
   IsPair h' (s.heap.objs.size + 3) .none .none -> h'.IsTupleIter s.heap.objs.size l1 0 -> h'.IsTupleIter (s.heap.objs.size + 1) l2 0 -> h'.objs.size = s.heap.objs.size + 5 ->
   (∀ c o, s.heap.get? c = some o -> h'.get? c = some o) -> Q (.ref (s.heap.objs.size + 4)) { s with heap := h' }) :
  wpAny (model prog w) A (call (.type "zip") [.ref l1, .ref l2]) Q E s := by
 refine callType_new PySem.F.called_zip (by decide) (PySem.F.typeCall_zip_2 _ _) (PySem.F.newCall_zip_2 _ _) (fun obj => PySem.F.args_object_init_3 obj _ _) PySem.F.entry_zip_new
  (zgL l1 l2 xs ys) ⟨hl1, hl2, ?_⟩
 have z1 : (zpH1 s.heap l1).objs.size = s.heap.objs.size + 1 := Heap.size_push ..
 have z2 : (zpH2 s.heap l1 l2).objs.size = s.heap.objs.size + 2 := by rw [Heap.size_push, z1]
 have z3 : (zpH3 s.heap l1 l2).objs.size = s.heap.objs.size + 3 := by rw [Heap.size_push, z2]
 have z4 : (zpH4 s.heap l1 l2).objs.size = s.heap.objs.size + 4 := by rw [Heap.size_push, z3]
 have z5 : (zpH5 s.heap l1 l2).objs.size = s.heap.objs.size + 5 := by rw [Heap.size_push, z4]
 have g5 : (zpH5 s.heap l1 l2).get? (zpH4 s.heap l1 l2).objs.size = some _ := Heap.get?_push_size _ rfl
 have g4 : (zpH5 s.heap l1 l2).get? (zpH3 s.heap l1 l2).objs.size = some _ := Heap.get?_push_of_some _ (Heap.get?_push_size _ rfl)
 have g3 : (zpH5 s.heap l1 l2).get? (zpH2 s.heap l1 l2).objs.size = some _ := Heap.get?_push_of_some _ (Heap.get?_push_of_some _ (Heap.get?_push_size _ rfl))
 have g2 : (zpH5 s.heap l1 l2).get? (zpH1 s.heap l1).objs.size = some _ := Heap.get?_push_of_some _ (Heap.get?_push_of_some _ (Heap.get?_push_of_some _ (Heap.get?_push_size _ rfl)))
 have g1 : (zpH5 s.heap l1 l2).get? s.heap.objs.size = some _ := Heap.get?_push_of_some _ (Heap.get?_push_of_some _ (Heap.get?_push_of_some _ (Heap.get?_push_of_some _ (Heap.get?_push_size _ rfl))))
 show _ /\ _
 rw [z2, z3, z4] at g5
 rw [z1, z2] at g3
 rw [z3] at g4
 rw [z1] at g2
 rw [z4]
 exact ⟨⟨_, g5, rfl⟩, h _ g5 g3 g4 ⟨_, g1, rfl, rfl⟩ ⟨_, g2, rfl, rfl⟩ z5 fun c o x =>
  Heap.get?_push_of_some _ (Heap.get?_push_of_some _ (Heap.get?_push_of_some _ (Heap.get?_push_of_some _ (Heap.get?_push_of_some _ x))))⟩
end
section
variable {X : Cx} {pins : List (Addr × Obj)} {σ : St} {H : Hp} {s : Shared} {h' : Heap}
theorem Inv.turnedL {t' : Nat} {ch : List Addr} (I : Inv X pins σ H s) (k : ∀ b o, b ∉ ch -> s.heap.get? b = some o -> h'.get? b = some o) (f : ∀ c ∈ ch, FpOk X pins H c) : Inv X pins σ H { s with heap := h', toks := t' } := by
 have nb : ∀ b u, H b = some u -> b ∉ ch := fun b u q z => by rw [(f b z).1] at q; cases q
 have nl : X.env.locals ∉ ch := fun z => (f _ z).2.1 rfl
 refine I.step (g' := s.gens) (d' := s.drawn) (ch := ch) (fun b hb => ⟨(f b hb).2.2.2.1, (f b hb).2.1, (f b hb).2.2.2.2.1, (f b hb).2.2.2.2.2⟩) (fun b o _ _ hc q _ => k b o hc q) (fun b o _ _ hc q _ => ⟨o.slots, k b o hc q⟩) (fun _ _ _ _ n => n)
  (fun b o hc q => ⟨o, k b o hc q⟩) (fun _ _ q => q) (fun _ _ _ q => q) (fun b ps q => ⟨#[], by rw [q]; simp⟩) (fun m hm => ?_) (fun b u q => ?_) I.bare
 ·obtain ⟨o, es, ep, ho, r⟩ := hm
  exact ⟨o, es, ep, k _ o nl ho, r⟩
 ·refine (I.hok b u q).stay (fun c v hc q2 => ?_) (fun _ q => q) fun _ _ q => q
  rcases hc with z | z
  ·rw [z] at q2 ⊢; exact k b v (nb b u q) q2
  ·exact k c v (nb c _ z) q2
end
def Itz (K : W.Frag) (a b : Addr) : It :=
  ⟨fun i H => ∃ xs ys x y, SqT K H a xs /\ SqT K H b ys /\ xs[i]? = some x /\ ys[i]? = some y,
   fun i H v H' => ∃ t x y, v = .ref t /\ H t = none /\ H' = upd H t (.tup [x, y]) /\ (∀ xs, SqT K H a xs -> xs[i]? = some x) /\ ∀ ys, SqT K H b ys -> ys[i]? = some y,
   fun i H => ∃ xs ys, SqT K H a xs /\ SqT K H b ys /\ (xs.length ≤ i \/ ys.length ≤ i)⟩
theorem zhD {P : Program} {w : World} {K : W.Frag} {es : List Expr} {kx : Nat} {pos : Pos} (a b z TI TO i1 i2 : Addr) (D : ZipApart z TI TO i1 i2 a b) :
  Turn P w K (.Tuple es kx pos) (Itz K a b) [z, TI, TO, i1, i2] z (fun i h => IsZip h z TI TO .none /\ IsPair h TI (.ref i1) (.ref i2) /\ (∃ x y, IsPair h TO x y) /\ h.IsTupleIter i1 a i /\ h.IsTupleIter i2 b i) where
 mem := by simp
 obj := fun i h st c hc => by
  obtain ⟨hz, hTI, ⟨x, y, hTO⟩, ⟨o1, e1, c1, d1⟩, ⟨o2, e2, c2, d2⟩⟩ := st
  simp only [List.mem_cons, List.not_mem_nil, or_false] at hc
  rcases hc with rfl | rfl | rfl | rfl | rfl
  ·exact ⟨_, hz, fun v q => by have q' : Data.fields _ = Data.cell v := q; cases q'⟩
  ·exact ⟨_, hTI, fun v q => by have q' : Data.seq _ _ = Data.cell v := q; cases q'⟩
  ·exact ⟨_, hTO, fun v q => by have q' : Data.seq _ _ = Data.cell v := q; cases q'⟩
  ·exact ⟨o1, e1, fun v q => by rw [d1] at q; cases q⟩
  ·exact ⟨o2, e2, fun v q => by rw [d2] at q; cases q⟩
 keep := fun i h h' st k => let ⟨hz, hTI, ⟨x, y, hTO⟩, h1, h2⟩ := st; ⟨k z (by simp) _ hz, k TI (by simp) _ hTI, ⟨x, y, k TO (by simp) _ hTO⟩, h1.at fun o q => k i1 (by simp) o q, h2.at fun o q => k i2 (by simp) o q⟩
 item := by
  intro X hP hw hK hc i pins s σ H E I hf st hg
  subst hP hw hK
  obtain ⟨xs, ys, x, y, hqa, hqb, hx, hy⟩ := hg
  obtain ⟨its, rv, p, hlz⟩ := I.tuple hqa
  obtain ⟨its2, rv2, p2, hlz2⟩ := I.tuple hqb
  obtain ⟨u, hu, ru⟩ := rv.get hx
  obtain ⟨u2, hu2, ru2⟩ := rv2.get hy
  obtain ⟨hz, hTI, ⟨oa, ob, hTO⟩, h1, h2⟩ := st
  refine zgK D hz hTI hTO h1 h2 (show s.heap.IsTuple a its.toArray from p) (show s.heap.IsTuple b its2.toArray from p2) (x := u) (y := u2) (by simpa using hu) (by simpa using hu2) fun h5 h' k5 hsz hs hz' hTI' hTO' h1' h2' => ?_
  have I3 : Inv X pins σ H { s with heap := h5, toks := s.toks } := I.turnedL (ch := [z, TO, i1, i2]) (fun c o hc q => k5 c o (fun e => hc (by simp [e])) (fun e => hc (by simp [e])) (fun e => hc (by simp [e])) (fun e => hc (by simp [e])) q)
   fun c hc => hf c (by simp only [List.mem_cons, List.not_mem_nil, or_false] at hc ⊢; rcases hc with h | h | h | h <;> simp [h])
  have I4 : Inv X pins σ (upd H s.heap.objs.size (.tup [x, y])) { s with heap := h5.push { cls := .type "tuple", data := .seq #[u, u2] }, toks := s.toks } := by
   rw [<- hsz]
   exact I3.laid (t' := s.toks) (fun b o q => Heap.get?_push_of_some _ q) (Nat.le_refl _) ⟨zan (by decide : 2 ≤ 100000), _, .cons ru (.cons ru2 .nil), IsTup.new _ _⟩
  have lt : ∀ c ∈ [z, TI, TO, i1, i2], c < s.heap.objs.size := fun c hc => by
   simp only [List.mem_cons, List.not_mem_nil, or_false] at hc
   rcases hc with rfl | rfl | rfl | rfl | rfl
   ·exact Heap.lt_size hz
   ·exact Heap.lt_size hTI
   ·exact Heap.lt_size hTO
   ·obtain ⟨_, e, _⟩ := h1; exact Heap.lt_size e
   ·obtain ⟨_, e, _⟩ := h2; exact Heap.lt_size e
  have nn : ∀ c ∈ [z, TI, TO, i1, i2], upd H s.heap.objs.size (.tup [x, y]) c = none := fun c hc => by rw [za8 (Nat.ne_of_lt (lt c hc))]; exact (hf c hc).1
  have fz := hf z (by simp)
  have I5 := I4.turned (h' := h') (it := z) (t' := s.toks) (fun b o hb q => (hs.2 b hb).trans q) (nn z (by simp)) fz.2.1 fz.2.2.2.1 fz.2.2.2.2.1 fz.2.2.2.2.2
  refine ⟨_, rfl, wpAny_letOwnedTupleGo_zip hz' fun h8 hz8 hs8 => ?_⟩
  have I6 := I5.turned (h' := h8) (it := z) (t' := s.toks) (fun b o hb q => (hs8.2 b hb).trans q) (nn z (by simp)) fz.2.1 fz.2.2.2.1 fz.2.2.2.2.1 fz.2.2.2.2.2
  exact ⟨.ref s.heap.objs.size, _, I6, rfl, ⟨_, x, y, rfl, I.hok.fresh (Nat.le_refl _), rfl, (fun zs hq => by rw [I.tuple_inj hq hqa]; exact hx), fun zs hq => by rw [I.tuple_inj hq hqb]; exact hy⟩,
   ⟨hz8, hs8.extBut _ _ D.TIz hTI', ⟨_, _, hs8.extBut _ _ D.TOz hTO'⟩, h1'.extBut hs8.extBut D.i1z, h2'.extBut hs8.extBut D.i2z⟩, nn⟩
 done := by
  intro X hP hw hK hc i pins s σ H E I hf st hg
  subst hP hw hK
  obtain ⟨xs, ys, hqa, hqb, hx⟩ := hg
  obtain ⟨its, rv, p, hlz⟩ := I.tuple hqa
  obtain ⟨its2, rv2, p2, hlz2⟩ := I.tuple hqb
  obtain ⟨hz, hTI, ⟨oa, ob, hTO⟩, h1, h2⟩ := st
  have hl := rv.length
  have hl2 := rv2.length
  exact zhB (I.ok.hd hc) D hz hTI hTO h1 h2 (show s.heap.IsTuple a its.toArray from p) (show s.heap.IsTuple b its2.toArray from p2) (hx.imp (fun h => by simp; omega) fun h => by simp; omega) fun h' k5 => ⟨rfl, I.turnedL (t' := s.toks) (ch := [z, TO, i1, i2])
   (fun c o hc q => k5 c o (fun e => hc (by simp [e])) (fun e => hc (by simp [e])) (fun e => hc (by simp [e])) (fun e => hc (by simp [e])) q)
   fun c hc => hf c (by simp only [List.mem_cons, List.not_mem_nil, or_false] at hc ⊢; rcases hc with h | h | h | h <;> simp [h])⟩
 self := fun _ _ _ _ _ st h => wpAny_pyIter_zip st.1 h
section
variable {X : Cx}
def iZip (K : W.Frag) (ta : TA) : TI := fun σ H R => ta σ H fun vs H1 => ∃ a b, vs = [.ref a, .ref b] /\ (∃ xs, SqT K H1 a xs) /\ (∃ ys, SqT K H1 b ys) /\ R (Itz K a b) H1
theorem zlX {K : W.Frag} {σ : St} {H : Hp} {R : It -> Hp -> Prop} {ta : TA} : iZip K ta σ H R = ta σ H fun vs H1 => ∃ a b, vs = [.ref a, .ref b] /\ (∃ xs, SqT K H1 a xs) /\ (∃ ys, SqT K H1 b ys) /\ R (Itz K a b) H1 := rfl
theorem zle (K : W.Frag) {es : List Expr} {kx : Nat} {pt p pos : Pos} {a b : Expr} {ta : TA} (hg : Gl X "zip") (hm : X.mg "zip" = none) (ha : PA X [a, b] ta) (hs : starEach [a, b] X.env = (false, eval a X.env) :: starEach [b] X.env := by rfl) (hpl : (backTo pos (starEach [b] X.env)).any (·.1) = false := by rfl) (hK : X.K = K := by rfl) :
  PI X (.Tuple es kx pt) (.Call (.Name "zip" p) [a, b] [] pos) (iZip K ta) := by
 subst hK
 intro pins s σ H R I h
 refine Call_ (zcZ I hg hm boot_zip (PyProof.Rows.callWith_type1 (thn (ha pos pins s σ H _ I h) fun us s1 ⟨vs, H1, I1, r1, q1⟩ => ?_) hs hpl))
 obtain ⟨a, b, e, ⟨xs, hqa⟩, ⟨ys, hqb⟩, q⟩ := q1
 subst e
 cases r1 with
 | cons r rr =>
  cases rr with
  | cons r2 rr =>
   cases rr
   cases r
   cases r2
   obtain ⟨its, rv, pp, hz⟩ := I1.tuple hqa
   obtain ⟨its2, rv2, pp2, hz2⟩ := I1.tuple hqb
   have ha : a < s1.heap.objs.size := let ⟨_, e, _⟩ := pp; Heap.lt_size e
   have hb : b < s1.heap.objs.size := let ⟨_, e, _⟩ := pp2; Heap.lt_size e
   refine zhC (show s1.heap.IsTuple a its.toArray from pp) (show s1.heap.IsTuple b its2.toArray from pp2) fun h' hz hTI hTO h1 h2 hsz kk => wpAny_pyIter_zip hz ?_
   refine ⟨s1.heap.objs.size + 4, [s1.heap.objs.size + 4, s1.heap.objs.size + 2, s1.heap.objs.size + 3, s1.heap.objs.size, s1.heap.objs.size + 1], _, _, H1, rfl, I1.kept (t' := s1.toks) kk, zhD a b _ _ _ _ _ (zipApart_new ha hb), ⟨hz, hTI, ⟨_, _, hTO⟩, h1, h2⟩, fun c hc => ?_, q⟩
   have hc' : s1.heap.objs.size ≤ c := by
    simp only [List.mem_cons, List.not_mem_nil, or_false] at hc
    rcases hc with rfl | rfl | rfl | rfl | rfl <;> omega
   exact I1.fpOk hc' (I1.hok.fresh hc')
end
end L2
namespace L2
open PySem PySem.Spec PyProof.Rows
section
variable {K : W.Frag} {nt : Nat} {is : List Nat} {g : TG} {tt : TT} {te : TE} {σ : St} {H : Hp} {Q : VK}
theorem zhE {a b : Addr} {xs ys : List V} (he : ys.length = xs.length) (Pv : Nat -> List V -> Hp -> Prop) (h0 : Pv 0 [] H) (hl : ∀ i acc H, i ≤ xs.length -> Pv i acc H -> SqT K H a xs /\ SqT K H b ys)
  (hs : ∀ i x y acc H t, xs[i]? = some x -> ys[i]? = some y -> H t = none -> Pv i acc H -> acc.length < sizeLine /\ g (.ref t) (zaG nt is σ) (upd H t (.tup [x, y])) fun σ2 H2 => tt σ2 H2 fun b H3 => if b = true then te σ2 H3 fun y H4 => Pv (i + 1) (acc ++ [y]) H4 else Pv (i + 1) acc H3)
  (hd : ∀ acc H, Pv xs.length acc H -> ∀ p, H p = none -> Q (.ref p) (upd H p (.lst acc))) (hz : ∀ i acc H, i < xs.length -> Pv i acc H -> acc.length < sizeLine) : zey (Itz K a b) nt is g tt te σ H Q := by
 refine zbY (n := xs.length) Pv h0 (fun i acc H hi p => ?_) fun acc H p => ⟨⟨xs, ys, (hl _ _ _ (Nat.le_refl _) p).1, (hl _ _ _ (Nat.le_refl _) p).2, .inl (Nat.le_refl _)⟩, hd acc H p⟩
 have hx : xs[i]? = some xs[i] := by simp [hi]
 have hi' : i < ys.length := by omega
 have hy : ys[i]? = some ys[i] := by simp [hi']
 have q := hl i acc H (Nat.le_of_lt hi) p
 refine ⟨⟨xs, ys, _, _, q.1, q.2, hx, hy⟩, hz i acc H hi p, fun v H' z => ?_⟩
 obtain ⟨t, x, y, rfl, hn, rfl, z1, z2⟩ := z
 have e1 := z1 xs q.1
 have e2 := z2 ys q.2
 rw [hx] at e1
 rw [hy] at e2
 cases e1; cases e2
 exact (hs i _ _ acc H t hx hy hn p).2
theorem zf3 {n : Nat} (hn : 2 ≤ n) : ∀ x (σ : St) (H : Hp) R, gTup K 2 (zfh (zcS 0) (zfh (zcS 1) gNil)) x σ H R -> gTup K 2 (zfh (zcS 0) (zfh (zcS 1) gNil)) x σ H fun σ2 H2 => σ2.drop n = σ.drop n /\ R σ2 H2 := by
 rintro x σ H R ⟨a, xs, rfl, hq, hl, v, r, rfl, v2, r2, rfl, rfl, h⟩
 exact ⟨a, _, rfl, hq, hl, v, _, rfl, v2, _, rfl, rfl, by rw [List.drop_set_of_lt (by omega), List.drop_set_of_lt (by omega)], h⟩
end
section
variable {X : Cx}
def zlf : TE := fun _ H Q => ∀ p, H p = none -> Q (.ref p) (upd H p (.dK []))
theorem Inv.past {pins : List (Addr × Obj)} {σ : St} {H : Hp} {s : Shared} (I : Inv X pins σ H s) : sysModules < s.heap.objs.size := by
 exact Nat.lt_trans (by decide) (I.mod.glob.keeps I.bk).lt
theorem zjk {pos : Pos} : PE X (.Dict [] [] pos) zlf := fun pins s σ H Q I h =>
 wpAny_Dict_empty ⟨.ref s.heap.objs.size, _, I.laid (a := s.heap.objs.size) (o := .dK []) (t' := s.toks) (fun _ _ q => Heap.get?_push_of_some _ q) (Nat.le_refl _)
  ⟨Nat.zero_le _, beq_eq_false_iff_ne.mpr (Ne.symm (Nat.ne_of_lt I.past)), [], .nil, Heap.DictOf.new s.heap⟩, rfl, h _ (I.hok.fresh (Nat.le_refl _))⟩
theorem zlg {σ : St} {H : Hp} {Q : VK} : zlf σ H Q = ∀ p, H p = none -> Q (.ref p) (upd H p (.dK [])) := rfl
theorem zjl {K : W.Frag} {k : Str} {p : Addr} {H : Hp} {Q : VK} : zeZ K (.str k) (.ref p) H Q = ∃ D, TabK K p D /\ Q (.bl (KTD.inKeys k D)) H := by
 refine propext ⟨fun ⟨_, _, D, e1, e2, h⟩ => ?_, fun ⟨D, h⟩ => ⟨k, p, D, rfl, rfl, h⟩⟩
 cases e1; cases e2; exact ⟨D, h⟩
theorem zjm {K : W.Frag} {k : Str} {p : Addr} {H : Hp} {Q : VK} : zfa K (.ref p) (.str k) H Q = ∃ D z, TabK K p D /\ KTD.datumAt k D = some z /\ Q z H := by
 refine propext ⟨fun ⟨_, _, D, z, e1, e2, h⟩ => ?_, fun ⟨D, z, h⟩ => ⟨k, p, D, z, rfl, rfl, h⟩⟩
 cases e1; cases e2; exact ⟨D, z, h⟩
end
end L2
namespace L2
open PySem PySem.Spec PyProof.Rows
def Stm.fts : Stm -> List Str
 | .is _ ts => ts
 | .fls => []
 | .neg A => A.fts
 | .bi _ A B => A.fts ++ B.fts
 | .qu _ X A => A.fts.filter fun t => decide (t ≠ X)
theorem zhF {x : Str} {i m : Int} {P : Nat -> Prop} (hm : 0 < m) (hx : m ≤ (x.length : Int)) (k : ∀ c ∈ x.cps.toList.take m.toNat, P c) : ∃ c, atI x.cps.toList (i % m) = some c /\ P c := by
 have e := zb8 x
 have h0 := Int.emod_nonneg i (show m ≠ 0 by omega)
 have h1 := Int.emod_lt_of_pos i hm
 generalize i % m = j at h0 h1
 obtain ⟨j, rfl⟩ : ∃ n : Nat, j = n := ⟨j.toNat, by omega⟩
 have hj : j < x.cps.toList.length := by omega
 exact ⟨x.cps.toList[j], zae (List.getElem?_eq_getElem hj), k _ (List.mem_take_iff_getElem.mpr ⟨j, by omega, rfl⟩)⟩
def zis (t : Str) : Prop := Nm smallS t \/ Nm greatS t
def spC3 (K : W.Frag) : Sp := fun vs H Q _ => ∃ (a : Addr) (ns : List Int) (n : Int), vs = [.ref a, .int n] /\ SqL K H a (ns.map V.int) /\ ns.length ≤ 63 /\ 0 ≤ n /\ ∀ c : Int, 0 ≤ c -> c < 2147483647 -> Q (.int c) H
def zlY : Sp := fun vs H Q _ => ∃ sh c k : Int, vs = [.int sh, .int c, .int k] /\ 0 ≤ sh /\ 0 ≤ c /\ 0 ≤ k /\ ∀ (x : Str) H', Same H H' -> Nm smallS x -> Q (.str x) H'
def zlZ : Sp := fun vs H Q _ => ∃ c : Int, vs = [.int c] /\ 0 ≤ c /\ ∀ (x : Str) H', Same H H' -> Nm greatS x -> Q (.str x) H'
def zlh (K : W.Frag) (d : Nat) : Sp := fun vs H Q _ => ∃ (n : Int) (r : Nat) (tp wp : Addr) (ts ws : List Str), vs = [.int n, .int r, .ref tp, .ref wp] /\ 0 ≤ n /\ r < d /\ H tp = some (.lst (ts.map V.str)) /\ SqL K H wp (ws.map V.str) /\
 ts ≠ [] /\ ts.length + r ≤ 100 /\ (∀ t ∈ ts, zis t) /\ ws.length = 3 /\ (∀ t ∈ ws, Nm smallS t) /\
 ∀ (S : Stm) (v : V) H', Same H H' -> RepS K H' S v -> S.Ok -> S.deep ≤ r + 1 -> (∀ t ∈ S.fts, t ∈ ts) -> Q v H'
section
variable {K : W.Frag} {H : Hp} {p : Addr} {ys zs : List V}
theorem RepS.keepL (hp : H p = some (.lst ys)) : ∀ {S : Stm} {v : V}, RepS K H S v -> RepS K (upd H p (.lst zs)) S v
 | .is _ _, _, ⟨a, b, h1, h2, h3⟩ => ⟨a, b, h1, h2.keepL hp, h3.keepL hp⟩
 | .fls, _, ⟨a, h1, h2⟩ => ⟨a, h1, h2.keepL hp⟩
 | .neg _, _, ⟨a, u, h1, h2, h3⟩ => ⟨a, u, h1, h2.keepL hp, RepS.keepL hp h3⟩
 | .bi _ _ _, _, ⟨a, u, u', h1, h2, h3, h4⟩ => ⟨a, u, u', h1, h2.keepL hp, RepS.keepL hp h3, RepS.keepL hp h4⟩
 | .qu _ _ _, _, ⟨a, u, h1, h2, h3⟩ => ⟨a, u, h1, h2.keepL hp, RepS.keepL hp h3⟩
theorem RepL.keepL {Ss : List Stm} {vs : List V} (hp : H p = some (.lst ys)) (h : RepL K H Ss vs) : RepL K (upd H p (.lst zs)) Ss vs := Paired.mapP h fun _ _ => RepS.keepL hp
end
def StOk (d : Nat) (S : Stm) : Prop := S.Ok /\ S.deep ≤ d /\ ∀ t ∈ S.fts, Nm smallS t
theorem StOk.mono {d e : Nat} {S : Stm} (h : StOk d S) (hd : d ≤ e) : StOk e S := ⟨h.1, Nat.le_trans h.2.1 hd, h.2.2⟩
def zli (K : W.Frag) : Sp := fun vs H Q _ => ∃ (a : Addr) (ns : List Int) (n : Int), vs = [.ref a, .int n] /\ SqL K H a (ns.map V.int) /\ ns.length ≤ 63 /\ 0 ≤ n /\
 ∀ (p np wp : Addr) (nm wd : List Str) H', Same H H' -> H' p = some (.lst [.ref np, .ref wp]) -> H' np = some (.lst (nm.map V.str)) -> H' wp = some (.lst (wd.map V.str)) -> nm.length = 3 -> wd.length = 3 -> (∀ t ∈ nm, Nm smallS t) -> (∀ t ∈ wd, Nm smallS t) -> Q (.ref p) H'
end L2
namespace L2
open PySem PySem.Spec PyProof.Rows
def zcL (l : Int) (r : Str) : Int := if opn r = true then l - 1 else l
def zbq (k : Nat) (l : Int) (r : Str) (p : List Nat) : Option (List Nat) :=
 if zcL l r < 0 \/ zcL l r > p.length then none else some (if opn r = true then p.take (zcL l r).toNat ++ [k] else p.take (zcL l r).toNat)
def zbw (f : Nat -> Int × Str) : Nat -> Option (List Nat)
 | 0 => some []
 | i + 1 => (zbw f i).bind (zbq i (f i).1 (f i).2)
theorem zjn {k l : Nat} {r : Str} {p : List Nat} (h1 : o1 r ≤ l) (h2 : l ≤ p.length + o1 r) : (nxt k r l p).length = l := by
 unfold nxt
 unfold o1 at h1 h2
 split
 ·next h => rw [if_pos h] at h1 h2; rw [List.length_append, List.length_take]; simp only [List.length_singleton]; omega
 ·next h => rw [if_neg h] at h1 h2; rw [List.length_take]; omega
theorem zdm {rs : List Str} {g : Nat -> Nat} {n : Nat} (h : LvOk rs g n) : ∀ i, i ≤ n -> (pathAt rs g i).length = room g i
 | 0, _ => rfl
 | i + 1, hi => by
  obtain ⟨h1, h2, _⟩ := h i (by omega)
  have ih := zdm h i (by omega)
  show (nxt i (rs.getD i "") (g i) (pathAt rs g i)).length = room g (i + 1)
  rw [zjn h1 (by omega)]
  show g i = if i + 1 = 0 then 0 else g (i + 1 - 1)
  rw [if_neg (by omega)]
  rfl
theorem ze7 {k : Nat} {l : Nat} {r : Str} {p : List Nat} (h1 : o1 r ≤ l) (h2 : l ≤ p.length + o1 r) : zbq k (l : Int) r p = some (nxt k r l p) := by
 unfold zbq nxt zcL
 unfold o1 at h1 h2
 by_cases h : opn r = true
 ·rw [if_pos h] at h1 h2
  simp only [h, if_true]
  rw [if_neg (by omega), show ((l : Int) - 1).toNat = l - 1 by omega]
 ·rw [if_neg h] at h1 h2
  simp only [h, if_false, Bool.false_eq_true]
  rw [if_neg (by omega), Int.toNat_natCast]
theorem zfb {rs : List Str} {g : Nat -> Nat} {n : Nat} (h : LvOk rs g n) {f : Nat -> Int × Str} : ∀ i, i ≤ n -> (∀ j, j < i -> f j = ((g j : Int), rs.getD j "")) -> zbw f i = some (pathAt rs g i)
 | 0, _, _ => rfl
 | i + 1, hi, hf => by
  have ih := zfb h (f := f) i (by omega) fun j hj => hf j (by omega)
  obtain ⟨h1, h2, _⟩ := h i (by omega)
  have hl := zdm h i (by omega)
  show (zbw f i).bind (zbq i (f i).1 (f i).2) = _
  rw [ih, hf i (by omega)]
  exact ze7 (k := i) h1 (show g i ≤ (pathAt rs g i).length + o1 (rs.getD i "") by omega)
theorem zfc {f : Nat -> Int × Str} {i : Nat} (h : zbw f i = none) : ∀ d, zbw f (i + d) = none
 | 0 => h
 | d + 1 => by
  show (zbw f (i + d)).bind _ = none
  rw [zfc h d]
  rfl
theorem zgM {f : Nat -> Int × Str} : ∀ {i : Nat} {p : List Nat}, zbw f i = some p -> p.length ≤ i
 | 0, p, h => by cases h; exact Nat.le_refl _
 | i + 1, p, h => by
  have h : (zbw f i).bind (zbq i (f i).1 (f i).2) = some p := h
  cases e : zbw f i with
  | none => rw [e] at h; cases h
  | some q =>
   have ih := zgM e
   rw [e] at h
   have h : zbq i (f i).1 (f i).2 q = some p := h
   unfold zbq at h
   split at h
   ·cases h
   ·cases h
    split
    ·rw [List.length_append, List.length_take]; simp only [List.length_singleton]; omega
    ·rw [List.length_take]; omega
section
variable {K : W.Frag} {H H' : Hp} {us : List V} {f : Nat -> Int × Str}
def zjo (K : W.Frag) (H : Hp) (f : Nat -> Int × Str) (us : List V) : Prop := ∀ i v, us[i]? = some v -> ∃ a x y, v = .ref a /\ SqT K H a [.int (f i).1, .str (f i).2, x, y]
theorem deps_le {l : List Dt} {n : Nat} (h : ∀ d ∈ l, Dt.dep d ≤ n) : Dt.deps l ≤ n := by
 induction l with
 | nil => exact Nat.zero_le _
 | cons a l ih => exact Nat.max_le.mpr ⟨h a (by simp), ih fun d hd => h d (by simp [hd])⟩
end
def zhG (K : W.Frag) : Sp := fun vs H Q _ => ∃ (a c : Addr) (k : Nat) (p : List Nat) (l : Int) (r : Str) (x y : V), vs = [.ref a, .ref c, .int k] /\ SqT K H a (iv p) /\ SqT K H c [.int l, .str r, x, y] /\ p.length ≤ 100 /\
 (zbq k l r p = none -> Q .non H) /\ ∀ q, zbq k l r p = some q -> ∀ b H', Same H H' -> SqT K H' b (iv q) -> Q (.ref b) H'
def zma (K : W.Frag) : Sp := fun vs H Q _ => ∃ (a : Addr) (us : List V) (f : Nat -> Int × Str), vs = [.ref a] /\ SqT K H a us /\ zjo K H f us /\ us.length ≤ 80 /\
 ∀ (q : Addr) ps H', Same H H' -> SqT K H' q ps -> RepPs K H' (fun i => (zbw f (i + 1)).getD []) ps -> ps.length ≤ us.length -> (∀ i, i < ps.length -> zbw f (i + 1) ≠ none) -> (ps.length < us.length -> zbw f (ps.length + 1) = none) -> Q (.ref q) H'
end L2
namespace L2
open PySem
section
variable {H : Hp} {Q : VK} {o0 o1 o2 o3 o4 o5 o6 o7 o8 o9 o10 o11 o12 o13 o14 o15 o16 : Option V} {v : V} {rr : St}
theorem zmb : tVar 12 (o0 :: o1 :: o2 :: o3 :: o4 :: o5 :: o6 :: o7 :: o8 :: o9 :: o10 :: o11 :: some v :: rr) H Q = Q v H := by simp [tVar]
theorem zmc : tVar 13 (o0 :: o1 :: o2 :: o3 :: o4 :: o5 :: o6 :: o7 :: o8 :: o9 :: o10 :: o11 :: o12 :: some v :: rr) H Q = Q v H := by simp [tVar]
theorem zmd : tVar 14 (o0 :: o1 :: o2 :: o3 :: o4 :: o5 :: o6 :: o7 :: o8 :: o9 :: o10 :: o11 :: o12 :: o13 :: some v :: rr) H Q = Q v H := by simp [tVar]
theorem zme : tVar 15 (o0 :: o1 :: o2 :: o3 :: o4 :: o5 :: o6 :: o7 :: o8 :: o9 :: o10 :: o11 :: o12 :: o13 :: o14 :: some v :: rr) H Q = Q v H := by simp [tVar]
theorem zmf : tVar 16 (o0 :: o1 :: o2 :: o3 :: o4 :: o5 :: o6 :: o7 :: o8 :: o9 :: o10 :: o11 :: o12 :: o13 :: o14 :: o15 :: some v :: rr) H Q = Q v H := by simp [tVar]
theorem zmg : tVar 17 (o0 :: o1 :: o2 :: o3 :: o4 :: o5 :: o6 :: o7 :: o8 :: o9 :: o10 :: o11 :: o12 :: o13 :: o14 :: o15 :: o16 :: some v :: rr) H Q = Q v H := by simp [tVar]
end
end L2
namespace L2
open PySem PySem.Spec PyProof.Rows
inductive RdV (K : W.Frag) (H : Hp) : PyData -> V -> Prop
 | non : RdV K H .none .non
 | bl (b : Bool) : RdV K H (.bool b) (.bl b)
 | int (i : Int) : RdV K H (.int i) (.int i)
 | str (z : Str) : RdV K H (.str z) (.str z)
 | tup {a : Addr} {xs : List V} {ds : List PyData} (h : SqT K H a xs) (hl : ds.length = xs.length) (hr : ∀ (j : Nat) (d : PyData) (x : V), ds[j]? = some d -> xs[j]? = some x -> RdV K H d x) : RdV K H (.tuple ds) (.ref a)
theorem zcM {h : Heap} : ∀ {xs : List V} {its : List Value} {ds : List PyData}, Vals xs its -> ds.length = xs.length -> (∀ (j : Nat) (d : PyData) (x : V), ds[j]? = some d -> xs[j]? = some x -> ∀ {u : Value}, RelV x u -> ∃ as, Reads h u d as) -> ∃ as, ReadsAll h its ds as
 | _, _, [], .nil, _, _ => ⟨_, .nil⟩
 | _, _, [], .cons _ _, hl, _ => by simp at hl
 | _, _, _ :: _, .nil, hl, _ => by simp at hl
 | _, _, d :: ds, .cons r1 r2, hl, hr => by
  obtain ⟨as, h1⟩ := hr 0 d _ rfl rfl r1
  obtain ⟨bs, h2⟩ := zcM r2 (by simpa using hl) fun j d x e1 e2 => hr (j + 1) d x (by simpa using e1) (by simpa using e2)
  exact ⟨_, .cons h1 h2⟩
section
variable {X : Cx} {pins : List (Addr × Obj)} {σ : St} {H : Hp} {s : Shared}
theorem RdV.reads (I : Inv X pins σ H s) {d : PyData} {x : V} (h : RdV X.K H d x) : ∀ {u : Value}, RelV x u -> ∃ as, Reads s.heap u d as := by
 induction h with
 | non => intro u r; cases r; exact ⟨_, .none⟩
 | bl b => intro u r; cases r; exact ⟨_, .bool b⟩
 | int i => intro u r; obtain ⟨t, rfl⟩ := r; exact ⟨_, .int i t⟩
 | str z => intro u r; obtain ⟨t, rfl⟩ := r; exact ⟨_, .str z t⟩
 | tup h hl hr ih =>
  intro u r
  cases r
  obtain ⟨its, rv, ⟨o, e, hc, n, hd⟩, _⟩ := I.tuple h
  obtain ⟨as, ha⟩ := zcM (h := s.heap) rv hl fun j d x e1 e2 => ih j d x e1 e2
  exact ⟨_, .tuple e hc hd (by simpa using ha)⟩
end
section
variable {X : Cx}
def zjp (K : W.Frag) : List V -> Hp -> VK -> Prop := fun xs H Q => ∃ a d, xs = [.ref a] /\ RdV K H d (.ref a) /\ d.showable = true /\ d.hasDict = false /\ d.depth ≤ 60 /\ d.shown.length ≤ sizeLine /\ Q (.str d.shown) H
theorem zgN (hg : X.A.guards = some []) (hu : X.A.units + 64 < cLine) : zbo X (.builtin "repr") (zjp X.K) := by
 intro pins s σ H xs us Q I r h
 obtain ⟨a, d, rfl, hd, hs, hn, hp, hz, q⟩ := h
 obtain ⟨u, rfl, rx⟩ := zdp r
 obtain ⟨as, hr⟩ := hd.reads I rx
 cases rx
 exact repr_of_reads' hr hs (PyData.noDict_hsm hn) hg (by omega) (fun _ _ e => e) (fun h' t tk kk => ⟨.str d.shown, H, I.kept kk, ⟨t, rfl⟩, q⟩) hz
theorem zdn (K : W.Frag) (hg : X.A.guards = some []) (hu : X.A.units + 64 < cLine) (hK : X.K = K := by rfl) : zbo X (.builtin "repr") (zjp K) := hK ▸ zgN hg hu
theorem zlj {K : W.Frag} {p : Addr} {H : Hp} {Q : VK} : zjp K [.ref p] H Q = ∃ d, RdV K H d (.ref p) /\ d.showable = true /\ d.hasDict = false /\ d.depth ≤ 60 /\ d.shown.length ≤ sizeLine /\ Q (.str d.shown) H :=
 propext ⟨fun ⟨_, d, e, h⟩ => by cases e; exact ⟨d, h⟩, fun ⟨d, h⟩ => ⟨p, d, rfl, h⟩⟩
def rNeD (K : W.Frag) : R2 := fun x y H Q => rNeC K x y H Q \/ ∃ b i, x = .bl b /\ y = .int i /\ Q (.bl (!((if b = true then (1 : Int) else 0) == i))) H
theorem zjq : OpR X (compareOp .NotEq) (fun x y H Q => ∃ b i, x = .bl b /\ y = .int i /\ Q (.bl (!((if b = true then (1 : Int) else 0) == i))) H) := by
 intro pins s σ H x y v u Q I rx ry h
 obtain ⟨b, i, rfl, rfl, q⟩ := h
 cases rx
 obtain ⟨t, rfl⟩ := ry
 exact PySem.EqBoolInt.ne_bool_int (zaJ I q rfl)
theorem zit (K : W.Frag) (hu : X.A.units + 64 < cLine) (hK : X.K = K := by rfl) : OpR X (compareOp .NotEq) (rNeD K) := hK ▸ (OpR.or (zim X.K hu) zjq : OpR X (compareOp .NotEq) (rNeD X.K))
theorem zgO {K : W.Frag} {H : Hp} {Q : VK} {T : String} : zcc K T [.non, .ty T] H Q = ∃ c, W.kitOne K (.type "NoneType") (.type T) = some c /\ Q (.bl c) H := by
 refine propext ⟨fun ⟨_, _, b, e, t, h⟩ => ?_, fun ⟨b, h⟩ => ⟨_, _, b, rfl, .of .non, h⟩⟩
 cases e
 rcases t with t | t | t
 cases t; exact ⟨b, h⟩
end
end L2
namespace L2
open PySem PySem.Spec PyProof.Rows
open AutoSeq1 (wpAny_loadPart')
section
variable {prog : Program} {w : World} {A : Around} {E : Value -> Shared -> Prop} {s : Shared}
end
section
variable {prog : Program} {w : World} {A : Around} {E : Value -> Shared -> Prop} {s : Shared} {I : Addr} {fp wr : List Addr} {G : Array GenState -> Array GenState -> Prop} {n : Nat} {P : Nat -> Value -> Prop} {St : Nat -> Shared -> Prop}
end
section
variable {X : Cx}
end
end L2
namespace L2
open PySem PySem.Spec PyProof.Rows
open AutoSeq1
section
variable {X : Cx}
def zmh (K : W.Frag) : V -> List V -> Hp -> VK -> Prop := fun x vs H Q => ∃ l b xs zs, x = .ref l /\ vs = [.ref b] /\ H l = some (.lst xs) /\ SqT K H b zs /\ xs.length + zs.length ≤ sizeLine /\ Q .non (upd H l (.lst (xs ++ zs)))
theorem zmv {K : W.Frag} {p b : Addr} {H : Hp} {Q : VK} : zmh K (.ref p) [.ref b] H Q = ∃ xs zs, H p = some (.lst xs) /\ SqT K H b zs /\ xs.length + zs.length ≤ sizeLine /\ Q .non (upd H p (.lst (xs ++ zs))) := by
 refine propext ⟨fun ⟨_, _, xs, zs, e1, e2, h⟩ => ?_, fun ⟨xs, zs, h⟩ => ⟨p, b, xs, zs, rfl, rfl, h⟩⟩
 cases e1; cases e2; exact ⟨xs, zs, h⟩
end
end L2
namespace L2
open PySem PySem.Spec PyProof.Rows
section
variable {prog : Program} {w : World} {A : Around} {E : Value -> Shared -> Prop} {s : Shared}
end
section
variable {X : Cx} {tg : Expr}
end
section
variable {X : Cx} {e st : Expr} {te ts : TE} {pos p2 : Pos}
def zmi (K : W.Frag) : R2 := fun x y H Q => ∃ p q bs cs, x = .ref p /\ y = .ref q /\ SqL K H p (List.map V.bl bs) /\ SqL K H q (List.map V.bl cs) /\ bs.length = cs.length /\ Q (.bl (!(List.range bs.length).all fun i => bs.getD i false == cs.getD i false)) H
theorem zmj {K : W.Frag} {p q : Addr} {H : Hp} {Q : VK} : zmi K (.ref p) (.ref q) H Q = ∃ bs cs, SqL K H p (List.map V.bl bs) /\ SqL K H q (List.map V.bl cs) /\ bs.length = cs.length /\ Q (.bl (!(List.range bs.length).all fun i => bs.getD i false == cs.getD i false)) H :=
 propext ⟨fun ⟨_, _, bs, cs, e1, e2, h⟩ => by cases e1; cases e2; exact ⟨bs, cs, h⟩, fun ⟨bs, cs, h⟩ => ⟨p, q, bs, cs, rfl, rfl, h⟩⟩
end
end L2
namespace L2
open PySem PySem.Spec PyProof.Rows
section
variable {X : Cx}
end
end L2
namespace K34
open PySem L2
def top (i : Nat) : Stmt := PySem.Challenge.pw_boxproof_k34_each_and_some.main.body.getD i (.Pass ⟨0, 0, 0, 0⟩)
abbrev zce : Stmt := top 1
abbrev zaK : Stmt := top 3
abbrev zbA : Stmt := top 10
abbrev zbB : Stmt := top 11
abbrev zaA : Stmt := top 12
abbrev zaE : Stmt := top 13
abbrev zaw : Stmt := top 21
abbrev zbj : Stmt := top 22
abbrev zaV : Stmt := top 23
abbrev zbC : Stmt := top 24
abbrev zaB : Stmt := top 27
abbrev zbk : Stmt := top 28
abbrev zd6 : Stmt := top 29
abbrev zbl : Stmt := top 44
abbrev zbm : Stmt := top 46
abbrev zbf : Stmt := top 51
abbrev zbn : Stmt := top 55
abbrev za6 : Stmt := top 56
abbrev zaC : Stmt := top 57
abbrev zaP : Stmt := top 58
abbrev zaQ : Stmt := top 59
abbrev za3 : Stmt := top 60
abbrev zaF : Stmt := top 62
abbrev zaW : Stmt := top 64
abbrev zaX : Stmt := top 65
abbrev zaL : Stmt := top 66
abbrev zbx : Stmt := top 67
abbrev zby : Stmt := top 68
abbrev zbD : Stmt := top 70
abbrev zaY : Stmt := top 72
abbrev zaZ : Stmt := top 73
abbrev zaR : Stmt := top 74
abbrev zbE : Stmt := top 75
abbrev zbF : Stmt := top 76
abbrev zd7 : Stmt := top 77
abbrev zaS : Stmt := zgi (top 53) 0
abbrev zaz : Stmt := zgi (top 53) 1
set_option genInjectivity false in
set_option genSizeOf false in
structure Defs where
 (a_e8 : Addr) (d_e8 : FuncData)
 (a_a9 : Addr) (d_a9 : FuncData)
 (a_e3 : Addr) (d_e3 : FuncData)
 (a_e6 : Addr) (d_e6 : FuncData)
 (a_a5 : Addr) (d_a5 : FuncData)
 (a_a8 : Addr) (d_a8 : FuncData)
 (a_a0 : Addr) (d_a0 : FuncData)
 (a_d6 : Addr) (d_d6 : FuncData)
 (a_c1 : Addr) (d_c1 : FuncData)
 (a_e4 : Addr) (d_e4 : FuncData)
 (a_a6 : Addr) (d_a6 : FuncData)
 (a_c8 : Addr) (d_c8 : FuncData)
 (a_f0 : Addr) (d_f0 : FuncData)
 (a_d0 : Addr) (d_d0 : FuncData)
 (a_c9 : Addr) (d_c9 : FuncData)
 (a_c6 : Addr) (d_c6 : FuncData)
 (a_d5 : Addr) (d_d5 : FuncData)
 (a_a3 : Addr) (d_a3 : FuncData)
 (a_a4 : Addr) (d_a4 : FuncData)
 (a_b1 : Addr) (d_b1 : FuncData)
 (a_b2 : Addr) (d_b2 : FuncData)
 (a_a2 : Addr) (d_a2 : FuncData)
 (a_a7 : Addr) (d_a7 : FuncData)
 (a_b5 : Addr) (d_b5 : FuncData)
 (a_b6 : Addr) (d_b6 : FuncData)
 (a_b0 : Addr) (d_b0 : FuncData)
 (a_d9 : Addr) (d_d9 : FuncData)
 (a_e0 : Addr) (d_e0 : FuncData)
 (a_e2 : Addr) (d_e2 : FuncData)
 (a_b9 : Addr) (d_b9 : FuncData)
 (a_b7 : Addr) (d_b7 : FuncData)
 (a_b4 : Addr) (d_b4 : FuncData)
 (a_e5 : Addr) (d_e5 : FuncData)
 (a_e7 : Addr) (d_e7 : FuncData)
 (a_e9 : Addr) (d_e9 : FuncData)
 (a_b3 : Addr) (d_b3 : FuncData)
 (a_a1 : Addr) (d_a1 : FuncData)
 (a_c7 : Addr)
 (a_d4 : Addr)
 (a_d2 : Addr)
 (a_c2 : Addr)
 (a_c0 : Addr)
 (a_c5 : Addr)
 (a_d1 : Addr)
 (a_e1 : Addr)
 (a_d3 : Addr)
 (a_c4 : Addr)
 (a_b8 : Addr)
 (a_d7 : Addr)
 (a_c3 : Addr)
 (a_d8 : Addr)
 (k_OPENING_RULES : Addr)
 (k_KEPT_WORDS : Addr)
 (k_QUANTIFIERS : Addr)
 (k_FALSE : Addr)
 (k_RULES : Addr) (r_RULES_0 w_RULES_0 : Addr) (r_RULES_1 w_RULES_1 : Addr) (r_RULES_2 w_RULES_2 : Addr) (r_RULES_3 w_RULES_3 : Addr) (r_RULES_4 w_RULES_4 : Addr) (r_RULES_5 w_RULES_5 : Addr) (r_RULES_6 w_RULES_6 : Addr) (r_RULES_7 w_RULES_7 : Addr) (r_RULES_8 w_RULES_8 : Addr) (r_RULES_9 w_RULES_9 : Addr) (r_RULES_10 w_RULES_10 : Addr) (r_RULES_11 w_RULES_11 : Addr) (r_RULES_12 w_RULES_12 : Addr) (r_RULES_13 w_RULES_13 : Addr) (r_RULES_14 w_RULES_14 : Addr) (r_RULES_15 w_RULES_15 : Addr)
 (x_BoxError : Addr)
 (x_NoBox : Addr)
 (C_Ahead : Addr)
set_option genInjectivity false in
set_option genSizeOf false in
structure Tx (K : W.Frag) (mg : Str -> Option Value) (D : Defs) : Prop where
 F_e8 : Fun K "seen" "seen" zce D.a_e8 D.d_e8
 m_e8 : mg "seen" = some (.ref D.a_e8)
 b_e8 : Binds K D.d_e8 ["paths", "k", "i"] []
 F_a9 : Fun K "begins_with" "begins_with" zaK D.a_a9 D.d_a9
 m_a9 : mg "begins_with" = some (.ref D.a_a9)
 b_a9 : Binds K D.d_a9 ["path", "beginning"] []
 F_e3 : Fun K "opens" "opens" zbA D.a_e3 D.d_e3
 m_e3 : mg "opens" = some (.ref D.a_e3)
 b_e3 : Binds K D.d_e3 ["rule"] []
 F_e6 : Fun K "boxes" "boxes" zbB D.a_e6 D.d_e6
 m_e6 : mg "boxes" = some (.ref D.a_e6)
 b_e6 : Binds K D.d_e6 ["lines"] []
 F_a5 : Fun K "fitting_boxes" "fitting_boxes" zaA D.a_a5 D.d_a5
 m_a5 : mg "fitting_boxes" = some (.ref D.a_a5)
 b_a5 : Binds K D.d_a5 ["lines"] []
 F_a8 : Fun K "boxes_behind" "boxes_behind" zaE D.a_a8 D.d_a8
 m_a8 : mg "boxes_behind" = some (.ref D.a_a8)
 b_a8 : Binds K D.d_a8 ["path", "line", "k"] []
 F_a0 : Fun K "begins_and_goes_on" "begins_and_goes_on" zaw D.a_a0 D.d_a0
 m_a0 : mg "begins_and_goes_on" = some (.ref D.a_a0)
 b_a0 : Binds K D.d_a0 ["text", "first_signs"] []
 F_d6 : Fun K "is_name" "is_name" zbj D.a_d6 D.d_d6
 m_d6 : mg "is_name" = some (.ref D.a_d6)
 b_d6 : Binds K D.d_d6 ["text"] []
 F_c1 : Fun K "is_letter" "is_letter" zaV D.a_c1 D.d_c1
 m_c1 : mg "is_letter" = some (.ref D.a_c1)
 b_c1 : Binds K D.d_c1 ["text"] []
 F_e4 : Fun K "parts" "parts" zbC D.a_e4 D.d_e4
 m_e4 : mg "parts" = some (.ref D.a_e4)
 b_e4 : Binds K D.d_e4 ["A"] []
 F_a6 : Fun K "free_terms_in" "free_terms_in" zaB D.a_a6 D.d_a6
 m_a6 : mg "free_terms_in" = some (.ref D.a_a6)
 b_a6 : Binds K D.d_a6 ["A"] []
 F_c8 : Fun K "free_in" "free_in" zbk D.a_c8 D.d_c8
 m_c8 : mg "free_in" = some (.ref D.a_c8)
 b_c8 : Binds K D.d_c8 ["A"] []
 F_f0 : Fun K "put" "put" zd6 D.a_f0 D.d_f0
 m_f0 : mg "put" = some (.ref D.a_f0)
 b_f0 : Binds K D.d_f0 ["A", "letter", "name"] []
 F_d0 : Fun K "by_each" "by_each" zbl D.a_d0 D.d_d0
 m_d0 : mg "by_each" = some (.ref D.a_d0)
 b_d0 : Binds K D.d_d0 ["S", "taken"] []
 F_c9 : Fun K "by_some" "by_some" zbm D.a_c9 D.d_c9
 m_c9 : mg "by_some" = some (.ref D.a_c9)
 b_c9 : Binds K D.d_c9 ["S", "taken"] []
 F_c6 : Fun K "name_for" "name_for" zbf D.a_c6 D.d_c6
 m_c6 : mg "name_for" = some (.ref D.a_c6)
 b_c6 : Binds K D.d_c6 ["ref"] []
 F_d5 : Fun K "follows" "follows" zbn D.a_d5 D.d_d5
 m_d5 : mg "follows" = some (.ref D.a_d5)
 b_d5 : Binds K D.d_d5 ["lines", "paths", "k"] []
 F_a3 : Fun K "follows_behind" "follows_behind" za6 D.a_a3 D.d_a3
 m_a3 : mg "follows_behind" = some (.ref D.a_a3)
 b_a3 : Binds K D.d_a3 ["ahead", "lines", "paths", "k"] []
 F_a4 : Fun K "fits_its_rule" "fits_its_rule" zaC D.a_a4 D.d_a4
 m_a4 : mg "fits_its_rule" = some (.ref D.a_a4)
 b_a4 : Binds K D.d_a4 ["statement", "rule"] []
 F_b1 : Fun K "follows_by" "follows_by" zaP D.a_b1 D.d_b1
 m_b1 : mg "follows_by" = some (.ref D.a_b1)
 b_b1 : Binds K D.d_b1 ["wants_and_step", "lines", "paths", "k"] []
 F_b2 : Fun K "stands_for" "stands_for" zaQ D.a_b2 D.d_b2
 m_b2 : mg "stands_for" = some (.ref D.a_b2)
 b_b2 : Binds K D.d_b2 ["want", "ref", "lines", "paths", "k"] []
 F_a2 : Fun K "is_number_ahead" "is_number_ahead" za3 D.a_a2 D.d_a2
 m_a2 : mg "is_number_ahead" = some (.ref D.a_a2)
 b_a2 : Binds K D.d_a2 ["ref", "k"] []
 F_a7 : Fun K "statement_of" "statement_of" zaF D.a_a7 D.d_a7
 m_a7 : mg "statement_of" = some (.ref D.a_a7)
 b_a7 : Binds K D.d_a7 ["line"] []
 F_b5 : Fun K "_law_cell_at" "_law_cell_at" zaW D.a_b5 D.d_b5
 m_b5 : mg "_law_cell_at" = some (.ref D.a_b5)
 b_b5 : Binds K D.d_b5 ["_law_script", "_law_k"] []
 F_b6 : Fun K "_law_name_by" "_law_name_by" zaX D.a_b6 D.d_b6
 m_b6 : mg "_law_name_by" = some (.ref D.a_b6)
 b_b6 : Binds K D.d_b6 ["_law_shape", "_law_cell", "_law_k"] []
 F_b0 : Fun K "_law_letter_by" "_law_letter_by" zaL D.a_b0 D.d_b0
 m_b0 : mg "_law_letter_by" = some (.ref D.a_b0)
 b_b0 : Binds K D.d_b0 ["_law_cell"] []
 F_d9 : Fun K "_law_made" "_law_made" zbx D.a_d9 D.d_d9
 m_d9 : mg "_law_made" = some (.ref D.a_d9)
 b_d9 : Binds K D.d_d9 ["_law_number", "_law_room", "_law_terms_here", "_law_words"] []
 F_e0 : Fun K "_law_draw" "_law_draw" zby D.a_e0 D.d_e0
 m_e0 : mg "_law_draw" = some (.ref D.a_e0)
 b_e0 : Binds K D.d_e0 ["_law_script", "_law_at"] []
 F_e2 : Fun K "_law_put" "_law_put" zbD D.a_e2 D.d_e2
 m_e2 : mg "_law_put" = some (.ref D.a_e2)
 b_e2 : Binds K D.d_e2 ["_law_ka", "_law_letter", "_law_name"] []
 F_b9 : Fun K "_law_is_name" "_law_is_name" zaY D.a_b9 D.d_b9
 m_b9 : mg "_law_is_name" = some (.ref D.a_b9)
 b_b9 : Binds K D.d_b9 ["_law_thing"] []
 F_b7 : Fun K "_law_slipped" "_law_slipped" zaZ D.a_b7 D.d_b7
 m_b7 : mg "_law_slipped" = some (.ref D.a_b7)
 b_b7 : Binds K D.d_b7 ["_law_ka", "_law_number", "_law_name"] []
 F_b4 : Fun K "_law_odd_name" "_law_odd_name" zaR D.a_b4 D.d_b4
 m_b4 : mg "_law_odd_name" = some (.ref D.a_b4)
 b_b4 : Binds K D.d_b4 ["_law_cell"] []
 F_e5 : Fun K "_law_due" "_law_due" zbE D.a_e5 D.d_e5
 m_e5 : mg "_law_due" = some (.ref D.a_e5)
 b_e5 : Binds K D.d_e5 ["_law_rule", "_law_ka", "_law_ks", "_law_refs"] []
 F_e7 : Fun K "_law_two" "_law_two" zbF D.a_e7 D.d_e7
 m_e7 : mg "_law_two" = some (.ref D.a_e7)
 b_e7 : Binds K D.d_e7 ["_law_script", "_law_drawn"] []
 F_e9 : Fun K "law" "law" zd7 D.a_e9 D.d_e9
 m_e9 : mg "law" = some (.ref D.a_e9)
 b_e9 : Binds K D.d_e9 ["_law_script"] []
 F_b3 : Fun K "__init__" "Ahead.__init__" zaS D.a_b3 D.d_b3
 h_b3 : Meth K D.C_Ahead "__init__" D.a_b3
 b_b3 : Binds K D.d_b3 ["self", "lines"] []
 F_a1 : Fun K "only_givens" "Ahead.only_givens" zaz D.a_a1 D.d_a1
 h_a1 : Meth K D.C_Ahead "only_givens" D.a_a1
 b_a1 : Binds K D.d_a1 ["self", "k"] []
 c_OPENING_RULES : mg "OPENING_RULES" = some (.ref D.k_OPENING_RULES)
 q_OPENING_RULES : ∀ H, SqT K H D.k_OPENING_RULES [V.str "guess", V.str "new", V.str "case"]
 c_SMALL : ∃ t, mg "SMALL" = some (.str "abcdefghijklmnopqrstuvwxyz" t)
 c_GREAT : ∃ t, mg "GREAT" = some (.str "ABCDEFGHIJKLMNOPQRSTUVWXYZ" t)
 c_SMALL_OR_FIGURE : ∃ t, mg "SMALL_OR_FIGURE" = some (.str "abcdefghijklmnopqrstuvwxyz0123456789" t)
 c_KEPT_WORDS : mg "KEPT_WORDS" = some (.ref D.k_KEPT_WORDS)
 q_KEPT_WORDS : ∀ H, SqT K H D.k_KEPT_WORDS [V.str "not", V.str "and", V.str "or", V.str "then", V.str "all", V.str "some", V.str "false"]
 c_MOST_SIGNS : ∃ t, mg "MOST_SIGNS" = some (.int 8 t)
 c_QUANTIFIERS : mg "QUANTIFIERS" = some (.ref D.k_QUANTIFIERS)
 q_QUANTIFIERS : ∀ H, SqT K H D.k_QUANTIFIERS [V.str "all", V.str "some"]
 c_FALSE : mg "FALSE" = some (.ref D.k_FALSE)
 q_FALSE : ∀ H, SqT K H D.k_FALSE [V.str "false"]
 c_RULES : mg "RULES" = some (.ref D.k_RULES)
 q_RULES : TabK K D.k_RULES [("again", V.ref D.r_RULES_0), ("both", V.ref D.r_RULES_1), ("left", V.ref D.r_RULES_2), ("right", V.ref D.r_RULES_3), ("either", V.ref D.r_RULES_4), ("cases", V.ref D.r_RULES_5), ("then", V.ref D.r_RULES_6), ("use", V.ref D.r_RULES_7), ("deny", V.ref D.r_RULES_8), ("clash", V.ref D.r_RULES_9), ("absurd", V.ref D.r_RULES_10), ("any", V.ref D.r_RULES_11), ("each", V.ref D.r_RULES_12), ("every", V.ref D.r_RULES_13), ("some", V.ref D.r_RULES_14), ("one", V.ref D.r_RULES_15)]
 qr_RULES_0 : ∀ H, SqT K H D.r_RULES_0 [V.ref D.w_RULES_0, V.ref D.a_c7]
 qw_RULES_0 : ∀ H, SqT K H D.w_RULES_0 [V.str "line"]
 qr_RULES_1 : ∀ H, SqT K H D.r_RULES_1 [V.ref D.w_RULES_1, V.ref D.a_d4]
 qw_RULES_1 : ∀ H, SqT K H D.w_RULES_1 [V.str "line", V.str "line"]
 qr_RULES_2 : ∀ H, SqT K H D.r_RULES_2 [V.ref D.w_RULES_2, V.ref D.a_d2]
 qw_RULES_2 : ∀ H, SqT K H D.w_RULES_2 [V.str "line"]
 qr_RULES_3 : ∀ H, SqT K H D.r_RULES_3 [V.ref D.w_RULES_3, V.ref D.a_c2]
 qw_RULES_3 : ∀ H, SqT K H D.w_RULES_3 [V.str "line"]
 qr_RULES_4 : ∀ H, SqT K H D.r_RULES_4 [V.ref D.w_RULES_4, V.ref D.a_c0]
 qw_RULES_4 : ∀ H, SqT K H D.w_RULES_4 [V.str "line"]
 qr_RULES_5 : ∀ H, SqT K H D.r_RULES_5 [V.ref D.w_RULES_5, V.ref D.a_c5]
 qw_RULES_5 : ∀ H, SqT K H D.w_RULES_5 [V.str "line", V.str "box", V.str "box"]
 qr_RULES_6 : ∀ H, SqT K H D.r_RULES_6 [V.ref D.w_RULES_6, V.ref D.a_d1]
 qw_RULES_6 : ∀ H, SqT K H D.w_RULES_6 [V.str "box"]
 qr_RULES_7 : ∀ H, SqT K H D.r_RULES_7 [V.ref D.w_RULES_7, V.ref D.a_e1]
 qw_RULES_7 : ∀ H, SqT K H D.w_RULES_7 [V.str "line", V.str "line"]
 qr_RULES_8 : ∀ H, SqT K H D.r_RULES_8 [V.ref D.w_RULES_8, V.ref D.a_d3]
 qw_RULES_8 : ∀ H, SqT K H D.w_RULES_8 [V.str "box"]
 qr_RULES_9 : ∀ H, SqT K H D.r_RULES_9 [V.ref D.w_RULES_9, V.ref D.a_c4]
 qw_RULES_9 : ∀ H, SqT K H D.w_RULES_9 [V.str "line", V.str "line"]
 qr_RULES_10 : ∀ H, SqT K H D.r_RULES_10 [V.ref D.w_RULES_10, V.ref D.a_b8]
 qw_RULES_10 : ∀ H, SqT K H D.w_RULES_10 [V.str "box"]
 qr_RULES_11 : ∀ H, SqT K H D.r_RULES_11 [V.ref D.w_RULES_11, V.ref D.a_d7]
 qw_RULES_11 : ∀ H, SqT K H D.w_RULES_11 [V.str "line"]
 qr_RULES_12 : ∀ H, SqT K H D.r_RULES_12 [V.ref D.w_RULES_12, V.ref D.a_d0]
 qw_RULES_12 : ∀ H, SqT K H D.w_RULES_12 [V.str "line", V.str "name"]
 qr_RULES_13 : ∀ H, SqT K H D.r_RULES_13 [V.ref D.w_RULES_13, V.ref D.a_c3]
 qw_RULES_13 : ∀ H, SqT K H D.w_RULES_13 [V.str "box"]
 qr_RULES_14 : ∀ H, SqT K H D.r_RULES_14 [V.ref D.w_RULES_14, V.ref D.a_c9]
 qw_RULES_14 : ∀ H, SqT K H D.w_RULES_14 [V.str "line", V.str "name"]
 qr_RULES_15 : ∀ H, SqT K H D.r_RULES_15 [V.ref D.w_RULES_15, V.ref D.a_d8]
 qw_RULES_15 : ∀ H, SqT K H D.w_RULES_15 [V.str "line", V.str "box"]
 z_all : mg "all" = none
 z_bool : mg "bool" = none
 z_enumerate : mg "enumerate" = none
 z_int : mg "int" = none
 z_isinstance : mg "isinstance" = none
 z_len : mg "len" = none
 z_list : mg "list" = none
 z_range : mg "range" = none
 z_repr : mg "repr" = none
 z_set : mg "set" = none
 z_sorted : mg "sorted" = none
 z_str : mg "str" = none
 z_tuple : mg "tuple" = none
 z_zip : mg "zip" = none
 x_BoxError : XCls K mg "BoxError" D.x_BoxError [] [.type "ValueError", .type "Exception", .type "BaseException", .type "object"] "ValueError.__new__"
 x_NoBox : XCls K mg "NoBox" D.x_NoBox [D.x_BoxError] [.type "ValueError", .type "Exception", .type "BaseException", .type "object"] "ValueError.__new__"
 m_Ahead : mg "Ahead" = some (.ref D.C_Ahead)
 cl_Ahead : Cls K D.C_Ahead
 mk_Ahead : Mk K D.C_Ahead D.a_b3
 n_Ahead_lines : NoAttr K D.C_Ahead "lines"
 n_Ahead_givens : NoAttr K D.C_Ahead "givens"
 n_Ahead_named : NoAttr K D.C_Ahead "named"
 n_Ahead_first_places : NoAttr K D.C_Ahead "first_places"
theorem Tx.g_OPENING_RULES {K : W.Frag} {mg : Str -> Option Value} {D : Defs} (T : Tx K mg D) {X : Cx} {pos : Pos} (h : Gl X "OPENING_RULES") (hm : X.mg = mg := by rfl) : PE X (.Name "OPENING_RULES" pos) (tC (.ref D.k_OPENING_RULES)) := zbJ h (hm ▸ T.c_OPENING_RULES) rfl
theorem Tx.g_SMALL {K : W.Frag} {mg : Str -> Option Value} {D : Defs} (T : Tx K mg D) {X : Cx} {pos : Pos} (h : Gl X "SMALL") (hm : X.mg = mg := by rfl) : PE X (.Name "SMALL" pos) (tC (.str "abcdefghijklmnopqrstuvwxyz")) := by
 obtain ⟨t, e⟩ := T.c_SMALL
 exact zbJ h (hm ▸ e) ⟨t, rfl⟩
theorem Tx.g_GREAT {K : W.Frag} {mg : Str -> Option Value} {D : Defs} (T : Tx K mg D) {X : Cx} {pos : Pos} (h : Gl X "GREAT") (hm : X.mg = mg := by rfl) : PE X (.Name "GREAT" pos) (tC (.str "ABCDEFGHIJKLMNOPQRSTUVWXYZ")) := by
 obtain ⟨t, e⟩ := T.c_GREAT
 exact zbJ h (hm ▸ e) ⟨t, rfl⟩
theorem Tx.g_SMALL_OR_FIGURE {K : W.Frag} {mg : Str -> Option Value} {D : Defs} (T : Tx K mg D) {X : Cx} {pos : Pos} (h : Gl X "SMALL_OR_FIGURE") (hm : X.mg = mg := by rfl) : PE X (.Name "SMALL_OR_FIGURE" pos) (tC (.str "abcdefghijklmnopqrstuvwxyz0123456789")) := by
 obtain ⟨t, e⟩ := T.c_SMALL_OR_FIGURE
 exact zbJ h (hm ▸ e) ⟨t, rfl⟩
theorem Tx.g_KEPT_WORDS {K : W.Frag} {mg : Str -> Option Value} {D : Defs} (T : Tx K mg D) {X : Cx} {pos : Pos} (h : Gl X "KEPT_WORDS") (hm : X.mg = mg := by rfl) : PE X (.Name "KEPT_WORDS" pos) (tC (.ref D.k_KEPT_WORDS)) := zbJ h (hm ▸ T.c_KEPT_WORDS) rfl
theorem Tx.g_MOST_SIGNS {K : W.Frag} {mg : Str -> Option Value} {D : Defs} (T : Tx K mg D) {X : Cx} {pos : Pos} (h : Gl X "MOST_SIGNS") (hm : X.mg = mg := by rfl) : PE X (.Name "MOST_SIGNS" pos) (tC (.int 8)) := by
 obtain ⟨t, e⟩ := T.c_MOST_SIGNS
 exact zbJ h (hm ▸ e) ⟨t, rfl⟩
theorem Tx.g_QUANTIFIERS {K : W.Frag} {mg : Str -> Option Value} {D : Defs} (T : Tx K mg D) {X : Cx} {pos : Pos} (h : Gl X "QUANTIFIERS") (hm : X.mg = mg := by rfl) : PE X (.Name "QUANTIFIERS" pos) (tC (.ref D.k_QUANTIFIERS)) := zbJ h (hm ▸ T.c_QUANTIFIERS) rfl
theorem Tx.g_RULES {K : W.Frag} {mg : Str -> Option Value} {D : Defs} (T : Tx K mg D) {X : Cx} {pos : Pos} (h : Gl X "RULES") (hm : X.mg = mg := by rfl) : PE X (.Name "RULES" pos) (tC (.ref D.k_RULES)) := zbJ h (hm ▸ T.c_RULES) rfl
local macro_rules | `(tactic| walk_at "s") => `(tactic| exact ⟨rfl, rfl, rfl, by decide +kernel, rfl, by decide +kernel, by decide +kernel⟩)
theorem zjr : zay ["paths", "k", "i"] ["paths", "k", "i"] (zag zce) := by walk_at "s"
theorem zcW : zay ["path", "beginning"] ["path", "beginning"] (zag zaK) := by walk_at "s"
theorem zhH : zay ["rule"] ["rule"] (zag zbA) := by walk_at "s"
theorem sc_e6 : zay ["lines", "paths", "place"] ["lines"] (zag zbB) := by walk_at "s"
theorem sc_a5 : zay ["lines", "paths", "path", "k", "line"] ["lines"] (zag zaA) := by walk_at "s"
theorem sc_a8 : zay ["path", "line", "k", "level", "kept"] ["path", "line", "k"] (zag zaE) := by walk_at "s"
theorem zbM : zay ["text", "first_signs"] ["text", "first_signs"] (zag zaw) := by walk_at "s"
theorem zf4 : zay ["text"] ["text"] (zag zbj) := by walk_at "s"
theorem zei : zay ["text"] ["text"] (zag zaV) := by walk_at "s"
theorem zhI : zay ["A"] ["A"] (zag zbC) := by walk_at "s"
theorem sc_a6 : zay ["A", "found", "part"] ["A"] (zag zaB) := by walk_at "s"
theorem zf5 : zay ["A"] ["A"] (zag zbk) := by walk_at "s"
theorem ziu : zay ["A", "letter", "name"] ["A", "letter", "name"] (zag zd6) := by walk_at "s"
theorem sc_d0 : zay ["S", "taken", "A"] ["S", "taken"] (zag zbl) := by walk_at "s"
theorem zf6 : zay ["S", "taken"] ["S", "taken"] (zag zbm) := by walk_at "s"
theorem ze8 : zay ["ref"] ["ref"] (zag zbf) := by walk_at "s"
theorem zf7 : zay ["lines", "paths", "k"] ["lines", "paths", "k"] (zag zbn) := by walk_at "s"
theorem sc_a3 : zay ["ahead", "lines", "paths", "k", "line", "rule", "name"] ["ahead", "lines", "paths", "k"] (zag za6) := by walk_at "s"
theorem zcy : zay ["statement", "rule"] ["statement", "rule"] (zag zaC) := by walk_at "s"
theorem sc_b1 : zay ["wants_and_step", "lines", "paths", "k", "wants", "step", "refs", "taken"] ["wants_and_step", "lines", "paths", "k"] (zag zaP) := by walk_at "s"
theorem zd8 : zay ["want", "ref", "lines", "paths", "k"] ["want", "ref", "lines", "paths", "k"] (zag zaQ) := by walk_at "s"
theorem zcf : zay ["ref", "k"] ["ref", "k"] (zag za3) := by walk_at "s"
theorem zcN : zay ["line"] ["line"] (zag zaF) := by walk_at "s"
theorem sc_b5 : zay ["_law_script", "_law_k", "_law_cell"] ["_law_script", "_law_k"] (zag zaW) := by walk_at "s"
theorem sc_b6 : zay ["_law_shape", "_law_cell", "_law_k", "_law_signs", "_law_place", "_law_name", "_law_turn"] ["_law_shape", "_law_cell", "_law_k"] (zag zaX) := by walk_at "s"
theorem sc_b0 : zay ["_law_cell", "_law_signs"] ["_law_cell"] (zag zaL) := by walk_at "s"
theorem sc_d9 : zay ["_law_number", "_law_room", "_law_terms_here", "_law_words", "_law_kind", "_law_rest", "_law_some_here", "_law_turn", "_law_first", "_law_second", "_law_letter"] ["_law_number", "_law_room", "_law_terms_here", "_law_words"] (zag zbx) := by walk_at "s"
theorem sc_e0 : zay ["_law_script", "_law_at", "_law_shape", "_law_names", "_law_words"] ["_law_script", "_law_at"] (zag zby) := by walk_at "s"
theorem zfd : zay ["_law_ka", "_law_letter", "_law_name"] ["_law_ka", "_law_letter", "_law_name"] (zag zbD) := by walk_at "s"
theorem zej : zay ["_law_thing"] ["_law_thing"] (zag zaY) := by walk_at "s"
theorem sc_b7 : zay ["_law_ka", "_law_number", "_law_name", "_law_at"] ["_law_ka", "_law_number", "_law_name"] (zag zaZ) := by walk_at "s"
theorem sc_b4 : zay ["_law_cell", "_law_some_here"] ["_law_cell"] (zag zaR) := by walk_at "s"
theorem zhJ : zay ["_law_rule", "_law_ka", "_law_ks", "_law_refs"] ["_law_rule", "_law_ka", "_law_ks", "_law_refs"] (zag zbE) := by walk_at "s"
theorem sc_e7 : zay ["_law_script", "_law_drawn", "_law_cell", "_law_rule", "_law_letter", "_law_inner", "_law_whole", "_law_name", "_law_bare", "_law_way", "_law_number"] ["_law_script", "_law_drawn"] (zag zbF) := by walk_at "s"
theorem sc_e9 : zay ["_law_script", "_law_drawn", "_law_some_here", "_law_refs", "_law_cell", "_law_ka", "_law_ks", "_law_levels", "_law_ahead", "_law_handed", "_law_kept", "_law_paths", "_law_k", "_law_found", "_law_due_here"] ["_law_script"] (zag zd7) := by walk_at "s"
theorem zd9 : zay ["self", "lines"] ["self", "lines"] (zag zaS) := by walk_at "s"
theorem zbQ : zay ["self", "k"] ["self", "k"] (zag zaz) := by walk_at "s"
end K34
namespace K34
open PySem L2
seal PE PS PSs PA PT PW PG PI PO PIf OpR UnR zbo IxR SlR MtR MtM PSet
local macro_rules | `(tactic| walk_at "bpW") => `(tactic| simp only [↓w_v0, ↓w_v1, ↓w_v2, ↓w_v3, ↓w_v4, ↓w_v5, ↓w_v6, ↓w_v7, ↓w_v8, ↓w_v9, ↓zl1, ↓zl2, ↓w_c, ↓zdu, ↓zl3, ↓zkh, ↓zl4, ↓zki, ↓zdv, ↓zb7, ↓w_op, ↓w_un, ↓zkj, ↓w_B, ↓w_bl, ↓zl5, ↓w_or, ↓w_not, ↓zkk, ↓zl6, ↓zkl, ↓w_if, ↓zkm, ↓zl7, ↓zkn, ↓zl8, ↓zl9, ↓zko, ↓w_CB, ↓w_BM, ↓zhq, ↓zgr, ↓w_sl, ↓zhr, ↓zkp, ↓zlA, ↓ziE, ↓w_rI, ↓zeS, ↓zkq, ↓zeT, ↓zlB, ↓zlC, ↓zlD, ↓zlE, ↓zhs, ↓zlF, ↓zht, ↓zlG, ↓zdT, ↓zkr, ↓zks, ↓zlH, ↓zlI, ↓zkt, ↓zku, ↓zkv, ↓zlJ, ↓zlK, ↓zkw, ↓zkx, ↓zky, ↓ziF, ↓zgs, ↓zhu, ↓zhv, ↓zhw, ↓zkz, ↓zk0, ↓zgt, ↓zgu, ↓zlL, ↓zk1, ↓ziM, ↓zk6, ↓zii, ↓zk7, ↓zk8, ↓zfw, ↓zfx, ↓zh1, ↓ziD, ↓zhl, ↓List.set_cons_zero, ↓List.set_cons_succ, ↓List.nil_append, ↓List.cons_append, ↓List.append_nil, ↓reduceIte, Bool.false_eq_true, decide_eq_true_eq, Bool.not_eq_true', decide_eq_false_iff_not, ↓ziO, ↓zh6, ↓ziP, ↓ziQ, ↓ziR, ↓zkH, ↓zkI, ↓zkL, ↓zkM, ↓zkJ, ↓zkK, ↓zkN, ↓zkO, ↓zkP, ↓zgB, ↓zkQ, ↓w_is, ↓zlR, ↓ziS, ↓ziT, ↓zkT, ↓zlP, ↓zkC, ↓zkD, ↓zkE, ↓zlS, ↓zlT, ↓ziU, ↓zlU, ↓zio, ↓ziV, ↓zkU, ↓zkW, ↓zkX, ↓zd4, ↓ziX, ↓ziY, ↓zgD, ↓ziZ, ↓zgE, ↓zja, ↓zjb, ↓zjc, ↓zlV, ↓zjd, ↓zlW, ↓zlc, ↓zjj, ↓zlX, ↓zio, ↓zlg, ↓zjh, ↓zjl, ↓zjm, ↓zkZ, ↓zmj, ↓zmb, ↓zmc, ↓zmd, ↓zme, ↓zmf, ↓zmg, ↓zlj, ↓zgO])
local macro_rules | `(tactic| walk_at "S") => `(tactic| simp only [L2.start, List.map_cons, List.map_nil, List.length_cons, List.length_nil, Nat.reduceAdd, Nat.reduceSub, List.replicate_succ, List.replicate_zero, List.cons_append, List.nil_append, List.append_nil, Nat.zero_add, Nat.sub_self])
local macro_rules | `(tactic| walk_at "o") => `(tactic| first | exact Or.inl (by rfl) | exact Or.inr (by rfl))
local macro_rules | `(tactic| walk_at "") => `(tactic| walk_at "bpW")
section
variable {P : Program} {w : World} {K : W.Frag} {mg : Str -> Option Value} {base0 : Heap} {D : Defs}
theorem zbN (T : Tx K mg D) : FnOk P w K mg base0 CX0 1 D.a_b5 D.d_b5 ["_law_script", "_law_k"] (spC3 K) := by
 refine T.F_b5.ok sc_b5 (fun vs H Q E h => ?_) (fun cdv A outer s H vs Q E hr h => ?_)
 ·obtain ⟨a, ns, n, rfl, _⟩ := h; rfl
 obtain ⟨a, ns, n, rfl, hS, hl, h0, k⟩ := h
 have hu := hr.units
 refine ⟨_, (zaf (zaH (zap (za9 K hu) (zax (za4 K) (by rfl) T.z_len PySem.boot_len (zaa (pv 0) zah)) zad (zar _)) (zai (zas zad)) zau)
  (zaf (zat (i := 2) sc_b5.nd (by rfl) (by walk_at "o") (zaq zav (zaq zb4 (zaq (za5 K) (zam (ixA K) (pv 0) (zaq zav (pv 1) (zax (za4 K) (by rfl) T.z_len PySem.boot_len (zaa (pv 0) zah))) (fun _ _ => rfl)) (zaq zb4 zad (pv 1))) zad) zad))
  (zai (zas (zaq zav (zaq zb4 (pv 2) (pv 2)) zad))))), ?_⟩
 walk_at "S"
 walk_at ""
 refine ⟨_, .inl hS, ?_⟩
 rw [List.length_map]
 refine ite2 (fun c => k 0 (by decide) (by decide)) fun c => ?_
 have hp : 0 < ns.length := by omega
 refine ⟨_, .inl hS, ?_⟩
 rw [List.length_map]
 have m0 := Int.emod_nonneg n (show (ns.length : Int) ≠ 0 by omega)
 have m1 := Int.emod_lt_of_pos n (show (0 : Int) < ns.length by omega)
 refine ⟨by omega, _, .inl hS, _, zhz m0 m1, ?_⟩
 walk_at ""
 refine ⟨zdw, ziH, by decide, zdw ?_, by decide, k _ (Int.emod_nonneg _ (by decide)) (Int.lt_of_lt_of_le (Int.emod_lt_of_pos _ (by decide)) (by decide))⟩
 have q0 := Int.emod_nonneg ((ns.getD (n % (ns.length : Int)).toNat 0 + 7919 * n) * 48271) (show (2147483647 : Int) ≠ 0 by decide)
 have q1 := Int.emod_lt_of_pos ((ns.getD (n % (ns.length : Int)).toNat 0 + 7919 * n) * 48271) (show (0 : Int) < 2147483647 by decide)
 omega
theorem zbS (T : Tx K mg D) : FnOk P w K mg base0 CX0 1 D.a_b0 D.d_b0 ["_law_cell"] zlZ := by
 refine T.F_b0.ok sc_b0 (fun vs H Q E h => ?_) (fun cdv A outer s H vs Q E hr h => ?_)
 ·obtain ⟨c, rfl, _⟩ := h; rfl
 obtain ⟨c, rfl, h0, k⟩ := h
 have hu := hr.units
 refine ⟨_, (zaf (zat (i := 1) sc_b0.nd (by rfl) (by walk_at "o") zao)
  (zai (zas (zaq (za5 K) (zam (ixA K) (pv 1) (zaq zav (pv 0) zad) (fun _ _ => rfl)) (zam (ixA K) (zaN (zaa zao (zaa zao (zaa zao (zaa zao (zaa zao zah)))))) (zaq zav (zaq zaI (pv 0) zad) zad) (fun _ _ => rfl)))))), ?_⟩
 walk_at "S"
 walk_at ""
 obtain ⟨z, ez, hz⟩ := ziG (x := "ABCDEFGHIJKLMNOPQRSTUVWXYZ") (i := c) (P := fun c => c ∈ greatS.cps.toList) (by decide +kernel) (fun _ h => h)
 obtain ⟨y, hy, ey⟩ := ziI (ts := ["", "", "x", "2", "abc1234"]) (i := c / 26 % 5) (Int.emod_nonneg _ (by decide)) (Int.emod_lt_of_pos _ (by decide))
 refine ⟨by decide, zan (by decide +kernel), z, ez, zan (by decide), fun p hp => ⟨cdiv, by decide, _, .inl (SqL.of zac), _, ey, ?_⟩⟩
 (try walk_at "")
 have hy7 : ∀ y ∈ (["", "", "x", "2", "abc1234"] : List Str), y.length ≤ 7 /\ ∀ d ∈ y.cps.toList, d ∈ sofS.cps.toList := by decide +kernel
 obtain ⟨y7, ys⟩ := hy7 y hy
 refine ⟨zan (by show 1 + y.length ≤ _; omega), k _ _ (zab hp _) ⟨z, y.cps.toList, by rw [zb1]; rfl, hz, ys, by rw [zb8]; exact y7, fun q => ?_⟩⟩
 have hk : ∀ x ∈ keptW, ∀ c ∈ x.cps.toList.take 1, c ∉ greatS.cps.toList := by decide +kernel
 exact hk _ q z (by rw [zb1]; simp) hz
theorem zlk {x : Str} {z i : Nat} (hx : x.length = i) (hi : i < 8) (g : 0 < i -> zdV smallS x.cps.toList) (hz : z ∈ sofS.cps.toList) (h0 : i = 0 -> z ∈ smallS.cps.toList) : (x ++ (⟨#[z]⟩ : Str)).length = i + 1 /\ (0 < i + 1 -> zdV smallS (x ++ (⟨#[z]⟩ : Str)).cps.toList) := by
 have hl := zb8 x
 refine ⟨by rw [<- zb8, zb1, List.length_append, zb8, hx]; rfl, fun _ => ?_⟩
 rw [zb1]
 by_cases hi0 : i = 0
 ·have : x.cps.toList = [] := List.length_eq_zero_iff.mp (by omega)
  rw [this]
  exact ⟨z, [], rfl, h0 hi0, by simp, by simp⟩
 ·obtain ⟨c, r, e, g1, g2, g3⟩ := g (by omega)
  rw [e] at hl ⊢
  rw [List.length_cons] at hl
  refine ⟨c, r ++ [z], rfl, g1, fun d hd => ?_, by rw [List.length_append, List.length_singleton]; omega⟩
  rcases List.mem_append.mp hd with q | q
  ·exact g2 d q
  ·rw [List.mem_singleton.mp q]; exact hz
theorem zek (T : Tx K mg D) : FnOk P w K mg base0 CX0 1 D.a_b6 D.d_b6 ["_law_shape", "_law_cell", "_law_k"] zlY := by
 refine T.F_b6.ok sc_b6 (fun vs H Q E h => ?_) (fun cdv A outer s H vs Q E hr h => ?_)
 ·obtain ⟨sh, c, j, rfl, _⟩ := h; rfl
 obtain ⟨sh, c, j, rfl, h0, c0, j0, k⟩ := h
 have hu := hr.units
 refine ⟨_, (zaf (zat (i := 3) sc_b6.nd (by rfl) (by walk_at "o") zao)
  (zaf (zat (i := 4) sc_b6.nd (by rfl) (by walk_at "o") (zaq zav (zaq zaI (pv 0) zad) zad))
  (zaf (zaH (zap (za9 K hu) (zaq zav (pv 0) zad) zad (zar _)) (zai (zat (i := 1) sc_b6.nd (by rfl) (by walk_at "o") (zaq zaI (pv 0) zad))) zau)
  (zaf (zat (i := 5) sc_b6.nd (by rfl) (by walk_at "o") zao)
  (zaf (zeI PassesOwn.never (by rfl) (zbV (by rfl) T.z_range (zaa (zaq (za5 K) (zaq (za5 K) (pv 4) zad) (zaq zav (zaq zaI (pv 1) zad) (zaq zbW zad (pv 4)))) zah)) (zbc (i := 6) sc_b6.nd (by rfl) (by walk_at "o"))
   (zai (zaH (zap (za9 K hu) (pv 6) (pv 4) (zar _)) (zai (zat (i := 5) sc_b6.nd (by rfl) (by walk_at "o") (zaq (za5 K) (pv 5) (zam (ixA K) (pv 3) (zaq zav (zaq (za5 K) (zaq zaI (pv 0) zad) (zaq zb4 zad (pv 2))) zad) (fun _ _ => rfl))))) (zai (zaH (zap (za9 K hu) (pv 6) zad (zar _)) (zai (zat (i := 5) sc_b6.nd (by rfl) (by walk_at "o") (zaq (za5 K) (pv 5) (zam (ixA K) (pv 3) (zaq zav (zaq zaI (pv 1) zad) zad) (fun _ _ => rfl))))) (zai (zat (i := 5) sc_b6.nd (by rfl) (by walk_at "o") (zaq (za5 K) (pv 5) (zam (ixA K) (pv 3) (zaq zav (zaq (za5 K) (zaq zaI (pv 1) zad) (zaq zb4 (pv 6) (zaq (za5 K) zad (zaq zav (pv 1) zad)))) zad) (fun _ _ => rfl))))))))))
  (zaf (zaH (zap (zbZ K) (pv 5) (zaN (zaa zao (zaa zao (zaa zao (zaa zao (zaa zao (zaa zao (zaa zao zah)))))))) (by rfl)) (zai (zat (i := 5) sc_b6.nd (by rfl) (by walk_at "o") (zaq (za5 K) (pv 5) zao))) zau)
  (zai (zas (pv 5))))))))), ?_⟩
 walk_at "S"
 have h1 : ∀ c : Nat, (⟨#[c]⟩ : Str).length = 1 := fun c => rfl
 have sm : ∀ c ∈ (Str.ofString "abcdefghijklmnopqrstuvwxyz0123456789").cps.toList.take 26, c ∈ smallS.cps.toList := by decide +kernel
 have ss : ∀ c ∈ smallS.cps.toList, c ∈ sofS.cps.toList := by decide +kernel
 have l36 : (Str.ofString "abcdefghijklmnopqrstuvwxyz0123456789").length = 36 := by decide +kernel
 have p0 := Int.emod_nonneg (sh / 2) (show (8 : Int) ≠ 0 by decide)
 have p1 := Int.emod_lt_of_pos (sh / 2) (show (0 : Int) < 8 by decide)
 have c1 : 0 ≤ sh / 16 := Int.ediv_nonneg h0 (by decide)
 walk_at ""
 refine ⟨cdiv, by decide, by decide, ?_⟩
 generalize sh / 2 % 8 = pl at p0 p1 ⊢
 refine ite2 (fun _ => ⟨cdiv, ?_⟩) fun _ => ?_
 ·generalize sh / 16 = c at c1 ⊢
  clear c0
  have c0 := c1
  have r0 := Int.emod_nonneg (c / 7) (show 8 - pl ≠ 0 by omega)
  have r1 := Int.emod_lt_of_pos (c / 7) (show 0 < 8 - pl by omega)
  generalize c / 7 % (8 - pl) = rr at r0 r1 ⊢
  refine ⟨cdiv, by omega, by omega, by omega, ?_⟩
  refine zck (fun i σ H2 => H2 = H /\ ∃ (x : Str) (u : Option V), σ = [some (.int sh), some (.int c), some (.int j), some (.str (Str.ofString "abcdefghijklmnopqrstuvwxyz0123456789")), some (.int pl), some (.str x), u] /\ x.length = i /\ (0 < i -> zdV smallS x.cps.toList)) ⟨rfl, Str.ofString "", _, rfl, by decide +kernel, fun h => absurd h (by decide)⟩ (fun i σ H2 hi hv => ?_) fun σ H2 hv => ?_
  ·obtain ⟨rfl, x, u, rfl, hx, g⟩ := hv
   walk_at ""
   have fin : ∀ z : Nat, z ∈ sofS.cps.toList -> (i = 0 -> z ∈ smallS.cps.toList) -> x.length + ({ cps := #[z] } : Str).length ≤ sizeLine /\ True /\ ∃ (y : Str) (u' : Option V), ([some (.int sh), some (.int c), some (.int j), some (.str (Str.ofString "abcdefghijklmnopqrstuvwxyz0123456789")), some (.int pl), some (.str (x ++ (⟨#[z]⟩ : Str))), some (.int (0 + (i : Int)))] : St) = [some (.int sh), some (.int c), some (.int j), some (.str (Str.ofString "abcdefghijklmnopqrstuvwxyz0123456789")), some (.int pl), some (.str y), u'] /\ y.length = i + 1 /\ (0 < i + 1 -> zdV smallS y.cps.toList) := fun z hz h0' => by
    have g' := zlk hx (by omega) g hz h0'
    exact ⟨zan (by rw [h1]; omega), trivial, _, _, rfl, g'.1, g'.2⟩
   obtain ⟨z1, e1, q1⟩ := zhF (x := Str.ofString "abcdefghijklmnopqrstuvwxyz0123456789") (i := sh / 16 + 7 * j) (m := 26) (P := fun c => c ∈ smallS.cps.toList) (by decide) (by rw [l36]; decide) sm
   obtain ⟨z2, e2, q2⟩ := zhF (x := Str.ofString "abcdefghijklmnopqrstuvwxyz0123456789") (i := c / 56) (m := 26) (P := fun c => c ∈ smallS.cps.toList) (by decide) (by rw [l36]; decide) sm
   obtain ⟨z3, e3, q3⟩ := ziG (x := Str.ofString "abcdefghijklmnopqrstuvwxyz0123456789") (i := c / 56 + (0 + (i : Int)) * (1 + c % 5)) (P := fun c => c ∈ sofS.cps.toList) (by decide +kernel) (fun _ h => h)
   refine ite2 (fun a1 => ⟨cdiv, zdw, by decide, zan (by decide +kernel), z1, e1, fin z1 (ss _ q1) fun _ => q1⟩) fun a1 => ite2 (fun a2 => ⟨cdiv, by decide, zan (by decide +kernel), z2, e2, fin z2 (ss _ q2) fun _ => q2⟩) fun a2 => ⟨cdiv, by decide, zdw ⟨by omega, by omega⟩, by decide, zan (by decide +kernel), z3, e3, fin z3 q3 fun h => absurd h (by omega)⟩
  ·obtain ⟨rfl, x, u, rfl, hx, g⟩ := hv
   have g := g (by omega)
   walk_at ""
   refine ⟨zan (by decide), fun p hp => ⟨_, .inl (SqL.of zac), rfl, zdU keptW, ?_⟩⟩
   rw [show inV (V.str x) [V.str "not", V.str "and", V.str "or", V.str "then", V.str "all", V.str "some", V.str "false"] = decide (x ∈ keptW) from zdx x keptW]
   refine ite2 (fun q => ⟨zan (by have : (Str.ofString "0").length = 1 := rfl; omega), k _ _ (zab hp _) (zdW g rfl (of_decide_eq_true q) rfl)⟩) fun q => k _ _ (zab hp _) (zeU g rfl fun z => q (decide_eq_true z))
 ·have r0 := Int.emod_nonneg (c / 7) (show 8 - pl ≠ 0 by omega)
  have r1 := Int.emod_lt_of_pos (c / 7) (show 0 < 8 - pl by omega)
  generalize c / 7 % (8 - pl) = rr at r0 r1 ⊢
  refine ⟨cdiv, by omega, by omega, by omega, ?_⟩
  refine zck (fun i σ H2 => H2 = H /\ ∃ (x : Str) (u : Option V), σ = [some (.int sh), some (.int c), some (.int j), some (.str (Str.ofString "abcdefghijklmnopqrstuvwxyz0123456789")), some (.int pl), some (.str x), u] /\ x.length = i /\ (0 < i -> zdV smallS x.cps.toList)) ⟨rfl, Str.ofString "", _, rfl, by decide +kernel, fun h => absurd h (by decide)⟩ (fun i σ H2 hi hv => ?_) fun σ H2 hv => ?_
  ·obtain ⟨rfl, x, u, rfl, hx, g⟩ := hv
   walk_at ""
   have fin : ∀ z : Nat, z ∈ sofS.cps.toList -> (i = 0 -> z ∈ smallS.cps.toList) -> x.length + ({ cps := #[z] } : Str).length ≤ sizeLine /\ True /\ ∃ (y : Str) (u' : Option V), ([some (.int sh), some (.int c), some (.int j), some (.str (Str.ofString "abcdefghijklmnopqrstuvwxyz0123456789")), some (.int pl), some (.str (x ++ (⟨#[z]⟩ : Str))), some (.int (0 + (i : Int)))] : St) = [some (.int sh), some (.int c), some (.int j), some (.str (Str.ofString "abcdefghijklmnopqrstuvwxyz0123456789")), some (.int pl), some (.str y), u'] /\ y.length = i + 1 /\ (0 < i + 1 -> zdV smallS y.cps.toList) := fun z hz h0' => by
    have g' := zlk hx (by omega) g hz h0'
    exact ⟨zan (by rw [h1]; omega), trivial, _, _, rfl, g'.1, g'.2⟩
   obtain ⟨z1, e1, q1⟩ := zhF (x := Str.ofString "abcdefghijklmnopqrstuvwxyz0123456789") (i := sh / 16 + 7 * j) (m := 26) (P := fun c => c ∈ smallS.cps.toList) (by decide) (by rw [l36]; decide) sm
   obtain ⟨z2, e2, q2⟩ := zhF (x := Str.ofString "abcdefghijklmnopqrstuvwxyz0123456789") (i := c / 56) (m := 26) (P := fun c => c ∈ smallS.cps.toList) (by decide) (by rw [l36]; decide) sm
   obtain ⟨z3, e3, q3⟩ := ziG (x := Str.ofString "abcdefghijklmnopqrstuvwxyz0123456789") (i := c / 56 + (0 + (i : Int)) * (1 + c % 5)) (P := fun c => c ∈ sofS.cps.toList) (by decide +kernel) (fun _ h => h)
   refine ite2 (fun a1 => ⟨cdiv, zdw, by decide, zan (by decide +kernel), z1, e1, fin z1 (ss _ q1) fun _ => q1⟩) fun a1 => ite2 (fun a2 => ⟨cdiv, by decide, zan (by decide +kernel), z2, e2, fin z2 (ss _ q2) fun _ => q2⟩) fun a2 => ⟨cdiv, by decide, zdw ⟨by omega, by omega⟩, by decide, zan (by decide +kernel), z3, e3, fin z3 q3 fun h => absurd h (by omega)⟩
  ·obtain ⟨rfl, x, u, rfl, hx, g⟩ := hv
   have g := g (by omega)
   walk_at ""
   refine ⟨zan (by decide), fun p hp => ⟨_, .inl (SqL.of zac), rfl, zdU keptW, ?_⟩⟩
   rw [show inV (V.str x) [V.str "not", V.str "and", V.str "or", V.str "then", V.str "all", V.str "some", V.str "false"] = decide (x ∈ keptW) from zdx x keptW]
   refine ite2 (fun q => ⟨zan (by have : (Str.ofString "0").length = 1 := rfl; omega), k _ _ (zab hp _) (zdW g rfl (of_decide_eq_true q) rfl)⟩) fun q => k _ _ (zab hp _) (zeU g rfl fun z => q (decide_eq_true z))
theorem zel (T : Tx K mg D) : ∀ d : Nat, FnOk P w K mg base0 CX0 (d + 1) D.a_d9 D.d_d9 ["_law_number", "_law_room", "_law_terms_here", "_law_words"] (zlh K d)
 | 0 => by
  refine T.F_d9.ok sc_d9 (fun vs H Q E h => ?_) (fun cdv A outer s H vs Q E hr h => ?_)
  ·obtain ⟨n, r, tp, wp, ts, ws, rfl, _⟩ := h; rfl
  ·obtain ⟨n, r, tp, wp, ts, ws, rfl, _, h, _⟩ := h
   omega
 | d + 1 => by
  have G_d9 := zel T d
  have G_b0 := @zbS P w _ _ base0 _ T
  refine T.F_d9.ok sc_d9 (fun vs H Q E h => ?_) (fun cdv A outer s H vs Q E hr h => ?_)
  ·obtain ⟨n, r, tp, wp, ts, ws, rfl, _⟩ := h; rfl
  obtain ⟨n, r, tp, wp, ts, ws, rfl, h0, hrd, hT, hW, hne, hlen, hts, hws3, hws, k⟩ := h
  have hu := hr.units
  have hr_d9 : Room (d + 1) _ := hr
  have hr_b0 : Room 1 _ := hr.mono (by omega)
  refine ⟨_, (zaf (zat (i := 4) sc_d9.nd (by rfl) (by walk_at "o") (zaq zav (pv 0) zad))
  (zaf (zat (i := 5) sc_d9.nd (by rfl) (by walk_at "o") (zaq zav (zaq (za5 K) (zaq zb4 (zaq zaI (pv 0) zad) zad) zad) zad))
  (zaf (zat (i := 5) sc_d9.nd (by rfl) (by walk_at "o") (zaq zav (zaq zb4 (pv 5) (pv 5)) zad))
  (zaf (zaH (PW.pt (zcR (zap (za9 K hu) (pv 1) zad (zar _)) (zc4 (zap zcE (pv 4) zad (zar _))))) (zaf (zat (i := 6) sc_d9.nd (by rfl) (by walk_at "o") (zaN zah))
  (zaf (zeI PassesOwn.never (by rfl) (zbV (by rfl) T.z_range (zaa (zaq zav (zaq zaI (pv 5) zad) zad) zah)) (zbc (i := 7) sc_d9.nd (by rfl) (by walk_at "o"))
   (zaf (zat (i := 5) sc_d9.nd (by rfl) (by walk_at "o") (zaq zav (zaq (za5 K) (zaq zb4 (pv 5) zad) zad) zad))
  (zai (zc5 (zeQ K PySem.F.plainAttrs_list PySem.F.slot_list_append PySem.F.type_list_append zcl (pv 6) (zaa (zam (ixA K) (pv 2) (zaq zav (zaq zaI (pv 5) zad) (zax (za4 K) (by rfl) T.z_len PySem.boot_len (zaa (pv 2) zah))) (fun _ _ => rfl)) zah))))))
  (zai (zas (zaM (zaa zao (zaa (zam (ixA K) (pv 3) (zaq zav (zaq zaI (pv 0) zad) zad) (fun _ _ => rfl)) (zaa (zaO (zaU K) (by rfl) T.z_tuple (by rfl) (zaa (pv 6) zah)) zah)))))))) zau)
  (zaf (zaH (zap (za9 K hu) (pv 4) zad (zar _)) (zai (zas (zaM (zaa zao zah)))) zau)
  (zaf (zaH (zap (za9 K hu) (pv 4) zad (zar _)) (zai (zas (zaM (zaa zao (zaa (zal G_d9 hr_d9 (by rfl) T.m_d9 T.F_d9.kp T.b_d9 .nil za2 (zaa (pv 5) (zaa (zaq zbW (pv 1) zad) (zaa (pv 2) (zaa (pv 3) zah))))) zah))))) zau)
  (zaf (zaH (zap zcE (pv 4) zad (zar _)) (zaf (zat (i := 8) sc_d9.nd (by rfl) (by walk_at "o") (zal G_d9 hr_d9 (by rfl) T.m_d9 T.F_d9.kp T.b_d9 .nil za2 (zaa (pv 5) (zaa (zaq zbW (pv 1) zad) (zaa (pv 2) (zaa (pv 3) zah))))))
  (zaf (zat (i := 9) sc_d9.nd (by rfl) (by walk_at "o") (zal G_d9 hr_d9 (by rfl) T.m_d9 T.F_d9.kp T.b_d9 .nil za2 (zaa (zaq zav (zaq zb4 (pv 5) (pv 5)) zad) (zaa (zaq zbW (pv 1) zad) (zaa (pv 2) (zaa (pv 3) zah))))))
  (zai (zas (zaM (zaa (zam (ixA K) (zaN (zaa zao (zaa zao (zaa zao zah)))) (zaq zbW (pv 4) zad) (fun _ _ => rfl)) (zaa (pv 8) (zaa (pv 9) zah)))))))) zau)
  (zaf (zat (i := 10) sc_d9.nd (by rfl) (by walk_at "o") (zal G_b0 hr_b0 (by rfl) T.m_b0 T.F_b0.kp T.b_b0 .nil za2 (zaa (zaq zaI (pv 5) zad) zah)))
  (zaf (zat (i := 0) sc_d9.nd (by rfl) (by walk_at "o") (zaq zav (zaq zb4 (pv 5) (pv 5)) zad))
  (zai (zas (zaM (zaa (zam (ixA K) (zaN (zaa zao (zaa zao zah))) (zaq zav (pv 5) zad) (fun _ _ => rfl)) (zaa (pv 10) (zaa (zal G_d9 hr_d9 (by rfl) T.m_d9 T.F_d9.kp T.b_d9 .nil za2 (zaa (pv 0) (zaa (zaq zbW (pv 1) zad) (zaa (zaq (za5 K) (pv 2) (zaN (zaa (pv 10) zah))) (zaa (pv 3) zah))))) zah))))))))))))))), ?_⟩
  walk_at "S"
  rw [zdu, zdv]
  simp only [↓w_op, ↓w_v0, ↓w_v4, ↓w_v5, ↓w_c, ↓w_rI, ↓zeT, ↓zeS, ↓zd4, ↓zb7, ↓List.set_cons_zero, ↓List.set_cons_succ]
  refine ⟨by decide, ?_⟩
  have k0 := Int.emod_nonneg n (show (9 : Int) ≠ 0 by decide)
  have k1 := Int.emod_lt_of_pos n (show (0 : Int) < 9 by decide)
  generalize n % 9 = kd at k0 k1 ⊢
  rw [zdu, zdv]
  simp only [↓w_op, ↓w_v0, ↓w_v4, ↓w_v5, ↓w_c, ↓w_rI, ↓zeT, ↓zeS, ↓zd4, ↓zb7, ↓List.set_cons_zero, ↓List.set_cons_succ]
  refine ⟨cdiv, ziH, by decide, ?_⟩
  have a0 := Int.emod_nonneg (n / 9 * 48271 + 11) (show (2147483647 : Int) ≠ 0 by decide)
  have a1 := Int.emod_lt_of_pos (n / 9 * 48271 + 11) (show (0 : Int) < 2147483647 by decide)
  generalize (n / 9 * 48271 + 11) % 2147483647 = re0 at a0 a1 ⊢
  rw [zdu, zdv]
  simp only [↓w_op, ↓w_v0, ↓w_v4, ↓w_v5, ↓w_c, ↓w_rI, ↓zeT, ↓zeS, ↓zd4, ↓zb7, ↓List.set_cons_zero, ↓List.set_cons_succ]
  refine ⟨zdw ⟨by omega, by omega⟩, by decide, ?_⟩
  have b0 := Int.emod_nonneg (re0 * re0) (show (2147483629 : Int) ≠ 0 by decide)
  have b1 := Int.emod_lt_of_pos (re0 * re0) (show (0 : Int) < 2147483629 by decide)
  generalize re0 * re0 % 2147483629 = re at b0 b1 ⊢
  refine zb9 (c := r = 0 \/ kd < 3) (fun Qb q => ?_) (fun c1 => ?_) fun c1 => zb9 (c := kd = 3) (fun Qb q => ?_) (fun c2 => ?_) fun c2 => zb9 (c := kd = 4) (fun Qb q => ?_) (fun c3 => ?_) fun c3 => zb9 (c := kd < 8) (fun Qb q => ?_) (fun c4 => ?_) fun c4 => ?_
  ·walk_at ""
   refine ite2 (fun a => ?_) fun a => ?_
   ·rw [decide_eq_true (show r = 0 \/ kd < 3 by omega)] at q; exact q
   ·rw [decide_eq_decide.mpr (show kd < 3 ↔ (r = 0 \/ kd < 3) by omega)]; exact q
  ·walk_at ""
   have m0 := Int.emod_nonneg (re / 3) (show (4 : Int) ≠ 0 by decide)
   have m1 := Int.emod_lt_of_pos (re / 3) (show (0 : Int) < 4 by decide)
   generalize re / 3 % 4 = cnt at m0 m1 ⊢
   have hlt : 0 < ts.length := List.length_pos_iff.mpr hne
   refine ⟨Nat.zero_le _, fun p hp => ⟨cdiv, by decide, by omega, by omega, ?_⟩⟩
   refine zck (fun i σ H2 => Same H H2 /\ ∃ (re' : Int) (u : Option V) (ts' : List Str), 0 ≤ re' /\ σ = [some (.int n), some (.int r), some (.ref tp), some (.ref wp), some (.int kd), some (.int re'), some (.ref p), u, none, none, none] /\ H2 p = some (.lst (ts'.map V.str)) /\ ts'.length = i /\ ∀ t ∈ ts', t ∈ ts) ⟨zab hp _, re, _, [], b0, rfl, zac, rfl, by simp⟩ (fun i σ H2 hi hv => ?_) fun σ H2 hv => ?_
   ·obtain ⟨s2, re', u, ts', g0, rfl, hp2, hl', hin⟩ := hv
    walk_at ""
    have tS : SqL K H2 tp (ts.map V.str) := SqL.of (s2 _ _ hT)
    obtain ⟨z, hz, ez⟩ := ziI (ts := ts) (i := (re' * 69621 + 7) % 2147483587 / 12 % (ts.length : Int)) (Int.emod_nonneg _ (by omega)) (Int.emod_lt_of_pos _ (by omega))
    refine ⟨ziH, by decide, ⟨_, SqL.of hp2⟩, cdiv, _, .inl tS, by rw [List.length_map]; omega, _, .inl tS, _, by rw [List.length_map]; exact ez, _, hp2, zbb (by rw [List.length_map]; omega), s2.upd hp, _, _, ts' ++ [z], Int.emod_nonneg _ (by decide), rfl, by rw [zac, List.map_append]; rfl, by rw [List.length_append, hl']; rfl, fun t ht => ?_⟩
    rcases List.mem_append.mp ht with q | q
    ·exact hin t q
    ·rw [List.mem_singleton.mp q]; exact hz
   ·obtain ⟨s2, re', u, ts', g0, rfl, hp2, hl', hin⟩ := hv
    walk_at ""
    obtain ⟨z, hz, ez⟩ := ziI (ts := ws) (i := n / 9 % 3) (Int.emod_nonneg _ (by decide)) (by rw [hws3]; exact Int.emod_lt_of_pos _ (by decide))
    refine ⟨cdiv, by decide, _, .inl (s2.seq hW), _, ez, _, .inl ⟨SqL.of hp2, fun l hl2 => ⟨zan (show 3 ≤ 100000 by decide), fun p3 hp3 => ?_⟩⟩⟩
    refine k (.is z ts') _ _ ((s2.trans (zab hl2 _)).trans (zab hp3 _)) ⟨p3, l, rfl, SqT.of zac, (zab hp3 _).seqT (SqT.of zac)⟩ ⟨hws z hz, by omega, fun t ht => hts t (hin t ht)⟩ (by show 1 ≤ r + 1; omega) hin
  ·walk_at ""
   exact q
  ·walk_at ""
   exact ⟨zan (by decide), fun p hp => k .fls _ _ (zab hp _) ⟨p, rfl, SqT.of zac⟩ trivial (by show 1 ≤ r + 1; omega) (by simp [Stm.fts])⟩
  ·walk_at ""
   exact q
  ·walk_at ""
   obtain ⟨r', rfl⟩ : ∃ r', r = r' + 1 := ⟨r - 1, by omega⟩
   refine ⟨re, r', tp, wp, ts, ws, by rw [show ((r' + 1 : Nat) : Int) - 1 = (r' : Int) by omega], b0, by omega, hT, hW, hne, by omega, hts, hws3, hws, fun S v H1 s1 rS hS hd hf => ⟨zan (show 2 ≤ 100000 by decide), fun p hp => ?_⟩⟩
   exact k (.neg S) _ _ (s1.trans (zab hp _)) ⟨p, v, rfl, SqT.of zac, rS.same (zab hp _)⟩ hS (by show S.deep + 1 ≤ r' + 1 + 1; omega) hf
  ·walk_at ""
   exact q
  ·walk_at ""
   obtain ⟨r', rfl⟩ : ∃ r', r = r' + 1 := ⟨r - 1, by omega⟩
   have er : ((r' + 1 : Nat) : Int) - 1 = (r' : Int) := by omega
   rw [er]
   obtain ⟨o, eo⟩ : ∃ o : Bi, atI [V.str "and", V.str "or", V.str "then"] (kd - 5) = some (.str o.txt) := by
    obtain rfl | rfl | rfl : kd = 5 \/ kd = 6 \/ kd = 7 := by omega
    ·exact ⟨.and, rfl⟩
    ·exact ⟨.or, rfl⟩
    ·exact ⟨.thn, rfl⟩
   refine ⟨re, r', tp, wp, ts, ws, rfl, b0, by omega, hT, hW, hne, by omega, hts, hws3, hws, fun S v H1 s1 rS hS hd hf => ⟨zdw ⟨by omega, by omega⟩, by decide, ?_⟩⟩
   refine ⟨_, r', tp, wp, ts, ws, rfl, Int.emod_nonneg _ (by decide), by omega, s1 _ _ hT, s1.seq hW, hne, by omega, hts, hws3, hws, fun S2 v2 H2 s2 rS2 hS2 hd2 hf2 => ⟨zan (show 3 ≤ 100000 by decide), fun p hp => ⟨_, .inl (SqL.of zac), _, eo, zan (show 3 ≤ 100000 by decide), fun p2 hp2 => ?_⟩⟩⟩
   have sq := (zab hp (.lst [V.str "and", V.str "or", V.str "then"])).trans (zab hp2 (.tup [V.str o.txt, v, v2]))
   refine k (.bi o S S2) _ _ ((s1.trans s2).trans sq) ⟨p2, v, v2, rfl, SqT.of zac, rS.same (s2.trans sq), rS2.same sq⟩ ⟨hS, hS2⟩ (by show max S.deep S2.deep + 1 ≤ r' + 1 + 1; omega) fun t ht => ?_
   rcases List.mem_append.mp ht with q | q
   ·exact hf t q
   ·exact hf2 t q
  ·walk_at ""
   obtain ⟨r', rfl⟩ : ∃ r', r = r' + 1 := ⟨r - 1, by omega⟩
   have er : ((r' + 1 : Nat) : Int) - 1 = (r' : Int) := by omega
   rw [er]
   obtain ⟨o, eo⟩ : ∃ o : Bool, atI [V.str "all", V.str "some"] (re % 2) = some (.str (qtx o)) := by
    have e0 := Int.emod_nonneg re (show (2 : Int) ≠ 0 by decide)
    have e1 := Int.emod_lt_of_pos re (show (0 : Int) < 2 by decide)
    generalize re % 2 = x at e0 e1
    obtain rfl | rfl : x = 0 \/ x = 1 := by omega
    ·exact ⟨true, rfl⟩
    ·exact ⟨false, rfl⟩
   refine ⟨cdiv, _, rfl, Int.ediv_nonneg b0 (by decide), fun X H1 s1 hX => ⟨zdw ⟨by omega, by omega⟩, by decide, zan (by decide), fun p hp => ⟨by decide, _, .inl (SqL.of zac), _, eo, zan (show 1 ≤ 100000 by decide), fun p2 hp2 => ?_⟩⟩⟩
   have sp := (zab hp (.lst [V.str "all", V.str "some"])).trans (zab hp2 (.lst [V.str X]))
   refine ⟨ts.map V.str, [V.str X], .inl ⟨sp _ _ (s1 _ _ hT), zac, zan (by rw [List.length_map]; show ts.length + 1 ≤ 100000; omega), fun q hq => ?_⟩⟩
   refine ⟨_, r', q, wp, ts ++ [X], ws, rfl, Int.emod_nonneg _ (by decide), by omega, by rw [zac, List.map_append]; rfl, (s1.trans (sp.trans (zab hq _))).seq hW, by simp, by rw [List.length_append]; show ts.length + 1 + r' ≤ 100; omega, fun t ht => ?_, hws3, hws, fun S v H2 s2 rS hS hd hf => ⟨zan (show 3 ≤ 100000 by decide), fun p3 hp3 => ?_⟩⟩
   ·rcases List.mem_append.mp ht with h | h
    ·exact hts t h
    ·rw [List.mem_singleton.mp h]; exact .inr hX
   refine k (.qu o X S) _ _ (((s1.trans (sp.trans (zab hq _))).trans s2).trans (zab hp3 _)) ⟨p3, v, rfl, SqT.of zac, rS.same (zab hp3 _)⟩ ⟨hX, hS⟩ (by show S.deep + 1 ≤ r' + 1 + 1; omega) fun t ht => ?_
   obtain ⟨h1, h2⟩ := List.mem_filter.mp ht
   rcases List.mem_append.mp (hf t h1) with h | h
   ·exact h
   ·exact absurd (List.mem_singleton.mp h) (of_decide_eq_true h2)
theorem zgP (T : Tx K mg D) : FnOk P w K mg base0 CX0 2 D.a_e0 D.d_e0 ["_law_script", "_law_at"] (zli K) := by
 have G_b5 := @zbN P w _ _ base0 _ T
 have G_b6 := @zek P w _ _ base0 _ T
 refine T.F_e0.ok sc_e0 (fun vs H Q E h => ?_) (fun cdv A outer s H vs Q E hr h => ?_)
 ·obtain ⟨a, ns, n, rfl, _⟩ := h; rfl
 obtain ⟨a, ns, n, rfl, hS, hl, h0, k⟩ := h
 have hu := hr.units
 have hr_b5 : Room 1 _ := hr.mono (by decide)
 have hr_b6 : Room 1 _ := hr.mono (by decide)
 refine ⟨_, (zaf (zat (i := 2) sc_e0.nd (by rfl) (by walk_at "o") (zal G_b5 hr_b5 (by rfl) T.m_b5 T.F_b5.kp T.b_b5 .nil za2 (zaa (pv 0) (zaa (pv 1) zah))))
  (zaf (zci (i := 3) 1 [0, 1, 2] ["_law_k", "_law_script", "_law_at", "_law_shape"] sc_e0.nd (by rfl) (by rfl) ⟨by rfl, by rfl, by rfl, by rfl, by rfl, by rfl, by rfl⟩ (by rfl) (zbV (by rfl) T.z_range (zaa zad zah)) (fun _ _ _ _ => zbc (i := 0) (show List.Nodup (["_law_k", "_law_script", "_law_at", "_law_shape"] : List Str) by decide +kernel) (by rfl) (Or.inl (by rfl)) (Or.inr (by rfl))) (zba (by decide)) (fun _ _ _ _ => zb6) (fun _ _ _ _ => (zal G_b6 hr_b6 (by rfl) T.m_b6 T.F_b6.kp T.b_b6 .nil za2 (zaa (zaq zaI (pv 3) zad) (zaa (zal G_b5 hr_b5 (by rfl) T.m_b5 T.F_b5.kp T.b_b5 .nil za2 (zaa (pv 1) (zaa (zaq (za5 K) (zaq (za5 K) (pv 2) zad) (pv 0)) zah))) (zaa (pv 0) zah))))))
  (zaf (zci (i := 4) 1 [0, 1, 2] ["_law_k", "_law_script", "_law_at", "_law_shape"] sc_e0.nd (by rfl) (by rfl) ⟨by rfl, by rfl, by rfl, by rfl, by rfl, by rfl, by rfl⟩ (by rfl) (zbV (by rfl) T.z_range (zaa zad zah)) (fun _ _ _ _ => zbc (i := 0) (show List.Nodup (["_law_k", "_law_script", "_law_at", "_law_shape"] : List Str) by decide +kernel) (by rfl) (Or.inl (by rfl)) (Or.inr (by rfl))) (zba (by decide)) (fun _ _ _ _ => zb6) (fun _ _ _ _ => (zal G_b6 hr_b6 (by rfl) T.m_b6 T.F_b6.kp T.b_b6 .nil za2 (zaa (zaq zaI (pv 3) zad) (zaa (zal G_b5 hr_b5 (by rfl) T.m_b5 T.F_b5.kp T.b_b5 .nil za2 (zaa (pv 1) (zaa (zaq (za5 K) (zaq (za5 K) (pv 2) zad) (pv 0)) zah))) (zaa (zaq (za5 K) zad (pv 0)) zah))))))
  (zaf (zaH (zap (za9 K hu) (zaq zav (pv 2) zad) zad (zar _)) (zai (zjJ (zam (ixA K) (pv 3) zad (fun _ _ => rfl)) (zjI (pv 4) zad zhi))) zau)
  (zai (zas (zaN (zaa (pv 3) (zaa (pv 4) zah))))))))), ?_⟩
 walk_at "S"
 walk_at ""
 refine ⟨a, ns, n, rfl, hS, hl, h0, fun sh sh0 sh1 => ?_⟩
 walk_at ""
 have snoc : ∀ (ts : List Str) (x : Str), (∀ t ∈ ts, Nm smallS t) -> Nm smallS x -> ∀ t ∈ ts ++ [x], Nm smallS t := fun ts x h hx t ht => by
  rcases List.mem_append.mp ht with q | q
  ·exact h t q
  ·rw [List.mem_singleton.mp q]; exact hx
 refine ⟨by decide, by decide, zdk (fun i acc H2 => Same H H2 /\ ∃ ts : List Str, acc = ts.map V.str /\ ts.length = i /\ ∀ t ∈ ts, Nm smallS t) ⟨Same.refl _, [], rfl, rfl, by simp⟩ (fun i acc H2 hi hv => ?_) fun acc H2 hv np hnp => ?_⟩
 ·obtain ⟨s2, ts, rfl, hlen, hts⟩ := hv
  have hi' : i < 3 := hi
  refine ⟨zbb (by rw [List.length_map]; omega), ?_⟩
  simp only [zaG, List.replicate_succ, List.replicate_zero, List.map_cons, List.map_nil, List.nil_append, List.cons_append, List.getElem?_cons_zero, List.getElem?_cons_succ, Option.join_some]
  walk_at ""
  refine ⟨cdiv, a, ns, _, rfl, s2.seq hS, hl, by omega, fun c c0 c1 => ⟨_, _, _, rfl, Int.ediv_nonneg sh0 (by decide), c0, by omega, fun x H3 s3 hx => ?_⟩⟩
  refine ⟨s2.trans s3, ts ++ [x], by rw [List.map_append]; rfl, by rw [List.length_append, hlen]; rfl, snoc ts x hts hx⟩
 obtain ⟨s2, nm, rfl, ln, hnm⟩ := hv
 have s2' := s2.trans (zab hnp (.lst (nm.map V.str)))
 refine ⟨by decide, by decide, zdk (fun i acc H3 => Same (upd H2 np (.lst (nm.map V.str))) H3 /\ ∃ ts : List Str, acc = ts.map V.str /\ ts.length = i /\ ∀ t ∈ ts, Nm smallS t) ⟨Same.refl _, [], rfl, rfl, by simp⟩ (fun i acc H3 hi hv => ?_) fun acc H3 hv wp hwp => ?_⟩
 ·obtain ⟨s3, ts, rfl, hlen, hts⟩ := hv
  have hi' : i < 3 := hi
  refine ⟨zbb (by rw [List.length_map]; omega), ?_⟩
  simp only [zaG, List.replicate_succ, List.replicate_zero, List.map_cons, List.map_nil, List.nil_append, List.cons_append, List.getElem?_cons_zero, List.getElem?_cons_succ, Option.join_some]
  walk_at ""
  refine ⟨cdiv, a, ns, _, rfl, (s2'.trans s3).seq hS, hl, by omega, fun c c0 c1 => ⟨_, _, _, rfl, Int.ediv_nonneg sh0 (by decide), c0, by omega, fun x H4 s4 hx => ?_⟩⟩
  refine ⟨s3.trans s4, ts ++ [x], by rw [List.map_append]; rfl, by rw [List.length_append, hlen]; rfl, snoc ts x hts hx⟩
 obtain ⟨s3, wd, rfl, lw, hwd⟩ := hv
 have np3 : H3 np = some (.lst (nm.map V.str)) := s3 _ _ zac
 have np4 := zbp (o := .lst (wd.map V.str)) hwp np3
 have ln' : nm.length = 3 := ln
 have lw' : wd.length = 3 := lw
 refine ⟨by decide, ite2 (fun _ => ?_) fun _ => ?_⟩
 ·obtain ⟨z, nm', rfl⟩ : ∃ z nm', nm = z :: nm' := by
   cases nm with
   | nil => simp at ln'
   | cons z nm' => exact ⟨z, nm', rfl⟩
  obtain ⟨w0, wd', rfl⟩ : ∃ z nm', wd = z :: nm' := by
   cases wd with
   | nil => simp at lw'
   | cons z nm' => exact ⟨z, nm', rfl⟩
  walk_at ""
  refine ⟨_, .inl (SqL.of np4), _, zae (j := 0) rfl, _, 0, zac, zk2 (by decide) (by rw [List.length_map]; omega), zan (show 2 ≤ 100000 by decide), fun p hp => ?_⟩
  rw [zfE] at hp ⊢
  refine k p np wp (z :: nm') (z :: wd') _ ((s2'.trans s3).trans ((zab hwp _).trans (zab hp _))) zac (zbp hp (zbp hwp np3)) (zbp hp (by rw [zac]; rfl)) ln' (by simpa using lw') hnm fun t ht => ?_
  rcases List.mem_cons.mp ht with q | q
  ·rw [q]; exact hnm z List.mem_cons_self
  ·exact hwd t (List.mem_cons_of_mem _ q)
 ·refine ⟨zan (show 2 ≤ 100000 by decide), fun p hp => ?_⟩
  exact k p np wp nm wd _ ((s2'.trans s3).trans ((zab hwp _).trans (zab hp _))) zac (zbp hp np4) (zbp hp zac) ln' lw' hnm hwd
theorem za0 {a b : TS} {Dd : Ends} {σ : St} {H : Hp} (R : St -> Hp -> Prop) (ha : ∀ N : St -> Hp -> Prop, (∀ σ' H', R σ' H' -> N σ' H') -> a { Dd with nx := N } σ H) (hb : ∀ σ' H', R σ' H' -> b Dd σ' H') : tSeq a b Dd σ H := ha _ hb
theorem zhK (T : Tx K mg D) : FnOk P w K mg base0 CX0 1 D.a_e4 D.d_e4 ["A"] (ziK K) := by
 refine T.F_e4.ok zhI (fun vs H Q E h => ?_) (fun cdv A outer s H vs Q E hr h => ?_)
 ·obtain ⟨v, S, rfl, _⟩ := h; rfl
 obtain ⟨v, S, rfl, rS, k⟩ := h
 have hu := hr.units
 refine ⟨_, (zaf (zaH (zap (za9 K hu) (zam (ixA K) (pv 0) zad (fun _ _ => rfl)) zao (zar _)) (zai (zas (zaM zah))) zau)
  (zaf (zaH (zap (zbZ K) (zam (ixA K) (pv 0) zad (fun _ _ => rfl)) (T.g_QUANTIFIERS (by rfl)) (by rfl)) (zai (zas (zaM (zaa (zam (ixA K) (pv 0) zad (fun _ _ => rfl)) zah)))) zau)
  (zai (zas (zbg (slB K) (pv 0) (zbs zad) zbr))))), ?_⟩
 walk_at "S"
 cases S with
 | is x ts =>
  obtain ⟨a, b, rfl, h2, h3⟩ := rS
  walk_at ""
  refine ⟨_, .inr h2, _, zae (j := 0) rfl, ?_⟩
  walk_at ""
  refine ⟨(by show 0 ≤ sizeLine; decide), fun p hp => k p [] _ (zab hp _) (SqT.of zac) .nil⟩
 | fls =>
  obtain ⟨a, rfl, h2⟩ := rS
  walk_at ""
  refine ⟨_, .inr h2, _, zae (j := 0) rfl, ?_⟩
  walk_at ""
  rw [if_neg (by decide +kernel)]
  refine ⟨_, .inr h2, _, zae (j := 0) rfl, ?_⟩
  (try walk_at "")
  refine ⟨_, .inr (T.q_QUANTIFIERS _), rfl, by decide, ?_⟩
  rw [if_neg (by decide +kernel)]
  exact ⟨_, .inr ⟨h2, fun p H1 s1 q1 => k p _ _ s1 q1 .nil⟩⟩
 | neg B =>
  obtain ⟨a, u, rfl, h2, h3⟩ := rS
  walk_at ""
  refine ⟨_, .inr h2, _, zae (j := 0) rfl, ?_⟩
  walk_at ""
  rw [if_neg (by decide +kernel)]
  refine ⟨_, .inr h2, _, zae (j := 0) rfl, ?_⟩
  (try walk_at "")
  refine ⟨_, .inr (T.q_QUANTIFIERS _), rfl, by decide, ?_⟩
  rw [if_neg (by decide +kernel)]
  exact ⟨_, .inr ⟨h2, fun p H1 s1 q1 => k p _ _ s1 q1 (.cons (h3.same s1) .nil)⟩⟩
 | bi o B C =>
  obtain ⟨a, u, u', rfl, h2, h3, h4⟩ := rS
  walk_at ""
  refine ⟨_, .inr h2, _, zae (j := 0) rfl, ?_⟩
  walk_at ""
  rw [if_neg (zgy o)]
  refine ⟨_, .inr h2, _, zae (j := 0) rfl, ?_⟩
  (try walk_at "")
  refine ⟨_, .inr (T.q_QUANTIFIERS _), rfl, by decide, ?_⟩
  rw [zb2, if_neg (by decide)]
  exact ⟨_, .inr ⟨h2, fun p H1 s1 q1 => k p _ _ s1 q1 (.cons (h3.same s1) (.cons (h4.same s1) .nil))⟩⟩
 | qu q X B =>
  obtain ⟨a, u, rfl, h2, h3⟩ := rS
  walk_at ""
  refine ⟨_, .inr h2, _, zae (j := 0) rfl, ?_⟩
  walk_at ""
  rw [if_neg (zgz q)]
  refine ⟨_, .inr h2, _, zae (j := 0) rfl, ?_⟩
  (try walk_at "")
  refine ⟨_, .inr (T.q_QUANTIFIERS _), rfl, by decide, ?_⟩
  rw [zcb, if_pos rfl]
  refine ⟨_, .inr h2, _, zae (j := 2) rfl, (by show 1 ≤ sizeLine; decide), fun p hp => k p _ _ (zab hp _) (SqT.of zac) (.cons (h3.same (zab hp _)) .nil)⟩
theorem zco : ∀ {S : Stm}, S.Ok -> S.fts.length ≤ 3 * 2 ^ S.deep
 | .is w ts, h => by show ts.length ≤ 6; have := h.2.1; omega
 | .fls, _ => Nat.zero_le _
 | .neg A, h => by
  have h1 := zco (S := A) h
  show A.fts.length ≤ 3 * 2 ^ (A.deep + 1)
  rw [Nat.pow_succ]; omega
 | .bi _ A B, h => by
  have h1 := zco (S := A) h.1
  have h2 := zco (S := B) h.2
  show (A.fts ++ B.fts).length ≤ 3 * 2 ^ (max A.deep B.deep + 1)
  have p1 : 2 ^ A.deep ≤ 2 ^ max A.deep B.deep := Nat.pow_le_pow_right (by decide) (Nat.le_max_left _ _)
  have p2 : 2 ^ B.deep ≤ 2 ^ max A.deep B.deep := Nat.pow_le_pow_right (by decide) (Nat.le_max_right _ _)
  rw [List.length_append, Nat.pow_succ]; omega
 | .qu _ X A, h => by
  have h1 := zco (S := A) h.2
  have h2 := List.length_filter_le (fun t => decide (t ≠ X)) A.fts
  show (A.fts.filter fun t => decide (t ≠ X)).length ≤ 3 * 2 ^ (A.deep + 1)
  rw [Nat.pow_succ]; omega
def zmk (K : W.Frag) (d : Nat) : Sp := fun vs H Q _ => ∃ v S, vs = [v] /\ RepS K H S v /\ S.Ok /\ S.deep ≤ d /\ d ≤ 12 /\ ∀ p H', Same H H' -> H' p = some (.lst (S.fts.map V.str)) -> Q (.ref p) H'
theorem zbI (T : Tx K mg D) : ∀ d : Nat, FnOk P w K mg base0 CX0 (d + 2) D.a_a6 D.d_a6 ["A"] (zmk K d)
 | 0 => by
  refine T.F_a6.ok sc_a6 (fun vs H Q E h => ?_) (fun cdv A outer s H vs Q E hr h => ?_)
  ·obtain ⟨v, S, rfl, _⟩ := h; rfl
  ·obtain ⟨v, S, rfl, _, _, h, _⟩ := h
   have := S.deep_pos
   omega
 | d + 1 => by
  have G_e4 := @zhK P w _ _ base0 _ T
  have G_a6 := zbI T d
  refine T.F_a6.ok sc_a6 (fun vs H Q E h => ?_) (fun cdv A outer s H vs Q E hr h => ?_)
  ·obtain ⟨v, S, rfl, _⟩ := h; rfl
  obtain ⟨v, S, rfl, rS, hOk, hd, hd12, k⟩ := h
  have hu := hr.units
  have hr_e4 : Room 1 _ := hr.mono (by omega)
  have hr_a6 : Room (d + 2) _ := hr
  refine ⟨_, (zaf (zaH (zap (za9 K hu) (zam (ixA K) (pv 0) zad (fun _ _ => rfl)) zao (zar _)) (zai (zas (zaO (zfs K) (by rfl) T.z_list (by rfl) (zaa (zam (ixA K) (pv 0) zad (fun _ _ => rfl)) zah)))) zau)
  (zaf (zat (i := 1) sc_a6.nd (by rfl) (by walk_at "o") (zaN zah))
  (zaf (zeI PassesOwn.never (by rfl) (zca K (zal G_e4 hr_e4 (by rfl) T.m_e4 T.F_e4.kp T.b_e4 .nil za2 (zaa (pv 0) zah))) (zbc (i := 2) sc_a6.nd (by rfl) (by walk_at "o"))
   (zai (zc5 (zeQ K PySem.F.plainAttrs_list PySem.F.slot_list_extend PySem.F.type_list_extend zft (pv 1) (zaa (zal G_a6 hr_a6 (by rfl) T.m_a6 T.F_a6.kp T.b_a6 .nil za2 (zaa (pv 2) zah)) zah)))))
  (zaf (zaH (zap (zbZ K) (zam (ixA K) (pv 0) zad (fun _ _ => rfl)) (T.g_QUANTIFIERS (by rfl)) (by rfl)) (zai (zas (zbK 1 [0] ["term", "A"] ⟨by rfl, by rfl, by rfl, by rfl, by rfl, by rfl, by rfl⟩ (by rfl) (zca K (pv 1)) (fun _ _ _ _ => zbc (i := 0) (show List.Nodup (["term", "A"] : List Str) by decide +kernel) (by rfl) (Or.inl (by rfl)) (Or.inr (by rfl))) (zba (by decide)) (fun _ _ _ _ => zgl (zap (zkg hu) (pv 0) (zam (ixA K) (pv 1) zad (fun _ _ => rfl)) (zar _))) (fun _ _ _ _ => (pv 0))))) zau)
  (zai (zas (pv 1))))))), ?_⟩
  walk_at "S"
  obtain ⟨a, xs0, ev, h2⟩ := rS.tag
  subst ev
  refine zb9 (c := S.tag = "is") (fun Qb q => ?_) (fun c1 => ?_) fun c1 => ?_
  ·walk_at ""
   exact ⟨_, .inr h2, _, zae (j := 0) rfl, by rw [zii]; exact ⟨_, rfl, q⟩⟩
  ·cases S with
   | is x ts =>
    obtain ⟨a', b, e', h2', h3⟩ := rS
    cases e'
    walk_at ""
    refine ⟨_, .inr h2', _, zae (j := 2) rfl, ?_⟩
    walk_at ""
    exact ⟨_, .inr h3, fun l hl => k l _ (zab hl _) zac⟩
   | fls => exact absurd c1 (show ¬ (Str.ofString "false" = Str.ofString "is") by decide +kernel)
   | neg B => exact absurd c1 (show ¬ (Str.ofString "not" = Str.ofString "is") by decide +kernel)
   | bi o B C => exact absurd c1 (zgy o)
   | qu o X B => exact absurd c1 (zgz o)
  ·have hlen := zco hOk
   have hpw : 2 ^ S.deep ≤ 2 ^ 12 := Nat.pow_le_pow_right (by decide) (by omega)
   have small : ∀ {B : Stm}, B.Ok -> B.deep ≤ d + 1 -> B.fts.length ≤ 12288 := fun {B} hB hd' => by
    have h1 := zco hB
    have h2 : 2 ^ B.deep ≤ 2 ^ 12 := Nat.pow_le_pow_right (by decide) (by omega)
    omega
   have pOk : ∀ B ∈ S.parts, B.Ok /\ B.deep ≤ d := by
    cases S with
    | is x ts => intro B h; cases h
    | fls => intro B h; cases h
    | neg C => intro B h; rw [List.mem_singleton.mp h]; exact ⟨hOk, by have : C.deep + 1 ≤ d + 1 := hd; omega⟩
    | bi o C C' =>
     intro B h
     have : max C.deep C'.deep + 1 ≤ d + 1 := hd
     rcases List.mem_cons.mp h with rfl | h
     ·exact ⟨hOk.1, by omega⟩
     ·rw [List.mem_singleton.mp h]; exact ⟨hOk.2, by omega⟩
    | qu o X C => intro B h; rw [List.mem_singleton.mp h]; exact ⟨hOk.2, by have : C.deep + 1 ≤ d + 1 := hd; omega⟩
   have pLen : S.parts.length ≤ 2 := by cases S <;> simp [Stm.parts]
   refine za0 (fun σ2 H2 => ∃ p, H p = none /\ H2 = upd H p (.lst []) /\ σ2 = [some (V.ref a), some (V.ref p), none]) (fun N hN => ?_) fun σ2 H2 hv => ?_
   ·walk_at ""
    exact ⟨Nat.zero_le _, fun p hp => hN _ _ ⟨p, hp, rfl, rfl⟩⟩
   obtain ⟨p, hp, rfl, rfl⟩ := hv
   refine za0 (fun σ2 H2 => Same H H2 /\ H2 p = some (.lst ((S.parts.flatMap Stm.fts).map V.str)) /\ ∃ u, σ2 = [some (V.ref a), some (V.ref p), u]) (fun N hN => ?_) fun σ2 H2 hv => ?_
   ·walk_at ""
    refine ⟨_, S, rfl, rS.same (zab hp _), fun q us H1 s1 hq hR => ?_⟩
    (try walk_at "")
    have s01 := (zab hp (.lst [])).trans s1
    have hul := Paired.length hR
    refine .inr ⟨⟨_, hq⟩, zho (xs := us) (fun i σ2 H2 => Same H H2 /\ SqT K H2 q us /\ RepL K H2 S.parts us /\ ∃ (u : Option V), σ2 = [some (V.ref a), some (V.ref p), u] /\ H2 p = some (.lst (((S.parts.take i).flatMap Stm.fts).map V.str)) /\ ((S.parts.take i).flatMap Stm.fts).length ≤ 12288 * i) ⟨s01, hq, hR, _, rfl, s1 _ _ zac, by simp⟩ (fun i σ2 H2 _ hv => hv.2.1) (fun i x σ2 H2 hx hv => ?_) fun σ2 H2 hv => ?_⟩
    ·obtain ⟨s2, hq2, hR2, u, rfl, hp2, hle⟩ := hv
     obtain ⟨B, eB, rB⟩ := hR2.get hx
     have hB := pOk B (List.mem_of_getElem? eB)
     have hi : i < S.parts.length := (List.getElem?_eq_some_iff.mp eB).1
     have sB := small hB.1 (by omega)
     walk_at ""
     refine ⟨⟨_, SqL.of hp2⟩, _, B, rfl, rB, hB.1, hB.2, by omega, fun p3 H3 s3 h3 => ?_⟩
     have e1 : S.parts.take (i + 1) = S.parts.take i ++ [B] := by
      rw [List.take_succ, eB]; rfl
     have e2 : (S.parts.take (i + 1)).flatMap Stm.fts = (S.parts.take i).flatMap Stm.fts ++ B.fts := by
      rw [e1, List.flatMap_append]; simp
     (try walk_at "")
     refine ⟨_, _, s3 _ _ hp2, h3, zan (by rw [List.length_map, List.length_map]; omega), (s2.trans s3).upd hp, (s3.seqT hq2).keepL (s3 _ _ hp2), RepL.keepL (s3 _ _ hp2) (hR2.same s3), _, rfl, ?_, ?_⟩
     ·rw [zac, e2, List.map_append]
     ·rw [e2, List.length_append]; omega
    ·obtain ⟨s2, hq2, hR2, u, rfl, hp2, hle⟩ := hv
     rw [<- hul, List.take_length] at hp2
     exact hN _ _ ⟨s2, hp2, u, rfl⟩
   obtain ⟨s2, hp2, u, rfl⟩ := hv
   have h2' := s2.seqT h2
   cases S with
   | is x ts => exact absurd rfl c1
   | fls =>
    walk_at ""
    refine ⟨_, .inr h2', _, zae (j := 0) rfl, ?_⟩
    (try walk_at "")
    refine ⟨_, .inr (T.q_QUANTIFIERS _), rfl, by decide, ?_⟩
    rw [if_neg (by decide +kernel)]
    exact k p _ s2 hp2
   | neg B =>
    walk_at ""
    refine ⟨_, .inr h2', _, zae (j := 0) rfl, ?_⟩
    (try walk_at "")
    refine ⟨_, .inr (T.q_QUANTIFIERS _), rfl, by decide, ?_⟩
    rw [show B.neg.tag = Str.ofString "not" from rfl, if_neg (show ¬ inV (V.str (Str.ofString "not")) [V.str (Str.ofString "all"), V.str (Str.ofString "some")] = true by decide +kernel)]
    exact k p _ s2 (by rw [hp2]; simp [Stm.parts, Stm.fts])
   | bi o B C =>
    walk_at ""
    refine ⟨_, .inr h2', _, zae (j := 0) rfl, ?_⟩
    (try walk_at "")
    refine ⟨_, .inr (T.q_QUANTIFIERS _), rfl, by decide, ?_⟩
    rw [show (Stm.bi o B C).tag = o.txt from rfl, zb2, if_neg (by decide)]
    exact k p _ s2 (by rw [hp2]; simp [Stm.parts, Stm.fts])
   | qu o X B =>
    obtain ⟨a', u', e', h3, rB⟩ := rS
    cases e'
    walk_at ""
    refine ⟨_, .inr h2', _, zae (j := 0) rfl, ?_⟩
    (try walk_at "")
    refine ⟨_, .inr (T.q_QUANTIFIERS _), rfl, by decide, ?_⟩
    rw [show (Stm.qu o X B).tag = qtx o from rfl, zcb, if_pos rfl]
    have hp3 : H2 p = some (.lst (B.fts.map V.str)) := by rw [hp2]; simp [Stm.parts]
    have hBl : B.fts.length ≤ 12288 := small hOk.2 (by have : B.deep + 1 ≤ d + 1 := hd; omega)
    refine .inl ⟨⟨_, SqL.of hp3⟩, zdR (xs := B.fts.map V.str) (fun i acc H3 => H3 = H2 /\ acc = ((B.fts.take i).filter fun t => decide (t ≠ X)).map V.str) ⟨rfl, rfl⟩ (fun i acc H3 _ hv => hv.1 ▸ SqL.of hp3) (fun i x acc H3 hx hv => ?_) fun acc H3 hv p3 h3' => ?_⟩
    ·obtain ⟨rfl, rfl⟩ := hv
     rw [List.getElem?_map] at hx
     cases e : B.fts[i]? with
     | none => rw [e] at hx; cases hx
     | some y =>
      rw [e] at hx
      cases hx
      have hfl := List.length_filter_le (fun t => decide (t ≠ X)) (B.fts.take i)
      have htl := List.length_take_le i B.fts
      have htl' := List.length_take_le' i B.fts
      have e1 : B.fts.take (i + 1) = B.fts.take i ++ [y] := by rw [List.take_succ, e]; rfl
      refine ⟨zbb (by rw [List.length_map]; omega), ?_⟩
      simp only [zaG, List.replicate_succ, List.replicate_zero, List.map_cons, List.map_nil, List.nil_append, List.cons_append, List.getElem?_cons_zero, List.getElem?_cons_succ, Option.join_some]
      walk_at ""
      refine ⟨_, .inr (s2.seqT h3), _, zae (j := 1) rfl, ?_⟩
      (try walk_at "")
      rw [e1, List.filter_append, List.map_append]
      refine ite2 (fun q => ⟨trivial, ?_⟩) fun q => ⟨trivial, ?_⟩
      ·rw [List.filter_cons, if_pos (decide_eq_true q)]; rfl
      ·rw [List.filter_cons, if_neg (by simpa using q)]; simp
    ·obtain ⟨rfl, rfl⟩ := hv
     refine k p3 _ (s2.trans (zab h3' _)) ?_
     rw [zac, List.length_map, List.take_length]
     rfl
def sof : Str := "abcdefghijklmnopqrstuvwxyz0123456789"
def zbT (x : Str) : Bool := (Txt.slice x (some 1) none).cps.toList.all fun c => inS ⟨#[c]⟩ sof
def base (x f : Str) : Bool := if x = "" then false else if (8 : Int) < x.length then false else if inS ⟨#[x.cps.toList.headD 0]⟩ f then zbT x else false
def zjs : List V := [V.str "not", V.str "and", V.str "or", V.str "then", V.str "all", V.str "some", V.str "false"]
theorem ze9 {x : Str} (h : ¬ x = "") : atI x.cps.toList 0 = some (x.cps.toList.headD 0) := by
 have e : x.cps.toList ≠ [] := fun e => h (by
  obtain ⟨c⟩ := x
  have : c = #[] := by simpa using e
  subst this
  rfl)
 cases q : x.cps.toList with
 | nil => exact absurd q e
 | cons c r => exact zae (j := 0) rfl
def zll : Sp := fun vs H Q _ => ∃ x f, vs = [.str x, .str f] /\ x.length ≤ 1000 /\ ∀ H', Same H H' -> Q (.bl (base x f)) H'
def sp1 (r : Str -> Bool) : Sp := fun vs H Q _ => ∃ x, vs = [.str x] /\ x.length ≤ 1000 /\ ∀ H', Same H H' -> Q (.bl (r x)) H'
theorem zem (T : Tx K mg D) : FnOk P w K mg base0 CX0 1 D.a_a0 D.d_a0 ["text", "first_signs"] zll := by
 refine T.F_a0.ok zbM (fun vs H Q E h => ?_) (fun cdv A outer s H vs Q E hr h => ?_)
 ·obtain ⟨x, f, rfl, _⟩ := h; rfl
 obtain ⟨x, f, rfl, hx, k⟩ := h
 have hu := hr.units
 refine ⟨_, (zaf (zaH (PW.pt (zcR (zap (za9 K hu) (pv 0) zao (zar _)) (zcR (zap zjR (zax (za4 K) (by rfl) T.z_len PySem.boot_len (zaa (pv 0) zah)) (T.g_MOST_SIGNS (by rfl)) (zar _)) (zc4 (zap (zbL K) (zam (ixA K) (pv 0) zad (fun _ _ => rfl)) (pv 1) (by rfl)))))) (zai (zas zdo)) zau)
  (zai (zas (zax (zdS K (by rfl)) (by rfl) T.z_all (by rfl) (zaa (zbK 1 [] ["sign"] ⟨by rfl, by rfl, by rfl, by rfl, by rfl, by rfl, by rfl⟩ (by rfl) (zca K (zbg (slB K) (pv 0) (zbs zad) zbr)) (fun _ _ _ _ => zbc (i := 0) (show List.Nodup (["sign"] : List Str) by decide +kernel) (by rfl) (Or.inl (by rfl)) (Or.inr (by rfl))) (zba (by decide)) (fun _ _ _ _ => zb6) (fun _ _ _ _ => (za1 (zbZ K) (pv 0) (T.g_SMALL_OR_FIGURE (by rfl)) (by rfl)))) zah))))), ?_⟩
 walk_at "S"
 walk_at ""
 have hz : x.length ≤ sizeLine := zan (by omega)
 have kf : base x f = false -> Q (.bl false) H := fun e => by have q := k H (Same.refl H); rw [e] at q; exact q
 refine ite2 (fun c => kf (by unfold base; rw [if_pos c])) fun c => ⟨hz, ite2 (fun c2 => kf (by unfold base; rw [if_neg c, if_pos c2])) fun c2 => ⟨hz, _, ze9 c, ?_⟩⟩
 refine ite2 (fun c3 => kf (by unfold base; rw [if_neg c, if_neg c2, if_neg (by rw [c3]; exact Bool.false_ne_true)])) fun c3 => ⟨hz, ?_⟩
 have c3' : inS ⟨#[x.cps.toList.headD 0]⟩ f = true := by simpa using c3
 have hb : base x f = zbT x := by unfold base; rw [if_neg c, if_neg c2, if_pos c3']
 have hlen : (Txt.slice x (some 1) none).cps.toList.length ≤ 1000 := Nat.le_trans (Nat.le_of_eq (by simp [Str.length])) (Nat.le_trans (Txt.slice_le x (some 1) none) hx)
 refine zeP (fun i acc H2 => H2 = H /\ acc = ((Txt.slice x (some 1) none).cps.toList.take i).map fun c => V.bl (inS ⟨#[c]⟩ sof)) ⟨rfl, by simp⟩ (fun i c acc H2 hi hp => ?_) fun acc H2 hp p hn => ?_
 ·obtain ⟨rfl, rfl⟩ := hp
  have hil : i < (Txt.slice x (some 1) none).cps.toList.length := (List.getElem?_eq_some_iff.mp hi).1
  refine ⟨zbb (by rw [List.length_map, List.length_take]; omega), ?_⟩
  simp only [zaG, List.replicate_succ, List.replicate_zero, List.map_nil, List.nil_append, List.cons_append]
  walk_at ""
  refine ⟨trivial, ?_⟩
  rw [List.take_add_one, hi]
  simp [sof]
 ·obtain ⟨rfl, rfl⟩ := hp
  walk_at ""
  refine ⟨(Txt.slice x (some 1) none).cps.toList.map fun c => inS ⟨#[c]⟩ sof, SqL.of (by rw [zac, List.take_of_length_le (Nat.le_refl _), List.map_map]; rfl), ?_⟩
  have q := k _ (zab hn (.lst (((Txt.slice x (some 1) none).cps.toList.take (Txt.slice x (some 1) none).cps.toList.length).map fun c => V.bl (inS ⟨#[c]⟩ sof))))
  rw [hb] at q
  have e : ((Txt.slice x (some 1) none).cps.toList.map fun c => inS ⟨#[c]⟩ sof).all id = zbT x := by unfold zbT; rw [List.all_map]; rfl
  rw [e]
  exact q
theorem zgQ (T : Tx K mg D) : FnOk P w K mg base0 CX0 2 D.a_c1 D.d_c1 ["text"] (sp1 fun x => base x "ABCDEFGHIJKLMNOPQRSTUVWXYZ") := by
 have G_a0 := @zem P w _ _ base0 _ T
 refine T.F_c1.ok zei (fun vs H Q E h => ?_) (fun cdv A outer s H vs Q E hr h => ?_)
 ·obtain ⟨x, rfl, _⟩ := h; rfl
 obtain ⟨x, rfl, hx, k⟩ := h
 have hu := hr.units
 have hr_a0 : Room 1 _ := hr.mono (by decide)
 refine ⟨_, (zai (zas (zal G_a0 hr_a0 (by rfl) T.m_a0 T.F_a0.kp T.b_a0 .nil za2 (zaa (pv 0) (zaa (T.g_GREAT (by rfl)) zah))))), ?_⟩
 walk_at "S"
 walk_at ""
 exact ⟨x, _, rfl, hx, k⟩
def zjt (K : W.Frag) : Sp := fun vs H Q _ => ∃ v S, vs = [v] /\ RepS K H S v /\ StOk 10 S /\ ∀ p H', Same H H' -> SqT K H' p [] -> Q (.ref p) H'
theorem zf8 {y : Str} (h : Nm smallS y) : base y "ABCDEFGHIJKLMNOPQRSTUVWXYZ" = false := by
 obtain ⟨c, r, e, h1, _⟩ := h
 have hc : ∀ c ∈ smallS.cps.toList, inS ⟨#[c]⟩ "ABCDEFGHIJKLMNOPQRSTUVWXYZ" = false := by decide +kernel
 unfold base
 rw [show y.cps.toList.headD 0 = c by rw [e]; rfl, hc c h1]
 split
 ·rfl
 ·split <;> rfl
theorem zf9 (T : Tx K mg D) : FnOk P w K mg base0 CX0 20 D.a_c8 D.d_c8 ["A"] (zjt K) := by
 have G_c1 := @zgQ P w _ _ base0 _ T
 have G_a6 := zbI (P := P) (w := w) (base0 := base0) T 10
 refine T.F_c8.ok zf5 (fun vs H Q E h => ?_) (fun cdv A outer s H vs Q E hr h => ?_)
 ·obtain ⟨v, S, rfl, _⟩ := h; rfl
 obtain ⟨v, S, rfl, rS, oS, k⟩ := h
 have hu := hr.units
 have hr_c1 : Room 2 _ := hr.mono (by decide)
 have hr_a6 : Room 12 _ := hr.mono (by decide)
 refine ⟨_, (zai (zas (zaO (zaU K) (by rfl) T.z_tuple (by rfl) (zaa (zax (zef P w K (by rfl)) (by rfl) T.z_sorted (by rfl) (zaa (zaO (zg8 P w K (by rfl)) (by rfl) T.z_set (by rfl) (zaa (zbK 1 [] ["term"] ⟨by rfl, by rfl, by rfl, by rfl, by rfl, by rfl, by rfl⟩ (by rfl) (zca K (zal G_a6 hr_a6 (by rfl) T.m_a6 T.F_a6.kp T.b_a6 .nil za2 (zaa (pv 0) zah))) (fun _ _ _ _ => zbc (i := 0) (show List.Nodup (["term"] : List Str) by decide +kernel) (by rfl) (Or.inl (by rfl)) (Or.inr (by rfl))) (zba (by decide)) (fun _ _ _ _ => zgl (zbG (zal G_c1 hr_c1 (by rfl) T.m_c1 T.F_c1.kp T.b_c1 .nil za2 (zaa (pv 0) zah)))) (fun _ _ _ _ => (pv 0))) zah)) zah)) zah)))), ?_⟩
 walk_at "S"
 walk_at ""
 refine ⟨v, S, rfl, rS, oS.1, oS.2.1, by decide, fun p H1 s1 hp => ?_⟩
 (try walk_at "")
 refine .inl ⟨⟨_, SqL.of hp⟩, zdR (xs := S.fts.map V.str) (fun i acc H2 => Same H1 H2 /\ acc = []) ⟨Same.refl _, rfl⟩ (fun i acc H2 _ hv => SqL.of (hv.1 _ _ hp)) (fun i x acc H2 hx hv => ?_) fun acc H2 hv p2 h2 => ?_⟩
 ·obtain ⟨s2, rfl⟩ := hv
  rw [List.getElem?_map] at hx
  cases e : S.fts[i]? with
  | none => rw [e] at hx; cases hx
  | some y =>
   rw [e] at hx
   cases hx
   have hy := oS.2.2 y (List.mem_of_getElem? e)
   have hy8 := hy.len.1
   refine ⟨Nat.lt_of_le_of_lt (Nat.zero_le _) (show 0 < sizeLine by decide), ?_⟩
   simp only [zaG, List.replicate_succ, List.replicate_zero, List.map_cons, List.map_nil, List.nil_append, List.cons_append, List.getElem?_cons_zero, List.getElem?_cons_succ, Option.join_some]
   walk_at ""
   refine ⟨y, rfl, by omega, fun H3 s3 => ?_⟩
   show ∃ k, V.bl (base y "ABCDEFGHIJKLMNOPQRSTUVWXYZ") = V.bl k /\ _
   rw [zf8 hy]
   exact ⟨false, rfl, s2.trans s3, trivial⟩
 ·obtain ⟨s2, rfl⟩ := hv
  (try walk_at "")
  refine ⟨[], SqL.of zac, by decide, fun So us h3 _ hl _ => ?_⟩
  have hus : us = [] := List.length_eq_zero_iff.mp (by simpa using hl)
  subst hus
  (try walk_at "")
  refine ⟨[], .inl zac, by decide, fun l vs h4 _ hperm => ?_⟩
  have hvs : vs = [] := hperm.eq_nil
  subst hvs
  (try walk_at "")
  refine ⟨_, .inl ⟨SqL.of zac, fun l2 h5 => k l2 _ ((s1.trans s2).trans (((zab h2 _).trans (zab h3 _)).trans ((zab h4 _).trans (zab h5 _)))) (SqT.of zac)⟩⟩
def zju (K : W.Frag) : Sp := fun vs H Q _ => ∃ v S ru, vs = [v, .str ru] /\ RepS K H S v /\ StOk 10 S /\ ru ≠ "new" /\ ∀ H', Same H H' -> Q (.bl true) H'
theorem zcz (T : Tx K mg D) : FnOk P w K mg base0 CX0 21 D.a_a4 D.d_a4 ["statement", "rule"] (zju K) := by
 have G_c8 := @zf9 P w _ _ base0 _ T
 refine T.F_a4.ok zcy (fun vs H Q E h => ?_) (fun cdv A outer s H vs Q E hr h => ?_)
 ·obtain ⟨v, S, ru, rfl, _⟩ := h; rfl
 obtain ⟨v, S, ru, rfl, rS, oS, hn, k⟩ := h
 have hu := hr.units
 have hr_c8 : Room 20 _ := hr.mono (by decide)
 refine ⟨_, (zaf (zaH (PW.pt (zcR (zap (za9 K hu) (pv 1) zao (zar _)) (zc4 (zhX (zfG (pv 0)))))) (zai (zas (zbh (za1 (za9 K hu) (pv 1) zao (zar _)) (zb0 (zjC (zfG (pv 0))))))) zau)
  (zai (zas (za1 (za9 K hu) (zax (za4 K) (by rfl) T.z_len PySem.boot_len (zaa (zal G_c8 hr_c8 (by rfl) T.m_c8 T.F_c8.kp T.b_c8 .nil za2 (zaa (pv 0) zah)) zah)) zad (zar _))))), ?_⟩
 walk_at "S"
 obtain ⟨a, xs0, rfl, h2⟩ := rS.tag
 walk_at ""
 rw [if_neg hn, if_neg (by intro h; cases h)]
 refine ⟨_, S, rfl, rS, oS, fun p H1 s1 hp => ?_⟩
 (try walk_at "")
 refine ⟨_, .inr hp, ?_⟩
 (try walk_at "")
 exact k H1 s1
inductive Rf
 | n (i : Int)
 | s (t : Str)
 | b (c : Bool)
 | o
def Rf.v : Rf -> V
 | .n i => .int i
 | .s t => .str t
 | .b c => .bl c
 | .o => .non
structure Ln where
 (lev : Int) (ru : Str) (st : Option Stm) (rs : List Rf)
def RepOS (K : W.Frag) (H : Hp) (o : Option Stm) (v : V) : Prop := match o with | some S => RepS K H S v | none => v = .non
theorem RepOS.same {H H' : Hp} {o : Option Stm} {v : V} (e : Same H H') (h : RepOS K H o v) : RepOS K H' o v := by
 cases o with
 | none => exact h
 | some S => exact RepS.same (S := S) e h
theorem RepOS.keepL {H : Hp} {p : Addr} {ys zs : List V} {o : Option Stm} {v : V} (hp : H p = some (.lst ys)) (h : RepOS K H o v) : RepOS K (upd H p (.lst zs)) o v := by
 cases o with
 | none => exact h
 | some S => exact RepS.keepL (S := S) hp h
def RepN (K : W.Frag) (H : Hp) (L : Ln) (v : V) : Prop := ∃ a x b, v = .ref a /\ SqT K H a [.int L.lev, .str L.ru, x, .ref b] /\ RepOS K H L.st x /\ SqT K H b (L.rs.map Rf.v)
theorem RepN.same {H H' : Hp} {L : Ln} {v : V} (e : Same H H') (h : RepN K H L v) : RepN K H' L v := let ⟨a, x, b, h1, h2, h3, h4⟩ := h; ⟨a, x, b, h1, e.seqT h2, h3.same e, e.seqT h4⟩
theorem RepN.keepL {H : Hp} {p : Addr} {ys zs : List V} {L : Ln} {v : V} (hp : H p = some (.lst ys)) (h : RepN K H L v) : RepN K (upd H p (.lst zs)) L v := let ⟨a, x, b, h1, h2, h3, h4⟩ := h; ⟨a, x, b, h1, h2.keepL hp, h3.keepL hp, h4.keepL hp⟩
def zlm (K : W.Frag) : Sp := fun vs H Q _ => ∃ v L, vs = [v] /\ RepN K H L v /\ (L.ru = "new" -> L.st = none) /\ ∀ x, RepOS K H L.st x -> Q x H
theorem zcO (T : Tx K mg D) : FnOk P w K mg base0 CX0 1 D.a_a7 D.d_a7 ["line"] (zlm K) := by
 refine T.F_a7.ok zcN (fun vs H Q E h => ?_) (fun cdv A outer s H vs Q E hr h => ?_)
 ·obtain ⟨v, L, rfl, _⟩ := h; rfl
 obtain ⟨v, L, rfl, rL, hn, k⟩ := h
 have hu := hr.units
 refine ⟨_, (zai (zas (zbU (zap (za9 K hu) (zam (ixA K) (pv 0) zad (fun _ _ => rfl)) zao (zar _)) zc3 (zam (ixA K) (pv 0) zad (fun _ _ => rfl))))), ?_⟩
 walk_at "S"
 obtain ⟨a, x, b, rfl, h1, h2, h3⟩ := rL
 walk_at ""
 refine ⟨_, .inr h1, _, zae (j := 1) rfl, ?_⟩
 (try walk_at "")
 refine ite2 (fun c => ?_) fun c => ?_
 ·refine k _ ?_
  rw [hn c]
  rfl
 ·exact ⟨_, .inr h1, _, zae (j := 2) rfl, k _ h2⟩
def numA (R : Rf) (k : Int) : Bool := match R with
 | .n i => decide (0 ≤ i) && decide (i < k)
 | _ => false
def zhL : Sp := fun vs H Q _ => ∃ (R : Rf) (k : Int), vs = [R.v, .int k] /\ Q (.bl (numA R k)) H
theorem zcg (T : Tx K mg D) : FnOk P w K mg base0 CX0 1 D.a_a2 D.d_a2 ["ref", "k"] zhL := by
 refine T.F_a2.ok zcf (fun vs H Q E h => ?_) (fun cdv A outer s H vs Q E hr h => ?_)
 ·obtain ⟨R, n, rfl, _⟩ := h; rfl
 obtain ⟨R, n, rfl, k⟩ := h
 have hu := hr.units
 refine ⟨_, (zai (zas (zbh (zax (zbz K "int") (by rfl) T.z_isinstance (by rfl) (zaa (pv 0) (zaa (zch (v := .ty "int") (by rfl) T.z_int (by rfl) (by rfl)) zah))) (zbh (zjF (zax (zbz K "bool") (by rfl) T.z_isinstance (by rfl) (zaa (pv 0) (zaa (zch (v := .ty "bool") (by rfl) T.z_bool (by rfl) (by rfl)) zah)))) (zbh (za1 zi0 zad (pv 0) (zar _)) (zb0 (za1 zcE (pv 0) (pv 1) (zar _)))))))), ?_⟩
 walk_at "S"
 cases R with
 | n r =>
  simp only [Rf.v]
  walk_at ""
  refine ⟨true, rfl, ?_⟩
  rw [if_pos rfl]
  refine ⟨false, rfl, ?_⟩
  rw [if_pos rfl]
  by_cases h0 : 0 ≤ r
  ·rw [if_pos h0]
   simpa [numA, h0] using k
  ·rw [if_neg h0]
   simpa [numA, h0] using k
 | s t =>
  simp only [Rf.v]
  walk_at ""
  refine ⟨false, rfl, ?_⟩
  rw [if_neg (by decide)]
  exact k
 | b c =>
  simp only [Rf.v]
  walk_at ""
  refine ⟨true, rfl, ?_⟩
  rw [if_pos rfl]
  refine ⟨true, rfl, ?_⟩
  rw [if_neg (by decide)]
  exact k
 | o =>
  simp only [Rf.v]
  walk_at ""
  refine ⟨false, rfl, ?_⟩
  rw [if_neg (by decide)]
  exact k
theorem zcX (T : Tx K mg D) : FnOk P w K mg base0 CX0 1 D.a_a9 D.d_a9 ["path", "beginning"] (zh9 K) := by
 refine T.F_a9.ok zcW (fun vs H Q E h => ?_) (fun cdv A outer s H vs Q E hr h => ?_)
 ·obtain ⟨a, b, p, q, rfl, _⟩ := h; rfl
 obtain ⟨a, b, p, q, rfl, hp, hq, k⟩ := h
 have hu := hr.units
 refine ⟨_, (zai (zas (za1 (zbd K hu) (zbg (slB K) (pv 0) zbr (zbs (zax (za4 K) (by rfl) T.z_len PySem.boot_len (zaa (pv 1) zah)))) (pv 1) (zar _)))), ?_⟩
 walk_at "S"
 walk_at ""
 refine ⟨_, .inr hq, _, .inr ⟨hp, fun c H' s1 h1 => ?_⟩⟩
 rw [zeX, zeh, zd5] at h1
 refine ⟨_, _, zgF h1, zgF (s1.seqT hq), zjg _, ?_⟩
 rw [zjf]
 exact k _ s1
theorem zjv (T : Tx K mg D) : FnOk P w K mg base0 CX0 2 D.a_e8 D.d_e8 ["paths", "k", "i"] (zkY K) := by
 have G_a9 := @zcX P w _ _ base0 _ T
 refine T.F_e8.ok zjr (fun vs H Q E h => ?_) (fun cdv A outer s H vs Q E hr h => ?_)
 ·obtain ⟨a, us, f, n, i, rfl, _⟩ := h; rfl
 obtain ⟨a, us, f, n, i, rfl, hA, hP, hn, hi, k⟩ := h
 have hu := hr.units
 have hr_a9 : Room 1 _ := hr.mono (by decide)
 refine ⟨_, (zai (zas (zbh (za1 zcE (pv 2) (pv 1) (zar _)) (zb0 (zal G_a9 hr_a9 (by rfl) T.m_a9 T.F_a9.kp T.b_a9 .nil za2 (zaa (zam (ixA K) (pv 0) (pv 1) (fun _ _ => rfl)) (zaa (zam (ixA K) (pv 0) (pv 2) (fun _ _ => rfl)) zah))))))), ?_⟩
 walk_at "S"
 walk_at ""
 obtain ⟨b1, e1, h1⟩ := hP.at hn
 obtain ⟨b2, e2, h2⟩ := hP.at hi
 refine ite2 (fun c => ?_) fun c => ?_
 ·refine ⟨_, .inr hA, _, zae e1, _, .inr hA, _, zae e2, b1, b2, _, _, rfl, h1, h2, fun H' s' => ?_⟩
  have := k H' s'
  rw [decide_eq_true (show i < n by omega), Bool.true_and] at this
  exact this
 ·have := k H (Same.refl H)
  rw [decide_eq_false (show ¬ i < n by omega), Bool.false_and] at this
  exact this
def RepNs (K : W.Frag) (H : Hp) (L : Nat -> Ln) (ls : List V) : Prop := ∀ i v, ls[i]? = some v -> RepN K H (L i) v
theorem RepNs.same {H H' : Hp} {L : Nat -> Ln} {ls : List V} (e : Same H H') (h : RepNs K H L ls) : RepNs K H' L ls := fun i v hv => (h i v hv).same e
def zcY (f : Nat -> List Nat) (n r : Nat) : Bool := decide (r < n) && decide ((f n).take (f r).length = f r)
def tk (f : Nat -> List Nat) (n : Nat) (R : Rf) : Option Nat := match R with
 | .n i => if 0 ≤ i /\ i < n /\ zcY f n i.toNat = true then some i.toNat else none
 | _ => none
theorem zml {f : Nat -> List Nat} {n r : Nat} {R : Rf} (h : tk f n R = some r) : r < n := by
 cases R with
 | n i =>
  simp only [tk] at h
  split at h
  ·cases h; omega
  ·cases h
 | s t => cases h
 | b c => cases h
 | o => cases h
inductive Tk
 | non
 | st (S : Stm)
 | nm (t : Str)
def RepTk (K : W.Frag) (H : Hp) (t : Tk) (v : V) : Prop := match t with
 | .non => v = .non
 | .st S => RepS K H S v
 | .nm t => v = .str t
theorem RepTk.same {H H' : Hp} {t : Tk} {v : V} (e : Same H H') (h : RepTk K H t v) : RepTk K H' t v := by
 cases t with
 | non => exact h
 | st S => exact RepS.same (S := S) e h
 | nm t => exact h
def tkL (L : Nat -> Ln) (f : Nat -> List Nat) (n : Nat) (R : Rf) : Tk := match tk f n R with
 | some r => (match (L r).st with | some S => .st S | none => .non)
 | none => .non
def isNm (x : Str) : Bool := base x "abcdefghijklmnopqrstuvwxyz" && !inV (.str x) zjs
def tkN (R : Rf) : Tk := match R with
 | .s t => if isNm t = true then .nm t else .non
 | _ => .non
def tkW (L : Nat -> Ln) (f : Nat -> List Nat) (N n : Nat) (bx : Bool) (R : Rf) : Tk := if bx = true then tkN R else tkL L f n R
def wnt (bx : Bool) : Str := if bx = true then "name" else "line"
def Rf.sm : Rf -> Prop
 | .s t => t.length ≤ 20 /\ ∀ c ∈ t.cps.toList, c < 1000
 | .n i => -100 ≤ i /\ i ≤ 100
 | _ => True
structure LnsAt (K : W.Frag) (H : Hp) (la pa : Addr) (ls us : List V) (L : Nat -> Ln) (rs : List Str) (g : Nat -> Nat) : Prop where
 l : SqT K H la ls
 n : RepNs K H L ls
 p : SqT K H pa us
 r : RepPs K H (fun i => pathAt rs g (i + 1)) us
 len : ls.length = us.length
 ru : ∀ i, i < us.length -> (L i).ru = rs.getD i ""
 nw : ∀ i, i < us.length -> (L i).ru = "new" -> (L i).st = none
 sm : us.length ≤ 80
theorem LnsAt.same {H H' : Hp} {la pa : Addr} {ls us : List V} {L : Nat -> Ln} {rs : List Str} {g : Nat -> Nat} (h : LnsAt K H la pa ls us L rs g) (e : Same H H') : LnsAt K H' la pa ls us L rs g :=
 ⟨e.seqT h.l, h.n.same e, e.seqT h.p, h.r.same e, h.len, h.ru, h.nw, h.sm⟩
theorem zjw (T : Tx K mg D) : FnOk P w K mg base0 CX0 2 D.a_d6 D.d_d6 ["text"] (sp1 isNm) := by
 have G_a0 := @zem P w _ _ base0 _ T
 refine T.F_d6.ok zf4 (fun vs H Q E h => ?_) (fun cdv A outer s H vs Q E hr h => ?_)
 ·obtain ⟨x, rfl, _⟩ := h; rfl
 obtain ⟨x, rfl, hx, k⟩ := h
 have hu := hr.units
 have hr_a0 : Room 1 _ := hr.mono (by decide)
 refine ⟨_, (zai (zas (zbh (zal G_a0 hr_a0 (by rfl) T.m_a0 T.F_a0.kp T.b_a0 .nil za2 (zaa (pv 0) (zaa (T.g_SMALL (by rfl)) zah))) (zb0 (za1 (zbL K) (pv 0) (T.g_KEPT_WORDS (by rfl)) (by rfl)))))), ?_⟩
 walk_at "S"
 walk_at ""
 refine ⟨x, _, rfl, hx, fun H' hs => ?_⟩
 walk_at ""
 have q : Q (.bl (base x "abcdefghijklmnopqrstuvwxyz" && !inV (.str x) zjs)) H' := k H' hs
 cases e : base x "abcdefghijklmnopqrstuvwxyz" with
 | false => rw [e] at q; exact iteF q
 | true => rw [e] at q; exact iteT ⟨_, .inr (T.q_KEPT_WORDS _), rfl, by decide, q⟩
def zjx (K : W.Frag) : Sp := fun vs H Q _ => ∃ R : Rf, vs = [R.v] /\ R.sm /\ ∀ H' v, Same H H' -> RepTk K H' (tkN R) v -> Q v H'
theorem zeA (T : Tx K mg D) : FnOk P w K mg base0 CX0 3 D.a_c6 D.d_c6 ["ref"] (zjx K) := by
 have G_d6 := @zjw P w _ _ base0 _ T
 refine T.F_c6.ok ze8 (fun vs H Q E h => ?_) (fun cdv A outer s H vs Q E hr h => ?_)
 ·obtain ⟨R, rfl, _⟩ := h; rfl
 obtain ⟨R, rfl, hR, k⟩ := h
 have hu := hr.units
 have hr_d6 : Room 2 _ := hr.mono (by decide)
 refine ⟨_, (zai (zas (zbU (PW.pt (zfH (zbG (zax (zbz K "str") (by rfl) T.z_isinstance (by rfl) (zaa (pv 0) (zaa (zch (v := .ty "str") (by rfl) T.z_str (by rfl) (by rfl)) zah)))) (zet (zbG (zal G_d6 hr_d6 (by rfl) T.m_d6 T.F_d6.kp T.b_d6 .nil za2 (zaa (pv 0) zah)))))) (pv 0) zc3))), ?_⟩
 walk_at "S"
 cases R with
 | s t =>
  simp only [Rf.v]
  walk_at ""
  refine ⟨true, rfl, ?_⟩
  rw [if_pos rfl]
  refine ⟨t, rfl, Nat.le_trans (show t.length ≤ 20 from hR.1) (by decide), fun H' s' => ⟨_, rfl, ?_⟩⟩
  refine ite2 (fun c => k H' _ s' ?_) fun c => k H' _ s' ?_
  ·show RepTk K H' (if isNm t = true then .nm t else .non) _
   rw [if_pos c]; rfl
  ·show RepTk K H' (if isNm t = true then .nm t else .non) _
   rw [if_neg c]; rfl
 | n i =>
  simp only [Rf.v]
  walk_at ""
  refine ⟨false, rfl, ?_⟩
  rw [if_neg (by decide)]
  exact k H _ (Same.refl _) rfl
 | b c =>
  simp only [Rf.v]
  walk_at ""
  refine ⟨false, rfl, ?_⟩
  rw [if_neg (by decide)]
  exact k H _ (Same.refl _) rfl
 | o =>
  simp only [Rf.v]
  walk_at ""
  refine ⟨false, rfl, ?_⟩
  rw [if_neg (by decide)]
  exact k H _ (Same.refl _) rfl
def zhM (K : W.Frag) : Sp := fun vs H Q _ => ∃ (bx : Bool) (R : Rf) (n : Nat) (la pa : Addr) (ls us : List V) (L : Nat -> Ln) (rs : List Str) (g : Nat -> Nat), vs = [.str (wnt bx), R.v, .ref la, .ref pa, .int n] /\ R.sm /\ LnsAt K H la pa ls us L rs g /\ n < us.length /\
 ∀ H' v, Same H H' -> RepTk K H' (tkW L (fun i => pathAt rs g (i + 1)) us.length n bx R) v -> Q v H'
theorem zdA (T : Tx K mg D) : FnOk P w K mg base0 CX0 4 D.a_b2 D.d_b2 ["want", "ref", "lines", "paths", "k"] (zhM K) := by
 have G_e8 := @zjv P w _ _ base0 _ T
 have G_a7 := @zcO P w _ _ base0 _ T
 have G_a2 := @zcg P w _ _ base0 _ T
 have G_c6 := @zeA P w _ _ base0 _ T
 refine T.F_b2.ok zd8 (fun vs H Q E h => ?_) (fun cdv A outer s H vs Q E hr h => ?_)
 ·obtain ⟨bx, R, n, la, pa, ls, us, L, rs, g, rfl, _⟩ := h; rfl
 obtain ⟨bx, R, n, la, pa, ls, us, L, rs, g, rfl, hR, hA, hn, k⟩ := h
 have hu := hr.units
 have hr_e8 : Room 2 _ := hr.mono (by decide)
 have hr_a7 : Room 1 _ := hr.mono (by decide)
 have hr_a2 : Room 1 _ := hr.mono (by decide)
 have hr_c6 : Room 3 _ := hr.mono (by decide)
 refine ⟨_, (zaf (zaH (zap (za9 K hu) (pv 0) zao (zar _)) (zai (zas (zal G_c6 hr_c6 (by rfl) T.m_c6 T.F_c6.kp T.b_c6 .nil za2 (zaa (pv 1) zah)))) zau)
  (zaf (zaH (zda (zbG (zal G_a2 hr_a2 (by rfl) T.m_a2 T.F_a2.kp T.b_a2 .nil za2 (zaa (pv 1) (zaa (pv 4) zah))))) (zai (zas zc3)) zau)
  (zaf (zaH (zap (za9 K hu) (pv 0) zao (zar _)) (zai (zas (zbU (zbG (zal G_e8 hr_e8 (by rfl) T.m_e8 T.F_e8.kp T.b_e8 .nil za2 (zaa (pv 3) (zaa (pv 4) (zaa (pv 1) zah))))) (zal G_a7 hr_a7 (by rfl) T.m_a7 T.F_a7.kp T.b_a7 .nil za2 (zaa (zam (ixA K) (pv 2) (pv 1) (fun _ _ => rfl)) zah)) zc3))) zau)
  (zai zc1)))), ?_⟩
 walk_at "S"
 have hlen := hA.len
 cases bx with
 | true =>
  walk_at ""
  rw [if_pos (show wnt true = Str.ofString "name" by decide +kernel)]
  exact ⟨R, rfl, hR, fun H' v s' r => k H' v s' r⟩
 | false =>
  walk_at ""
  rw [if_neg (show ¬ wnt false = Str.ofString "name" by decide +kernel)]
  refine ⟨R, n, rfl, _, rfl, ?_⟩
  have kn : numA R n = false -> ∀ H', Same H H' -> Q .non H' := fun e H' s' => k H' .non s' (by
   show RepTk K H' (tkL L _ n R) .non
   have : tk (fun i => pathAt rs g (i + 1)) n R = none := by
    cases R with
    | n i =>
     show (if _ then _ else _) = _
     rw [if_neg fun z => ?_]
     have : (decide (0 ≤ i) && decide (i < (n : Int))) = false := e
     simp [z.1, z.2.1] at this
    | _ => rfl
   unfold tkL
   rw [this]
   rfl)
  refine ite2 (fun c => kn c H (Same.refl _)) fun c => ?_
  cases R with
  | s t => exact absurd rfl c
  | b t => exact absurd rfl c
  | o => exact absurd rfl c
  | n i =>
   have hi : 0 ≤ i /\ i < (n : Int) := by
    have : (decide (0 ≤ i) && decide (i < (n : Int))) = true := by
     cases e : (decide (0 ≤ i) && decide (i < (n : Int))) with
     | true => rfl
     | false => exact absurd e c
    simpa using this
   obtain ⟨r, rfl⟩ : ∃ r : Nat, i = r := ⟨i.toNat, by omega⟩
   have hrn : r < n := by omega
   clear kn c hi
   rw [if_pos (show wnt false = Str.ofString "line" by decide +kernel)]
   generalize hf : (fun i => pathAt rs g (i + 1)) = f at k
   have et : tk f n (.n (r : Int)) = if zcY f n r = true then some r else none := by
    show (if _ then _ else _) = _
    by_cases c : zcY f n r = true
    ·rw [if_pos ⟨by omega, by omega, by simpa using c⟩, if_pos c]; simp
    ·rw [if_neg fun z => c (by simpa using z.2.2), if_neg c]
   have ew : tkW L f us.length n false (.n (r : Int)) = tkL L f n (.n (r : Int)) := rfl
   unfold tkL at ew
   rw [et] at ew
   rw [ew] at k
   simp only [Rf.v]
   (try walk_at "")
   refine ⟨pa, us, f, n, r, rfl, hA.p, by rw [<- hf]; exact hA.r, hn, by omega, fun H' s' => ⟨_, rfl, ?_⟩⟩
   refine ite2 (fun c => ?_) fun c => ?_
   ·have c' : zcY f n r = true := c
    rw [if_pos c'] at k
    obtain ⟨lv, hlv⟩ : ∃ v, ls[r]? = some v := ⟨_, List.getElem?_eq_getElem (by omega)⟩
    refine ⟨_, .inr (s'.seqT hA.l), _, zae hlv, _, L r, rfl, (hA.n r lv hlv).same s', hA.nw r (by omega), fun x rx => k H' x s' ?_⟩
    show RepTk K H' (match (L r).st with | some S => .st S | none => .non) x
    cases e : (L r).st with
    | some S => rw [e] at rx; exact rx
    | none => rw [e] at rx; exact rx
   ·rw [if_neg (show ¬ zcY f n r = true from c)] at k
    exact k H' _ s' rfl
theorem zgR (T : Tx K mg D) : ∀ d : Nat, FnOk P w K mg base0 CX0 (d + 1) D.a_f0 D.d_f0 ["A", "letter", "name"] (zk9 K d)
 | 0 => by
  refine T.F_f0.ok ziu (fun vs H Q E h => ?_) (fun cdv A outer s H vs Q E hr h => ?_)
  ·obtain ⟨v, S, x, n, rfl, _⟩ := h; rfl
  ·obtain ⟨v, S, x, n, rfl, _, h, _⟩ := h
   have := S.deep_pos
   omega
 | d + 1 => by
  have G_f0 := zgR T d
  refine T.F_f0.ok ziu (fun vs H Q E h => ?_) (fun cdv A outer s H vs Q E hr h => ?_)
  ·obtain ⟨v, S, x, n, rfl, _⟩ := h; rfl
  obtain ⟨v, S, x, n, rfl, rS, hd, oS, k⟩ := h
  have hu := hr.units
  have hr_f0 : Room (d + 1) _ := hr
  refine ⟨_, (zaf (zaH (zap (za9 K hu) (zam (ixA K) (pv 0) zad (fun _ _ => rfl)) zao (zar _)) (zai (zas (zaM (zaa zao (zaa (zam (ixA K) (pv 0) zad (fun _ _ => rfl)) (zaa (zaO (zaU K) (by rfl) T.z_tuple (by rfl) (zaa (zbK 1 [1, 2] ["term", "letter", "name"] ⟨by rfl, by rfl, by rfl, by rfl, by rfl, by rfl, by rfl⟩ (by rfl) (zca K (zam (ixA K) (pv 0) zad (fun _ _ => rfl))) (fun _ _ _ _ => zbc (i := 0) (show List.Nodup (["term", "letter", "name"] : List Str) by decide +kernel) (by rfl) (Or.inl (by rfl)) (Or.inr (by rfl))) (zba (by decide)) (fun _ _ _ _ => zb6) (fun _ _ _ _ => (zbU (zap (za9 K hu) (pv 0) (pv 1) (zar _)) (pv 2) (pv 0)))) zah)) zah)))))) zau)
  (zaf (zaH (zap (zbZ K) (zam (ixA K) (pv 0) zad (fun _ _ => rfl)) (T.g_QUANTIFIERS (by rfl)) (by rfl)) (zaf (zaH (zap (za9 K hu) (zam (ixA K) (pv 0) zad (fun _ _ => rfl)) (pv 1) (zar _)) (zai (zas (pv 0))) zau)
  (zai (zas (zaM (zaa (zam (ixA K) (pv 0) zad (fun _ _ => rfl)) (zaa (zam (ixA K) (pv 0) zad (fun _ _ => rfl)) (zaa (zal G_f0 hr_f0 (by rfl) T.m_f0 T.F_f0.kp T.b_f0 .nil za2 (zaa (zam (ixA K) (pv 0) zad (fun _ _ => rfl)) (zaa (pv 1) (zaa (pv 2) zah)))) zah))))))) zau)
  (zai (zas (zaq (zgo K) (zaM (zaa (zam (ixA K) (pv 0) zad (fun _ _ => rfl)) zah)) (zaO (zaU K) (by rfl) T.z_tuple (by rfl) (zaa (zbK 1 [1, 2] ["part", "letter", "name"] ⟨by rfl, by rfl, by rfl, by rfl, by rfl, by rfl, by rfl⟩ (by rfl) (zca K (zbg (slA K) (pv 0) (zbs zad) zbr)) (fun _ _ _ _ => zbc (i := 0) (show List.Nodup (["part", "letter", "name"] : List Str) by decide +kernel) (by rfl) (Or.inl (by rfl)) (Or.inr (by rfl))) (zba (by decide)) (fun _ _ _ _ => zb6) (fun _ _ _ _ => (zal G_f0 hr_f0 (by rfl) T.m_f0 T.F_f0.kp T.b_f0 .nil za2 (zaa (pv 0) (zaa (pv 1) (zaa (pv 2) zah)))))) zah))))))), ?_⟩
  walk_at "S"
  cases S with
  | is y ts =>
   obtain ⟨a, b, rfl, h2, h3⟩ := rS
   (try walk_at "")
   refine ⟨_, .inr h2, _, zae (j := 0) rfl, ?_⟩
   (try walk_at "")
   refine ⟨_, .inr h2, _, zae (j := 1) rfl, _, .inr h2, _, zae (j := 2) rfl, ?_⟩
   (try walk_at "")
   have h3' := oS.2.1
   refine .inr ⟨⟨_, h3⟩, zb3 (xs := ts.map V.str) (fun i acc H2 => H2 = H /\ acc = ((ts.take i).map fun t => if t = x then n else t).map V.str) ⟨rfl, by simp⟩ (fun i acc H2 _ hp => by rw [hp.1]; exact h3) (fun i t acc H2 hi hp => ?_) fun acc H2 hp p hn => ?_⟩
   ·obtain ⟨rfl, rfl⟩ := hp
    rw [List.getElem?_map] at hi
    cases e : ts[i]? with
    | none => rw [e] at hi; cases hi
    | some t' =>
     rw [e] at hi
     cases hi
     have hil : i < ts.length := (List.getElem?_eq_some_iff.mp e).1
     refine ⟨zbb (by simp only [List.length_map, List.length_take]; omega), ?_⟩
     simp only [zaG, List.replicate_succ, List.replicate_zero, List.map_cons, List.map_nil, List.nil_append, List.cons_append, List.getElem?_cons_zero, List.getElem?_cons_succ, Option.join_some]
     (try walk_at "")
     refine ite2 (fun c => ⟨trivial, ?_⟩) fun c => ⟨trivial, ?_⟩
     ·rw [List.take_add_one, e]; simp [c]
     ·rw [List.take_add_one, e]; simp [c]
   ·obtain ⟨rfl, rfl⟩ := hp
    (try walk_at "")
    refine ⟨_, .inl ⟨SqL.of zac, fun l hl => ⟨(by show 3 ≤ sizeLine; decide), fun p2 hp2 => ?_⟩⟩⟩
    have s1 := (zab hn (.lst (((ts.take (ts.map V.str).length).map fun t => if t = x then n else t).map V.str))).trans ((zab hl (.tup (((ts.take (ts.map V.str).length).map fun t => if t = x then n else t).map V.str))).trans (zab hp2 (.tup [V.str "is", V.str y, V.ref l])))
    refine k _ _ s1 ⟨p2, l, rfl, SqT.of zac, SqT.of (zbp hp2 ?_)⟩
    rw [zac, List.length_map, List.take_of_length_le (Nat.le_refl _)]
  | fls =>
   obtain ⟨a, rfl, h2⟩ := rS
   (try walk_at "")
   refine ⟨_, .inr h2, _, zae (j := 0) rfl, ?_⟩
   (try walk_at "")
   rw [if_neg (by decide +kernel)]
   refine ⟨_, .inr h2, _, zae (j := 0) rfl, ?_⟩
   (try walk_at "")
   refine ⟨_, .inr (T.q_QUANTIFIERS _), rfl, by decide, ?_⟩
   rw [if_neg (by decide +kernel)]
   refine ⟨_, .inr h2, _, zae (j := 0) rfl, ?_⟩
   (try walk_at "")
   refine ⟨(by show 1 ≤ sizeLine; decide), fun p hp => ⟨_, .inr ⟨(zab hp _).seqT h2, by decide, fun q hq => .inr ⟨⟨_, SqT.of zac⟩, ?_⟩⟩⟩⟩
   refine zb3 (xs := []) (fun i acc H2 => i = 0 /\ acc = [] /\ H2 = upd (upd H p (.tup [V.str "false"])) q (.tup [])) ⟨rfl, rfl, rfl⟩ (fun i acc H2 _ hv => by rw [hv.2.2]; exact SqT.of zac) (fun i y acc H2 hi hv => by simp at hi) fun acc H2 hv l hl => ?_
   obtain ⟨_, rfl, rfl⟩ := hv
   (try walk_at "")
   refine ⟨_, .inl ⟨SqL.of zac, fun l2 hl2 => ?_⟩⟩
   have ep : upd (upd (upd (upd H p (.tup [V.str "false"])) q (.tup [])) l (.lst [])) l2 (.tup []) p = some (.tup [V.str "false"]) := zbp hl2 (zbp hl (zbp hq zac))
   refine ⟨_, _, .inr ⟨SqT.of ep, SqT.of zac, by simp, (by show 1 ≤ sizeLine; decide), fun _ => ?_, fun z => absurd rfl z⟩⟩
   exact k _ _ ((zab hp _).trans ((zab hq _).trans ((zab hl _).trans (zab hl2 _)))) ⟨p, rfl, SqT.of ep⟩
  | neg B =>
   obtain ⟨a, u, rfl, h2, h3⟩ := rS
   simp only [Stm.deep] at hd
   (try walk_at "")
   refine ⟨_, .inr h2, _, zae (j := 0) rfl, ?_⟩
   (try walk_at "")
   rw [if_neg (by decide +kernel)]
   refine ⟨_, .inr h2, _, zae (j := 0) rfl, ?_⟩
   (try walk_at "")
   refine ⟨_, .inr (T.q_QUANTIFIERS _), rfl, by decide, ?_⟩
   rw [if_neg (by decide +kernel)]
   refine ⟨_, .inr h2, _, zae (j := 0) rfl, ?_⟩
   (try walk_at "")
   refine ⟨(by show 1 ≤ sizeLine; decide), fun p hp => ⟨_, .inr ⟨(zab hp _).seqT h2, (by show ¬ (min 1 2 = 0 /\ _); omega), fun q hq => .inr ⟨⟨_, SqT.of zac⟩, ?_⟩⟩⟩⟩
   have s1 := (zab hp (.tup [V.str "not"])).trans (zab hq (.tup [u]))
   refine zb3 (xs := [u]) (fun i acc H2 => Same (upd (upd H p (.tup [V.str "not"])) q (.tup [u])) H2 /\ RepL K H2 ([B.put x n].take i) acc) ⟨Same.refl _, .nil⟩ (fun i acc H2 _ hv => hv.1.seqT (SqT.of zac)) (fun i y acc H2 hi hv => ?_) fun acc H2 hv l hl => ?_
   ·match i, hi with
    | 0, hi =>
     cases hi
     obtain ⟨s2, r2⟩ := hv
     cases r2
     refine ⟨zbb (by show 0 ≤ 100000; decide), ?_⟩
     simp only [zaG, List.replicate_succ, List.replicate_zero, List.map_cons, List.map_nil, List.nil_append, List.cons_append, List.getElem?_cons_zero, List.getElem?_cons_succ, Option.join_some]
     (try walk_at "")
     refine ⟨_, B, _, _, rfl, h3.same (s1.trans s2), by omega, oS, fun w H3 s3 r3 => ⟨s2.trans s3, .cons r3 .nil⟩⟩
   ·obtain ⟨s2, r2⟩ := hv
    cases r2 with
    | cons ra rb =>
     cases rb
     (try walk_at "")
     refine ⟨_, .inl ⟨SqL.of zac, fun l2 hl2 => ⟨_, _, .inr ⟨SqT.of (zbp hl2 (zbp hl (s2 _ _ (zbp hq zac)))), SqT.of zac, by simp, (by show 2 ≤ sizeLine; decide), (fun z => by cases z), fun _ r hr => ?_⟩⟩⟩⟩
     exact k _ _ (s1.trans (s2.trans ((zab hl _).trans ((zab hl2 _).trans (zab hr _))))) ⟨r, _, rfl, SqT.of zac, ra.same ((zab hl _).trans ((zab hl2 _).trans (zab hr _)))⟩
  | bi o B C =>
   obtain ⟨a, u, u', rfl, h2, h3, h4⟩ := rS
   simp only [Stm.deep] at hd
   (try walk_at "")
   refine ⟨_, .inr h2, _, zae (j := 0) rfl, ?_⟩
   (try walk_at "")
   rw [if_neg (zgy o)]
   refine ⟨_, .inr h2, _, zae (j := 0) rfl, ?_⟩
   (try walk_at "")
   refine ⟨_, .inr (T.q_QUANTIFIERS _), rfl, by decide, ?_⟩
   rw [zb2, if_neg (by decide)]
   refine ⟨_, .inr h2, _, zae (j := 0) rfl, ?_⟩
   (try walk_at "")
   refine ⟨(by show 1 ≤ sizeLine; decide), fun p hp => ⟨_, .inr ⟨(zab hp _).seqT h2, (by show ¬ (min 1 3 = 0 /\ _); omega), fun q hq => .inr ⟨⟨_, SqT.of zac⟩, ?_⟩⟩⟩⟩
   have s1 := (zab hp (.tup [V.str o.txt])).trans (zab hq (.tup [u, u']))
   refine zb3 (xs := [u, u']) (fun i acc H2 => Same (upd (upd H p (.tup [V.str o.txt])) q (.tup [u, u'])) H2 /\ RepL K H2 ([B.put x n, C.put x n].take i) acc) ⟨Same.refl _, .nil⟩ (fun i acc H2 _ hv => hv.1.seqT (SqT.of zac)) (fun i y acc H2 hi hv => ?_) fun acc H2 hv l hl => ?_
   ·match i, hi with
    | 0, hi =>
     cases hi
     obtain ⟨s2, r2⟩ := hv
     cases r2
     refine ⟨zbb (by show 0 ≤ 100000; decide), ?_⟩
     simp only [zaG, List.replicate_succ, List.replicate_zero, List.map_cons, List.map_nil, List.nil_append, List.cons_append, List.getElem?_cons_zero, List.getElem?_cons_succ, Option.join_some]
     (try walk_at "")
     refine ⟨_, B, _, _, rfl, h3.same (s1.trans s2), by omega, oS.1, fun w H3 s3 r3 => ⟨s2.trans s3, .cons r3 .nil⟩⟩
    | 1, hi =>
     cases hi
     obtain ⟨s2, r2⟩ := hv
     cases r2 with
     | cons ra rb =>
      cases rb
      refine ⟨zbb (by show 1 ≤ 100000; decide), ?_⟩
      simp only [zaG, List.replicate_succ, List.replicate_zero, List.map_cons, List.map_nil, List.nil_append, List.cons_append, List.getElem?_cons_zero, List.getElem?_cons_succ, Option.join_some]
      (try walk_at "")
      refine ⟨_, C, _, _, rfl, h4.same (s1.trans s2), by omega, oS.2, fun w H3 s3 r3 => ⟨s2.trans s3, .cons (ra.same s3) (.cons r3 .nil)⟩⟩
   ·obtain ⟨s2, r2⟩ := hv
    cases r2 with
    | cons ra rb =>
     cases rb with
     | cons rb rc =>
      cases rc
      (try walk_at "")
      refine ⟨_, .inl ⟨SqL.of zac, fun l2 hl2 => ⟨_, _, .inr ⟨SqT.of (zbp hl2 (zbp hl (s2 _ _ (zbp hq zac)))), SqT.of zac, by simp, (by show 3 ≤ sizeLine; decide), (fun z => by cases z), fun _ r hr => ?_⟩⟩⟩⟩
      exact k _ _ (s1.trans (s2.trans ((zab hl _).trans ((zab hl2 _).trans (zab hr _))))) ⟨r, _, _, rfl, SqT.of zac, ra.same ((zab hl _).trans ((zab hl2 _).trans (zab hr _))), rb.same ((zab hl _).trans ((zab hl2 _).trans (zab hr _)))⟩
  | qu q X B =>
   have rS' := rS
   obtain ⟨a, u, rfl, h2, h3⟩ := rS
   simp only [Stm.deep] at hd
   (try walk_at "")
   refine ⟨_, .inr h2, _, zae (j := 0) rfl, ?_⟩
   (try walk_at "")
   rw [if_neg (zgz q)]
   refine ⟨_, .inr h2, _, zae (j := 0) rfl, ?_⟩
   (try walk_at "")
   refine ⟨_, .inr (T.q_QUANTIFIERS _), rfl, by decide, ?_⟩
   rw [zcb, if_pos rfl]
   refine ⟨_, .inr h2, _, zae (j := 1) rfl, ?_⟩
   (try walk_at "")
   simp only [Stm.put] at k
   refine ite2 (fun c => ?_) fun c => ?_
   ·rw [if_pos c] at k
    exact k _ _ (Same.refl _) rS'
   ·rw [if_neg c] at k
    refine ⟨_, .inr h2, _, zae (j := 0) rfl, _, .inr h2, _, zae (j := 1) rfl, _, .inr h2, _, zae (j := 2) rfl, ?_⟩
    refine ⟨_, B, _, _, rfl, h3, by omega, oS.2, fun w H1 s1 r1 => ⟨(by show 3 ≤ sizeLine; decide), fun p hp => ?_⟩⟩
    exact k _ _ (s1.trans (zab hp _)) ⟨p, w, rfl, SqT.of zac, r1.same (zab hp _)⟩
def okO (o : Option Stm) : Prop := ∀ S, o = some S -> S.deep ≤ 10 /\ S.Ok
def zgS (K : W.Frag) (H : Hp) (Ts : List Tk) (us : List V) : Prop := Paired (RepTk K H) Ts us
def zjy (bx : Bool) (t : Tk) : Prop := if bx = true then ∃ x, t = .nm x else ∃ S, t = .st S /\ S.deep ≤ 10 /\ S.Ok
def spBy (K : W.Frag) (ws : List Bool) (f : Stm -> List Tk -> Bool) : Sp := fun vs H Q _ => ∃ v S p us Ts, vs = [v, .ref p] /\ RepS K H S v /\ SqL K H p us /\ zgS K H Ts us /\ Paired zjy ws Ts /\ S.deep ≤ 10 /\ S.Ok /\ ∀ H', Same H H' -> Q (.bl (f S Ts)) H'
def fEach (S : Stm) : List Tk -> Bool
 | [.st (.qu true X B), .nm t] => decide (S = B.put X t)
 | _ => false
def fSome (S : Stm) : List Tk -> Bool
 | [.st A, .nm t] => match S with
  | .qu false X B => decide (A = B.put X t)
  | _ => false
 | _ => false
theorem ziv {H : Hp} {Ts : List Tk} {us : List V} (h : zgS K H Ts us) (hf : Paired zjy [false, true] Ts) : ∃ A t u, Ts = [.st A, .nm t] /\ us = [u, .str t] /\ RepS K H A u /\ A.deep ≤ 10 /\ A.Ok := by
 match Ts, hf with
 | [x, y], .cons h1 (.cons h2 .nil) =>
  obtain ⟨A, rfl, hd, ho⟩ : ∃ S, x = .st S /\ S.deep ≤ 10 /\ S.Ok := h1
  obtain ⟨t, rfl⟩ : ∃ z, y = .nm z := h2
  match us, h with
  | [u, v], .cons r1 (.cons r2 .nil) =>
   cases (show v = .str t from r2)
   exact ⟨A, t, u, rfl, rfl, r1, hd, ho⟩
theorem zgT {S : Stm} (h : S.tag = Str.ofString "all") : ∃ X B, S = .qu true X B := by
 cases S with
 | qu q X B =>
  cases q with
  | true => exact ⟨X, B, rfl⟩
  | false => exact absurd h (show ¬ qtx false = Str.ofString "all" by decide +kernel)
 | neg A => exact absurd h (show ¬ Str.ofString "not" = Str.ofString "all" by decide +kernel)
 | bi o B C => exact absurd h (zk3 o)
 | is x ts => exact absurd h (show ¬ Str.ofString "is" = Str.ofString "all" by decide +kernel)
 | fls => exact absurd h (show ¬ Str.ofString "false" = Str.ofString "all" by decide +kernel)
theorem zfe {S : Stm} (h : S.tag = Str.ofString "some") : ∃ X B, S = .qu false X B := by
 cases S with
 | qu q X B =>
  cases q with
  | false => exact ⟨X, B, rfl⟩
  | true => exact absurd h (show ¬ qtx true = Str.ofString "some" by decide +kernel)
 | neg A => exact absurd h (show ¬ Str.ofString "not" = Str.ofString "some" by decide +kernel)
 | bi o B C => exact absurd h (ziL o)
 | is x ts => exact absurd h (show ¬ Str.ofString "is" = Str.ofString "some" by decide +kernel)
 | fls => exact absurd h (show ¬ Str.ofString "false" = Str.ofString "some" by decide +kernel)
theorem zfA (T : Tx K mg D) : FnOk P w K mg base0 CX0 12 D.a_d0 D.d_d0 ["S", "taken"] (spBy K [false, true] fEach) := by
 have G_f0 := zgR (P := P) (w := w) (base0 := base0) T 10
 refine T.F_d0.ok sc_d0 (fun vs H Q E h => ?_) (fun cdv A outer s H vs Q E hr h => ?_)
 ·obtain ⟨v, S, p, us, Ts, rfl, _⟩ := h; rfl
 obtain ⟨v, S, p, us, Ts, rfl, rS, hp, hR, hf, hd, hS, k⟩ := h
 have hu := hr.units
 have hr_f0 : Room 11 _ := hr.mono (by decide)
 refine ⟨_, (zaf (zat (i := 2) sc_d0.nd (by rfl) (by walk_at "o") (zam (ixA K) (pv 1) zad (fun _ _ => rfl)))
  (zai (zas (zbh (za1 (zbd K hu) (zam (ixA K) (pv 2) zad (fun _ _ => rfl)) zao (zar _)) (zb0 (za1 (zbd K hu) (pv 0) (zal G_f0 hr_f0 (by rfl) T.m_f0 T.F_f0.kp T.b_f0 .nil za2 (zaa (zam (ixA K) (pv 2) zad (fun _ _ => rfl)) (zaa (zam (ixA K) (pv 2) zad (fun _ _ => rfl)) (zaa (zam (ixA K) (pv 1) zad (fun _ _ => rfl)) zah)))) (zar _))))))), ?_⟩
 walk_at "S"
 obtain ⟨A, t, u, rfl, rfl, rA, dA, oA⟩ := ziv hR hf
 obtain ⟨a, xs0, rfl, h2⟩ := rA.tag
 obtain ⟨a1, xs1, rfl, _⟩ := rS.tag
 walk_at ""
 refine ⟨_, .inl hp, _, zae (j := 0) rfl, ?_⟩
 (try walk_at "")
 refine ⟨_, .inr h2, _, zae (j := 0) rfl, ?_⟩
 (try walk_at "")
 refine ite2 (fun c => ?_) fun c => ?_
 ·obtain ⟨X, B, rfl⟩ := zgT c
  obtain ⟨a', u', e, h3, rB⟩ := rA
  cases e
  simp only [Stm.deep] at dA
  refine ⟨_, .inr h3, _, zae (j := 2) rfl, _, .inr h3, _, zae (j := 1) rfl, _, .inl hp, _, zae (j := 1) rfl, _, B, X, t, rfl, rB, by omega, oA.2, fun w H' s' rw' => ?_⟩
  obtain ⟨a2, xs2, rfl, _⟩ := rw'.tag
  (try walk_at "")
  refine ⟨_, _, (rS.same s').repD, rw'.repD, Nat.le_trans (Stm.dep_dt S) (by omega), ?_⟩
  rw [Stm.dt_dec]
  exact k _ s'
 ·have e : fEach S [.st A, .nm t] = false := by
   cases A with
   | qu q X B =>
    cases q with
    | true => exact absurd rfl c
    | false => rfl
   | _ => rfl
  have kk := k _ (Same.refl _)
  rw [e] at kk
  exact kk
theorem zfB (T : Tx K mg D) : FnOk P w K mg base0 CX0 12 D.a_c9 D.d_c9 ["S", "taken"] (spBy K [false, true] fSome) := by
 have G_f0 := zgR (P := P) (w := w) (base0 := base0) T 10
 refine T.F_c9.ok zf6 (fun vs H Q E h => ?_) (fun cdv A outer s H vs Q E hr h => ?_)
 ·obtain ⟨v, S, p, us, Ts, rfl, _⟩ := h; rfl
 obtain ⟨v, S, p, us, Ts, rfl, rS, hp, hR, hf, hd, hS, k⟩ := h
 have hu := hr.units
 have hr_f0 : Room 11 _ := hr.mono (by decide)
 refine ⟨_, (zai (zas (zbh (za1 (zbd K hu) (zam (ixA K) (pv 0) zad (fun _ _ => rfl)) zao (zar _)) (zb0 (za1 (zbd K hu) (zam (ixA K) (pv 1) zad (fun _ _ => rfl)) (zal G_f0 hr_f0 (by rfl) T.m_f0 T.F_f0.kp T.b_f0 .nil za2 (zaa (zam (ixA K) (pv 0) zad (fun _ _ => rfl)) (zaa (zam (ixA K) (pv 0) zad (fun _ _ => rfl)) (zaa (zam (ixA K) (pv 1) zad (fun _ _ => rfl)) zah)))) (zar _)))))), ?_⟩
 walk_at "S"
 obtain ⟨A, t, u, rfl, rfl, rA, dA, oA⟩ := ziv hR hf
 obtain ⟨a, xs0, rfl, h2⟩ := rS.tag
 obtain ⟨a1, xs1, rfl, _⟩ := rA.tag
 walk_at ""
 refine ⟨_, .inr h2, _, zae (j := 0) rfl, ?_⟩
 (try walk_at "")
 refine ite2 (fun c => ?_) fun c => ?_
 ·obtain ⟨X, B, rfl⟩ := zfe c
  have rS' := rS
  obtain ⟨a', u', e, h3, rB⟩ := rS
  cases e
  simp only [Stm.deep] at hd
  refine ⟨_, .inl hp, _, zae (j := 0) rfl, ?_⟩
  refine ⟨_, .inr h3, _, zae (j := 2) rfl, _, .inr h3, _, zae (j := 1) rfl, _, .inl hp, _, zae (j := 1) rfl, _, B, X, t, rfl, rB, by omega, hS.2, fun w H' s' rw' => ?_⟩
  obtain ⟨a2, xs2, rfl, _⟩ := rw'.tag
  (try walk_at "")
  refine ⟨_, _, (rA.same s').repD, rw'.repD, Nat.le_trans (Stm.dep_dt A) (by omega), ?_⟩
  rw [Stm.dt_dec]
  exact k _ s'
 ·have e : fSome S [.st A, .nm t] = false := by
   cases S with
   | qu q X B =>
    cases q with
    | false => exact absurd rfl c
    | true => rfl
   | _ => rfl
  have kk := k _ (Same.refl _)
  rw [e] at kk
  exact kk
theorem deps_le {k : Nat} : ∀ {l : List Dt}, (∀ d ∈ l, Dt.dep d ≤ k) -> Dt.deps l ≤ k
 | [], _ => Nat.zero_le _
 | a :: l, h => by
  have h1 := h a (by simp)
  have h2 := deps_le (l := l) fun d hd => h d (by simp [hd])
  simp only [Dt.deps]
  omega
def Tk.dt : Tk -> Dt
 | .non => .non
 | .st S => S.dt
 | .nm t => .str t
theorem RepTk.repD {H : Hp} {t : Tk} {v : V} (h : RepTk K H t v) : RepD K H t.dt v := by
 cases t with
 | non => cases (show v = .non from h); exact .non
 | st S => exact RepS.repD (S := S) h
 | nm t => cases (show v = .str t from h); exact .str t
def Tk.ok : Tk -> Prop
 | .non => True
 | .st S => S.deep ≤ 10 /\ S.Ok
 | .nm _ => True
theorem Tk.dep {t : Tk} (h : t.ok) : Dt.dep t.dt ≤ 60 := by
 cases t with
 | non => exact Nat.zero_le _
 | st S => exact Nat.le_trans (Stm.dep_dt S) (by have : S.deep ≤ 10 := h.1; omega)
 | nm t => exact Nat.zero_le _
def Tk.isN : Tk -> Bool
 | .non => true
 | _ => false
theorem Tk.non_iff (t : Tk) : decide (Dt.non = t.dt) = t.isN := by
 cases t with
 | non => rfl
 | st S => cases S <;> rfl
 | nm t => rfl
theorem zff : ∀ Ts : List Tk, (!decide (Dt.non ∈ Ts.map Tk.dt)) = Ts.all (fun t => !t.isN)
 | [] => rfl
 | t :: Ts => by
  have ih := zff Ts
  rw [List.all_cons, <- ih, <- Tk.non_iff t]
  by_cases h1 : Dt.non = t.dt
  ·simp [h1]
  ·by_cases h2 : Dt.non ∈ Ts.map Tk.dt <;> simp [h1, h2]
def zeB (L : Nat -> Ln) (f : Nat -> List Nat) (N n : Nat) (ws : List Bool) (rs : List Rf) : List Tk := List.zipWith (tkW L f N n) ws rs
theorem ziw {L : Nat -> Ln} {f : Nat -> List Nat} {N n : Nat} {b : Bool} {R : Rf} (h : ∀ i, i < N -> okO (L i).st) (hn : n < N) : (tkW L f N n b R).ok := by
 cases b with
 | true =>
  show (tkN R).ok
  unfold tkN
  cases R with
  | s t =>
   show Tk.ok (if _ then _ else _)
   split <;> trivial
  | _ => trivial
 | false =>
  show (tkL L f n R).ok
  unfold tkL
  cases e : tk f n R with
  | none => trivial
  | some r =>
   have := zml e
   show Tk.ok (match (L r).st with | some S => .st S | none => .non)
   cases e2 : (L r).st with
   | none => trivial
   | some S => exact h r (by omega) S e2
theorem zjz {L : Nat -> Ln} {f : Nat -> List Nat} {N n : Nat} {b : Bool} {R : Rf} (h : ∀ i, i < N -> okO (L i).st) (hn : n < N) (hx : (tkW L f N n b R).isN = false) : zjy b (tkW L f N n b R) := by
 have ho := ziw (f := f) (b := b) (R := R) h hn
 have ht : (b = true -> ∀ S, tkW L f N n b R ≠ .st S) /\ (b = false -> ∀ t, tkW L f N n b R ≠ .nm t) := by
  constructor
  ·rintro rfl S
   show tkN R ≠ _
   unfold tkN
   cases R with
   | s t =>
    show (if _ then _ else _) ≠ _
    split <;> (intro z; cases z)
   | _ => intro z; cases z
  ·rintro rfl t
   show tkL L f n R ≠ _
   unfold tkL
   cases tk f n R with
   | none => intro z; cases z
   | some r =>
    show (match (L r).st with | some S => Tk.st S | none => .non) ≠ _
    cases (L r).st <;> (intro z; cases z)
 generalize tkW L f N n b R = t at ho ht hx
 cases t with
 | non => cases hx
 | st S =>
  cases b with
  | true => exact absurd rfl (ht.1 rfl S)
  | false => exact ⟨S, rfl, ho.1, ho.2⟩
 | nm t =>
  cases b with
  | true => exact ⟨t, rfl⟩
  | false => exact absurd rfl (ht.2 rfl t)
def zeC (P : Program) (w : World) (K : W.Frag) (mg : Str -> Option Value) (base0 : Heap) : Sp := fun vs H Q _ => ∃ (ws : List Bool) (gg : Stm -> List Tk -> Bool) (n : Nat) (ra wa fa la pa : Addr) (fd : FuncData) (ls us : List V) (L : Nat -> Ln) (ss : List Str) (g : Nat -> Nat) (S0 : Stm), vs = [.ref ra, .ref la, .ref pa, .int n] /\
 SqT K H ra [.ref wa, .ref fa] /\ SqT K H wa (ws.map fun b => .str (wnt b)) /\ FnOk P w K mg base0 CX0 12 fa fd ["S", "taken"] (spBy K ws gg) /\ W.keepIn K (.ref fa) = true /\ Binds K fd ["S", "taken"] [] /\ ws.length ≤ 10 /\
 LnsAt K H la pa ls us L ss g /\ n < us.length /\ (L n).rs.length ≤ 10 /\ (∀ i, i < us.length -> okO (L i).st) /\ (∀ R ∈ (L n).rs, R.sm) /\ (L n).st = some S0 /\
 ∀ H', Same H H' -> Q (.bl (decide ((L n).rs.length = ws.length) && ((zeB L (fun i => pathAt ss g (i + 1)) us.length n ws (L n).rs).all (fun t => !t.isN) && gg S0 (zeB L (fun i => pathAt ss g (i + 1)) us.length n ws (L n).rs)))) H'
theorem zcP {α β : Type} {Rel : α -> β -> Prop} : ∀ {xs : List α} {ys : List β}, xs.length = ys.length -> (∀ (j : Nat) x y, xs[j]? = some x -> ys[j]? = some y -> Rel x y) -> Paired Rel xs ys
 | [], [], _, _ => .nil
 | x :: xs, y :: ys, hl, h => .cons (h 0 x y rfl rfl) (zcP (by simpa using hl) fun j a b e1 e2 => h (j + 1) a b (by simpa using e1) (by simpa using e2))
 | [], _ :: _, hl, _ => by simp at hl
 | _ :: _, [], hl, _ => by simp at hl
theorem zdB (T : Tx K mg D) : FnOk P w K mg base0 CX0 14 D.a_b1 D.d_b1 ["wants_and_step", "lines", "paths", "k"] (zeC P w K mg base0) := by
 have G_b2 := @zdA P w _ _ base0 _ T
 refine T.F_b1.ok sc_b1 (fun vs H Q E h => ?_) (fun cdv A outer s H vs Q E hr h => ?_)
 ·obtain ⟨ws, gg, n, ra, wa, fa, la, pa, fd, ls, us, L, ss, g, S0, rfl, _⟩ := h; rfl
 obtain ⟨ws, gg, n, ra, wa, fa, la, pa, fd, ls, us, L, ss, g, S0, rfl, hra, hwa, hF, hkp, hB, hm, hA, hn, hrl, hok, hsm, hS0, k⟩ := h
 have hu := hr.units
 have hr_b2 : Room 4 _ := hr.mono (by decide)
 have hr1 : Room 12 _ := hr.mono (by decide)
 refine ⟨_, (zaf (zat (i := 4) sc_b1.nd (by rfl) (by walk_at "o") (zam (ixA K) (pv 0) zad (fun _ _ => rfl)))
  (zaf (zat (i := 5) sc_b1.nd (by rfl) (by walk_at "o") (zam (ixA K) (pv 0) zad (fun _ _ => rfl)))
  (zaf (zat (i := 6) sc_b1.nd (by rfl) (by walk_at "o") (zam (ixA K) (zam (ixA K) (pv 1) (pv 3) (fun _ _ => rfl)) zad (fun _ _ => rfl)))
  (zaf (zaH (zap (zim K hu) (zax (za4 K) (by rfl) T.z_len PySem.boot_len (zaa (pv 6) zah)) (zax (za4 K) (by rfl) T.z_len PySem.boot_len (zaa (pv 4) zah)) (zar _)) (zai (zas zdo)) zau)
  (zaf (zci (i := 7) 2 [1, 2, 3] ["want", "ref", "lines", "paths", "k"] sc_b1.nd (by rfl) (by rfl) ⟨by rfl, by rfl, by rfl, by rfl, by rfl, by rfl, by rfl⟩ (by rfl) (zle K (by rfl) T.z_zip (zaa (pv 4) (zaa (pv 6) zah))) (fun _ _ _ _ => zhZ (by rfl) (zc2 (zbc (i := 0) (show List.Nodup (["want", "ref", "lines", "paths", "k"] : List Str) by decide +kernel) (by rfl) (Or.inl (by rfl)) (Or.inr (by rfl))) (zc2 (zbc (i := 1) (show List.Nodup (["want", "ref", "lines", "paths", "k"] : List Str) by decide +kernel) (by rfl) (Or.inl (by rfl)) (Or.inr (by rfl))) zfI))) (zf3 (by decide)) (fun _ _ _ _ => zb6) (fun _ _ _ _ => (zal G_b2 hr_b2 (by rfl) T.m_b2 T.F_b2.kp T.b_b2 .nil za2 (zaa (pv 0) (zaa (pv 1) (zaa (pv 2) (zaa (pv 3) (zaa (pv 4) zah))))))))
  (zai (zas (zbh (za1 (zgA K hu) zc3 (pv 7) (by rfl)) (zb0 (zhA (pv 5) (zaa (zam (ixA K) (zam (ixA K) (pv 1) (pv 3) (fun _ _ => rfl)) zad (fun _ _ => rfl)) (zaa (pv 7) zah)))))))))))), ?_⟩
 walk_at "S"
 have hlen := hA.len
 have hnl : n < ls.length := by omega
 obtain ⟨a, x, b, ea, h2, rx, h4⟩ := hA.n n ls[n] (by simp [hnl])
 rw [hS0] at rx
 have eat : atI ls (n : Int) = some (.ref a) := by rw [<- ea]; exact zae (List.getElem?_eq_getElem hnl)
 generalize hrs : (L n).rs = rs at h4 hrl k hsm
 generalize hf : (fun i => pathAt ss g (i + 1)) = f at k
 rw [zdu, zdv]
 simp only [↓w_op, ↓w_v0, ↓w_v1, ↓w_v3, ↓w_c, ↓zdT, ↓zb7, ↓List.set_cons_zero, ↓List.set_cons_succ]
 refine ⟨_, .inr hra, _, zae (j := 0) rfl, ?_⟩
 rw [zdu, zdv]
 simp only [↓w_op, ↓w_v0, ↓w_v1, ↓w_v3, ↓w_c, ↓zdT, ↓zb7, ↓List.set_cons_zero, ↓List.set_cons_succ]
 refine ⟨_, .inr hra, _, zae (j := 1) rfl, ?_⟩
 rw [zdu, zdv]
 simp only [↓w_op, ↓w_v0, ↓w_v1, ↓w_v3, ↓w_c, ↓zdT, ↓zb7, ↓List.set_cons_zero, ↓List.set_cons_succ]
 refine ⟨_, .inr hA.l, _, eat, ?_⟩
 rw [zdT]
 refine ⟨_, .inr h2, _, zae (j := 3) rfl, ?_⟩
 refine zb9 (c := ¬ rs.length = ws.length) (fun Qb q => ?_) (fun c1 => ?_) fun c1 => ?_
 ·walk_at ""
  refine ⟨_, .inr h4, _, .inr hwa, ?_⟩
  rw [List.length_map, List.length_map]
  have e : (!decide ((rs.length : Int) = (ws.length : Int))) = decide (¬ rs.length = ws.length) := by
   by_cases h : rs.length = ws.length
   ·simp [h]
   ·have h' : ¬ (rs.length : Int) = (ws.length : Int) := by omega
    simp [h, h']
  rw [e]
  exact q
 ·walk_at ""
  have kk := k _ (Same.refl _)
  rw [decide_eq_false c1, Bool.false_and] at kk
  exact kk
 ·walk_at ""
  have hlm : rs.length = ws.length := Classical.byContradiction c1
  refine ⟨wa, b, rfl, ⟨_, hwa⟩, ⟨_, h4⟩, zhE (xs := ws.map fun b => V.str (wnt b)) (ys := rs.map Rf.v) (by rw [List.length_map, List.length_map, hlm])
   (fun i acc H2 => Same H H2 /\ acc.length = i /\ ∀ j v b r, acc[j]? = some v -> ws[j]? = some b -> rs[j]? = some r -> RepTk K H2 (tkW L f us.length n b r) v) ⟨Same.refl _, rfl, fun j v b r h => absurd h (by rw [List.getElem?_nil]; intro z; cases z)⟩ (fun i acc H2 _ hv => ⟨hv.1.seqT hwa, hv.1.seqT h4⟩) (fun i x y acc H2 t hx hy ht hv => ?_) (fun acc H2 hv p hp => ?_) fun i acc H2 hi hv => ?_⟩
  ·obtain ⟨s2, hal, hacc⟩ := hv
   rw [List.getElem?_map] at hx hy
   cases er : rs[i]? with
   | none => rw [er] at hy; cases hy
   | some r =>
    cases eb : ws[i]? with
    | none => rw [eb] at hx; cases hx
    | some bb =>
     rw [er] at hy
     rw [eb] at hx
     cases hy
     cases hx
     have hiw := (List.getElem?_eq_some_iff.mp eb).1
     refine ⟨zbb (by omega), ?_⟩
     simp only [zaG, List.replicate_succ, List.replicate_zero, List.map_cons, List.map_nil, List.nil_append, List.cons_append, List.getElem?_cons_zero, List.getElem?_cons_succ, Option.join_some]
     have sq := zab ht (.tup [V.str (wnt bb), r.v])
     walk_at ""
     refine ⟨_, SqT.of zac, rfl, _, _, rfl, _, _, rfl, rfl, ?_⟩
     simp only [List.set_cons_zero, List.set_cons_succ]
     (try walk_at "")
     have s3 := s2.trans sq
     refine ⟨bb, r, n, la, pa, ls, us, L, ss, g, rfl, hsm r (List.mem_of_getElem? er), hA.same s3, hn, fun H4 y s4 hy => ⟨s3.trans s4, by rw [List.length_append, hal]; rfl, fun j v b' r' hj hb' hr' => ?_⟩⟩
     rw [hf] at hy
     by_cases hlt : j < acc.length
     ·rw [List.getElem?_append_left hlt] at hj
      exact (hacc j v b' r' hj hb' hr').same (sq.trans s4)
     ·have hj' : j < (acc ++ [y]).length := (List.getElem?_eq_some_iff.mp hj).1
      rw [List.length_append, List.length_singleton] at hj'
      have ej : j = acc.length := by omega
      subst ej
      rw [List.getElem?_append_right (Nat.le_refl _), Nat.sub_self] at hj
      cases hj
      rw [hal] at hb' hr'
      rw [eb] at hb'
      rw [er] at hr'
      cases hb'
      cases hr'
      exact hy
  ·obtain ⟨s2, hal, hacc⟩ := hv
   have s4 := s2.trans (zab hp (.lst acc))
   rw [List.length_map] at hal
   generalize hTs : zeB L f us.length n ws rs = Ts at k
   have hTl : Ts.length = ws.length := by rw [<- hTs]; unfold zeB; rw [List.length_zipWith]; omega
   have hTg : ∀ j t, Ts[j]? = some t -> ∃ b r, ws[j]? = some b /\ rs[j]? = some r /\ t = tkW L f us.length n b r := fun j t ht => by
    rw [<- hTs] at ht
    unfold zeB at ht
    rw [List.getElem?_zipWith] at ht
    cases eb : ws[j]? with
    | none => rw [eb] at ht; cases ht
    | some b =>
     cases er : rs[j]? with
     | none => rw [eb, er] at ht; cases ht
     | some r => rw [eb, er] at ht; cases ht; exact ⟨b, r, by first | rfl | exact eb, by first | rfl | exact er, rfl⟩
   have hRT : zgS K (upd H2 p (.lst acc)) Ts acc := zcP (by omega) fun j t v e1 e2 => by
    obtain ⟨b', r', g1, g2, rfl⟩ := hTg j t e1
    exact (hacc j v b' r' e2 g1 g2).same (zab hp _)
   have hTo : ∀ t ∈ Ts, t.ok := fun t ht => by
    obtain ⟨j, hj⟩ := List.getElem?_of_mem ht
    obtain ⟨b', r', _, _, rfl⟩ := hTg j t hj
    exact ziw hok hn
   refine .inr ⟨.non, Ts.map Tk.dt, .non, .inr (RepD.lst (SqL.of zac) (by rw [List.length_map]; omega) fun j d v e1 e2 => ?_), deps_le fun d hd => ?_, _, rfl, ?_⟩
   ·rw [List.getElem?_map] at e1
    cases et : Ts[j]? with
    | none => rw [et] at e1; cases e1
    | some t =>
     rw [et] at e1
     cases e1
     obtain ⟨b', r', g1, g2, rfl⟩ := hTg j t et
     exact ((hacc j v b' r' e2 g1 g2).same (zab hp _)).repD
   ·obtain ⟨t, ht, rfl⟩ := List.mem_map.mp hd
    exact Tk.dep (hTo t ht)
   ·show if (!decide (Dt.non ∈ Ts.map Tk.dt)) = true then _ else _
    rw [zff Ts]
    refine ite2 (fun c => ?_) fun c => ?_
    ·refine ⟨fa, CX0, 12, fd, ["S", "taken"], spBy K ws gg, [], [], E0, rfl, hF, hr1, hkp, hB, .nil, za2, ?_⟩
     refine ⟨_, .inr (s4.seqT hA.l), _, eat, ?_⟩
     rw [zdT]
     refine ⟨_, .inr (s4.seqT h2), _, zae (j := 2) rfl, x, S0, p, acc, Ts, rfl, RepS.same (S := S0) s4 rx, SqL.of zac, hRT, zcP (by omega) (fun j b' t e1 e2 => ?_), (hok n hn S0 hS0).1, (hok n hn S0 hS0).2, fun H' s' => ?_⟩
     ·obtain ⟨b'', r', g1, g2, rfl⟩ := hTg j t e2
      rw [e1] at g1
      cases g1
      refine zjz hok hn ?_
      have := List.all_eq_true.mp c _ (List.mem_of_getElem? e2)
      simpa using this
     ·have kk := k H' (s4.trans s')
      rw [decide_eq_true hlm, Bool.true_and, c, Bool.true_and] at kk
      exact kk
    ·have kk := k _ s4
     rw [Bool.eq_false_iff.mpr c, Bool.false_and, Bool.and_false] at kk
     exact kk
  ·exact zbb (by rw [List.length_map] at hi; have := hv.2.1; omega)
def zfg (v : V) (d : Addr) : List (Str × V) := [("lines", v), ("givens", .int 0), ("named", .int 0), ("first_places", .ref d)]
def zeD (D : Defs) : Sp := fun vs H Q _ => ∃ (r dx : Addr) (v : V), vs = [.ref r, v] /\ H r = some (.ins D.C_Ahead dx []) /\ ∀ H' d, H' r = some (.ins D.C_Ahead dx (zfg v d)) -> (∀ b u, b ≠ r -> H b = some u -> H' b = some u) -> Q .non H'
theorem zdC (T : Tx K mg D) : FnOk P w K mg base0 CX0 1 D.a_b3 D.d_b3 ["self", "lines"] (zeD D) := by
 refine T.F_b3.ok zd9 (fun vs H Q E h => ?_) (fun cdv A outer s H vs Q E hr h => ?_)
 ·obtain ⟨r, dx, v, rfl, _⟩ := h; rfl
 obtain ⟨r, dx, v, rfl, h1, k⟩ := h
 have hu := hr.units
 refine ⟨_, (zaf (zeK (pv 0) (pv 1) (by rfl))
  (zaf (zeK (pv 0) zad (by rfl))
  (zaf (zeK (pv 0) zad (by rfl))
  (zai (zeK (pv 0) zjk (by rfl)))))), ?_⟩
 walk_at "S"
 walk_at ""
 refine ⟨r, _, dx, _, rfl, h1, T.cl_Ahead, T.n_Ahead_lines, by decide, ?_⟩
 (try walk_at "")
 refine ⟨r, _, dx, _, rfl, zac, T.cl_Ahead, T.n_Ahead_givens, by show 1 < 1000; decide, ?_⟩
 (try walk_at "")
 refine ⟨r, _, dx, _, rfl, zac, T.cl_Ahead, T.n_Ahead_named, by show 2 < 1000; decide, ?_⟩
 (try walk_at "")
 intro p hp
 simp only [zfE] at hp ⊢
 have nrp : r ≠ p := by rintro rfl; rw [zac] at hp; cases hp
 refine ⟨r, _, dx, _, rfl, by rw [za8 nrp, zac], T.cl_Ahead, T.n_Ahead_first_places, by show 3 < 1000; decide, ?_⟩
 refine k _ p (by rw [zac]; rfl) fun b u nb hb => ?_
 have nbp : b ≠ p := by rintro rfl; rw [za8 nb] at hp; rw [hb] at hp; cases hp
 rw [za8 nb, za8 nbp, za8 nb]
 exact hb
def zj0 (D : Defs) : Sp := fun vs H Q _ => ∃ (r dx : Addr) (v : V) (d : Addr), vs = [.ref r, .int 0] /\ H r = some (.ins D.C_Ahead dx (zfg v d)) /\ Q (.bl true) H
theorem zbR (T : Tx K mg D) : FnOk P w K mg base0 CX0 1 D.a_a1 D.d_a1 ["self", "k"] (zj0 D) := by
 refine T.F_a1.ok zbQ (fun vs H Q E h => ?_) (fun cdv A outer s H vs Q E hr h => ?_)
 ·obtain ⟨r, dx, v, d, rfl, _⟩ := h; rfl
 obtain ⟨r, dx, v, d, rfl, h1, k⟩ := h
 have hu := hr.units
 refine ⟨_, (zaf (zhb PassesOwn.never (PW.pt (zfH (zap zcE (zeJ (pv 0) (by rfl)) (pv 1) (zar _)) (zet (zap (za9 K hu) (zam (ixA K) (zam (ixA K) (zeJ (pv 0) (by rfl)) (zeJ (pv 0) (by rfl)) (fun _ _ => rfl)) zad (fun _ _ => rfl)) zao (zar _))))) (zai (zfV (pv 0) zad zjS)))
  (zai (zas (za1 zlx (zeJ (pv 0) (by rfl)) (pv 1) (zar _))))), ?_⟩
 walk_at "S"
 walk_at ""
 refine ⟨fun m σ H2 => σ = [some (V.ref r), some (V.int 0)] /\ H2 = H, ⟨0, rfl, rfl⟩, ?_⟩
 rintro m σ H2 ⟨rfl, rfl⟩
 (try walk_at "")
 have lk : List.lookup (Str.ofString "givens") (zfg v d) = some (.int 0) := by rfl
 refine ⟨r, _, dx, _, _, rfl, h1, T.cl_Ahead, T.n_Ahead_givens, lk, ?_⟩
 (try walk_at "")
 rw [if_neg (by decide)]
 refine ⟨r, _, dx, _, _, rfl, h1, T.cl_Ahead, T.n_Ahead_givens, lk, ?_⟩
 (try walk_at "")
 exact k
inductive Row2 (D : Defs) : Str -> Addr -> Addr -> Addr -> List Bool -> (Stm -> List Tk -> Bool) -> Prop
 | each : Row2 D "each" D.r_RULES_12 D.w_RULES_12 D.a_d0 [false, true] fEach
 | some : Row2 D "some" D.r_RULES_14 D.w_RULES_14 D.a_c9 [false, true] fSome
def ansW (L : Nat -> Ln) (f : Nat -> List Nat) (N n : Nat) (ws : List Bool) (gg : Stm -> List Tk -> Bool) (S0 : Stm) : Bool := decide ((L n).rs.length = ws.length) && ((zeB L f N n ws (L n).rs).all (fun t => !t.isN) && gg S0 (zeB L f N n ws (L n).rs))
def spFB (D : Defs) (K : W.Frag) : Sp := fun vs H Q _ => ∃ (n : Nat) (ah la pa dx d : Addr) (v : V) (ls us : List V) (L : Nat -> Ln) (ss : List Str) (g : Nat -> Nat) (S0 : Stm), vs = [.ref ah, .ref la, .ref pa, .int n] /\ H ah = some (.ins D.C_Ahead dx (zfg v d)) /\
 LnsAt K H la pa ls us L ss g /\ n < us.length /\ (L n).rs.length ≤ 10 /\ (∀ i, i < us.length -> okO (L i).st) /\ (∀ R ∈ (L n).rs, R.sm) /\ (L n).st = some S0 /\ StOk 10 S0 /\
 ((((L n).ru = "given" \/ (L n).ru = "guess") /\ n = 0 /\ ∀ b H', Same H H' -> Q (.bl b) H') \/
  ∃ ra wa fa ws gg, Row2 D (L n).ru ra wa fa ws gg /\ ∀ H', Same H H' -> Q (.bl (ansW L (fun i => pathAt ss g (i + 1)) us.length n ws gg S0)) H')
def tab7 (D : Defs) : List (Str × V) := [("again", .ref D.r_RULES_0), ("both", .ref D.r_RULES_1), ("left", .ref D.r_RULES_2), ("right", .ref D.r_RULES_3), ("either", .ref D.r_RULES_4), ("cases", .ref D.r_RULES_5), ("then", .ref D.r_RULES_6), ("use", .ref D.r_RULES_7), ("deny", .ref D.r_RULES_8), ("clash", .ref D.r_RULES_9), ("absurd", .ref D.r_RULES_10), ("any", .ref D.r_RULES_11), ("each", .ref D.r_RULES_12), ("every", .ref D.r_RULES_13), ("some", .ref D.r_RULES_14), ("one", .ref D.r_RULES_15)]
theorem row2 (T : Tx K mg D) {ru : Str} {ra wa fa : Addr} {ws : List Bool} {gg : Stm -> List Tk -> Bool} (h : Row2 D ru ra wa fa ws gg) : (∀ H, SqT K H ra [.ref wa, .ref fa]) /\ (∀ H, SqT K H wa (ws.map fun b => .str (wnt b))) /\ (∃ fd, FnOk P w K mg base0 CX0 12 fa fd ["S", "taken"] (spBy K ws gg) /\ W.keepIn K (.ref fa) = true /\ Binds K fd ["S", "taken"] []) /\ ws.length ≤ 10 /\
  PyProof.Rows.KTD.datumAt ru (tab7 D) = some (.ref ra) /\ ru ≠ "given" /\ ru ≠ "guess" /\ ru ≠ "new" /\ ru ≠ "case" := by
 cases h with
 | each => exact ⟨T.qr_RULES_12, T.qw_RULES_12, ⟨_, zfA T, T.F_d0.kp, T.b_d0⟩, by decide, by rfl, by decide +kernel, by decide +kernel, by decide +kernel, by decide +kernel⟩
 | some => exact ⟨T.qr_RULES_14, T.qw_RULES_14, ⟨_, zfB T, T.F_c9.kp, T.b_c9⟩, by decide, by rfl, by decide +kernel, by decide +kernel, by decide +kernel, by decide +kernel⟩
theorem zcp (T : Tx K mg D) : FnOk P w K mg base0 CX0 22 D.a_a3 D.d_a3 ["ahead", "lines", "paths", "k"] (spFB D K) := by
 have G_a4 := @zcz P w _ _ base0 _ T
 have G_b1 := @zdB P w _ _ base0 _ T
 have G_a1 := @zbR P w _ _ base0 _ T
 refine T.F_a3.ok sc_a3 (fun vs H Q E h => ?_) (fun cdv A outer s H vs Q E hr h => ?_)
 ·obtain ⟨n, ah, la, pa, dx, d, v, ls, us, L, ss, g, S0, rfl, _⟩ := h; rfl
 obtain ⟨n, ah, la, pa, dx, d, v, ls, us, L, ss, g, S0, rfl, hah, hA, hn, hrl, hok, hsm, hS0, hst, hk⟩ := h
 have hu := hr.units
 have hr_a4 : Room 21 _ := hr.mono (by decide)
 have hr_b1 : Room 14 _ := hr.mono (by decide)
 have hr_a1 : Room 1 _ := hr.mono (by decide)
 refine ⟨_, (zaf (zat (i := 4) sc_a3.nd (by rfl) (by walk_at "o") (zam (ixA K) (pv 1) (pv 3) (fun _ _ => rfl)))
  (zaf (zat (i := 5) sc_a3.nd (by rfl) (by walk_at "o") (zam (ixA K) (pv 4) zad (fun _ _ => rfl)))
  (zaf (zaH (zda (zbG (zal G_a4 hr_a4 (by rfl) T.m_a4 T.F_a4.kp T.b_a4 .nil za2 (zaa (zam (ixA K) (pv 4) zad (fun _ _ => rfl)) (zaa (pv 5) zah))))) (zai (zas zdo)) zau)
  (zaf (zaH (zap (za9 K hu) (pv 5) zao (zar _)) (zai (zas (zbh (za1 (za9 K hu) (zax (za4 K) (by rfl) T.z_len PySem.boot_len (zaa (zam (ixA K) (pv 4) zad (fun _ _ => rfl)) zah)) zad (zar _)) (zbh (za1 (za9 K hu) (zam (ixA K) (pv 4) zad (fun _ _ => rfl)) zad (zar _)) (zb0 (zi8 (pv 0) T.cl_Ahead T.h_a1 G_a1 hr_a1 T.b_a1 .nil za2 (zaa (pv 3) zah))))))) zau)
  (zaf (zaH (zap (za9 K hu) (pv 5) zao (zar _)) (zai (zas (za1 (za9 K hu) (zax (za4 K) (by rfl) T.z_len PySem.boot_len (zaa (zam (ixA K) (pv 4) zad (fun _ _ => rfl)) zah)) zad (zar _)))) zau)
  (zaf (zaH (PW.pt (zcR (zap (za9 K hu) (pv 5) zao (zar _)) (zc4 (zap (za9 K hu) (pv 5) zao (zar _))))) (zaf zc1
  (zai zc1)) zau)
  (zai (zas (zbh (za1 (zla K) (pv 5) (T.g_RULES (by rfl)) (by rfl)) (zb0 (zal G_b1 hr_b1 (by rfl) T.m_b1 T.F_b1.kp T.b_b1 .nil za2 (zaa (zam (ixT K) (T.g_RULES (by rfl)) (pv 5) (fun _ _ => rfl)) (zaa (pv 1) (zaa (pv 2) (zaa (pv 3) zah))))))))))))))), ?_⟩
 walk_at "S"
 have hlen := hA.len
 have hnl : n < ls.length := by omega
 obtain ⟨a, x, b, ea, h2, rx, h4⟩ := hA.n n ls[n] (by simp [hnl])
 rw [hS0] at rx
 have rx : RepS K H S0 x := rx
 have eat : atI ls (n : Int) = some (.ref a) := by rw [<- ea]; exact zae (List.getElem?_eq_getElem hnl)
 rw [zdu, zdv]
 simp only [↓w_op, ↓w_v1, ↓w_v3, ↓w_v4, ↓w_c, ↓zdT, ↓zb7, ↓List.set_cons_zero, ↓List.set_cons_succ]
 refine ⟨_, .inr hA.l, _, eat, ?_⟩
 rw [zdu, zdv]
 simp only [↓w_op, ↓w_v1, ↓w_v3, ↓w_v4, ↓w_c, ↓zdT, ↓zb7, ↓List.set_cons_zero, ↓List.set_cons_succ]
 refine ⟨_, .inr h2, _, zae (j := 1) rfl, ?_⟩
 have hnn : (L n).ru ≠ "new" := by
  rcases hk with ⟨hg | hg, _⟩ | ⟨_, _, _, _, _, hrow, _⟩
  ·rw [hg]; decide +kernel
  ·rw [hg]; decide +kernel
  ·exact (row2 (P := P) (w := w) (base0 := base0) T hrow).2.2.2.2.2.2.2.1
 refine za0 (fun σ' H' => Same H H' /\ σ' = [some (V.ref ah), some (V.ref la), some (V.ref pa), some (V.int n), some (V.ref a), some (V.str (L n).ru), none]) (fun N hN => ?_) fun σ' H' hv => ?_
 ·walk_at ""
  refine ⟨_, .inr h2, _, zae (j := 2) rfl, x, S0, (L n).ru, rfl, rx, hst, hnn, fun H' s' => ⟨true, rfl, ?_⟩⟩
  rw [if_neg (by decide)]
  exact hN _ _ ⟨s', rfl⟩
 obtain ⟨s1, rfl⟩ := hv
 rcases hk with ⟨hg | hg, rfl, k⟩ | ⟨ra, wa, fa, ws, gg, hrow, k⟩
 ·rw [hg]
  walk_at ""
  refine ⟨_, .inr (s1.seqT h2), _, zae (j := 3) rfl, ?_⟩
  (try walk_at "")
  refine ⟨_, .inr (s1.seqT h4), ?_⟩
  (try walk_at "")
  refine ite2 (fun _ => ?_) fun _ => k _ _ s1
  refine ⟨_, .inr (s1.seqT h2), _, zae (j := 0) rfl, ?_⟩
  (try walk_at "")
  refine ite2 (fun _ => ?_) fun _ => k _ _ s1
  exact ⟨ah, dx, _, rfl, s1 _ _ hah, by rfl, ah, dx, v, d, rfl, s1 _ _ hah, k _ _ s1⟩
 ·rw [hg]
  walk_at ""
  rw [if_neg (by decide +kernel)]
  refine ⟨_, .inr (s1.seqT h2), _, zae (j := 3) rfl, ?_⟩
  (try walk_at "")
  refine ⟨_, .inr (s1.seqT h4), ?_⟩
  (try walk_at "")
  exact k _ _ s1
 ·obtain ⟨q1, q2, ⟨fd, hF, hkp, hB⟩, hm, hat, n1, n2, n3, n4⟩ := row2 (P := P) (w := w) (base0 := base0) T hrow
  walk_at ""
  rw [if_neg n1, if_neg n2, if_neg n3, if_neg n4]
  have hin : PyProof.Rows.KTD.inKeys (L n).ru (tab7 D) = true := by rw [<- PyProof.Rows.KTD.isSome_datumAt, hat]; rfl
  refine ⟨tab7 D, T.q_RULES, ?_⟩
  rw [if_pos hin]
  exact ⟨tab7 D, _, T.q_RULES, hat, ws, gg, n, ra, wa, fa, la, pa, fd, ls, us, L, ss, g, S0, rfl, q1 _, q2 _, hF, hkp, hB, hm, hA.same s1, hn, hrl, hok, hsm, hS0, fun H2 s2 => k H2 (s1.trans s2)⟩
def zen (D : Defs) (K : W.Frag) : Sp := fun vs H Q _ => ∃ (n : Nat) (la pa : Addr) (ls us : List V) (L : Nat -> Ln) (ss : List Str) (g : Nat -> Nat) (S0 : Stm), vs = [.ref la, .ref pa, .int n] /\
 LnsAt K H la pa ls us L ss g /\ n < us.length /\ (L n).rs.length ≤ 10 /\ (∀ i, i < us.length -> okO (L i).st) /\ (∀ R ∈ (L n).rs, R.sm) /\ (L n).st = some S0 /\ StOk 10 S0 /\
 ((((L n).ru = "given" \/ (L n).ru = "guess") /\ n = 0 /\ ∀ b H', Same H H' -> Q (.bl b) H') \/
  ∃ ra wa fa ws gg, Row2 D (L n).ru ra wa fa ws gg /\ ∀ H', Same H H' -> Q (.bl (ansW L (fun i => pathAt ss g (i + 1)) us.length n ws gg S0)) H')
theorem zfC (T : Tx K mg D) : FnOk P w K mg base0 CX0 23 D.a_d5 D.d_d5 ["lines", "paths", "k"] (zen D K) := by
 have G_a3 := @zcp P w _ _ base0 _ T
 have G_b3 := @zdC P w _ _ base0 _ T
 refine T.F_d5.ok zf7 (fun vs H Q E h => ?_) (fun cdv A outer s H vs Q E hr h => ?_)
 ·obtain ⟨n, la, pa, ls, us, L, ss, g, S0, rfl, _⟩ := h; rfl
 obtain ⟨n, la, pa, ls, us, L, ss, g, S0, rfl, hA, hn, hrl, hok, hsm, hS0, hst, hk⟩ := h
 have hu := hr.units
 have hr_a3 : Room 22 _ := hr.mono (by decide)
 have hr_b3 : Room 2 _ := hr.mono (by decide)
 refine ⟨_, (zai (zas (zal G_a3 hr_a3 (by rfl) T.m_a3 T.F_a3.kp T.b_a3 .nil za2 (zaa (zi9 T.mk_Ahead G_b3 hr_b3 (by rfl) T.m_Ahead T.b_b3 .nil za2 (zaa (pv 0) zah)) (zaa (pv 0) (zaa (pv 1) (zaa (pv 2) zah))))))), ?_⟩
 walk_at "S"
 walk_at ""
 intro x dx hx hdx hne
 refine ⟨x, dx, .ref la, rfl, zac, fun H1 d h1 hkeep => ⟨rfl, ?_⟩⟩
 have s1 : Same H H1 := fun b u hb => hkeep b u (za7 hb hx) (by rw [za8 (za7 hb hx), za8 (za7 hb hdx)]; exact hb)
 refine ⟨n, x, la, pa, dx, d, .ref la, ls, us, L, ss, g, S0, rfl, h1, hA.same s1, hn, hrl, hok, hsm, hS0, hst, ?_⟩
 rcases hk with ⟨hg, e, k⟩ | ⟨ra, wa, fa, ws, gg, hrow, k⟩
 ·exact .inl ⟨hg, e, fun b H' s' => k b H' (s1.trans s')⟩
 ·exact .inr ⟨ra, wa, fa, ws, gg, hrow, fun H' s' => k H' (s1.trans s')⟩
theorem zhN (T : Tx K mg D) : FnOk P w K mg base0 CX0 1 D.a_e3 D.d_e3 ["rule"] (fun vs H Q _ => ∃ r, vs = [.str r] /\ Q (.bl (opn r)) H) := by
 refine T.F_e3.ok zhH (fun vs H Q E h => ?_) (fun cdv A outer s H vs Q E hr h => ?_)
 ·obtain ⟨r, rfl, _⟩ := h; rfl
 obtain ⟨r, rfl, k⟩ := h
 have hu := hr.units
 refine ⟨_, (zai (zas (za1 (zbZ K) (pv 0) (T.g_OPENING_RULES (by rfl)) (by rfl)))), ?_⟩
 walk_at "S"
 walk_at ""
 exact ⟨_, .inr (T.q_OPENING_RULES _), rfl, rfl, k⟩
theorem zcQ (T : Tx K mg D) : FnOk P w K mg base0 CX0 2 D.a_a8 D.d_a8 ["path", "line", "k"] (zhG K) := by
 have G_e3 := @zhN P w _ _ base0 _ T
 refine T.F_a8.ok sc_a8 (fun vs H Q E h => ?_) (fun cdv A outer s H vs Q E hr h => ?_)
 ·obtain ⟨a, c, n, p, l, r, x, y, rfl, _⟩ := h; rfl
 obtain ⟨a, c, n, p, l, r, x, y, rfl, hA, hC, hl, k1, k2⟩ := h
 have hu := hr.units
 have hr_e3 : Room 1 _ := hr.mono (by decide)
 refine ⟨_, (zaf (zat (i := 3) sc_a8.nd (by rfl) (by walk_at "o") (zam (ixA K) (pv 1) zad (fun _ _ => rfl)))
  (zaf (zat (i := 4) sc_a8.nd (by rfl) (by walk_at "o") (zbU (zbG (zal G_e3 hr_e3 (by rfl) T.m_e3 T.F_e3.kp T.b_e3 .nil za2 (zaa (zam (ixA K) (pv 1) zad (fun _ _ => rfl)) zah))) (zaq zbW (pv 3) zad) (pv 3)))
  (zaf (zaH (PW.pt (zcR (zap zcE (pv 4) zad (zar _)) (zc4 (zap zjR (pv 4) (zax (za4 K) (by rfl) T.z_len PySem.boot_len (zaa (pv 0) zah)) (zar _))))) (zai (zas zc3)) zau)
  (zaf (zaH (zbG (zal G_e3 hr_e3 (by rfl) T.m_e3 T.F_e3.kp T.b_e3 .nil za2 (zaa (zam (ixA K) (pv 1) zad (fun _ _ => rfl)) zah))) (zai (zas (zaq (za5 K) (zbg (slB K) (pv 0) zbr (zbs (pv 4))) (zaM (zaa (pv 2) zah))))) zau)
  (zai (zas (zbg (slB K) (pv 0) zbr (zbs (pv 4))))))))), ?_⟩
 walk_at "S"
 walk_at ""
 refine ⟨_, .inr hC, _, zae (j := 0) rfl, _, .inr hC, _, zae (j := 1) rfl, r, rfl, ite2 (fun c1 => ?_) fun c1 => ?_⟩
 ·walk_at ""
  refine ite2 (fun c2 => k1 ?_) fun c2 => ⟨_, .inr hA, ?_⟩
  ·unfold zbq zcL; rw [if_pos c1, if_pos (.inl c2)]
  (try walk_at "")
  rw [zeX]
  refine ite2 (fun c3 => k1 ?_) fun c3 => ⟨_, .inr hC, _, zae (j := 1) rfl, r, rfl, ?_⟩
  ·unfold zbq zcL; rw [if_pos c1, if_pos (.inr c3)]
  rw [if_pos c1]
  refine ⟨_, .inr ⟨hA, fun q H1 s1 h1 => ⟨zan (show 1 ≤ 100000 by decide), fun p2 hp2 => ⟨_, _, .inr ⟨(zab hp2 _).seqT h1, SqT.of zac, ?_, fun b H3 s3 h3 => ?_⟩⟩⟩⟩⟩
  ·obtain ⟨m, hm⟩ : ∃ m : Nat, l - 1 = m := ⟨(l - 1).toNat, by omega⟩
   rw [hm, zeh, zd5, zeX]
   have := List.length_take_le' m p
   exact zan (by simp only [List.length_singleton]; omega)
  ·obtain ⟨m, hm⟩ : ∃ m : Nat, l - 1 = m := ⟨(l - 1).toNat, by omega⟩
   rw [hm, zeh, zd5] at h3
   refine k2 (p.take m ++ [n]) ?_ b H3 ((s1.trans (zab hp2 _)).trans s3) ?_
   ·unfold zbq zcL
    rw [if_pos c1, if_neg (by omega), if_pos c1, hm, Int.toNat_natCast]
   ·have e : iv (p.take m ++ [n]) = iv (p.take m) ++ [V.int n] := by simp [iv]
    rw [e]; exact h3
 ·walk_at ""
  refine ite2 (fun c2 => k1 ?_) fun c2 => ⟨_, .inr hA, ?_⟩
  ·unfold zbq zcL; rw [if_neg c1, if_pos (.inl c2)]
  (try walk_at "")
  rw [zeX]
  refine ite2 (fun c3 => k1 ?_) fun c3 => ⟨_, .inr hC, _, zae (j := 1) rfl, r, rfl, ?_⟩
  ·unfold zbq zcL; rw [if_neg c1, if_pos (.inr c3)]
  rw [if_neg c1]
  refine ⟨_, .inr ⟨hA, fun q H1 s1 h1 => ?_⟩⟩
  obtain ⟨m, hm⟩ : ∃ m : Nat, l = m := ⟨l.toNat, by omega⟩
  rw [hm, zeh, zd5] at h1
  refine k2 (p.take m) ?_ q H1 s1 h1
  unfold zbq zcL
  rw [if_neg c1, if_neg (by omega), if_neg c1, hm, Int.toNat_natCast]
theorem zc0 (T : Tx K mg D) : FnOk P w K mg base0 CX0 3 D.a_a5 D.d_a5 ["lines"] (zma K) := by
 have G_a8 := @zcQ P w _ _ base0 _ T
 refine T.F_a5.ok sc_a5 (fun vs H Q E h => ?_) (fun cdv A outer s H vs Q E hr h => ?_)
 ·obtain ⟨a, us, f, rfl, _⟩ := h; rfl
 obtain ⟨a, us, f, rfl, hA, hL, hl, k⟩ := h
 have hu := hr.units
 have hr_a8 : Room 2 _ := hr.mono (by decide)
 refine ⟨_, (zaf (zat (i := 1) sc_a5.nd (by rfl) (by walk_at "o") (zaN zah))
  (zaf (zat (i := 2) sc_a5.nd (by rfl) (by walk_at "o") (zaM zah))
  (zaf (zeI PassesOwn.never (by rfl) (zji K (by rfl) T.z_enumerate (zaa (pv 0) zah)) (zhZ (by rfl) (zc2 (zbc (i := 3) sc_a5.nd (by rfl) (by walk_at "o")) (zc2 (zbc (i := 4) sc_a5.nd (by rfl) (by walk_at "o")) zfI)))
   (zaf (zat (i := 2) sc_a5.nd (by rfl) (by walk_at "o") (zal G_a8 hr_a8 (by rfl) T.m_a8 T.F_a8.kp T.b_a8 .nil za2 (zaa (pv 2) (zaa (pv 4) (zaa (pv 3) zah)))))
  (zaf (zaH (zhX (zfG (pv 2))) (zai zha) zau)
  (zai (zc5 (zeQ K PySem.F.plainAttrs_list PySem.F.slot_list_append PySem.F.type_list_append zcl (pv 1) (zaa (pv 2) zah)))))))
  (zai (zas (zaO (zaU K) (by rfl) T.z_tuple (by rfl) (zaa (pv 1) zah))))))), ?_⟩
 walk_at "S"
 walk_at ""
 refine ⟨Nat.zero_le _, fun p hp => ⟨Nat.zero_le _, fun p1 hp1 => ?_⟩⟩
 have s0 : Same H (upd (upd H p (.lst [])) p1 (.tup [])) := ((Same.refl H).upd hp).trans (zab hp1 _)
 have hne : p ≠ p1 := za7 zac hp1
 refine ⟨a, rfl, ⟨_, s0.seqT hA⟩, ?_⟩
 refine zgJ (xs := us) (fun i σ H2 => Same H H2 /\ ∃ c ps u3 u4 pt, σ = [some (.ref a), some (.ref p), some (.ref c), u3, u4] /\ zbw f i = some pt /\ SqT K H2 c (iv pt) /\ H2 p = some (.lst ps) /\ ps.length = i /\ RepPs K H2 (fun i => (zbw f (i + 1)).getD []) ps /\ ∀ j, j < i -> zbw f (j + 1) ≠ none)
  ⟨s0, p1, [], _, _, [], rfl, rfl, SqT.of zac, by rw [za8 hne]; exact zac, rfl, RepPs.nil, fun j hj => absurd hj (by omega)⟩ (fun i σ H2 _ hv => hv.1.seqT hA) (fun i x σ H2 hx hv t ht => ?_) fun σ H2 hv => ?_
 ·obtain ⟨s2, c, ps, u3, u4, pt, rfl, hf, hc, hps, hlen, hP, hno⟩ := hv
  obtain ⟨ln, x1, y1, rfl, hln⟩ := hL i x hx
  have hi : i < us.length := (List.getElem?_eq_some_iff.mp hx).1
  walk_at ""
  refine ⟨_, SqT.of zac, rfl, ?_⟩
  walk_at ""
  have st := zab ht (.tup [V.int (i : Int), V.ref ln])
  have s3 := s2.trans st
  have hps3 : upd H2 t (.tup [V.int (i : Int), V.ref ln]) p = some (.lst ps) := zbp ht hps
  refine ⟨c, ln, i, pt, _, _, x1, y1, rfl, st.seqT hc, s3.seqT hln, by have := zgM hf; omega, fun hn => ?_, fun q hq b H4 s4 hb => ?_⟩
  ·walk_at ""
   exact ⟨_, .inl ⟨SqL.of hps3, fun l hl' => k l ps _ (s3.trans (zab hl' _)) (SqT.of zac) ((hP.same st).same (zab hl' _)) (by omega) (fun i hi => hno i (by omega)) (fun _ => by
    rw [hlen]
    show (zbw f i).bind (zbq i (f i).1 (f i).2) = none
    rw [hf]; exact hn)⟩⟩
  ·walk_at ""
   rw [if_neg (by intro z; cases z)]
   have hps4 : H4 p = some (.lst ps) := s4 p _ hps3
   have hfi : zbw f (i + 1) = some q := by
    show (zbw f i).bind (zbq i (f i).1 (f i).2) = some q
    rw [hf]; exact hq
   refine ⟨⟨_, SqL.of hps4⟩, ps, hps4, zbb (by omega), (s3.trans s4).upd hp, b, ps ++ [.ref b], _, _, q, rfl, hfi, hb.keepL hps4, zac, by simp [hlen], ?_, fun j hj => ?_⟩
   ·refine RepPs.snoc (((hP.same st).same s4).keepL hps4) ?_
    rw [hlen]
    show SqT K _ b (iv ((zbw f (i + 1)).getD []))
    rw [hfi]
    exact hb.keepL hps4
   ·by_cases e : j = i
    ·subst e; rw [hfi]; simp
    ·exact hno j (by omega)
 ·obtain ⟨s2, c, ps, u3, u4, pt, rfl, hf, hc, hps, hlen, hP, hno⟩ := hv
  walk_at ""
  exact ⟨_, .inl ⟨SqL.of hps, fun l hl' => k l ps _ (s2.trans (zab hl' _)) (SqT.of zac) (hP.same (zab hl' _)) (by omega) (fun i hi => hno i (by omega)) (fun h => by omega)⟩⟩
def zhO (K : W.Frag) : Sp := fun vs H Q _ => ∃ (a : Addr) (us : List V) (f : Nat -> Int × Str), vs = [.ref a] /\ SqT K H a us /\ zjo K H f us /\ us.length ≤ 80 /\ zbw f us.length ≠ none /\
 ∀ (q : Addr) ps H', Same H H' -> SqT K H' q ps -> ps.length = us.length -> RepPs K H' (fun i => (zbw f (i + 1)).getD []) ps -> Q (.ref q) H'
theorem zhP (T : Tx K mg D) : FnOk P w K mg base0 CX0 4 D.a_e6 D.d_e6 ["lines"] (zhO K) := by
 have G_a5 := @zc0 P w _ _ base0 _ T
 refine T.F_e6.ok sc_e6 (fun vs H Q E h => ?_) (fun cdv A outer s H vs Q E hr h => ?_)
 ·obtain ⟨a, us, f, rfl, _⟩ := h; rfl
 obtain ⟨a, us, f, rfl, hA, hL, hl, hf, k1⟩ := h
 have hu := hr.units
 have hr_a5 : Room 3 _ := hr.mono (by decide)
 refine ⟨_, (zaf (zat (i := 1) sc_e6.nd (by rfl) (by walk_at "o") (zal G_a5 hr_a5 (by rfl) T.m_a5 T.F_a5.kp T.b_a5 .nil za2 (zaa (pv 0) zah)))
  (zaf (zaH (zap zcE (zax (za4 K) (by rfl) T.z_len PySem.boot_len (zaa (pv 1) zah)) (zax (za4 K) (by rfl) T.z_len PySem.boot_len (zaa (pv 0) zah)) (zar _)) (zaf (zat (i := 2) sc_e6.nd (by rfl) (by walk_at "o") (zax (za4 K) (by rfl) T.z_len PySem.boot_len (zaa (pv 1) zah)))
  (zai zc1)) zau)
  (zai (zas (pv 1))))), ?_⟩
 walk_at "S"
 walk_at ""
 refine ⟨a, us, f, rfl, hA, hL, hl, fun q ps H1 s1 hq hP h1 h2 h3 => ?_⟩
 (try walk_at "")
 refine ⟨_, .inr hq, _, .inr (s1.seqT hA), ?_⟩
 (try walk_at "")
 refine ite2 (fun c => ?_) fun c => ?_
 ·have hn : zbw f us.length = none := by
   have := zfc (h3 (by omega)) (us.length - (ps.length + 1))
   rwa [show ps.length + 1 + (us.length - (ps.length + 1)) = us.length by omega] at this
  exact absurd hn hf
 ·exact k1 q ps H1 s1 hq (by omega) hP
theorem zeE {c : Prop} [Decidable c] {tt : TT} {t u : TS} {Dd : Ends} {σ : St} {H : Hp} (ht : ∀ Qb : Bool -> Hp -> Prop, (∀ H', Same H H' -> Qb (decide c) H') -> tt σ H Qb) (h1 : ∀ H', Same H H' -> c -> t { Dd with nx := u Dd } σ H') (h2 : ∀ H', Same H H' -> ¬ c -> u Dd σ H') : tSeq (tIfS tt t zgZ) u Dd σ H := by
 show tt σ H fun b H1 => if b = true then t { Dd with nx := u Dd } σ H1 else u Dd σ H1
 refine ht _ fun H' s' => ?_
 by_cases hc : c
 ·rw [decide_eq_true hc, if_pos rfl]; exact h1 H' s' hc
 ·rw [decide_eq_false hc, if_neg (by decide)]; exact h2 H' s' hc
theorem zdD (T : Tx K mg D) : ∀ d : Nat, FnOk P w K mg base0 CX0 (d + 1) D.a_e2 D.d_e2 ["_law_ka", "_law_letter", "_law_name"] (zk9 K d)
 | 0 => by
  refine T.F_e2.ok zfd (fun vs H Q E h => ?_) (fun cdv A outer s H vs Q E hr h => ?_)
  ·obtain ⟨v, S, x, n, rfl, _⟩ := h; rfl
  ·obtain ⟨v, S, x, n, rfl, _, h, _⟩ := h
   have := S.deep_pos
   omega
 | d + 1 => by
  have G_e2 := zdD T d
  refine T.F_e2.ok zfd (fun vs H Q E h => ?_) (fun cdv A outer s H vs Q E hr h => ?_)
  ·obtain ⟨v, S, x, n, rfl, _⟩ := h; rfl
  obtain ⟨v, S, x, n, rfl, rS, hd, oS, k⟩ := h
  have hu := hr.units
  have hr_e2 : Room (d + 1) _ := hr
  refine ⟨_, (zaf (zaH (zap (za9 K hu) (zam (ixA K) (pv 0) zad (fun _ _ => rfl)) zao (zar _)) (zai (zas (zaM (zaa (zam (ixA K) (pv 0) zad (fun _ _ => rfl)) (zaa (zam (ixA K) (pv 0) zad (fun _ _ => rfl)) (zaa (zaO (zaU K) (by rfl) T.z_tuple (by rfl) (zaa (zbK 1 [1, 2] ["_law_term", "_law_letter", "_law_name"] ⟨by rfl, by rfl, by rfl, by rfl, by rfl, by rfl, by rfl⟩ (by rfl) (zca K (zam (ixA K) (pv 0) zad (fun _ _ => rfl))) (fun _ _ _ _ => zbc (i := 0) (show List.Nodup (["_law_term", "_law_letter", "_law_name"] : List Str) by decide +kernel) (by rfl) (Or.inl (by rfl)) (Or.inr (by rfl))) (zba (by decide)) (fun _ _ _ _ => zb6) (fun _ _ _ _ => (zam (ixA K) (zaN (zaa (pv 0) (zaa (pv 2) zah))) (zaO zcF (by rfl) T.z_int (by rfl) (zaa (za1 (za9 K hu) (pv 0) (pv 1) (zar _)) zah)) (fun _ _ => rfl)))) zah)) zah)))))) zau)
  (zaf (zaH (zap (zbZ K) (zam (ixA K) (pv 0) zad (fun _ _ => rfl)) (zaN (zaa zao (zaa zao zah))) (by rfl)) (zaf (zaH (zap (za9 K hu) (zam (ixA K) (pv 0) zad (fun _ _ => rfl)) (pv 1) (zar _)) (zai (zas (pv 0))) zau)
  (zai (zas (zaM (zaa (zam (ixA K) (pv 0) zad (fun _ _ => rfl)) (zaa (zam (ixA K) (pv 0) zad (fun _ _ => rfl)) (zaa (zal G_e2 hr_e2 (by rfl) T.m_e2 T.F_e2.kp T.b_e2 .nil za2 (zaa (zam (ixA K) (pv 0) zad (fun _ _ => rfl)) (zaa (pv 1) (zaa (pv 2) zah)))) zah))))))) zau)
  (zai (zas (zaq (zgo K) (zaM (zaa (zam (ixA K) (pv 0) zad (fun _ _ => rfl)) zah)) (zaO (zaU K) (by rfl) T.z_tuple (by rfl) (zaa (zbK 1 [1, 2] ["_law_part", "_law_letter", "_law_name"] ⟨by rfl, by rfl, by rfl, by rfl, by rfl, by rfl, by rfl⟩ (by rfl) (zca K (zbg (slA K) (pv 0) (zbs zad) zbr)) (fun _ _ _ _ => zbc (i := 0) (show List.Nodup (["_law_part", "_law_letter", "_law_name"] : List Str) by decide +kernel) (by rfl) (Or.inl (by rfl)) (Or.inr (by rfl))) (zba (by decide)) (fun _ _ _ _ => zb6) (fun _ _ _ _ => (zal G_e2 hr_e2 (by rfl) T.m_e2 T.F_e2.kp T.b_e2 .nil za2 (zaa (pv 0) (zaa (pv 1) (zaa (pv 2) zah)))))) zah))))))), ?_⟩
  walk_at "S"
  obtain ⟨a0, xs0, e0, ht⟩ := rS.tag
  subst e0
  refine zb9 (c := S.tag = Str.ofString "is") (fun Qb q => ?_) (fun c => ?_) fun c => ?_
  ·walk_at ""
   refine ⟨_, .inr ht, _, zae (j := 0) rfl, ?_⟩
   (try walk_at "")
   exact q
  ·cases S with
   | is y ts =>
    obtain ⟨a, b, e0, h2, h3⟩ := rS
    cases e0
    walk_at ""
    refine ⟨_, .inr h2, _, zae (j := 0) rfl, _, .inr h2, _, zae (j := 1) rfl, _, .inr h2, _, zae (j := 2) rfl, ?_⟩
    (try walk_at "")
    have h3' := oS.2.1
    refine .inr ⟨⟨_, h3⟩, zb3 (xs := ts.map V.str) (fun i acc H2 => Same H H2 /\ acc = ((ts.take i).map fun t => if t = x then n else t).map V.str) ⟨Same.refl _, by simp⟩ (fun i acc H2 _ hp => hp.1.seqT h3) (fun i t acc H2 hi hp => ?_) fun acc H2 hp p hn => ?_⟩
    ·obtain ⟨s2, rfl⟩ := hp
     rw [List.getElem?_map] at hi
     cases e : ts[i]? with
     | none => rw [e] at hi; cases hi
     | some t' =>
      rw [e] at hi
      cases hi
      have hil : i < ts.length := (List.getElem?_eq_some_iff.mp e).1
      refine ⟨zbb (by simp only [List.length_map, List.length_take]; omega), ?_⟩
      simp only [zaG, List.replicate_succ, List.replicate_zero, List.map_cons, List.map_nil, List.nil_append, List.cons_append, List.getElem?_cons_zero, List.getElem?_cons_succ, Option.join_some]
      (try walk_at "")
      refine ⟨zan (show 2 ≤ 100000 by decide), fun p hp => ?_⟩
      have sp := zab hp (.lst [V.str t', V.str n])
      by_cases c : t' = x
      ·rw [if_pos c]
       refine ⟨_, .inl (SqL.of zac), _, zae (j := 1) rfl, s2.trans sp, ?_⟩
       rw [List.take_add_one, e]; simp [c]
      ·rw [if_neg c]
       refine ⟨_, .inl (SqL.of zac), _, zae (j := 0) rfl, s2.trans sp, ?_⟩
       rw [List.take_add_one, e]; simp [c]
    ·obtain ⟨s2, rfl⟩ := hp
     (try walk_at "")
     refine ⟨_, .inl ⟨SqL.of zac, fun l hl => ⟨(by show 3 ≤ sizeLine; decide), fun p2 hp2 => ?_⟩⟩⟩
     have s1 := s2.trans ((zab hn (.lst (((ts.take (ts.map V.str).length).map fun t => if t = x then n else t).map V.str))).trans ((zab hl (.tup (((ts.take (ts.map V.str).length).map fun t => if t = x then n else t).map V.str))).trans (zab hp2 (.tup [V.str "is", V.str y, V.ref l]))))
     refine k _ _ s1 ⟨p2, l, rfl, SqT.of zac, SqT.of (zbp hp2 ?_)⟩
     rw [zac, List.length_map, List.take_of_length_le (Nat.le_refl _)]
   | fls => exact absurd c (by decide +kernel)
   | neg B => exact absurd c (show ¬ Str.ofString "not" = Str.ofString "is" by decide +kernel)
   | bi o B C => exact absurd c (zgy o)
   | qu q X B => exact absurd c (zgz q)
  refine zeE (c := inV (.str S.tag) [V.str "all", V.str "some"] = true) (fun Qb q => ?_) (fun H s1 c2 => ?_) fun H s1 c2 => ?_
  ·walk_at ""
   refine ⟨_, .inr ht, _, zae (j := 0) rfl, zan (show 2 ≤ 100000 by decide), fun pq hpq => ⟨_, .inl (SqL.of zac), rfl, rfl, ?_⟩⟩
   have e : decide (inV (.str S.tag) [V.str "all", V.str "some"] = true) = inV (.str S.tag) [V.str "all", V.str "some"] := by simp
   rw [e] at q
   exact q _ (zab hpq _)
  all_goals
   replace rS := rS.same s1
   replace ht := s1.seqT ht
   replace k := fun u H' s' => k u H' (s1.trans s')
   clear s1
  ·cases S with
   | qu q X B =>
    have rS' := rS
    obtain ⟨a, u, e0, h2, h3⟩ := rS
    cases e0
    simp only [Stm.deep] at hd
    walk_at ""
    refine ⟨_, .inr h2, _, zae (j := 1) rfl, ?_⟩
    (try walk_at "")
    simp only [Stm.put] at k
    refine ite2 (fun c => ?_) fun c => ?_
    ·rw [if_pos c] at k
     exact k _ _ (Same.refl _) rS'
    ·rw [if_neg c] at k
     refine ⟨_, .inr h2, _, zae (j := 0) rfl, _, .inr h2, _, zae (j := 1) rfl, _, .inr h2, _, zae (j := 2) rfl, ?_⟩
     refine ⟨_, B, _, _, rfl, h3, by omega, oS.2, fun w H1 s1 r1 => ⟨(by show 3 ≤ sizeLine; decide), fun p hp => ?_⟩⟩
     exact k _ _ (s1.trans (zab hp _)) ⟨p, w, rfl, SqT.of zac, r1.same (zab hp _)⟩
   | is y ts => exact absurd rfl c
   | fls => exact absurd c2 (by decide +kernel)
   | neg B => exact absurd c2 (by show ¬ inV (.str (Str.ofString "not")) _ = true; decide +kernel)
   | bi o B C => exact absurd c2 (by show ¬ inV (.str o.txt) _ = true; rw [zb2]; decide)
  ·cases S with
   | is y ts => exact absurd rfl c
   | qu q X B => exact absurd (zcb q) c2
   | fls =>
    obtain ⟨a, e0, h2⟩ := rS
    cases e0
    walk_at ""
    refine ⟨_, .inr h2, _, zae (j := 0) rfl, ?_⟩
    (try walk_at "")
    refine ⟨(by show 1 ≤ sizeLine; decide), fun p hp => ⟨_, .inr ⟨(zab hp _).seqT h2, by decide, fun q hq => .inr ⟨⟨_, SqT.of zac⟩, ?_⟩⟩⟩⟩
    refine zb3 (xs := []) (fun i acc H2 => i = 0 /\ acc = [] /\ H2 = upd (upd H p (.tup [V.str "false"])) q (.tup [])) ⟨rfl, rfl, rfl⟩ (fun i acc H2 _ hv => by rw [hv.2.2]; exact SqT.of zac) (fun i y acc H2 hi hv => by simp at hi) fun acc H2 hv l hl => ?_
    obtain ⟨_, rfl, rfl⟩ := hv
    (try walk_at "")
    refine ⟨_, .inl ⟨SqL.of zac, fun l2 hl2 => ?_⟩⟩
    have ep : upd (upd (upd (upd H p (.tup [V.str "false"])) q (.tup [])) l (.lst [])) l2 (.tup []) p = some (.tup [V.str "false"]) := zbp hl2 (zbp hl (zbp hq zac))
    refine ⟨_, _, .inr ⟨SqT.of ep, SqT.of zac, by simp, (by show 1 ≤ sizeLine; decide), fun _ => ?_, fun z => absurd rfl z⟩⟩
    exact k _ _ ((zab hp _).trans ((zab hq _).trans ((zab hl _).trans (zab hl2 _)))) ⟨p, rfl, SqT.of ep⟩
   | neg B =>
    obtain ⟨a, u, e0, h2, h3⟩ := rS
    cases e0
    simp only [Stm.deep] at hd
    walk_at ""
    refine ⟨_, .inr h2, _, zae (j := 0) rfl, ?_⟩
    (try walk_at "")
    refine ⟨(by show 1 ≤ sizeLine; decide), fun p hp => ⟨_, .inr ⟨(zab hp _).seqT h2, (by show ¬ (min 1 2 = 0 /\ _); omega), fun q hq => .inr ⟨⟨_, SqT.of zac⟩, ?_⟩⟩⟩⟩
    have s1 := (zab hp (.tup [V.str "not"])).trans (zab hq (.tup [u]))
    refine zb3 (xs := [u]) (fun i acc H2 => Same (upd (upd H p (.tup [V.str "not"])) q (.tup [u])) H2 /\ RepL K H2 ([B.put x n].take i) acc) ⟨Same.refl _, .nil⟩ (fun i acc H2 _ hv => hv.1.seqT (SqT.of zac)) (fun i y acc H2 hi hv => ?_) fun acc H2 hv l hl => ?_
    ·match i, hi with
     | 0, hi =>
      cases hi
      obtain ⟨s2, r2⟩ := hv
      cases r2
      refine ⟨zbb (by show 0 ≤ 100000; decide), ?_⟩
      simp only [zaG, List.replicate_succ, List.replicate_zero, List.map_cons, List.map_nil, List.nil_append, List.cons_append, List.getElem?_cons_zero, List.getElem?_cons_succ, Option.join_some]
      (try walk_at "")
      refine ⟨_, B, _, _, rfl, h3.same (s1.trans s2), by omega, oS, fun w H3 s3 r3 => ⟨s2.trans s3, .cons r3 .nil⟩⟩
    ·obtain ⟨s2, r2⟩ := hv
     cases r2 with
     | cons ra rb =>
      cases rb
      (try walk_at "")
      refine ⟨_, .inl ⟨SqL.of zac, fun l2 hl2 => ⟨_, _, .inr ⟨SqT.of (zbp hl2 (zbp hl (s2 _ _ (zbp hq zac)))), SqT.of zac, by simp, (by show 2 ≤ sizeLine; decide), (fun z => by cases z), fun _ r hr => ?_⟩⟩⟩⟩
      exact k _ _ (s1.trans (s2.trans ((zab hl _).trans ((zab hl2 _).trans (zab hr _))))) ⟨r, _, rfl, SqT.of zac, ra.same ((zab hl _).trans ((zab hl2 _).trans (zab hr _)))⟩
   | bi o B C =>
    obtain ⟨a, u, u', e0, h2, h3, h4⟩ := rS
    cases e0
    simp only [Stm.deep] at hd
    walk_at ""
    refine ⟨_, .inr h2, _, zae (j := 0) rfl, ?_⟩
    (try walk_at "")
    refine ⟨(by show 1 ≤ sizeLine; decide), fun p hp => ⟨_, .inr ⟨(zab hp _).seqT h2, (by show ¬ (min 1 3 = 0 /\ _); omega), fun q hq => .inr ⟨⟨_, SqT.of zac⟩, ?_⟩⟩⟩⟩
    have s1 := (zab hp (.tup [V.str o.txt])).trans (zab hq (.tup [u, u']))
    refine zb3 (xs := [u, u']) (fun i acc H2 => Same (upd (upd H p (.tup [V.str o.txt])) q (.tup [u, u'])) H2 /\ RepL K H2 ([B.put x n, C.put x n].take i) acc) ⟨Same.refl _, .nil⟩ (fun i acc H2 _ hv => hv.1.seqT (SqT.of zac)) (fun i y acc H2 hi hv => ?_) fun acc H2 hv l hl => ?_
    ·match i, hi with
     | 0, hi =>
      cases hi
      obtain ⟨s2, r2⟩ := hv
      cases r2
      refine ⟨zbb (by show 0 ≤ 100000; decide), ?_⟩
      simp only [zaG, List.replicate_succ, List.replicate_zero, List.map_cons, List.map_nil, List.nil_append, List.cons_append, List.getElem?_cons_zero, List.getElem?_cons_succ, Option.join_some]
      (try walk_at "")
      refine ⟨_, B, _, _, rfl, h3.same (s1.trans s2), by omega, oS.1, fun w H3 s3 r3 => ⟨s2.trans s3, .cons r3 .nil⟩⟩
     | 1, hi =>
      cases hi
      obtain ⟨s2, r2⟩ := hv
      cases r2 with
      | cons ra rb =>
       cases rb
       refine ⟨zbb (by show 1 ≤ 100000; decide), ?_⟩
       simp only [zaG, List.replicate_succ, List.replicate_zero, List.map_cons, List.map_nil, List.nil_append, List.cons_append, List.getElem?_cons_zero, List.getElem?_cons_succ, Option.join_some]
       (try walk_at "")
       refine ⟨_, C, _, _, rfl, h4.same (s1.trans s2), by omega, oS.2, fun w H3 s3 r3 => ⟨s2.trans s3, .cons (ra.same s3) (.cons r3 .nil)⟩⟩
    ·obtain ⟨s2, r2⟩ := hv
     cases r2 with
     | cons ra rb =>
      cases rb with
      | cons rb rc =>
       cases rc
       (try walk_at "")
       refine ⟨_, .inl ⟨SqL.of zac, fun l2 hl2 => ⟨_, _, .inr ⟨SqT.of (zbp hl2 (zbp hl (s2 _ _ (zbp hq zac)))), SqT.of zac, by simp, (by show 3 ≤ sizeLine; decide), (fun z => by cases z), fun _ r hr => ?_⟩⟩⟩⟩
       exact k _ _ (s1.trans (s2.trans ((zab hl _).trans ((zab hl2 _).trans (zab hr _))))) ⟨r, _, _, rfl, SqT.of zac, ra.same ((zab hl _).trans ((zab hl2 _).trans (zab hr _))), rb.same ((zab hl _).trans ((zab hl2 _).trans (zab hr _)))⟩
def zcq : Rf -> Bool
 | .s t => isNm t
 | _ => false
def zhQ (K : W.Frag) : Sp := fun vs H Q _ => ∃ R : Rf, vs = [R.v] /\ R.sm /\ ∀ H', Same H H' -> Q (.bl (zcq R)) H'
theorem zj1 {t : Str} (h : ¬ 1 ≤ (t.length : Int)) : t = "" := by
 obtain ⟨c⟩ := t
 have h' : ¬ 1 ≤ (c.size : Int) := h
 have : c = #[] := by
  apply Array.eq_empty_of_size_eq_zero
  omega
 subst this
 rfl
theorem zhR {t : Str} {c : Nat} (h : t.cps.toList.head? = some c) (hc : inS ⟨#[c]⟩ "abcdefghijklmnopqrstuvwxyz" = true) : (t.cps.toList.all fun c => inS ⟨#[c]⟩ sof) = zbT t := by
 unfold zbT
 have e := zfu t 1
 rw [show ((1 : Nat) : Int) = 1 from rfl] at e
 rw [e]
 cases q : t.cps.toList with
 | nil => rw [q] at h; cases h
 | cons d r =>
  rw [q] at h
  cases h
  have h1 : inS ⟨#[c]⟩ sof = true := by
   rw [ziJ] at hc ⊢
   exact decide_eq_true (zgw c (of_decide_eq_true hc))
  rw [List.all_cons, h1, Bool.true_and]
  rfl
theorem zeo (T : Tx K mg D) : FnOk P w K mg base0 CX0 1 D.a_b9 D.d_b9 ["_law_thing"] (zhQ K) := by
 refine T.F_b9.ok zej (fun vs H Q E h => ?_) (fun cdv A outer s H vs Q E hr h => ?_)
 ·obtain ⟨R, rfl, _⟩ := h; rfl
 obtain ⟨R, rfl, hR, k⟩ := h
 have hu := hr.units
 refine ⟨_, (zaf (zaH (PW.pt (zcR (zda (zbG (zax (zbz K "str") (by rfl) T.z_isinstance (by rfl) (zaa (pv 0) (zaa (zch (v := .ty "str") (by rfl) T.z_str (by rfl) (by rfl)) zah))))) (zc4 (zda (zhd zi0 zi0 zad (zax (za4 K) (by rfl) T.z_len PySem.boot_len (zaa (pv 0) zah)) zad))))) (zai (zas zdo)) zau)
  (zaf (zaH (zap (zbL K) (zam (ixA K) (pv 0) zad (fun _ _ => rfl)) zao (by rfl)) (zai (zas zdo)) zau)
  (zaf (zaH (zda (zbG (zax (zdS K (by rfl)) (by rfl) T.z_all (by rfl) (zaa (zbK 1 [] ["_law_sign"] ⟨by rfl, by rfl, by rfl, by rfl, by rfl, by rfl, by rfl⟩ (by rfl) (zca K (pv 0)) (fun _ _ _ _ => zbc (i := 0) (show List.Nodup (["_law_sign"] : List Str) by decide +kernel) (by rfl) (Or.inl (by rfl)) (Or.inr (by rfl))) (zba (by decide)) (fun _ _ _ _ => zb6) (fun _ _ _ _ => (za1 (zbZ K) (pv 0) zao (by rfl)))) zah)))) (zai (zas zdo)) zau)
  (zai (zas (za1 (zbL K) (pv 0) (zaN (zaa zao (zaa zao (zaa zao (zaa zao (zaa zao (zaa zao (zaa zao zah)))))))) (by rfl))))))), ?_⟩
 walk_at "S"
 cases R with
 | n i =>
  simp only [Rf.v]
  walk_at ""
  refine ⟨false, rfl, ?_⟩
  rw [if_pos rfl]
  exact k H (Same.refl _)
 | b c =>
  simp only [Rf.v]
  walk_at ""
  refine ⟨false, rfl, ?_⟩
  rw [if_pos rfl]
  exact k H (Same.refl _)
 | o =>
  simp only [Rf.v]
  walk_at ""
  refine ⟨false, rfl, ?_⟩
  rw [if_pos rfl]
  exact k H (Same.refl _)
 | s t =>
  simp only [Rf.v]
  have hx : t.length ≤ 1000 := Nat.le_trans (show t.length ≤ 20 from hR.1) (by decide)
  have hz : t.length ≤ sizeLine := zan (by omega)
  have k' : ∀ H', Same H H' -> Q (.bl (isNm t)) H' := k
  walk_at ""
  refine ⟨true, rfl, ?_⟩
  rw [if_neg (by decide)]
  have kf : isNm t = false -> Q (.bl false) H := fun e => by have := k' H (Same.refl _); rw [e] at this; exact this
  refine ⟨hz, ite2 (fun c1 => ite2 (fun c2 => kf ?_) fun c2 => ?_) fun c1 => kf ?_⟩
  ·unfold isNm base
   rw [if_neg (fun e => by subst e; exact absurd c1 (by decide)), if_pos (by omega)]
   rfl
  ·have hne : ¬ t = "" := fun e => by subst e; exact absurd c1 (by decide)
   refine ⟨hz, _, ze9 hne, ite2 (fun c3 => kf ?_) fun c3 => ?_⟩
   ·unfold isNm base
    rw [if_neg hne, if_neg (by omega), if_neg (by rw [c3]; exact Bool.false_ne_true)]
    rfl
   have c3' : inS ⟨#[t.cps.toList.headD 0]⟩ "abcdefghijklmnopqrstuvwxyz" = true := by simpa using c3
   have hb : base t "abcdefghijklmnopqrstuvwxyz" = zbT t := by unfold base; rw [if_neg hne, if_neg (by omega), if_pos c3']
   have hta : (t.cps.toList.all fun c => inS ⟨#[c]⟩ sof) = zbT t := by
    refine zhR (c := t.cps.toList.headD 0) ?_ c3'
    have := ze9 hne
    cases q : t.cps.toList with
    | nil => rw [q] at this; cases this
    | cons d r => rfl
   have hlen : t.cps.toList.length ≤ 1000 := by simpa [Str.length] using hx
   refine zeP (fun i acc H2 => H2 = H /\ acc = (t.cps.toList.take i).map fun c => V.bl (inS ⟨#[c]⟩ sof)) ⟨rfl, by simp⟩ (fun i c acc H2 hi hp => ?_) fun acc H2 hp p hn => ?_
   ·obtain ⟨rfl, rfl⟩ := hp
    have hil : i < t.cps.toList.length := (List.getElem?_eq_some_iff.mp hi).1
    refine ⟨zbb (by rw [List.length_map, List.length_take]; omega), ?_⟩
    simp only [zaG, List.replicate_succ, List.replicate_zero, List.map_nil, List.nil_append, List.cons_append]
    walk_at ""
    refine ⟨trivial, ?_⟩
    rw [List.take_add_one, hi]
    simp [sof]
   ·obtain ⟨rfl, rfl⟩ := hp
    walk_at ""
    refine ⟨t.cps.toList.map fun c => inS ⟨#[c]⟩ sof, SqL.of (by rw [zac, List.take_of_length_le (Nat.le_refl _), List.map_map]; rfl), ?_⟩
    have e : (t.cps.toList.map fun c => inS ⟨#[c]⟩ sof).all id = zbT t := by rw [<- hta, List.all_map]; rfl
    rw [e]
    have sp := zab hn (.lst ((t.cps.toList.take t.cps.toList.length).map fun c => V.bl (inS ⟨#[c]⟩ sof)))
    refine ite2 (fun c4 => ?_) fun c4 => ?_
    ·have := k' _ sp
     unfold isNm at this
     rw [hb, c4, Bool.false_and] at this
     exact this
    ·refine ⟨zan (show 7 ≤ 100000 by decide), fun p2 hp2 => ⟨_, .inl (SqL.of zac), rfl, rfl, ?_⟩⟩
     have := k' _ (sp.trans (zab hp2 (.lst zjs)))
     unfold isNm at this
     rw [hb, show zbT t = true by simpa using c4, Bool.true_and] at this
     exact this
  ·have := zj1 c1
   subst this
   rfl
def odds : List Rf := [.s "", .s "X", .s "aB", .s "not", .s "some", .s "abcdefgh9", .s "a b", .s "1a", .n 0, .b true, .o, .s "a-"]
theorem zj2 : ∀ R ∈ odds, R.sm /\ zcq R = false := by
 intro R h
 simp only [odds, List.mem_cons, List.not_mem_nil, or_false] at h
 rcases h with rfl | rfl | rfl | rfl | rfl | rfl | rfl | rfl | rfl | rfl | rfl | rfl
 all_goals first
  | exact ⟨⟨show _ ≤ 20 by decide +kernel, by decide +kernel⟩, by decide +kernel⟩
  | exact ⟨⟨by decide, by decide⟩, rfl⟩
  | exact ⟨trivial, rfl⟩
def zmm : Sp := fun vs H Q _ => ∃ c : Int, vs = [.int c] /\ 0 ≤ c /\ ∀ (R : Rf) H', Same H H' -> R.sm -> zcq R = false -> Q R.v H'
theorem zdE (T : Tx K mg D) : FnOk P w K mg base0 CX0 1 D.a_b4 D.d_b4 ["_law_cell"] zmm := by
 refine T.F_b4.ok sc_b4 (fun vs H Q E h => ?_) (fun cdv A outer s H vs Q E hr h => ?_)
 ·obtain ⟨c, rfl, _⟩ := h; rfl
 obtain ⟨c, rfl, c0, k⟩ := h
 have hu := hr.units
 refine ⟨_, (zaf (zat (i := 1) sc_b4.nd (by rfl) (by walk_at "o") (zaN (zaa zao (zaa zao (zaa zao (zaa zao (zaa zao (zaa zao (zaa zao (zaa zao (zaa zad (zaa zdo (zaa zc3 (zaa zao zah))))))))))))))
  (zai (zas (zam (ixA K) (pv 1) (zaq zav (pv 0) zad) (fun _ _ => rfl))))), ?_⟩
 walk_at "S"
 walk_at ""
 refine ⟨zan (show 12 ≤ 100000 by decide), fun p hp => ⟨by decide, ?_⟩⟩
 have m0 := Int.emod_nonneg c (show (12 : Int) ≠ 0 by decide)
 have m1 := Int.emod_lt_of_pos c (show (0 : Int) < 12 by decide)
 obtain ⟨j, hj⟩ : ∃ j : Nat, c % 12 = j := ⟨(c % 12).toNat, by omega⟩
 have hjl : j < odds.length := by show j < 12; omega
 refine ⟨_, .inl (SqL.of zac), (odds[j]).v, ?_, ?_⟩
 ·rw [hj]
  refine zae ?_
  show (odds.map Rf.v)[j]? = _
  rw [List.getElem?_map, List.getElem?_eq_getElem hjl]
  rfl
 ·obtain ⟨o1, o2⟩ := zj2 odds[j] (List.getElem_mem _)
  exact k _ _ (zab hp _) o1 o2
def zln (K : W.Frag) (d : Nat) : Sp := fun vs H Q _ => ∃ (v : V) (S : Stm) (m : Int) (nm : Str), vs = [v, .int m, .str nm] /\ RepS K H S v /\ S.deep ≤ d /\ S.Ok /\ 0 ≤ m /\ (Nm smallS nm \/ Nm greatS nm) /\
 ∀ S' u H', Same H H' -> RepS K H' S' u -> S'.deep ≤ S.deep -> S'.Ok -> (∀ t ∈ S'.fts, t ∈ S.fts \/ t = nm) -> Q u H'
theorem zhS (xs : List V) (n : Nat) : cutV xs (some (n : Int)) none = xs.drop n := by
 unfold cutV
 rw [HT.sIx_nat, HT.sIx_none]
 by_cases h : n ≤ xs.length
 ·rw [Nat.min_eq_left h, List.take_of_length_le (by rw [List.length_drop]; omega)]
 ·rw [Nat.min_eq_right (by omega), Nat.sub_self, List.take_zero, List.drop_eq_nil_of_le (by omega)]
theorem zj3 {y nm : Str} {ts : List Str} {j : Nat} (h : (Stm.is y ts).Ok) (hn : Nm smallS nm \/ Nm greatS nm) (hj : j < ts.length) : (Stm.is y (ts.take j ++ [nm] ++ ts.drop (j + 1))).Ok /\ ∀ t ∈ ts.take j ++ [nm] ++ ts.drop (j + 1), t ∈ ts \/ t = nm := by
 have hm : ∀ t ∈ ts.take j ++ [nm] ++ ts.drop (j + 1), t ∈ ts \/ t = nm := fun t ht => by
  rcases List.mem_append.mp ht with z | z
  ·rcases List.mem_append.mp z with z | z
   ·exact .inl (List.mem_of_mem_take z)
   ·exact .inr (by simpa using z)
  ·exact .inl (List.mem_of_mem_drop z)
 refine ⟨⟨h.1, ?_, fun t ht => ?_⟩, hm⟩
 ·have := h.2.1
  simp only [List.length_append, List.length_take, List.length_drop, List.length_singleton]
  omega
 ·rcases hm t ht with z | z
  ·exact h.2.2 t z
  ·rw [z]; exact hn
theorem zcx (T : Tx K mg D) : ∀ d : Nat, FnOk P w K mg base0 CX0 (d + 1) D.a_b7 D.d_b7 ["_law_ka", "_law_number", "_law_name"] (zln K d)
 | 0 => by
  refine T.F_b7.ok sc_b7 (fun vs H Q E h => ?_) (fun cdv A outer s H vs Q E hr h => ?_)
  ·obtain ⟨v, S, m, nm, rfl, _⟩ := h; rfl
  ·obtain ⟨v, S, m, nm, rfl, _, h, _⟩ := h
   have := S.deep_pos
   omega
 | d + 1 => by
  have G_b7 := zcx T d
  refine T.F_b7.ok sc_b7 (fun vs H Q E h => ?_) (fun cdv A outer s H vs Q E hr h => ?_)
  ·obtain ⟨v, S, m, nm, rfl, _⟩ := h; rfl
  obtain ⟨v, S, m, nm, rfl, rS, hd, oS, m0, hnm, k⟩ := h
  have hu := hr.units
  have hr_b7 : Room (d + 1) _ := hr
  refine ⟨_, (zaf (zaH (zap (za9 K hu) (zam (ixA K) (pv 0) zad (fun _ _ => rfl)) zao (zar _)) (zaf (zaH (zap (za9 K hu) (zax (za4 K) (by rfl) T.z_len PySem.boot_len (zaa (zam (ixA K) (pv 0) zad (fun _ _ => rfl)) zah)) zad (zar _)) (zai (zas (pv 0))) zau)
  (zaf (zat (i := 3) sc_b7.nd (by rfl) (by walk_at "o") (zaq zav (pv 1) (zax (za4 K) (by rfl) T.z_len PySem.boot_len (zaa (zam (ixA K) (pv 0) zad (fun _ _ => rfl)) zah))))
  (zai (zas (zaM (zaa (zam (ixA K) (pv 0) zad (fun _ _ => rfl)) (zaa (zam (ixA K) (pv 0) zad (fun _ _ => rfl)) (zaa (zaq (za5 K) (zaq (za5 K) (zbg (slB K) (zam (ixA K) (pv 0) zad (fun _ _ => rfl)) zbr (zbs (pv 3))) (zaM (zaa (pv 2) zah))) (zbg (slB K) (zam (ixA K) (pv 0) zad (fun _ _ => rfl)) (zbs (zaq (za5 K) (pv 3) zad)) zbr)) zah)))))))) zau)
  (zaf (zaH (zap (zbZ K) (zam (ixA K) (pv 0) zad (fun _ _ => rfl)) (zaN (zaa zao (zaa zao zah))) (by rfl)) (zai (zas (zaM (zaa (zam (ixA K) (pv 0) zad (fun _ _ => rfl)) (zaa (zam (ixA K) (pv 0) zad (fun _ _ => rfl)) (zaa (zal G_b7 hr_b7 (by rfl) T.m_b7 T.F_b7.kp T.b_b7 .nil za2 (zaa (zam (ixA K) (pv 0) zad (fun _ _ => rfl)) (zaa (pv 1) (zaa (pv 2) zah)))) zah)))))) zau)
  (zaf (zaH (zap (za9 K hu) (zax (za4 K) (by rfl) T.z_len PySem.boot_len (zaa (pv 0) zah)) zad (zar _)) (zai (zas (pv 0))) zau)
  (zaf (zat (i := 3) sc_b7.nd (by rfl) (by walk_at "o") (zaq (za5 K) zad (zaq zav (pv 1) (zaq zbW (zax (za4 K) (by rfl) T.z_len PySem.boot_len (zaa (pv 0) zah)) zad))))
  (zai (zas (zaq (za5 K) (zaq (za5 K) (zbg (slB K) (pv 0) zbr (zbs (pv 3))) (zaM (zaa (zal G_b7 hr_b7 (by rfl) T.m_b7 T.F_b7.kp T.b_b7 .nil za2 (zaa (zam (ixA K) (pv 0) (pv 3) (fun _ _ => rfl)) (zaa (zaq zaI (pv 1) zad) (zaa (pv 2) zah)))) zah))) (zbg (slB K) (pv 0) (zbs (zaq (za5 K) (pv 3) zad)) zbr)))))))), ?_⟩
  walk_at "S"
  obtain ⟨a0, xs0, e0, ht⟩ := rS.tag
  subst e0
  refine zb9 (c := S.tag = Str.ofString "is") (fun Qb q => ?_) (fun c => ?_) fun c => ?_
  ·walk_at ""
   refine ⟨_, .inr ht, _, zae (j := 0) rfl, ?_⟩
   (try walk_at "")
   exact q
  ·cases S with
   | is y ts =>
    obtain ⟨a, b, e0, h2, h3⟩ := id rS
    cases e0
    walk_at ""
    refine ⟨_, .inr h2, _, zae (j := 2) rfl, ?_⟩
    (try walk_at "")
    refine ⟨_, .inr h3, ?_⟩
    rw [List.length_map]
    (try walk_at "")
    refine ite2 (fun c1 => ?_) fun c1 => ?_
    ·exact k _ _ _ (Same.refl _) rS (Nat.le_refl _) oS fun t ht => .inl ht
    refine ⟨_, .inr h2, _, zae (j := 2) rfl, ?_⟩
    (try walk_at "")
    refine ⟨_, .inr h3, ?_⟩
    rw [List.length_map]
    have q0 := Int.emod_nonneg m (show ((ts.length : Nat) : Int) ≠ 0 by omega)
    have q1 := Int.emod_lt_of_pos m (show (0 : Int) < ((ts.length : Nat) : Int) by omega)
    obtain ⟨j, hj⟩ : ∃ j : Nat, m % ((ts.length : Nat) : Int) = j := ⟨(m % ((ts.length : Nat) : Int)).toNat, by omega⟩
    rw [hj]
    have hjt : j < ts.length := by omega
    refine ⟨by omega, _, .inr h2, _, zae (j := 0) rfl, _, .inr h2, _, zae (j := 1) rfl, _, .inr h2, _, zae (j := 2) rfl, ?_⟩
    (try walk_at "")
    refine ⟨_, .inr ⟨h3, fun q1 H1 s1 hq1 => ?_⟩⟩
    rw [zeh, <- List.map_take] at hq1
    refine ⟨zan (show 1 ≤ 100000 by decide), fun p1 hp1 => ?_⟩
    have t1 := zab hp1 (.tup [V.str nm])
    have s2 := s1.trans t1
    (try walk_at "")
    refine ⟨_, _, .inr ⟨t1.seqT hq1, SqT.of zac, zan (by rw [List.length_map, List.length_take]; have := oS.2.1; show _ + 1 ≤ _; omega), fun q2 H2 s3 hq2 => ?_⟩⟩
    have s4 := s2.trans s3
    refine ⟨_, .inr (s4.seqT h2), _, zae (j := 2) rfl, ?_⟩
    (try walk_at "")
    refine ⟨_, .inr ⟨s4.seqT h3, fun q3 H3 s5 hq3 => ?_⟩⟩
    rw [show (j : Int) + 1 = ((j + 1 : Nat) : Int) by omega, zhS, <- List.map_drop] at hq3
    (try walk_at "")
    refine ⟨_, _, .inr ⟨s5.seqT hq2, hq3, zan (by simp only [List.length_append, List.length_map, List.length_take, List.length_drop, List.length_singleton]; have := oS.2.1; omega), fun q4 H4 s6 hq4 => ⟨zan (show 3 ≤ 100000 by decide), fun p5 hp5 => ?_⟩⟩⟩
    have t5 := zab hp5 (.tup [V.str "is", V.str y, V.ref q4])
    obtain ⟨o', f'⟩ := zj3 (y := y) oS hnm hjt
    refine k (.is y (ts.take j ++ [nm] ++ ts.drop (j + 1))) _ _ (((s4.trans s5).trans s6).trans t5) ⟨p5, q4, rfl, SqT.of zac, t5.seqT ?_⟩ (Nat.le_refl _) o' f'
    rw [List.map_append, List.map_append]
    exact hq4
   | fls => exact absurd c (by decide +kernel)
   | neg B => exact absurd c (show ¬ Str.ofString "not" = Str.ofString "is" by decide +kernel)
   | bi o B C => exact absurd c (zgy o)
   | qu q X B => exact absurd c (zgz q)
  refine zeE (c := inV (.str S.tag) [V.str "all", V.str "some"] = true) (fun Qb q => ?_) (fun H s1 c2 => ?_) fun H s1 c2 => ?_
  ·walk_at ""
   refine ⟨_, .inr ht, _, zae (j := 0) rfl, zan (show 2 ≤ 100000 by decide), fun pq hpq => ⟨_, .inl (SqL.of zac), rfl, rfl, ?_⟩⟩
   have e : decide (inV (.str S.tag) [V.str "all", V.str "some"] = true) = inV (.str S.tag) [V.str "all", V.str "some"] := by simp
   rw [e] at q
   exact q _ (zab hpq _)
  all_goals
   replace rS := rS.same s1
   replace ht := s1.seqT ht
   replace k := fun S' u H' s' => k S' u H' (s1.trans s')
   clear s1
  ·cases S with
   | qu q X B =>
    obtain ⟨a, u, e0, h2, h3⟩ := rS
    cases e0
    simp only [Stm.deep] at hd
    walk_at ""
    refine ⟨_, .inr h2, _, zae (j := 0) rfl, _, .inr h2, _, zae (j := 1) rfl, _, .inr h2, _, zae (j := 2) rfl, ?_⟩
    refine ⟨_, B, m, nm, rfl, h3, by omega, oS.2, m0, hnm, fun S' w H1 s1 r1 d1 o1 f1 => ⟨(by show 3 ≤ sizeLine; decide), fun p hp => ?_⟩⟩
    refine k (.qu q X S') _ _ (s1.trans (zab hp _)) ⟨p, w, rfl, SqT.of zac, r1.same (zab hp _)⟩ (Nat.succ_le_succ d1) ⟨oS.1, o1⟩ fun t htt => ?_
    obtain ⟨t1, t2⟩ := List.mem_filter.mp htt
    rcases f1 t t1 with z | z
    ·exact .inl (List.mem_filter.mpr ⟨z, t2⟩)
    ·exact .inr z
   | is y ts => exact absurd rfl c
   | fls => exact absurd c2 (by decide +kernel)
   | neg B => exact absurd c2 (by show ¬ inV (.str (Str.ofString "not")) _ = true; decide +kernel)
   | bi o B C => exact absurd c2 (by show ¬ inV (.str o.txt) _ = true; rw [zb2]; decide)
  ·cases S with
   | is y ts => exact absurd rfl c
   | qu q X B => exact absurd (zcb q) c2
   | fls =>
    obtain ⟨a, e0, h2⟩ := id rS
    cases e0
    walk_at ""
    refine ⟨_, .inr h2, ?_⟩
    (try walk_at "")
    rw [if_pos (show (([V.str "false"].length : Nat) : Int) = 1 from rfl)]
    exact k _ _ _ (Same.refl _) rS (Nat.le_refl _) oS fun t ht => .inl ht
   | neg B =>
    obtain ⟨a, u, e0, h2, h3⟩ := rS
    cases e0
    simp only [Stm.deep] at hd
    walk_at ""
    refine ⟨_, .inr h2, ?_⟩
    (try walk_at "")
    rw [if_neg (show ¬ (([V.str "not", u].length : Nat) : Int) = 1 by show ¬ (2 : Int) = 1; decide)]
    refine ⟨_, .inr h2, by show (0 : Int) < 2 - 1; decide, ?_⟩
    have e1 : 1 + m % (((([V.str "not", u].length : Nat) : Int)) - 1) = 1 := by
     show 1 + m % (2 - 1) = 1
     omega
    rw [e1]
    refine ⟨_, .inr ⟨h2, fun q1 H1 s1 hq1 => ?_⟩⟩
    replace hq1 : SqT K H1 q1 [V.str "not"] := hq1
    refine ⟨_, .inr (s1.seqT h2), _, zae (j := 1) rfl, cdiv, _, B, m / 2, nm, rfl, h3.same s1, by omega, oS, Int.ediv_nonneg m0 (by decide), hnm, fun S' w H2 s2 r2 d2 o2 f2 => ⟨zan (show 1 ≤ 100000 by decide), fun p1 hp1 => ?_⟩⟩
    have t1 := zab hp1 (.tup [w])
    have s3 := (s1.trans s2).trans t1
    refine ⟨_, _, .inr ⟨(s2.trans t1).seqT hq1, SqT.of zac, zan (show 2 ≤ 100000 by decide), fun q2 H3 s4 hq2 => ?_⟩⟩
    refine ⟨_, .inr ⟨(s3.trans s4).seqT h2, fun q3 H4 s5 hq3 => ?_⟩⟩
    replace hq3 : SqT K H4 q3 [] := hq3
    refine ⟨_, _, .inr ⟨s5.seqT hq2, hq3, zan (show 2 ≤ 100000 by decide), fun q4 H5 s6 hq4 => ?_⟩⟩
    exact k (.neg S') _ _ (((s3.trans s4).trans s5).trans s6) ⟨q4, w, rfl, hq4, r2.same (((t1.trans s4).trans s5).trans s6)⟩ (Nat.succ_le_succ d2) o2 f2
   | bi o B C =>
    obtain ⟨a, u, u', e0, h2, h3, h4⟩ := rS
    cases e0
    simp only [Stm.deep] at hd
    walk_at ""
    refine ⟨_, .inr h2, ?_⟩
    (try walk_at "")
    rw [if_neg (show ¬ (([V.str o.txt, u, u'].length : Nat) : Int) = 1 by show ¬ (3 : Int) = 1; decide)]
    refine ⟨_, .inr h2, by show (0 : Int) < 3 - 1; decide, ?_⟩
    have e1 : 1 + m % (((([V.str o.txt, u, u'].length : Nat) : Int)) - 1) = 1 \/ 1 + m % (((([V.str o.txt, u, u'].length : Nat) : Int)) - 1) = 2 := by
     show 1 + m % (3 - 1) = 1 \/ 1 + m % (3 - 1) = 2
     omega
    rcases e1 with e1 | e1
    ·rw [e1]
     refine ⟨_, .inr ⟨h2, fun q1 H1 s1 hq1 => ?_⟩⟩
     replace hq1 : SqT K H1 q1 [V.str o.txt] := hq1
     refine ⟨_, .inr (s1.seqT h2), _, zae (j := 1) rfl, cdiv, _, B, m / 2, nm, rfl, h3.same s1, by omega, oS.1, Int.ediv_nonneg m0 (by decide), hnm, fun S' w H2 s2 r2 d2 o2 f2 => ⟨zan (show 1 ≤ 100000 by decide), fun p1 hp1 => ?_⟩⟩
     have t1 := zab hp1 (.tup [w])
     have s3 := (s1.trans s2).trans t1
     refine ⟨_, _, .inr ⟨(s2.trans t1).seqT hq1, SqT.of zac, zan (show 2 ≤ 100000 by decide), fun q2 H3 s4 hq2 => ?_⟩⟩
     refine ⟨_, .inr ⟨(s3.trans s4).seqT h2, fun q3 H4 s5 hq3 => ?_⟩⟩
     replace hq3 : SqT K H4 q3 [u'] := hq3
     refine ⟨_, _, .inr ⟨s5.seqT hq2, hq3, zan (show 3 ≤ 100000 by decide), fun q4 H5 s6 hq4 => ?_⟩⟩
     refine k (.bi o S' C) _ _ (((s3.trans s4).trans s5).trans s6) ⟨q4, w, u', rfl, hq4, r2.same (((t1.trans s4).trans s5).trans s6), h4.same (((s3.trans s4).trans s5).trans s6)⟩ (by simp only [Stm.deep]; omega) ⟨o2, oS.2⟩ fun t ht => ?_
     rcases List.mem_append.mp ht with z | z
     ·rcases f2 t z with y | y
      ·exact .inl (List.mem_append_left _ y)
      ·exact .inr y
     ·exact .inl (List.mem_append_right _ z)
    ·rw [e1]
     refine ⟨_, .inr ⟨h2, fun q1 H1 s1 hq1 => ?_⟩⟩
     replace hq1 : SqT K H1 q1 [V.str o.txt, u] := hq1
     refine ⟨_, .inr (s1.seqT h2), _, zae (j := 2) rfl, cdiv, _, C, m / 2, nm, rfl, h4.same s1, by omega, oS.2, Int.ediv_nonneg m0 (by decide), hnm, fun S' w H2 s2 r2 d2 o2 f2 => ⟨zan (show 1 ≤ 100000 by decide), fun p1 hp1 => ?_⟩⟩
     have t1 := zab hp1 (.tup [w])
     have s3 := (s1.trans s2).trans t1
     refine ⟨_, _, .inr ⟨(s2.trans t1).seqT hq1, SqT.of zac, zan (show 3 ≤ 100000 by decide), fun q2 H3 s4 hq2 => ?_⟩⟩
     refine ⟨_, .inr ⟨(s3.trans s4).seqT h2, fun q3 H4 s5 hq3 => ?_⟩⟩
     replace hq3 : SqT K H4 q3 [] := hq3
     refine ⟨_, _, .inr ⟨s5.seqT hq2, hq3, zan (show 3 ≤ 100000 by decide), fun q4 H5 s6 hq4 => ?_⟩⟩
     refine k (.bi o B S') _ _ (((s3.trans s4).trans s5).trans s6) ⟨q4, u, w, rfl, hq4, h3.same (((s3.trans s4).trans s5).trans s6), r2.same (((t1.trans s4).trans s5).trans s6)⟩ (by simp only [Stm.deep]; omega) ⟨oS.1, o2⟩ fun t ht => ?_
     rcases List.mem_append.mp ht with z | z
     ·exact .inl (List.mem_append_left _ z)
     ·rcases f2 t z with y | y
      ·exact .inl (List.mem_append_right _ y)
      ·exact .inr y
def isZ : Rf -> Bool
 | .n i => decide (i = 0)
 | _ => false
def dueC : List Rf -> Bool
 | [R0, R1] => isZ R0 && zcq R1
 | _ => false
def dueB (gg : Stm -> List Tk -> Bool) (A S : Stm) : List Rf -> Bool
 | [R0, .s t] => isZ R0 && (isNm t && gg S [.st A, .nm t])
 | _ => false
theorem zgU {K : W.Frag} {i j : Int} {H : Hp} {Q : VK} (h : Q (.bl (!decide (i = j))) H) : rNeD K (.int i) (.int j) H Q := by
 refine .inl (.inl ⟨rfl, ?_⟩)
 have e : decide (V.int i = V.int j) = decide (i = j) := by
  by_cases c : i = j
  ·rw [c]; simp
  ·rw [decide_eq_false c, decide_eq_false (fun z => c (by cases z; rfl))]
 rw [e]
 exact h
def zR : Rf -> Bool
 | .n i => decide (i = 0)
 | .b c => !c
 | _ => false
def bR : Rf -> Bool
 | .b _ => true
 | _ => false
theorem zj4 {K : W.Frag} {R : Rf} {H : Hp} {Q : VK} (h : Q (.bl (!zR R)) H) : rNeD K R.v (.int 0) H Q := by
 cases R with
 | n i => exact zgU h
 | s t => exact .inl (.inl ⟨rfl, by rw [decide_eq_false (fun z => by cases z)]; exact h⟩)
 | o => exact .inl (.inl ⟨rfl, by rw [decide_eq_false (fun z => by cases z)]; exact h⟩)
 | b c => exact .inr ⟨c, 0, rfl, rfl, by cases c <;> exact h⟩
theorem zgV {K : W.Frag} {R : Rf} {H : Hp} {Q : VK} (h : Q (.bl (bR R)) H) : zcc K "bool" [R.v, .ty "bool"] H Q := by
 cases R with
 | n i => exact ⟨_, _, false, rfl, .of (.int i), rfl, h⟩
 | s t => exact ⟨_, _, false, rfl, .of (.str t), rfl, h⟩
 | b c => exact ⟨_, _, true, rfl, .of (.bl c), rfl, h⟩
 | o => exact ⟨_, _, false, rfl, .of .non, rfl, h⟩
theorem zlo (R : Rf) : isZ R = (zR R && !bR R) := by
 cases R with
 | b c => cases c <;> rfl
 | n i => show decide (i = 0) = (decide (i = 0) && true); rw [Bool.and_true]
 | _ => rfl
theorem zj5 {gg : Stm -> List Tk -> Bool} {A S : Stm} {rs : List Rf} (h : dueC rs = false) : dueB gg A S rs = false := by
 match rs, h with
 | [], _ => rfl
 | [_], _ => rfl
 | R0 :: R1 :: R2 :: l, _ => cases R1 <;> rfl
 | [R0, R1], h =>
  cases R1 with
  | s t =>
   have h' : (isZ R0 && isNm t) = false := h
   show (isZ R0 && (isNm t && _)) = false
   rw [<- Bool.and_assoc, h', Bool.false_and]
  | _ => rfl
theorem zhT {rs : List Rf} (h : dueC rs = true) : ∃ t, rs = [.n 0, .s t] /\ isNm t = true := by
 match rs, h with
 | [R0, R1], h =>
  have h' : (isZ R0 && zcq R1) = true := h
  rw [Bool.and_eq_true] at h'
  obtain ⟨h1, h2⟩ := h'
  cases R0 with
  | n i =>
   have : i = 0 := of_decide_eq_true h1
   subst this
   cases R1 with
   | s t => exact ⟨t, rfl, h2⟩
   | _ => cases h2
  | _ => cases h1
def zlp (K : W.Frag) : Sp := fun vs H Q _ => ∃ (ru : Str) (va vb : V) (A S : Stm) (rp : Addr) (rs : List Rf) (gg : Stm -> List Tk -> Bool), vs = [.str ru, va, vb, .ref rp] /\ RepS K H A va /\ RepS K H S vb /\ A.deep ≤ 10 /\ S.deep ≤ 10 /\ A.Ok /\ S.Ok /\ SqL K H rp (rs.map Rf.v) /\ (∀ R ∈ rs, R.sm) /\ ((ru = "each" /\ gg = fEach) \/ (ru = "some" /\ gg = fSome)) /\
 ∀ H', Same H H' -> Q (.bl (dueB gg A S rs)) H'
theorem zhU (T : Tx K mg D) : FnOk P w K mg base0 CX0 12 D.a_e5 D.d_e5 ["_law_rule", "_law_ka", "_law_ks", "_law_refs"] (zlp K) := by
 have G_e2 := zdD (P := P) (w := w) (base0 := base0) T 10
 have G_b9 := @zeo P w _ _ base0 _ T
 refine T.F_e5.ok zhJ (fun vs H Q E h => ?_) (fun cdv A outer s H vs Q E hr h => ?_)
 ·obtain ⟨ru, va, vb, A, S, rp, rs, gg, rfl, _⟩ := h; rfl
 obtain ⟨ru, va, vb, A, S, rp, rs, gg, rfl, rA, rS, dA, dS, oA, oS, hrp, hsm, hru, k⟩ := h
 have hu := hr.units
 have hr_e2 : Room 11 _ := hr.mono (by decide)
 have hr_b9 : Room 1 _ := hr.mono (by decide)
 refine ⟨_, (zaf (zaH (PW.pt (zcR (zap (zit K hu) (zax (za4 K) (by rfl) T.z_len PySem.boot_len (zaa (pv 3) zah)) zad (zar _)) (zcR (zap (zit K hu) (zam (ixA K) (pv 3) zad (fun _ _ => rfl)) zad (zar _)) (zcR (zbG (zax (zbz K "bool") (by rfl) T.z_isinstance (by rfl) (zaa (zam (ixA K) (pv 3) zad (fun _ _ => rfl)) (zaa (zch (v := .ty "bool") (by rfl) T.z_bool (by rfl) (by rfl)) zah)))) (zc4 (zda (zbG (zal G_b9 hr_b9 (by rfl) T.m_b9 T.F_b9.kp T.b_b9 .nil za2 (zaa (zam (ixA K) (pv 3) zad (fun _ _ => rfl)) zah))))))))) (zai (zas zdo)) zau)
  (zaf (zaH (zap (zbd K hu) (pv 0) zao (zar _)) (zai (zas (zbh (za1 (zbd K hu) (zam (ixA K) (pv 1) zad (fun _ _ => rfl)) zao (zar _)) (zb0 (za1 (zbd K hu) (pv 2) (zal G_e2 hr_e2 (by rfl) T.m_e2 T.F_e2.kp T.b_e2 .nil za2 (zaa (zam (ixA K) (pv 1) zad (fun _ _ => rfl)) (zaa (zam (ixA K) (pv 1) zad (fun _ _ => rfl)) (zaa (zam (ixA K) (pv 3) zad (fun _ _ => rfl)) zah)))) (zar _)))))) zau)
  (zai (zas (zbh (za1 (zbd K hu) (zam (ixA K) (pv 2) zad (fun _ _ => rfl)) zao (zar _)) (zb0 (za1 (zbd K hu) (pv 1) (zal G_e2 hr_e2 (by rfl) T.m_e2 T.F_e2.kp T.b_e2 .nil za2 (zaa (zam (ixA K) (pv 2) zad (fun _ _ => rfl)) (zaa (zam (ixA K) (pv 2) zad (fun _ _ => rfl)) (zaa (zam (ixA K) (pv 3) zad (fun _ _ => rfl)) zah)))) (zar _)))))))), ?_⟩
 walk_at "S"
 obtain ⟨a, xs, rfl, h1⟩ := rA.tag
 obtain ⟨b, ys, rfl, h2⟩ := rS.tag
 refine zeE (c := dueC rs = false) (fun Qb q => ?_) (fun H1 s1 c => ?_) fun H1 s1 c => ?_
 ·have qT : dueC rs = false -> Qb true H := fun e => by have := q H (Same.refl _); rw [decide_eq_true e] at this; exact this
  walk_at ""
  refine ⟨_, .inl hrp, ?_⟩
  rw [List.length_map]
  (try walk_at "")
  refine zgU ⟨_, rfl, ?_⟩
  match rs, hrp, hsm, q, qT with
  | [], _, _, _, qT => exact iteT (qT rfl)
  | [_], _, _, _, qT => exact iteT (qT rfl)
  | _ :: _ :: _ :: l, _, _, _, qT =>
   rw [if_pos (by
    rw [Bool.not_eq_true', decide_eq_false_iff_not]
    simp only [List.length_cons]
    omega)]
   exact qT rfl
  | [R0, R1], hrp, hsm, q, qT =>
   refine iteF ⟨_, .inl hrp, _, zae (j := 0) rfl, zj4 ⟨_, rfl, ?_⟩⟩
   have hz := zlo R0
   refine ite2 (fun c1 => qT ?_) fun c1 => ⟨_, .inl hrp, _, zae (j := 0) rfl, zgV ⟨_, rfl, ite2 (fun c2 => qT ?_) fun c2 => ?_⟩⟩
   ·show (isZ R0 && zcq R1) = false
    rw [hz, show zR R0 = false by simpa using c1]
    rfl
   ·show (isZ R0 && zcq R1) = false
    rw [hz, c2, Bool.not_true, Bool.and_false, Bool.false_and]
   ·have e0 : isZ R0 = true := by
     rw [hz, show zR R0 = true by simpa using c1, show bR R0 = false by simpa using c2]
     rfl
    refine ⟨_, .inl hrp, _, zae (j := 1) rfl, R1, rfl, hsm R1 (by simp), fun H' s' => ⟨_, rfl, ?_⟩⟩
    have := q H' s'
    have e1 : decide (dueC [R0, R1] = false) = !zcq R1 := by
     show decide ((isZ R0 && zcq R1) = false) = _
     rw [e0, Bool.true_and]
     cases zcq R1 <;> rfl
    rw [e1] at this
    exact this
 ·walk_at ""
  have := k H1 s1
  rw [zj5 c] at this
  exact this
 obtain ⟨t, rfl, ht⟩ := zhT (rs := rs) (by simpa using c)
 clear c
 replace rA := rA.same s1
 replace rS := rS.same s1
 replace h1 := s1.seqT h1
 replace h2 := s1.seqT h2
 replace hrp := s1.seq hrp
 replace k := fun H' s' => k H' (s1.trans s')
 have kk : ∀ H', Same H1 H' -> Q (.bl (gg S [.st A, .nm t])) H' := fun H' s' => by
  have := k H' s'
  have e : dueB gg A S [.n 0, .s t] = gg S [.st A, .nm t] := by
   show (decide ((0 : Int) = 0) && (isNm t && gg S [.st A, .nm t])) = _
   rw [ht]
   rfl
  rw [e] at this
  exact this
 refine zb9 (c := ru = "each") (fun Qb q => ?_) (fun c => ?_) fun c => ?_
 ·walk_at ""
  exact q
 ·obtain rfl : gg = fEach := by
   rcases hru with z | z
   ·exact z.2
   ·rw [z.1] at c; exact absurd c (by decide +kernel)
  walk_at ""
  refine ⟨_, .inr h1, _, zae (j := 0) rfl, ?_⟩
  (try walk_at "")
  refine ite2 (fun c1 => ?_) fun c1 => ?_
  ·obtain ⟨X, B, rfl⟩ := zgT c1
   obtain ⟨a', u', e, h3, rB⟩ := rA
   cases e
   simp only [Stm.deep] at dA
   refine ⟨_, .inr h3, _, zae (j := 2) rfl, _, .inr h3, _, zae (j := 1) rfl, _, .inl hrp, _, zae (j := 1) rfl, _, B, X, t, rfl, rB, by omega, oA.2, fun w H' s' rw' => ?_⟩
   obtain ⟨a2, xs2, rfl, _⟩ := rw'.tag
   (try walk_at "")
   refine ⟨_, _, (rS.same s').repD, rw'.repD, Nat.le_trans (Stm.dep_dt S) (by omega), ?_⟩
   rw [Stm.dt_dec]
   exact kk _ s'
  ·have e : fEach S [.st A, .nm t] = false := by
    cases A with
    | qu q X B =>
     cases q with
     | true => exact absurd rfl c1
     | false => rfl
    | _ => rfl
   have := kk _ (Same.refl _)
   rw [e] at this
   exact this
 ·obtain rfl : gg = fSome := by
   rcases hru with z | z
   ·exact absurd z.1 c
   ·exact z.2
  walk_at ""
  refine ⟨_, .inr h2, _, zae (j := 0) rfl, ?_⟩
  (try walk_at "")
  refine ite2 (fun c1 => ?_) fun c1 => ?_
  ·obtain ⟨X, B, rfl⟩ := zfe c1
   obtain ⟨a', u', e, h3, rB⟩ := rS
   cases e
   simp only [Stm.deep] at dS
   refine ⟨_, .inr h3, _, zae (j := 2) rfl, _, .inr h3, _, zae (j := 1) rfl, _, .inl hrp, _, zae (j := 1) rfl, _, B, X, t, rfl, rB, by omega, oS.2, fun w H' s' rw' => ?_⟩
   obtain ⟨a2, xs2, rfl, _⟩ := rw'.tag
   (try walk_at "")
   refine ⟨_, _, (rA.same s').repD, rw'.repD, Nat.le_trans (Stm.dep_dt A) (by omega), ?_⟩
   rw [Stm.dt_dec]
   exact kk _ s'
  ·have e : fSome S [.st A, .nm t] = false := by
    cases S with
    | qu q X B =>
     cases q with
     | false => exact absurd rfl c1
     | true => rfl
    | _ => rfl
   have := kk _ (Same.refl _)
   rw [e] at this
   exact this
theorem zep {x n : Str} (hn : zis n) : ∀ {S : Stm}, S.Ok -> (S.put x n).Ok
 | .is w ts, h => ⟨h.1, by rw [List.length_map]; exact h.2.1, fun t ht => by
   obtain ⟨t', h1, rfl⟩ := List.mem_map.mp ht
   by_cases c : t' = x
   ·rw [if_pos c]; exact hn
   ·rw [if_neg c]; exact h.2.2 t' h1⟩
 | .fls, _ => trivial
 | .neg A, h => zep (S := A) hn h
 | .bi _ A B, h => ⟨zep (S := A) hn h.1, zep (S := B) hn h.2⟩
 | .qu q X A, h => by
  show (if X = x then Stm.qu q X A else .qu q X (A.put x n)).Ok
  by_cases c : X = x
  ·rw [if_pos c]; exact h
  ·rw [if_neg c]; exact ⟨h.1, zep (S := A) hn h.2⟩
theorem put_fts {x n : Str} : ∀ {S : Stm} {t : Str}, t ∈ (S.put x n).fts -> (t ∈ S.fts /\ t ≠ x) \/ t = n
 | .is w ts, t, h => by
  obtain ⟨t', h1, e⟩ := List.mem_map.mp (show t ∈ ts.map fun t => if t = x then n else t from h)
  by_cases c : t' = x
  ·rw [if_pos c] at e; exact .inr e.symm
  ·rw [if_neg c] at e; subst e; exact .inl ⟨h1, c⟩
 | .fls, t, h => absurd h (by show ¬ t ∈ []; simp)
 | .neg A, t, h => put_fts (S := A) h
 | .bi _ A B, t, h => by
  rcases List.mem_append.mp (show t ∈ (A.put x n).fts ++ (B.put x n).fts from h) with z | z
  ·rcases put_fts (S := A) z with y | y
   ·exact .inl ⟨List.mem_append_left _ y.1, y.2⟩
   ·exact .inr y
  ·rcases put_fts (S := B) z with y | y
   ·exact .inl ⟨List.mem_append_right _ y.1, y.2⟩
   ·exact .inr y
 | .qu q X A, t, h => by
  have h' : t ∈ (if X = x then Stm.qu q X A else .qu q X (A.put x n)).fts := h
  by_cases c : X = x
  ·rw [if_pos c] at h'
   obtain ⟨h1, h2⟩ := List.mem_filter.mp h'
   exact .inl ⟨h', by rw [<- c]; exact of_decide_eq_true h2⟩
  ·rw [if_neg c] at h'
   obtain ⟨h1, h2⟩ := List.mem_filter.mp h'
   rcases put_fts (S := A) h1 with y | y
   ·exact .inl ⟨List.mem_filter.mpr ⟨y.1, h2⟩, y.2⟩
   ·exact .inr y
structure InOk (X : Str) (d : Nat) (S : Stm) : Prop where
 ok : S.Ok
 dp : S.deep ≤ d
 ft : ∀ t ∈ S.fts, Nm smallS t \/ t = X
theorem InOk.put {X n : Str} {d : Nat} {S : Stm} (h : InOk X d S) (hn : Nm smallS n) : StOk d (S.put X n) :=
 ⟨zep (.inl hn) h.ok, by rw [Stm.put_deep]; exact h.dp, fun t ht => by
  rcases put_fts ht with z | z
  ·exact (h.ft t z.1).resolve_right z.2
  ·rw [z]; exact hn⟩
theorem InOk.qu {X : Str} {d : Nat} {S : Stm} (h : InOk X d S) (hX : Nm greatS X) (q : Bool) : StOk (d + 1) (.qu q X S) :=
 ⟨⟨hX, h.ok⟩, Nat.succ_le_succ h.dp, fun t ht => by
  obtain ⟨h1, h2⟩ := List.mem_filter.mp ht
  exact (h.ft t h1).resolve_right (of_decide_eq_true h2)⟩
def zmn (K : W.Frag) : Sp := fun vs H Q _ => ∃ (a p np wp : Addr) (ns : List Int) (nm wd : List Str), vs = [.ref a, .ref p] /\ SqL K H a (ns.map V.int) /\ ns.length ≤ 63 /\
 H p = some (.lst [.ref np, .ref wp]) /\ H np = some (.lst (nm.map V.str)) /\ H wp = some (.lst (wd.map V.str)) /\ nm.length = 3 /\ wd.length = 3 /\ (∀ t ∈ nm, Nm smallS t) /\ (∀ t ∈ wd, Nm smallS t) /\
 ∀ (q : Addr) (ru : Str) (W B : Stm) (v u : V) (n : Str) H', Same H H' -> SqL K H' q [.str ru, v, u, .str n] -> RepS K H' W v -> RepS K H' B u -> StOk 8 W -> StOk 8 B -> (ru = "each" \/ ru = "some") -> Nm smallS n -> Q (.ref q) H'
theorem zj6 {nm : List Str} (hl : nm.length = 3) (c : Int) : ∃ n, atI (nm.map V.str) (c % 3) = some (.str n) /\ n ∈ nm := by
 have m0 := Int.emod_nonneg c (show (3 : Int) ≠ 0 by decide)
 have m1 := Int.emod_lt_of_pos c (show (0 : Int) < 3 by decide)
 obtain ⟨j, hj⟩ : ∃ j : Nat, c % 3 = j := ⟨(c % 3).toNat, by omega⟩
 have hjl : j < nm.length := by omega
 refine ⟨nm[j], ?_, List.getElem_mem _⟩
 rw [hj]
 refine zae ?_
 rw [List.getElem?_map, List.getElem?_eq_getElem hjl]
 rfl
theorem zhV (T : Tx K mg D) : FnOk P w K mg base0 CX0 12 D.a_e7 D.d_e7 ["_law_script", "_law_drawn"] (zmn K) := by
 have G_b5 := @zbN P w _ _ base0 _ T
 have G_b0 := @zbS P w _ _ base0 _ T
 have G_d9 := zel (P := P) (w := w) (base0 := base0) T 5
 have G_e2 := zdD (P := P) (w := w) (base0 := base0) T 10
 have G_b7 := zcx (P := P) (w := w) (base0 := base0) T 10
 refine T.F_e7.ok sc_e7 (fun vs H Q E h => ?_) (fun cdv A outer s H vs Q E hr h => ?_)
 ·obtain ⟨a, p, np, wp, ns, nm, wd, rfl, _⟩ := h; rfl
 obtain ⟨a, p, np, wp, ns, nm, wd, rfl, hS, hl, hp, hnp, hwp, ln, lw, hnm, hwd, k⟩ := h
 have hu := hr.units
 have hr_b5 : Room 1 _ := hr.mono (by decide)
 have hr_b0 : Room 1 _ := hr.mono (by decide)
 have hr_d9 : Room 6 _ := hr.mono (by decide)
 have hr_e2 : Room 11 _ := hr.mono (by decide)
 have hr_b7 : Room 11 _ := hr.mono (by decide)
 refine ⟨_, (zaf (zat (i := 2) sc_e7.nd (by rfl) (by walk_at "o") (zal G_b5 hr_b5 (by rfl) T.m_b5 T.F_b5.kp T.b_b5 .nil za2 (zaa (pv 0) (zaa zad zah))))
  (zaf (zat (i := 3) sc_e7.nd (by rfl) (by walk_at "o") (zam (ixA K) (zaN (zaa zao (zaa zao zah))) (zaq zav (pv 2) zad) (fun _ _ => rfl)))
  (zaf (zat (i := 4) sc_e7.nd (by rfl) (by walk_at "o") (zal G_b0 hr_b0 (by rfl) T.m_b0 T.F_b0.kp T.b_b0 .nil za2 (zaa (zaq zaI (pv 2) zad) zah)))
  (zaf (zat (i := 5) sc_e7.nd (by rfl) (by walk_at "o") (zal G_d9 hr_d9 (by rfl) T.m_d9 T.F_d9.kp T.b_d9 .nil za2 (zaa (zaq zav (zal G_b5 hr_b5 (by rfl) T.m_b5 T.F_b5.kp T.b_b5 .nil za2 (zaa (pv 0) (zaa zad zah))) (zaq (za5 K) (zaq zjN zad zad) zad)) (zaa (zaq (za5 K) zad (zaq zav (pv 2) zad)) (zaa (zaq (za5 K) (zam (ixA K) (pv 1) zad (fun _ _ => rfl)) (zaN (zaa (pv 4) (zaa (pv 4) zah)))) (zaa (zam (ixA K) (pv 1) zad (fun _ _ => rfl)) zah))))))
  (zaf (zat (i := 6) sc_e7.nd (by rfl) (by walk_at "o") (zaM (zaa (zam (ixA K) (zaN (zaa zao (zaa zao zah))) (zaq zav (pv 2) zad) (fun _ _ => rfl)) (zaa (pv 4) (zaa (pv 5) zah)))))
  (zaf (zat (i := 7) sc_e7.nd (by rfl) (by walk_at "o") (zam (ixA K) (zam (ixA K) (pv 1) zad (fun _ _ => rfl)) (zaq zav (zal G_b5 hr_b5 (by rfl) T.m_b5 T.F_b5.kp T.b_b5 .nil za2 (zaa (pv 0) (zaa zad zah))) zad) (fun _ _ => rfl)))
  (zaf (zat (i := 8) sc_e7.nd (by rfl) (by walk_at "o") (zal G_e2 hr_e2 (by rfl) T.m_e2 T.F_e2.kp T.b_e2 .nil za2 (zaa (pv 5) (zaa (pv 4) (zaa (pv 7) zah)))))
  (zaf (zat (i := 9) sc_e7.nd (by rfl) (by walk_at "o") (zaq zav (zal G_b5 hr_b5 (by rfl) T.m_b5 T.F_b5.kp T.b_b5 .nil za2 (zaa (pv 0) (zaa zad zah))) zad))
  (zaf (zat (i := 10) sc_e7.nd (by rfl) (by walk_at "o") (zaq zav (zal G_b5 hr_b5 (by rfl) T.m_b5 T.F_b5.kp T.b_b5 .nil za2 (zaa (pv 0) (zaa zad zah))) zad))
  (zaf (zaH (zap (za9 K hu) (pv 9) zad (zar _)) (zai (zat (i := 8) sc_e7.nd (by rfl) (by walk_at "o") (zal G_e2 hr_e2 (by rfl) T.m_e2 T.F_e2.kp T.b_e2 .nil za2 (zaa (pv 5) (zaa (pv 4) (zaa (zam (ixA K) (zam (ixA K) (pv 1) zad (fun _ _ => rfl)) (zaq zav (zal G_b5 hr_b5 (by rfl) T.m_b5 T.F_b5.kp T.b_b5 .nil za2 (zaa (pv 0) (zaa zad zah))) zad) (fun _ _ => rfl)) zah)))))) zau)
  (zaf (zaH (zap (za9 K hu) (pv 9) zad (zar _)) (zai (zat (i := 8) sc_e7.nd (by rfl) (by walk_at "o") (zal G_b7 hr_b7 (by rfl) T.m_b7 T.F_b7.kp T.b_b7 .nil za2 (zaa (pv 8) (zaa (pv 10) (zaa (zam (ixA K) (zam (ixA K) (pv 1) zad (fun _ _ => rfl)) (zaq zav (zal G_b5 hr_b5 (by rfl) T.m_b5 T.F_b5.kp T.b_b5 .nil za2 (zaa (pv 0) (zaa zad zah))) zad) (fun _ _ => rfl)) zah)))))) zau)
  (zaf (zaH (zap (za9 K hu) (pv 9) zad (zar _)) (zai (zat (i := 6) sc_e7.nd (by rfl) (by walk_at "o") (zaM (zaa (zam (ixA K) (zaN (zaa zao (zaa zao zah))) (zaq zav (pv 2) zad) (fun _ _ => rfl)) (zaa (pv 4) (zaa (pv 5) zah)))))) zau)
  (zaf (zaH (zap (za9 K hu) (pv 9) zad (zar _)) (zai (zat (i := 6) sc_e7.nd (by rfl) (by walk_at "o") (zaM (zaa (zam (ixA K) (pv 6) zad (fun _ _ => rfl)) (zaa (pv 4) (zaa (zal G_b7 hr_b7 (by rfl) T.m_b7 T.F_b7.kp T.b_b7 .nil za2 (zaa (pv 5) (zaa (pv 10) (zaa (pv 4) zah)))) zah)))))) zau)
  (zaf (zaH (zap (za9 K hu) (pv 9) zad (zar _)) (zai (zat (i := 6) sc_e7.nd (by rfl) (by walk_at "o") (pv 8))) zau)
  (zai (zas (zaN (zaa (pv 3) (zaa (pv 6) (zaa (pv 8) (zaa (pv 7) zah))))))))))))))))))))), ?_⟩
 walk_at "S"
 refine za0 (fun σ' H' => H' = H /\ ∃ c : Int, 0 ≤ c /\ σ' = [some (.ref a), some (.ref p), some (.int c), none, none, none, none, none, none, none, none]) (fun N hN => ?_) fun σ' H1 hv => ?_
 ·walk_at ""
  exact ⟨a, ns, _, rfl, hS, hl, by decide, fun c c0 c1 => hN _ _ ⟨rfl, c, c0, rfl⟩⟩
 obtain ⟨rfl, c, c0, rfl⟩ := hv
 have b0 := Int.emod_nonneg c (show (2 : Int) ≠ 0 by decide)
 have b1 := Int.emod_lt_of_pos c (show (0 : Int) < 2 by decide)
 have hc2 : c % 2 = 0 \/ c % 2 = 1 := by omega
 refine za0 (fun σ' H' => Same H1 H' /\ ∃ ru : Str, (ru = "each" \/ ru = "some") /\ σ' = [some (.ref a), some (.ref p), some (.int c), some (.str ru), none, none, none, none, none, none, none]) (fun N hN => ?_) fun σ' H2 hv => ?_
 ·walk_at ""
  refine ⟨zan (show 2 ≤ 100000 by decide), fun q hq => ⟨by decide, ?_⟩⟩
  (try walk_at "")
  have sq := zab hq (.lst [V.str "each", V.str "some"])
  rcases hc2 with e | e
  ·rw [e]; exact ⟨_, .inl (SqL.of zac), _, zae (j := 0) rfl, hN _ _ ⟨sq, _, .inl rfl, rfl⟩⟩
  ·rw [e]; exact ⟨_, .inl (SqL.of zac), _, zae (j := 1) rfl, hN _ _ ⟨sq, _, .inr rfl, rfl⟩⟩
 obtain ⟨s2, ru, hru, rfl⟩ := hv
 refine za0 (fun σ' H' => Same H1 H' /\ ∃ X : Str, Nm greatS X /\ σ' = [some (.ref a), some (.ref p), some (.int c), some (.str ru), some (.str X), none, none, none, none, none, none]) (fun N hN => ?_) fun σ' H3 hv => ?_
 ·walk_at ""
  exact ⟨cdiv, _, rfl, Int.ediv_nonneg c0 (by decide), fun X H3 s3 hX => hN _ _ ⟨s2.trans s3, X, hX, rfl⟩⟩
 clear s2
 obtain ⟨s3, X, hX, rfl⟩ := hv
 refine za0 (fun σ' H' => Same H1 H' /\ ∃ (I : Stm) (iv' : V), RepS K H' I iv' /\ InOk X 5 I /\ σ' = [some (.ref a), some (.ref p), some (.int c), some (.str ru), some (.str X), some iv', none, none, none, none, none]) (fun N hN => ?_) fun σ' H4 hv => ?_
 ·walk_at ""
  refine ⟨a, ns, _, rfl, s3.seq hS, hl, by decide, fun d d0 d1 => ?_⟩
  (try walk_at "")
  have e0 := Int.emod_nonneg c (show (4 : Int) ≠ 0 by decide)
  have e1 := Int.emod_lt_of_pos c (show (0 : Int) < 4 by decide)
  generalize c % 4 = md at e0 e1 ⊢
  have hp3 : SqL K H3 p [V.ref np, V.ref wp] := SqL.of (s3 _ _ hp)
  refine ⟨⟨by decide, by decide, by decide⟩, by decide, by decide, _, .inl hp3, _, zae (j := 0) rfl, zan (show 2 ≤ 100000 by decide), fun q hq => ?_⟩
  have sq := zab hq (.lst [V.str X, .str X])
  (try walk_at "")
  refine ⟨_, _, .inl ⟨sq _ _ (s3 _ _ hnp), zac, zan (by rw [List.length_map]; show _ + 2 ≤ _; omega), fun r hr' => ?_⟩⟩
  have sr := sq.trans (zab hr' (.lst (nm.map V.str ++ [V.str X, .str X])))
  have hts : nm.map V.str ++ [V.str X, .str X] = (nm ++ [X, X]).map V.str := by rw [List.map_append]; rfl
  refine ⟨_, .inl (sr.seq hp3), _, zae (j := 1) rfl, _, (1 + md).toNat, r, wp, nm ++ [X, X], wd, by rw [show ((1 + md).toNat : Int) = 1 + md by omega], Int.emod_nonneg _ (by decide), by omega, by rw [<- hts]; exact zac, SqL.of (sr _ _ (s3 _ _ hwp)), by simp, by simp only [List.length_append, ln]; show 3 + 2 + _ ≤ 100; omega, fun t ht => ?_, lw, hwd, fun S v H5 s5 rS hS' hd hf => hN _ _ ⟨(s3.trans sr).trans s5, S, v, rS, ⟨hS', by omega, fun t ht => ?_⟩, rfl⟩⟩
  ·rcases List.mem_append.mp ht with z | z
   ·exact .inl (hnm t z)
   ·simp at z; rw [z]; exact .inr hX
  ·rcases List.mem_append.mp (hf t ht) with z | z
   ·exact .inl (hnm t z)
   ·simp at z; exact .inr z
 clear s3
 obtain ⟨s4, I, vi, rI, oI, rfl⟩ := hv
 refine za0 (fun σ' H' => Same H4 H' /\ ∃ (wa : Addr) (q : Bool), SqT K H' wa [.str (qtx q), .str X, vi] /\ σ' = [some (.ref a), some (.ref p), some (.int c), some (.str ru), some (.str X), some vi, some (.ref wa), none, none, none, none]) (fun N hN => ?_) fun σ' H5 hv => ?_
 ·walk_at ""
  refine ⟨zan (show 2 ≤ 100000 by decide), fun q hq => ⟨by decide, ?_⟩⟩
  have sq := zab hq (.lst [V.str "all", V.str "some"])
  (try walk_at "")
  rcases hc2 with e | e
  ·rw [e]; exact ⟨_, .inl (SqL.of zac), _, zae (j := 0) rfl, zan (show 3 ≤ 100000 by decide), fun r hr' => hN _ _ ⟨sq.trans (zab hr' _), r, true, SqT.of zac, rfl⟩⟩
  ·rw [e]; exact ⟨_, .inl (SqL.of zac), _, zae (j := 1) rfl, zan (show 3 ≤ 100000 by decide), fun r hr' => hN _ _ ⟨sq.trans (zab hr' _), r, false, SqT.of zac, rfl⟩⟩
 obtain ⟨s5, wa, qq, hwa, rfl⟩ := hv
 have s15 := s4.trans s5
 replace rI := rI.same s5
 have hp5 : SqL K H5 p [V.ref np, V.ref wp] := SqL.of (s15 _ _ hp)
 have hnp5 : SqL K H5 np (nm.map V.str) := SqL.of (s15 _ _ hnp)
 refine za0 (fun σ' H' => H' = H5 /\ ∃ n, Nm smallS n /\ σ' = [some (.ref a), some (.ref p), some (.int c), some (.str ru), some (.str X), some vi, some (.ref wa), some (.str n), none, none, none]) (fun N hN => ?_) fun σ' H6 hv => ?_
 ·walk_at ""
  refine ⟨_, .inl hp5, _, zae (j := 0) rfl, a, ns, _, rfl, s15.seq hS, hl, by decide, fun d d0 d1 => ?_⟩
  (try walk_at "")
  obtain ⟨n, e, hn⟩ := zj6 ln d
  exact ⟨by decide, _, .inl hnp5, _, e, hN _ _ ⟨rfl, n, hnm n hn, rfl⟩⟩
 obtain ⟨rfl, n, hn, rfl⟩ := hv
 refine za0 (fun σ' H' => Same H6 H' /\ ∃ (B : Stm) (vb : V), RepS K H' B vb /\ StOk 8 B /\ σ' = [some (.ref a), some (.ref p), some (.int c), some (.str ru), some (.str X), some vi, some (.ref wa), some (.str n), some vb, none, none]) (fun N hN => ?_) fun σ' H7 hv => ?_
 ·walk_at ""
  exact ⟨vi, I, X, n, rfl, rI, Nat.le_trans oI.dp (by decide), oI.ok, fun u H7 s7 r7 => hN _ _ ⟨s7, _, u, r7, (oI.put hn).mono (by decide), rfl⟩⟩
 obtain ⟨s7, B, vb, rB, oB, rfl⟩ := hv
 refine za0 (fun σ' H' => H' = H7 /\ ∃ way, σ' = [some (.ref a), some (.ref p), some (.int c), some (.str ru), some (.str X), some vi, some (.ref wa), some (.str n), some vb, some (.int way), none]) (fun N hN => ?_) fun σ' H8 hv => ?_
 ·walk_at ""
  refine ⟨a, ns, _, rfl, (s15.trans s7).seq hS, hl, by decide, fun d d0 d1 => ?_⟩
  (try walk_at "")
  exact ⟨by decide, hN _ _ ⟨rfl, _, rfl⟩⟩
 obtain ⟨rfl, way, rfl⟩ := hv
 refine za0 (fun σ' H' => H' = H8 /\ ∃ m : Int, 0 ≤ m /\ σ' = [some (.ref a), some (.ref p), some (.int c), some (.str ru), some (.str X), some vi, some (.ref wa), some (.str n), some vb, some (.int way), some (.int m)]) (fun N hN => ?_) fun σ' H9 hv => ?_
 ·walk_at ""
  refine ⟨a, ns, _, rfl, (s15.trans s7).seq hS, hl, by decide, fun d d0 d1 => ?_⟩
  (try walk_at "")
  exact ⟨by decide, hN _ _ ⟨rfl, _, Int.emod_nonneg _ (by decide), rfl⟩⟩
 obtain ⟨rfl, m, m0, rfl⟩ := hv
 have s9 := s15.trans s7
 replace rI := rI.same s7
 replace hwa := s7.seqT hwa
 clear hp5 hnp5 s4 s5 s15 s7
 have two : ∀ {H' : Hp}, Same H1 H' -> SqL K H' p [V.ref np, V.ref wp] /\ SqL K H' np (nm.map V.str) := fun e => ⟨SqL.of (e _ _ hp), SqL.of (e _ _ hnp)⟩
 refine za0 (fun σ' H' => Same H9 H' /\ ∃ (B : Stm) (vb : V), RepS K H' B vb /\ StOk 8 B /\ σ' = [some (.ref a), some (.ref p), some (.int c), some (.str ru), some (.str X), some vi, some (.ref wa), some (.str n), some vb, some (.int way), some (.int m)]) (fun N hN => ?_) fun σ' H10 hv => ?_
 ·walk_at ""
  refine ite2 (fun _ => ?_) fun _ => hN _ _ ⟨Same.refl _, B, vb, rB, oB, rfl⟩
  refine ⟨_, .inl (two s9).1, _, zae (j := 0) rfl, a, ns, _, rfl, s9.seq hS, hl, by decide, fun d d0 d1 => ?_⟩
  (try walk_at "")
  obtain ⟨n2, e, hn2⟩ := zj6 ln d
  exact ⟨by decide, _, .inl (two s9).2, _, e, vi, I, X, n2, rfl, rI, Nat.le_trans oI.dp (by decide), oI.ok, fun u H7 s7 r7 => hN _ _ ⟨s7, _, u, r7, (oI.put (hnm n2 hn2)).mono (by decide), rfl⟩⟩
 clear rB oB
 obtain ⟨s10, B, vb, rB, oB, rfl⟩ := hv
 refine za0 (fun σ' H' => Same H9 H' /\ ∃ (B : Stm) (vb : V), RepS K H' B vb /\ StOk 8 B /\ σ' = [some (.ref a), some (.ref p), some (.int c), some (.str ru), some (.str X), some vi, some (.ref wa), some (.str n), some vb, some (.int way), some (.int m)]) (fun N hN => ?_) fun σ' H11 hv => ?_
 ·walk_at ""
  refine ite2 (fun _ => ?_) fun _ => hN _ _ ⟨s10, B, vb, rB, oB, rfl⟩
  have s90 := s9.trans s10
  refine ⟨_, .inl (two s90).1, _, zae (j := 0) rfl, a, ns, _, rfl, s90.seq hS, hl, by decide, fun d d0 d1 => ?_⟩
  (try walk_at "")
  obtain ⟨n2, e, hn2⟩ := zj6 ln d
  refine ⟨by decide, _, .inl (two s90).2, _, e, vb, B, m, n2, rfl, rB, Nat.le_trans oB.2.1 (by decide), oB.1, m0, .inl (hnm n2 hn2), fun S' u H7 s7 r7 d7 o7 f7 => hN _ _ ⟨s10.trans s7, S', u, r7, ⟨o7, Nat.le_trans d7 oB.2.1, fun t ht => ?_⟩, rfl⟩⟩
  rcases f7 t ht with z | z
  ·exact oB.2.2 t z
  ·rw [z]; exact hnm n2 hn2
 clear rB oB s10
 obtain ⟨s10, B, vb, rB, oB, rfl⟩ := hv
 have s11 := s9.trans s10
 replace rI := rI.same s10
 replace hwa := s10.seqT hwa
 clear s9 s10
 refine za0 (fun σ' H' => Same H11 H' /\ ∃ (wa : Addr) (q : Bool), SqT K H' wa [.str (qtx q), .str X, vi] /\ σ' = [some (.ref a), some (.ref p), some (.int c), some (.str ru), some (.str X), some vi, some (.ref wa), some (.str n), some vb, some (.int way), some (.int m)]) (fun N hN => ?_) fun σ' H12 hv => ?_
 ·walk_at ""
  refine ite2 (fun _ => ?_) fun _ => hN _ _ ⟨Same.refl _, wa, qq, hwa, rfl⟩
  refine ⟨zan (show 2 ≤ 100000 by decide), fun q hq => ⟨by decide, ?_⟩⟩
  have sq := zab hq (.lst [V.str "some", V.str "all"])
  (try walk_at "")
  rcases hc2 with e | e
  ·rw [e]; exact ⟨_, .inl (SqL.of zac), _, zae (j := 0) rfl, zan (show 3 ≤ 100000 by decide), fun r hr' => hN _ _ ⟨sq.trans (zab hr' _), r, false, SqT.of zac, rfl⟩⟩
  ·rw [e]; exact ⟨_, .inl (SqL.of zac), _, zae (j := 1) rfl, zan (show 3 ≤ 100000 by decide), fun r hr' => hN _ _ ⟨sq.trans (zab hr' _), r, true, SqT.of zac, rfl⟩⟩
 clear hwa qq wa
 obtain ⟨s12, wa, qq, hwa, rfl⟩ := hv
 refine za0 (fun σ' H' => Same H12 H' /\ ∃ (W : Stm) (vw : V), RepS K H' W vw /\ StOk 8 W /\ σ' = [some (.ref a), some (.ref p), some (.int c), some (.str ru), some (.str X), some vi, some vw, some (.str n), some vb, some (.int way), some (.int m)]) (fun N hN => ?_) fun σ' H13 hv => ?_
 ·walk_at ""
  refine ite2 (fun _ => ?_) fun _ => hN _ _ ⟨Same.refl _, .qu qq X I, .ref wa, ⟨wa, vi, rfl, hwa, rI.same s12⟩, (oI.qu hX qq).mono (by decide), rfl⟩
  refine ⟨_, .inr hwa, _, zae (j := 0) rfl, vi, I, m, X, rfl, rI.same s12, Nat.le_trans oI.dp (by decide), oI.ok, m0, .inr hX, fun S' u H7 s7 r7 d7 o7 f7 => ⟨zan (show 3 ≤ 100000 by decide), fun r hr' => ?_⟩⟩
  have sr := zab hr' (.tup [V.str (qtx qq), .str X, u])
  have oS : InOk X 5 S' := ⟨o7, Nat.le_trans d7 oI.dp, fun t ht => (f7 t ht).elim (oI.ft t) .inr⟩
  exact hN _ _ ⟨s7.trans sr, .qu qq X S', .ref r, ⟨r, u, rfl, SqT.of zac, r7.same sr⟩, (oS.qu hX qq).mono (by decide), rfl⟩
 obtain ⟨s13, W, vw, rW, oW, rfl⟩ := hv
 replace rB := rB.same (s12.trans s13)
 refine za0 (fun σ' H' => H' = H13 /\ ∃ (W : Stm) (vw : V), RepS K H13 W vw /\ StOk 8 W /\ σ' = [some (.ref a), some (.ref p), some (.int c), some (.str ru), some (.str X), some vi, some vw, some (.str n), some vb, some (.int way), some (.int m)]) (fun N hN => ?_) fun σ' H14 hv => ?_
 ·walk_at ""
  refine ite2 (fun _ => ?_) fun _ => hN _ _ ⟨rfl, W, vw, rW, oW, rfl⟩
  exact hN _ _ ⟨rfl, B, vb, rB, oB, rfl⟩
 clear rW oW
 obtain ⟨rfl, W, vw, rW, oW, rfl⟩ := hv
 walk_at ""
 refine ⟨zan (show 4 ≤ 100000 by decide), fun r hr' => ?_⟩
 have sr := zab hr' (.lst [V.str ru, vw, vb, .str n])
 exact k r ru W B vw vb n _ (((s11.trans s12).trans s13).trans sr) (SqL.of zac) (rW.same sr) (rB.same sr) oW oB hru hn
def stPd : Stm -> PyData
 | .is w ts => .tuple [.str "is", .str w, .tuple (ts.map PyData.str)]
 | .fls => .tuple [.str "false"]
 | .neg A => .tuple [.str "not", (stPd A)]
 | .bi o A B => .tuple [.str o.txt, (stPd A), (stPd B)]
 | .qu q X A => .tuple [.str (qtx q), .str X, (stPd A)]
structure PB (d : PyData) (k n : Nat) : Prop where
 sh : d.showable = true
 nd : d.hasDict = false
 dp : d.depth ≤ k
 ln : d.shown.length ≤ n
theorem PB.mono {d : PyData} {k n k' n' : Nat} (h : PB d k n) (hk : k ≤ k') (hn : n ≤ n') : PB d k' n' := ⟨h.sh, h.nd, Nat.le_trans h.dp hk, Nat.le_trans h.ln hn⟩
theorem PB.str {x : Str} {l : Nat} (h : x.length ≤ l) (hc : ∀ c ∈ x.cps.toList, c < 1000) : PB (.str x) 0 (10 * l + 2) :=
 ⟨rfl, rfl, by simp [PyData.depth], by
  have := StrLaws.reprText_len x (fun c hm => Nat.lt_trans (hc c hm) (by decide))
  simp only [PyData.shown]
  omega⟩
theorem PB.all {k n : Nat} : ∀ {ds : List PyData}, (∀ d ∈ ds, PB d k n) -> PyData.showableAll ds = true /\ PyData.hasDictAll ds = false /\ PyData.depthAll ds ≤ k /\ ((PyData.shownAll ds).map (·.length)).sum ≤ ds.length * n /\ (PyData.shownAll ds).length = ds.length
 | [], _ => ⟨rfl, rfl, by simp [PyData.depthAll], by simp [PyData.shownAll], by simp [PyData.shownAll]⟩
 | d :: ds, h => by
  obtain ⟨h1, h2, h3, h4, h5⟩ := PB.all (ds := ds) fun d hd => h d (by simp [hd])
  have h0 := h d (by simp)
  refine ⟨?_, ?_, ?_, ?_, ?_⟩
  ·simp only [PyData.showableAll, h0.sh, h1, Bool.and_self]
  ·simp only [PyData.hasDictAll, h0.nd, h2, Bool.or_self]
  ·have := h0.dp
   simp only [PyData.depthAll]
   omega
  ·have := h0.ln
   simp only [PyData.shownAll, List.map_cons, List.sum_cons, List.length_cons, Nat.succ_mul]
   omega
  ·simp only [PyData.shownAll, List.length_cons, h5]
theorem PB.tup {ds : List PyData} {k n : Nat} (h : ∀ d ∈ ds, PB d k n) : PB (.tuple ds) (k + 1) (ds.length * n + 2 * ds.length + 3) := by
 obtain ⟨h1, h2, h3, h4, h5⟩ := PB.all h
 refine ⟨by simp only [PyData.showable, h1], by simp only [PyData.hasDict, h2], ?_, ?_⟩
 ·simp only [PyData.depth]
  omega
 ·have := tupleText_len_le (PyData.shownAll ds)
  simp only [PyData.shown]
  omega
theorem PB.t2 {a b : PyData} {k n m : Nat} (ha : PB a k n) (hb : PB b k m) : PB (.tuple [a, b]) (k + 1) (n + m + 7) := by
 have h := tupleText_len_le (PyData.shownAll [a, b])
 have h1 := ha.ln
 have h2 := hb.ln
 have h3 := ha.dp
 have h4 := hb.dp
 simp only [PyData.shownAll, List.map_cons, List.map_nil, List.sum_cons, List.sum_nil, List.length_cons, List.length_nil] at h
 refine ⟨by simp only [PyData.showable, PyData.showableAll, ha.sh, hb.sh, Bool.and_self], by simp only [PyData.hasDict, PyData.hasDictAll, ha.nd, hb.nd, Bool.or_self], ?_, ?_⟩
 ·simp only [PyData.depth, PyData.depthAll]
  omega
 ·simp only [PyData.shown, PyData.shownAll]
  omega
theorem PB.t3 {a b c : PyData} {k n m l : Nat} (ha : PB a k n) (hb : PB b k m) (hc : PB c k l) : PB (.tuple [a, b, c]) (k + 1) (n + m + l + 9) := by
 have h := tupleText_len_le (PyData.shownAll [a, b, c])
 have h1 := ha.ln
 have h2 := hb.ln
 have h3 := ha.dp
 have h4 := hb.dp
 have h5 := hc.ln
 have h6 := hc.dp
 simp only [PyData.shownAll, List.map_cons, List.map_nil, List.sum_cons, List.sum_nil, List.length_cons, List.length_nil] at h
 refine ⟨by simp only [PyData.showable, PyData.showableAll, ha.sh, hb.sh, hc.sh, Bool.and_self], by simp only [PyData.hasDict, PyData.hasDictAll, ha.nd, hb.nd, hc.nd, Bool.or_self], ?_, ?_⟩
 ·simp only [PyData.depth, PyData.depthAll]
  omega
 ·simp only [PyData.shown, PyData.shownAll]
  omega
theorem zhW {x : Str} (h : Nm smallS x \/ Nm greatS x) : PB (.str x) 0 82 /\ x.length ≤ 20 /\ ∀ c ∈ x.cps.toList, c < 1000 := by
 have hs : ∀ c ∈ smallS.cps.toList, c < 1000 := by decide +kernel
 have hg : ∀ c ∈ greatS.cps.toList, c < 1000 := by decide +kernel
 have hf : ∀ c ∈ sofS.cps.toList, c < 1000 := by decide +kernel
 have hl : x.length ≤ 8 := h.elim (fun q => q.len.1) fun q => q.len.1
 have hc : ∀ c ∈ x.cps.toList, c < 1000 := by
  rcases h with ⟨c, r, e, h1, h2, _⟩ | ⟨c, r, e, h1, h2, _⟩
  ·rw [e]
   intro d hd
   rcases List.mem_cons.mp hd with rfl | z
   ·exact hs d h1
   ·exact hf d (h2 d z)
  ·rw [e]
   intro d hd
   rcases List.mem_cons.mp hd with rfl | z
   ·exact hg d h1
   ·exact hf d (h2 d z)
 exact ⟨PB.str hl hc, by omega, hc⟩
theorem zcr {x : Str} (h : x ∈ [Str.ofString "is", "false", "not", "and", "or", "then", "all", "some", "given", "guess", "each"]) : PB (.str x) 0 102 := by
 have hl : ∀ x ∈ [Str.ofString "is", "false", "not", "and", "or", "then", "all", "some", "given", "guess", "each"], x.length ≤ 10 /\ ∀ c ∈ x.cps.toList, c < 1000 := by decide +kernel
 exact PB.str (hl x h).1 (hl x h).2
def pbN : Nat -> Nat
 | 0 => 0
 | d + 1 => 2 * pbN d + 800
theorem zeq : ∀ {S : Stm}, S.Ok -> PB (stPd S) (S.deep + 1) (pbN S.deep)
 | .is w ts, h => by
  have h3 : PB (.tuple (ts.map PyData.str)) 1 255 := (PB.tup (k := 0) (n := 82) fun d hd => by
   obtain ⟨t, h1, rfl⟩ := List.mem_map.mp hd
   exact (zhW (h.2.2 t h1)).1).mono (Nat.le_refl _) (by rw [List.length_map]; have := h.2.1; omega)
  exact (PB.t3 (k := 1) ((zcr (x := "is") (by simp)).mono (by decide) (Nat.le_refl _)) (((zhW (.inl h.1)).1).mono (by decide) (Nat.le_refl _)) h3).mono (by simp [Stm.deep]) (by simp [Stm.deep, pbN])
 | .fls, _ => (PB.tup (k := 0) (n := 102) fun d hd => by obtain rfl := List.mem_singleton.mp hd; exact zcr (x := "false") (by simp)).mono (by simp [Stm.deep]) (by simp [Stm.deep, pbN])
 | .neg A, h => by
  have h1 := zeq (S := A) h
  refine (PB.t2 (k := A.deep + 1) ((zcr (x := "not") (by simp)).mono (Nat.zero_le _) (Nat.le_refl _)) h1).mono (by simp only [Stm.deep]; omega) ?_
  simp only [Stm.deep, pbN]
  omega
 | .bi o A B, h => by
  have h1 := zeq (S := A) h.1
  have h2 := zeq (S := B) h.2
  have mo : ∀ {i j : Nat}, i ≤ j -> pbN i ≤ pbN j := fun {i j} hij => by
   induction hij with
   | refl => exact Nat.le_refl _
   | step _ ih => exact Nat.le_trans ih (by simp only [pbN]; omega)
  have m1 := mo (Nat.le_max_left A.deep B.deep)
  have m2 := mo (Nat.le_max_right A.deep B.deep)
  refine (PB.t3 (k := max A.deep B.deep + 1) ((zcr (x := o.txt) (by cases o <;> decide +kernel)).mono (Nat.zero_le _) (Nat.le_refl _)) (h1.mono (by omega) m1) (h2.mono (by omega) m2)).mono (by simp only [Stm.deep]; omega) ?_
  simp only [Stm.deep, pbN]
  omega
 | .qu q X A, h => by
  have h1 := zeq (S := A) h.2
  refine (PB.t3 (k := A.deep + 1) ((zcr (x := qtx q) (by cases q <;> decide +kernel)).mono (Nat.zero_le _) (Nat.le_refl _)) (((zhW (.inr h.1)).1).mono (Nat.zero_le _) (Nat.le_refl _)) h1).mono (by simp only [Stm.deep]; omega) ?_
  simp only [Stm.deep, pbN]
  omega
theorem zgW {α β : Type} {Rel : α -> β -> Prop} {xs : List α} {ys : List β} (h : Paired Rel xs ys) : ∀ {i : Nat} {x : α}, xs[i]? = some x -> ∃ y, ys[i]? = some y /\ Rel x y := by
 induction h with
 | nil => intro i x e; simp at e
 | cons h1 _ ih =>
  intro i x e
  cases i with
  | zero => simp at e; subst e; exact ⟨_, rfl, h1⟩
  | succ i => exact ih (by simpa using e)
theorem rdP {H : Hp} {a : Addr} {ds : List PyData} {xs : List V} (h : SqT K H a xs) (hp : Paired (RdV K H) ds xs) : RdV K H (.tuple ds) (.ref a) :=
 .tup h (Paired.length hp) fun j d x e1 e2 => by
  obtain ⟨y, e, r⟩ := zgW hp e1
  rw [e] at e2
  cases e2
  exact r
theorem zcs {α : Type} {H : Hp} {f : α -> PyData} {g : α -> V} (h : ∀ x, RdV K H (f x) (g x)) : ∀ l : List α, Paired (RdV K H) (l.map f) (l.map g)
 | [] => .nil
 | x :: l => .cons (h x) (zcs h l)
theorem zer {H : Hp} : ∀ {S : Stm} {v : V}, RepS K H S v -> RdV K H (stPd S) v
 | .is w ts, _, ⟨a, b, e, h2, h3⟩ => by subst e; exact rdP h2 (.cons (.str _) (.cons (.str _) (.cons (rdP h3 (zcs (fun t => .str t) ts)) .nil)))
 | .fls, _, ⟨a, e, h2⟩ => by subst e; exact rdP h2 (.cons (.str _) .nil)
 | .neg A, _, ⟨a, u, e, h2, h3⟩ => by subst e; exact rdP h2 (.cons (.str _) (.cons (zer h3) .nil))
 | .bi o A B, _, ⟨a, u, u', e, h2, h3, h4⟩ => by subst e; exact rdP h2 (.cons (.str _) (.cons (zer h3) (.cons (zer h4) .nil)))
 | .qu q X A, _, ⟨a, u, e, h2, h3⟩ => by subst e; exact rdP h2 (.cons (.str _) (.cons (.str _) (.cons (zer h3) .nil)))
def rfPd : Rf -> PyData
 | .n i => .int i
 | .s t => .str t
 | .b c => .bool c
 | .o => .none
theorem zmo {H : Hp} (R : Rf) : RdV K H (rfPd R) R.v := by
 cases R with
 | n i => exact .int i
 | s t => exact .str t
 | b c => exact .bl c
 | o => exact .non
theorem zlq {R : Rf} (h : R.sm) : PB (rfPd R) 0 202 := by
 cases R with
 | n i =>
  have h' : -100 ≤ i /\ i ≤ 100 := h
  refine ⟨?_, rfl, by simp [rfPd, PyData.depth], Nat.le_trans (PyData.shown_int_le (by omega)) (by decide)⟩
  show decide (i.natAbs.log2 < 1920) = true
  exact decide_eq_true (Nat.lt_of_le_of_lt (Nat.log2_le_self _) (by omega))
 | s t => exact PB.str h.1 h.2
 | b c => cases c <;> exact ⟨rfl, rfl, by simp [rfPd, PyData.depth], by simp only [rfPd, PyData.shown]; decide +kernel⟩
 | o => exact ⟨rfl, rfl, by simp [rfPd, PyData.depth], by simp only [rfPd, PyData.shown]; decide +kernel⟩
def lnPd (L : Ln) : PyData := .tuple [.int L.lev, .str L.ru, (match L.st with | some S => stPd S | none => .none), .tuple (L.rs.map rfPd)]
theorem zmp {H : Hp} {L : Ln} {v : V} (h : RepN K H L v) : RdV K H (lnPd L) v := by
 obtain ⟨a, x, b, rfl, h1, h2, h3⟩ := h
 refine rdP h1 (.cons (.int _) (.cons (.str _) (.cons ?_ (.cons (rdP h3 (zcs zmo _)) .nil))))
 cases e : L.st with
 | some S => rw [e] at h2; exact zer h2
 | none => rw [e] at h2; cases (show x = .non from h2); exact .non
structure LnB (L : Ln) : Prop where
 lv : 0 ≤ L.lev /\ L.lev ≤ 2
 ru : L.ru ∈ [Str.ofString "is", "false", "not", "and", "or", "then", "all", "some", "given", "guess", "each"]
 st : ∃ S, L.st = some S /\ StOk 8 S
 rs : L.rs.length ≤ 3 /\ ∀ R ∈ L.rs, R.sm
theorem zmq {L : Ln} (h : LnB L) : PB (lnPd L) 11 900000 := by
 obtain ⟨S, e, o⟩ := h.st
 have hs := zeq o.1
 have hd := o.2.1
 have mo : ∀ {i j : Nat}, i ≤ j -> pbN i ≤ pbN j := fun {i j} hij => by
  induction hij with
  | refl => exact Nat.le_refl _
  | step _ ih => exact Nat.le_trans ih (by simp only [pbN]; omega)
 have m8 : pbN S.deep ≤ 204000 := Nat.le_trans (mo hd) (by decide)
 refine (PB.tup (k := 10) (n := 204000) fun d hm => ?_).mono (by decide) (by show 4 * 204000 + 2 * 4 + 3 ≤ _; decide)
 simp only [List.mem_cons, List.not_mem_nil, or_false] at hm
 rcases hm with rfl | rfl | rfl | rfl
 ·have hv := h.lv
  have := zlq (R := .n L.lev) (show -100 ≤ L.lev /\ L.lev ≤ 100 by omega)
  exact PB.mono this (by decide) (by decide)
 ·exact (zcr h.ru).mono (by decide) (by decide)
 ·rw [e]; exact hs.mono (by omega) m8
 ·have := h.rs.1
  exact (PB.tup (k := 0) (n := 202) fun d hd => by
   obtain ⟨R, h1, rfl⟩ := List.mem_map.mp hd
   exact zlq (h.rs.2 R h1)).mono (by decide) (by rw [List.length_map]; omega)
theorem zlr {H : Hp} {L : Nat -> Ln} {ls : List V} {p : Addr} (h : RepNs K H L ls) (hp : SqT K H p ls) : RdV K H (.tuple ((List.range ls.length).map fun i => lnPd (L i))) (.ref p) :=
 .tup hp (by simp) fun j d x h1 h2 => by
  have hj := (List.getElem?_eq_some_iff.mp h2).1
  rw [List.getElem?_map, List.getElem?_range hj] at h1
  cases h1
  exact zmp (h j x h2)
theorem zls {L : Nat -> Ln} {n : Nat} (hn : n ≤ 3) (h : ∀ i, i < n -> LnB (L i)) : PB (.tuple ((List.range n).map fun i => lnPd (L i))) 12 3000000 :=
 (PB.tup (k := 11) (n := 900000) fun d hd => by
  obtain ⟨i, hi, rfl⟩ := List.mem_map.mp hd
  exact zmq (h i (List.mem_range.mp hi))).mono (by decide) (by rw [List.length_map, List.length_range]; omega)
def L6 (l0 : Nat) (A S : Stm) (tw : Bool) (l1 : Nat) (ru : Str) (rs : List Rf) (i : Nat) : Ln :=
 if i = 0 then ⟨(l0 : Int), (if l0 = 0 then "given" else "guess"), some A, []⟩ else if tw = true /\ i = 1 then ⟨1, "guess", some S, []⟩ else ⟨(l1 : Int), ru, some S, rs⟩
def n6 (tw : Bool) : Nat := if tw = true then 2 else 1
def ss6 (l0 : Nat) (tw : Bool) (ru : Str) : List Str := (if l0 = 0 then Str.ofString "given" else "guess") :: (if tw = true then ["guess", ru] else [ru])
def g6 (l0 l1 : Nat) (tw : Bool) (i : Nat) : Nat := if i = 0 then l0 else if tw = true /\ i = 1 then 1 else l1
theorem zmr {l0 l1 : Nat} {tw : Bool} {ru : Str} (h0 : l0 = 0 \/ l0 = 1) (h1 : l1 = 0 \/ l1 = 1) (hr : ru = "each" \/ ru = "some") (ht : (l1 = 0 -> tw = false)) :
  zcY (fun i => pathAt (ss6 l0 tw ru) (g6 l0 l1 tw) (i + 1)) (n6 tw) 0 = (decide (l0 = 0) || (decide (l1 = 1) && decide (n6 tw = 1))) := by
 rcases hr with rfl | rfl
 all_goals rcases h0 with rfl | rfl
 all_goals rcases h1 with rfl | rfl
 all_goals cases tw
 all_goals first
  | exact absurd (ht rfl) (by decide)
  | decide +kernel
theorem lv6 {l0 l1 : Nat} {tw : Bool} {ru : Str} (h0 : l0 = 0 \/ l0 = 1) (h1 : l1 = 0 \/ l1 = 1) (hr : ru = "each" \/ ru = "some") (ht : (l1 = 0 -> tw = false)) (hs : l0 = 0 -> l1 = 1 -> tw = true) : LvOk (ss6 l0 tw ru) (g6 l0 l1 tw) (n6 tw + 1) := by
  rcases hr with rfl | rfl
  all_goals rcases h0 with rfl | rfl
  all_goals rcases h1 with rfl | rfl
  all_goals cases tw
  all_goals first
    | exact absurd (ht rfl) (by decide)
    | exact absurd (hs rfl rfl) (by decide)
    | (intro j hj
       match j, hj with
       | 0, _ => decide +kernel
       | 1, _ => decide +kernel
       | 2, hj => first | decide +kernel | exact absurd hj (by decide))
theorem at6 {l0 l1 : Nat} {A S : Stm} {tw : Bool} {ru : Str} {rs : List Rf} : ∀ i, i < n6 tw + 1 -> (L6 l0 A S tw l1 ru rs i).lev = (g6 l0 l1 tw i : Int) /\ (L6 l0 A S tw l1 ru rs i).ru = (ss6 l0 tw ru).getD i "" := by
 intro i hi
 cases tw with
 | true =>
  match i, hi with
  | 0, _ => exact ⟨rfl, rfl⟩
  | 1, _ => exact ⟨rfl, rfl⟩
  | 2, _ => exact ⟨rfl, rfl⟩
 | false =>
  match i, hi with
  | 0, _ => exact ⟨rfl, rfl⟩
  | 1, _ => exact ⟨rfl, rfl⟩
theorem ans6 {l0 l1 : Nat} {A S : Stm} {tw : Bool} {ru : Str} {rs : List Rf} {f : Nat -> List Nat} {N : Nat} {gg : Stm -> List Tk -> Bool} (hg : gg = fEach \/ gg = fSome) (hrs : ∀ R0 R1, rs = [R0, R1] -> zcq R1 = true -> isZ R0 = true \/ ∀ i, R0 ≠ .n i) :
  ansW (L6 l0 A S tw l1 ru rs) f N (n6 tw) [false, true] gg S = (dueB gg A S rs && zcY f (n6 tw) 0) := by
 have hn : (L6 l0 A S tw l1 ru rs (n6 tw)).rs = rs := by cases tw <;> rfl
 have h00 : (L6 l0 A S tw l1 ru rs 0).st = some A := rfl
 have hn1 : 0 < n6 tw := by cases tw <;> decide
 unfold ansW
 rw [hn]
 generalize n6 tw = k at hn1
 match rs, hrs with
 | [], _ => rfl
 | [_], _ => rfl
 | R0 :: R1 :: R2 :: l, _ =>
  have e1 : dueB gg A S (R0 :: R1 :: R2 :: l) = false := by cases R1 <;> rfl
  rw [e1, decide_eq_false (by simp), Bool.false_and, Bool.false_and]
 | [R0, R1], hrs =>
  show (true && (((!(tkL (L6 l0 A S tw l1 ru [R0, R1]) f k R0).isN) && ((!(tkN R1).isN) && true)) && gg S [tkL (L6 l0 A S tw l1 ru [R0, R1]) f k R0, tkN R1])) = _
  rw [Bool.true_and, Bool.and_true]
  cases R1 with
  | s t =>
   cases ht : isNm t with
   | false =>
    have e1 : tkN (.s t) = .non := if_neg (by rw [ht]; decide)
    have e2 : dueB gg A S [R0, .s t] = false := by show (isZ R0 && (isNm t && _)) = false; rw [ht, Bool.false_and, Bool.and_false]
    rw [e1, e2]
    show ((_ && false) && _) = _
    rw [Bool.and_false, Bool.false_and, Bool.false_and]
   | true =>
    have e1 : tkN (.s t) = .nm t := if_pos ht
    rw [e1]
    show ((_ && true) && _) = _
    rw [Bool.and_true]
    have e2 : dueB gg A S [R0, .s t] = (isZ R0 && gg S [.st A, .nm t]) := by show (isZ R0 && (isNm t && _)) = _; rw [ht, Bool.true_and]
    rw [e2]
    have hno : tk f k R0 = none -> isZ R0 = false \/ zcY f k 0 = false -> ((!(tkL (L6 l0 A S tw l1 ru [R0, .s t]) f k R0).isN) && gg S [tkL (L6 l0 A S tw l1 ru [R0, .s t]) f k R0, .nm t]) = ((isZ R0 && gg S [.st A, .nm t]) && zcY f k 0) := fun h hz => by
     have : tkL (L6 l0 A S tw l1 ru [R0, .s t]) f k R0 = .non := by unfold tkL; rw [h]
     rw [this]
     rcases hz with z | z
     ·rw [z]; rfl
     ·rw [z, Bool.and_false]; rfl
    rcases hrs R0 (.s t) rfl ht with z | z
    ·cases R0 with
     | n i =>
      have hi : i = 0 := of_decide_eq_true z
      subst hi
      cases hs : zcY f k 0 with
      | false => exact hs ▸ hno (if_neg fun q => by have := q.2.2; rw [show ((0 : Int)).toNat = 0 from rfl, hs] at this; cases this) (.inr hs)
      | true =>
       have e3 : tk f k (.n 0) = some 0 := if_pos ⟨by decide, by omega, hs⟩
       have e4 : tkL (L6 l0 A S tw l1 ru [.n 0, .s t]) f k (.n 0) = .st A := by unfold tkL; rw [e3]; rfl
       rw [e4, Bool.and_true]
       rfl
     | _ => cases z
    ·cases R0 with
     | n i => exact absurd rfl (z i)
     | _ => exact hno rfl (.inl rfl)
  | _ =>
   show ((_ && false) && _) = (false && _)
   rw [Bool.and_false, Bool.false_and, Bool.false_and]
theorem Rz {n : Str} (hn : Nm smallS n) : (Rf.s n).sm := (zhW (.inl hn)).2
theorem sz3 {n : Nat} (h : n ≤ 3000000) : n ≤ sizeLine := Nat.le_trans h (by rw [sizeLine_eq]; decide)
theorem ok_law (T : Tx K mg D) : FnOk P w K mg base0 CX0 60 D.a_e9 D.d_e9 ["_law_script"] (zgq K) := by
 have G_b5 := @zbN P w _ _ base0 _ T
 have G_e0 := @zgP P w _ _ base0 _ T
 have G_e7 := @zhV P w _ _ base0 _ T
 have G_b4 := @zdE P w _ _ base0 _ T
 have G_e6 := @zhP P w _ _ base0 _ T
 have G_d5 := @zfC P w _ _ base0 _ T
 have G_e5 := @zhU P w _ _ base0 _ T
 refine T.F_e9.ok sc_e9 (fun vs H Q E h => ?_) (fun cdv A outer s H vs Q E hr h => ?_)
 ·obtain ⟨a, ns, rfl, _⟩ := h; rfl
 obtain ⟨a, ns, rfl, hS, hl, kQ⟩ := h
 have hu := hr.units
 have hr_b5 : Room 1 _ := hr.mono (by decide)
 have hr_e0 : Room 2 _ := hr.mono (by decide)
 have hr_e7 : Room 12 _ := hr.mono (by decide)
 have hr_b4 : Room 1 _ := hr.mono (by decide)
 have hr_e6 : Room 4 _ := hr.mono (by decide)
 have hr_d5 : Room 23 _ := hr.mono (by decide)
 have hr_e5 : Room 12 _ := hr.mono (by decide)
 refine ⟨_, (zaf (zat (i := 1) sc_e9.nd (by rfl) (by walk_at "o") (zal G_e0 hr_e0 (by rfl) T.m_e0 T.F_e0.kp T.b_e0 .nil za2 (zaa (pv 0) (zaa zad zah))))
  (zaf (zat (i := 2) sc_e9.nd (by rfl) (by walk_at "o") (zal G_e7 hr_e7 (by rfl) T.m_e7 T.F_e7.kp T.b_e7 .nil za2 (zaa (pv 0) (zaa (pv 1) zah))))
  (zaf (zat (i := 3) sc_e9.nd (by rfl) (by walk_at "o") (zaN (zaa zad (zaa (zam (ixA K) (pv 2) zad (fun _ _ => rfl)) zah))))
  (zaf (zat (i := 4) sc_e9.nd (by rfl) (by walk_at "o") (zal G_b5 hr_b5 (by rfl) T.m_b5 T.F_b5.kp T.b_b5 .nil za2 (zaa (pv 0) (zaa zad zah))))
  (zaf (zaH (zap (zbd K hu) (zaq zav (pv 4) zad) zad (zar _)) (zai (zat (i := 3) sc_e9.nd (by rfl) (by walk_at "o") (zaN (zaa (zam (ixA K) (zaN (zaa zad (zaa zad (zaa (zlv zjO zad) (zaa zdo (zaa (zam (ixA K) (pv 2) zad (fun _ _ => rfl)) zah)))))) (zaq zav (zaq zaI (pv 4) zad) zad) (fun _ _ => rfl)) (zaa (zal G_b4 hr_b4 (by rfl) T.m_b4 T.F_b4.kp T.b_b4 .nil za2 (zaa (zaq zaI (pv 4) zad) zah)) zah))))) zau)
  (zaf (zaH (zap (zbd K hu) (zaq zav (pv 4) zad) zad (zar _)) (zai (zat (i := 3) sc_e9.nd (by rfl) (by walk_at "o") (zam (ixA K) (zaN (zaa (zaN (zaa zad zah)) (zaa (zaN (zaa (zam (ixA K) (pv 2) zad (fun _ _ => rfl)) (zaa zad zah))) (zaa (zaN (zaa zad (zaa (zam (ixA K) (pv 2) zad (fun _ _ => rfl)) (zaa (zam (ixA K) (pv 2) zad (fun _ _ => rfl)) zah)))) (zaa (zaN (zaa zad (zaa (zam (ixA K) (zam (ixA K) (pv 1) zad (fun _ _ => rfl)) zad (fun _ _ => rfl)) zah))) zah))))) (zaq zav (zaq zaI (pv 4) zad) zad) (fun _ _ => rfl)))) zau)
  (zaf (zat (i := 5) sc_e9.nd (by rfl) (by walk_at "o") (zam (ixA K) (pv 2) (zaq (za5 K) zad (zaO zcF (by rfl) T.z_int (by rfl) (zaa (za1 (zbd K hu) (zam (ixA K) (pv 2) zad (fun _ _ => rfl)) zao (zar _)) zah))) (fun _ _ => rfl)))
  (zaf (zat (i := 6) sc_e9.nd (by rfl) (by walk_at "o") (zam (ixA K) (pv 2) (zaq zbW zad (zaO zcF (by rfl) T.z_int (by rfl) (zaa (za1 (zbd K hu) (zam (ixA K) (pv 2) zad (fun _ _ => rfl)) zao (zar _)) zah))) (fun _ _ => rfl)))
  (zaf (zat (i := 7) sc_e9.nd (by rfl) (by walk_at "o") (zam (ixA K) (zaN (zaa (zaM (zaa zad (zaa zad zah))) (zaa (zaM (zaa zad (zaa zad zah))) (zaa (zaM (zaa zad (zaa zad zah))) (zaa (zaM (zaa zad (zaa zad zah))) zah))))) (zaq zav (zal G_b5 hr_b5 (by rfl) T.m_b5 T.F_b5.kp T.b_b5 .nil za2 (zaa (pv 0) (zaa zad zah))) zad) (fun _ _ => rfl)))
  (zaf (zat (i := 8) sc_e9.nd (by rfl) (by walk_at "o") (zaN (zaa (zaM (zaa (zam (ixA K) (pv 7) zad (fun _ _ => rfl)) (zaa (zam (ixA K) (zaN (zaa zao (zaa zao zah))) (zam (ixA K) (pv 7) zad (fun _ _ => rfl)) (fun _ _ => rfl)) (zaa (pv 5) (zaa (zaM zah) zah))))) zah)))
  (zaf (zaH (zap (zbd K hu) (zam (ixA K) (pv 7) zad (fun _ _ => rfl)) zad (zar _)) (zai (zc5 (zeQ K PySem.F.plainAttrs_list PySem.F.slot_list_append PySem.F.type_list_append zcl (pv 8) (zaa (zaM (zaa zad (zaa zao (zaa (pv 6) (zaa (zaM zah) zah))))) zah)))) zau)
  (zaf (zaH (PW.pt (zfH (zap (zbd K hu) (pv 7) (zaM (zaa zad (zaa zad zah))) (zar _)) (zet (zap (zbd K hu) (zaq zav (zaq zaI (zal G_b5 hr_b5 (by rfl) T.m_b5 T.F_b5.kp T.b_b5 .nil za2 (zaa (pv 0) (zaa zad zah))) zad) zad) zad (zar _))))) (zai (zat (i := 8) sc_e9.nd (by rfl) (by walk_at "o") (zbg (slB K) (pv 8) zbr (zbs zad)))) zau)
  (zaf (zat (i := 9) sc_e9.nd (by rfl) (by walk_at "o") (zaO (zaU K) (by rfl) T.z_tuple (by rfl) (zaa (zaq (za5 K) (pv 8) (zaN (zaa (zaM (zaa (zam (ixA K) (pv 7) zad (fun _ _ => rfl)) (zaa (zam (ixA K) (pv 2) zad (fun _ _ => rfl)) (zaa (pv 6) (zaa (zaO (zaU K) (by rfl) T.z_tuple (by rfl) (zaa (pv 3) zah)) zah))))) zah))) zah)))
  (zaf (zat (i := 10) sc_e9.nd (by rfl) (by walk_at "o") (zax (zdn K hr.gd hu) (by rfl) T.z_repr (by rfl) (zaa (pv 9) zah)))
  (zaf (zat (i := 11) sc_e9.nd (by rfl) (by walk_at "o") (zal G_e6 hr_e6 (by rfl) T.m_e6 T.F_e6.kp T.b_e6 .nil za2 (zaa (pv 9) zah)))
  (zaf (zat (i := 12) sc_e9.nd (by rfl) (by walk_at "o") (zax (za4 K) (by rfl) T.z_len PySem.boot_len (zaa (pv 8) zah)))
  (zaf (zat (i := 13) sc_e9.nd (by rfl) (by walk_at "o") (zal G_d5 hr_d5 (by rfl) T.m_d5 T.F_d5.kp T.b_d5 .nil za2 (zaa (pv 9) (zaa (pv 11) (zaa (pv 12) zah)))))
  (zaf (zc5 (zal G_d5 hr_d5 (by rfl) T.m_d5 T.F_d5.kp T.b_d5 .nil za2 (zaa (pv 9) (zaa (pv 11) (zaa zad zah)))))
  (zaf (zat (i := 14) sc_e9.nd (by rfl) (by walk_at "o") (zbh (zal G_e5 hr_e5 (by rfl) T.m_e5 T.F_e5.kp T.b_e5 .nil za2 (zaa (zam (ixA K) (pv 2) zad (fun _ _ => rfl)) (zaa (pv 5) (zaa (pv 6) (zaa (pv 3) zah))))) (zb0 (zlu (za1 (zbd K hu) (zam (ixA K) (pv 7) zad (fun _ _ => rfl)) zad (zar _)) (zb0 (zbh (za1 (zbd K hu) (zam (ixA K) (pv 7) zad (fun _ _ => rfl)) zad (zar _)) (zb0 (za1 (zbd K hu) (pv 12) zad (zar _)))))))))
  (zai (zas (zbh (zax (zbz K "bool") (by rfl) T.z_isinstance (by rfl) (zaa (pv 13) (zaa (zch (v := .ty "bool") (by rfl) T.z_bool (by rfl) (by rfl)) zah))) (zbh (za1 (zbd K hu) (pv 13) (pv 14) (zar _)) (zbh (za1 (zbd K hu) (zal G_d5 hr_d5 (by rfl) T.m_d5 T.F_d5.kp T.b_d5 .nil za2 (zaa (pv 9) (zaa (pv 11) (zaa (pv 12) zah)))) (pv 14) (zar _)) (zb0 (za1 (zbd K hu) (zax (zdn K hr.gd hu) (by rfl) T.z_repr (by rfl) (zaa (pv 9) zah)) (pv 10) (zar _))))))))))))))))))))))))))), ?_⟩
 walk_at "S"
 refine za0 (fun σ' H' => ∃ (dp np wp : Addr) (nm wd : List Str), σ' = [some (.ref a), some (.ref dp), none, none, none, none, none, none, none, none, none, none, none, none, none] /\ Same H H' /\ H' dp = some (.lst [.ref np, .ref wp]) /\ H' np = some (.lst (nm.map V.str)) /\ H' wp = some (.lst (wd.map V.str)) /\ nm.length = 3 /\ wd.length = 3 /\ (∀ t ∈ nm, Nm smallS t) /\ (∀ t ∈ wd, Nm smallS t)) (fun N hN => ?_) fun σ' H1 hv => ?_
 ·walk_at ""
  exact ⟨a, ns, _, rfl, hS, hl, by decide, fun p np wp nm wd H1 s1 h1 h2 h3 h4 h5 h6 h7 => hN _ _ ⟨p, np, wp, nm, wd, rfl, s1, h1, h2, h3, h4, h5, h6, h7⟩⟩
 obtain ⟨dp, np, wp, nm, wd, rfl, s1, d1, d2, d3, d4, d5, d6, d7⟩ := hv
 refine za0 (fun σ' H' => ∃ (q : Addr) (ru : Str) (W B : Stm) (v u : V) (n : Str), σ' = [some (.ref a), some (.ref dp), some (.ref q), none, none, none, none, none, none, none, none, none, none, none, none] /\ Same H1 H' /\ SqL K H' q [.str ru, v, u, .str n] /\ RepS K H' W v /\ RepS K H' B u /\ StOk 8 W /\ StOk 8 B /\ (ru = "each" \/ ru = "some") /\ Nm smallS n) (fun N hN => ?_) fun σ' H2 hv => ?_
 ·walk_at ""
  exact ⟨a, dp, np, wp, ns, nm, wd, rfl, s1.seq hS, hl, d1, d2, d3, d4, d5, d6, d7, fun q ru W B v u n H2 s2 h1 h2 h3 h4 h5 h6 h7 => hN _ _ ⟨q, ru, W, B, v, u, n, rfl, s2, h1, h2, h3, h4, h5, h6, h7⟩⟩
 obtain ⟨q, ru, W, B, v, u, n, rfl, s2, hq, rW, rB, oW, oB, hru, hn⟩ := hv
 have hS2 := (s1.trans s2).seq hS
 have hdp := s2 _ _ d1
 have hnp := s2 _ _ d2
 clear s1 s2 d1 d2 d3
 refine za0 (fun σ' H' => Same H2 H' /\ ∃ rp : Addr, SqL K H' rp ([Rf.n 0, Rf.s n].map Rf.v) /\ σ' = [some (.ref a), some (.ref dp), some (.ref q), some (.ref rp), none, none, none, none, none, none, none, none, none, none, none]) (fun N hN => ?_) fun σ' H3 hv => ?_
 ·walk_at ""
  exact ⟨_, .inl hq, _, zae (j := 3) rfl, zan (show 2 ≤ 100000 by decide), fun p hp => hN _ _ ⟨zab hp _, p, SqL.of zac, rfl⟩⟩
 obtain ⟨s3, rp, hrp, rfl⟩ := hv
 refine za0 (fun σ' H' => H' = H3 /\ ∃ c : Int, 0 ≤ c /\ σ' = [some (.ref a), some (.ref dp), some (.ref q), some (.ref rp), some (.int c), none, none, none, none, none, none, none, none, none, none]) (fun N hN => ?_) fun σ' H4 hv => ?_
 ·walk_at ""
  exact ⟨a, ns, _, rfl, s3.seq hS2, hl, by decide, fun c c0 c1 => hN _ _ ⟨rfl, c, c0, rfl⟩⟩
 obtain ⟨rfl, c, c0, rfl⟩ := hv
 refine za0 (fun σ' H' => Same H2 H' /\ ∃ (rp : Addr) (rs : List Rf), SqL K H' rp (rs.map Rf.v) /\ ((∀ R ∈ rs, R.sm) /\ rs.length ≤ 3 /\ ∀ R0 R1, rs = [R0, R1] -> zcq R1 = true -> isZ R0 = true \/ ∀ i, R0 ≠ .n i) /\ σ' = [some (.ref a), some (.ref dp), some (.ref q), some (.ref rp), some (.int c), none, none, none, none, none, none, none, none, none, none]) (fun N hN => ?_) fun σ' H5 hv => ?_
 ·walk_at ""
  refine ⟨by decide, ite2 (fun _ => ?_) fun _ => hN _ _ ⟨s3, rp, _, hrp, ⟨fun R hR => ?_, (show 2 ≤ 3 by decide), fun R0 R1 e _ => ?_⟩, rfl⟩⟩
  ·refine ⟨1, rfl, _, .inl (s3.seq hq), _, zae (j := 3) rfl, zan (show 5 ≤ 100000 by decide), fun p hp => ⟨cdiv, by decide, ?_⟩⟩
   have sp := zab hp (.lst [V.int 0, V.int 1, V.int (-1), V.bl false, V.str n])
   have m0 := Int.emod_nonneg (c / 6) (show (5 : Int) ≠ 0 by decide)
   have m1 := Int.emod_lt_of_pos (c / 6) (show (0 : Int) < 5 by decide)
   obtain ⟨R0, e0, hR0⟩ : ∃ R0 : Rf, atI [V.int 0, V.int 1, V.int (-1), V.bl false, V.str n] (c / 6 % 5) = some R0.v /\ R0.sm := by
    obtain ⟨j, hj⟩ : ∃ j : Nat, c / 6 % 5 = j := ⟨(c / 6 % 5).toNat, by omega⟩
    rw [hj]
    have hj5 : j < 5 := by omega
    match j, hj5 with
    | 0, _ => exact ⟨.n 0, zae (j := 0) rfl, by decide, by decide⟩
    | 1, _ => exact ⟨.n 1, zae (j := 1) rfl, by decide, by decide⟩
    | 2, _ => exact ⟨.n (-1), zae (j := 2) rfl, by decide, by decide⟩
    | 3, _ => exact ⟨.b false, zae (j := 3) rfl, trivial⟩
    | 4, _ => exact ⟨.s n, zae (j := 4) rfl, Rz hn⟩
   refine ⟨_, .inl (SqL.of zac), R0.v, e0, cdiv, _, rfl, Int.ediv_nonneg c0 (by decide), fun R1 H6 s6 hsm hno => ⟨zan (show 2 ≤ 100000 by decide), fun p2 hp2 => hN _ _ ⟨((s3.trans sp).trans s6).trans (zab hp2 _), p2, [R0, R1], SqL.of zac, ⟨fun R hR => ?_, (show 2 ≤ 3 by decide), fun R0' R1' e hh => ?_⟩, rfl⟩⟩⟩
   ·simp only [List.mem_cons, List.not_mem_nil, or_false] at hR
    rcases hR with rfl | rfl
    ·exact hR0
    ·exact hsm
   ·cases e
    rw [hno] at hh
    cases hh
  ·simp only [List.mem_cons, List.not_mem_nil, or_false] at hR
   rcases hR with rfl | rfl
   ·exact ⟨by decide, by decide⟩
   ·exact Rz hn
  ·cases e
   exact .inl rfl
 clear s3 hrp rp
 obtain ⟨s5, rp, rs, hrp, hrs, rfl⟩ := hv
 refine za0 (fun σ' H' => Same H2 H' /\ ∃ (rp : Addr) (rs : List Rf), SqL K H' rp (rs.map Rf.v) /\ ((∀ R ∈ rs, R.sm) /\ rs.length ≤ 3 /\ ∀ R0 R1, rs = [R0, R1] -> zcq R1 = true -> isZ R0 = true \/ ∀ i, R0 ≠ .n i) /\ σ' = [some (.ref a), some (.ref dp), some (.ref q), some (.ref rp), some (.int c), none, none, none, none, none, none, none, none, none, none]) (fun N hN => ?_) fun σ' H6 hv => ?_
 ·walk_at ""
  refine ⟨by decide, ite2 (fun _ => ?_) fun _ => hN _ _ ⟨s5, rp, rs, hrp, hrs, rfl⟩⟩
  obtain ⟨n0, n1, n2, hnm⟩ : ∃ n0 n1 n2, nm = [n0, n1, n2] := by
   match nm, d4 with
   | [x, y, z], _ => exact ⟨x, y, z, rfl⟩
  subst hnm
  have hn2 : Nm smallS n2 := d6 n2 (by simp)
  refine ⟨zan (show 1 ≤ 100000 by decide), fun p1 hp1 => ?_⟩
  have t1 := s5.trans (zab hp1 (.lst [V.int 0]))
  refine ⟨_, .inl (t1.seq hq), _, zae (j := 3) rfl, zan (show 2 ≤ 100000 by decide), fun p2 hp2 => ?_⟩
  have u2 := zab hp2 (.lst [V.str n, V.int 0])
  have t2 := t1.trans u2
  refine ⟨_, .inl (t2.seq hq), _, zae (j := 3) rfl, _, .inl (t2.seq hq), _, zae (j := 3) rfl, zan (show 3 ≤ 100000 by decide), fun p3 hp3 => ?_⟩
  have u3 := zab hp3 (.lst [V.int 0, V.str n, V.str n])
  have t3 := t2.trans u3
  refine ⟨_, .inl (SqL.of (t3 _ _ hdp)), _, zae (j := 0) rfl, ?_⟩
  (try walk_at "")
  refine ⟨_, .inl (SqL.of (t3 _ _ hnp)), _, zae (j := 2) rfl, zan (show 2 ≤ 100000 by decide), fun p4 hp4 => ⟨zan (show 4 ≤ 100000 by decide), fun p5 hp5 => ⟨cdiv, by decide, ?_⟩⟩⟩
  have u4 := zab hp4 (.lst [V.int 0, V.str n2])
  have u5 := zab hp5 (.lst [V.ref p1, V.ref p2, V.ref p3, V.ref p4])
  have t5 := (t3.trans u4).trans u5
  have m0 := Int.emod_nonneg (c / 6) (show (4 : Int) ≠ 0 by decide)
  have m1 := Int.emod_lt_of_pos (c / 6) (show (0 : Int) < 4 by decide)
  have z0 : (Rf.n 0).sm := ⟨by decide, by decide⟩
  obtain e | e | e | e : c / 6 % 4 = 0 \/ c / 6 % 4 = 1 \/ c / 6 % 4 = 2 \/ c / 6 % 4 = 3 := by omega
  ·rw [e]
   refine ⟨_, .inl (SqL.of zac), _, zae (j := 0) rfl, hN _ _ ⟨t5, p1, [.n 0], SqL.of ((((u2.trans u3).trans u4).trans u5) _ _ zac), ⟨fun R hR => ?_, by decide, fun R0 R1 e => by cases e⟩, rfl⟩⟩
   rw [List.mem_singleton.mp hR]; exact z0
  ·rw [e]
   refine ⟨_, .inl (SqL.of zac), _, zae (j := 1) rfl, hN _ _ ⟨t5, p2, [.s n, .n 0], SqL.of (((u3.trans u4).trans u5) _ _ zac), ⟨fun R hR => ?_, (show 2 ≤ 3 by decide), fun R0 R1 e hh => by cases e; cases hh⟩, rfl⟩⟩
   simp only [List.mem_cons, List.not_mem_nil, or_false] at hR
   rcases hR with rfl | rfl
   ·exact Rz hn
   ·exact z0
  ·rw [e]
   refine ⟨_, .inl (SqL.of zac), _, zae (j := 2) rfl, hN _ _ ⟨t5, p3, [.n 0, .s n, .s n], SqL.of ((u4.trans u5) _ _ zac), ⟨fun R hR => ?_, (show 3 ≤ 3 by decide), fun R0 R1 e => by cases e⟩, rfl⟩⟩
   simp only [List.mem_cons, List.not_mem_nil, or_false] at hR
   rcases hR with rfl | rfl | rfl
   ·exact z0
   ·exact Rz hn
   ·exact Rz hn
  ·rw [e]
   refine ⟨_, .inl (SqL.of zac), _, zae (j := 3) rfl, hN _ _ ⟨t5, p4, [.n 0, .s n2], SqL.of (u5 _ _ zac), ⟨fun R hR => ?_, (show 2 ≤ 3 by decide), fun R0 R1 e _ => by cases e; exact .inl rfl⟩, rfl⟩⟩
   simp only [List.mem_cons, List.not_mem_nil, or_false] at hR
   rcases hR with rfl | rfl
   ·exact z0
   ·exact Rz hn2
 clear s5 hrp hrs rs rp
 obtain ⟨s6, rp, rs, hrp, hrs, rfl⟩ := hv
 replace hq := s6.seq hq
 replace hS2 := s6.seq hS2
 replace rW := rW.same s6
 replace rB := rB.same s6
 clear s6 hdp hnp
 refine za0 (fun σ' H' => H' = H6 /\ ∃ (A : Stm) (va : V), RepS K H6 A va /\ StOk 8 A /\ σ' = [some (.ref a), some (.ref dp), some (.ref q), some (.ref rp), some (.int c), some va, none, none, none, none, none, none, none, none, none]) (fun N hN => ?_) fun σ' H7 hv => ?_
 ·walk_at ""
  refine ⟨_, .inl hq, _, zae (j := 0) rfl, ?_⟩
  rcases hru with rfl | rfl
  ·(try walk_at "")
   rw [if_neg (show ¬ Str.ofString "each" = Str.ofString "some" by decide +kernel)]
   exact ⟨_, .inl hq, _, zae (j := 1) rfl, hN _ _ ⟨rfl, W, v, rW, oW, rfl⟩⟩
  ·(try walk_at "")
   try rw [if_pos (show Str.ofString "some" = Str.ofString "some" from rfl)]
   exact ⟨_, .inl hq, _, zae (j := 2) rfl, hN _ _ ⟨rfl, B, u, rB, oB, rfl⟩⟩
 obtain ⟨rfl, A, va, rA, oA, rfl⟩ := hv
 refine za0 (fun σ' H' => H' = H7 /\ ∃ (S : Stm) (vb : V), RepS K H7 S vb /\ StOk 8 S /\ σ' = [some (.ref a), some (.ref dp), some (.ref q), some (.ref rp), some (.int c), some va, some vb, none, none, none, none, none, none, none, none]) (fun N hN => ?_) fun σ' H8 hv => ?_
 ·walk_at ""
  refine ⟨_, .inl hq, _, zae (j := 0) rfl, ?_⟩
  rcases hru with rfl | rfl
  ·(try walk_at "")
   rw [if_neg (show ¬ Str.ofString "each" = Str.ofString "some" by decide +kernel)]
   exact ⟨_, .inl hq, _, zae (j := 2) rfl, hN _ _ ⟨rfl, B, u, rB, oB, rfl⟩⟩
  ·(try walk_at "")
   try rw [if_pos (show Str.ofString "some" = Str.ofString "some" from rfl)]
   exact ⟨_, .inl hq, _, zae (j := 1) rfl, hN _ _ ⟨rfl, W, v, rW, oW, rfl⟩⟩
 obtain ⟨rfl, S, vb, rS, oS, rfl⟩ := hv
 refine za0 (fun σ' H' => Same H8 H' /\ ∃ (lv : Addr) (l0 l1 : Nat), SqT K H' lv [.int l0, .int l1] /\ (l0 = 0 \/ l0 = 1) /\ (l1 = 0 \/ l1 = 1) /\ σ' = [some (.ref a), some (.ref dp), some (.ref q), some (.ref rp), some (.int c), some va, some vb, some (.ref lv), none, none, none, none, none, none, none]) (fun N hN => ?_) fun σ' H9 hv => ?_
 ·walk_at ""
  refine ⟨zan (show 2 ≤ 100000 by decide), fun p1 hp1 => ⟨zan (show 2 ≤ 100000 by decide), fun p2 hp2 => ⟨zan (show 2 ≤ 100000 by decide), fun p3 hp3 => ⟨zan (show 2 ≤ 100000 by decide), fun p4 hp4 => ⟨zan (show 4 ≤ 100000 by decide), fun p5 hp5 => ?_⟩⟩⟩⟩⟩
  have u1 := zab hp1 (.tup [V.int 0, V.int 0])
  have u2 := zab hp2 (.tup [V.int 1, V.int 0])
  have u3 := zab hp3 (.tup [V.int 1, V.int 1])
  have u4 := zab hp4 (.tup [V.int 0, V.int 1])
  have u5 := zab hp5 (.lst [V.ref p1, V.ref p2, V.ref p3, V.ref p4])
  have t5 := (((u1.trans u2).trans u3).trans u4).trans u5
  refine ⟨a, ns, _, rfl, t5.seq hS2, hl, by decide, fun d d0 d1 => ?_⟩
  (try walk_at "")
  refine ⟨by decide, ?_⟩
  have m0 := Int.emod_nonneg d (show (4 : Int) ≠ 0 by decide)
  have m1 := Int.emod_lt_of_pos d (show (0 : Int) < 4 by decide)
  obtain e | e | e | e : d % 4 = 0 \/ d % 4 = 1 \/ d % 4 = 2 \/ d % 4 = 3 := by omega
  ·rw [e]; exact ⟨_, .inl (SqL.of zac), _, zae (j := 0) rfl, hN _ _ ⟨t5, p1, 0, 0, (((u2.trans u3).trans u4).trans u5).seqT (SqT.of zac), .inl rfl, .inl rfl, rfl⟩⟩
  ·rw [e]; exact ⟨_, .inl (SqL.of zac), _, zae (j := 1) rfl, hN _ _ ⟨t5, p2, 1, 0, ((u3.trans u4).trans u5).seqT (SqT.of zac), .inr rfl, .inl rfl, rfl⟩⟩
  ·rw [e]; exact ⟨_, .inl (SqL.of zac), _, zae (j := 2) rfl, hN _ _ ⟨t5, p3, 1, 1, (u4.trans u5).seqT (SqT.of zac), .inr rfl, .inr rfl, rfl⟩⟩
  ·rw [e]; exact ⟨_, .inl (SqL.of zac), _, zae (j := 3) rfl, hN _ _ ⟨t5, p4, 0, 1, u5.seqT (SqT.of zac), .inl rfl, .inr rfl, rfl⟩⟩
 obtain ⟨s9, lv, l0, l1, hlv, hl0, hl1, rfl⟩ := hv
 replace hq := s9.seq hq
 replace hS2 := s9.seq hS2
 replace rA := rA.same s9
 replace rS := rS.same s9
 replace hrp := s9.seq hrp
 clear s9
 refine za0 (fun σ' H' => Same H9 H' /\ ∃ (ap : Addr) (v0 : V), H9 ap = none /\ H' ap = some (.lst [v0]) /\ RepN K H' ⟨(l0 : Int), (if l0 = 0 then "given" else "guess"), some A, []⟩ v0 /\ σ' = [some (.ref a), some (.ref dp), some (.ref q), some (.ref rp), some (.int c), some va, some vb, some (.ref lv), some (.ref ap), none, none, none, none, none, none]) (fun N hN => ?_) fun σ' H10 hv => ?_
 ·walk_at ""
  refine ⟨_, .inr hlv, _, zae (j := 0) rfl, zan (show 2 ≤ 100000 by decide), fun p1 hp1 => ?_⟩
  have u1 := zab hp1 (.lst [V.str "given", V.str "guess"])
  refine ⟨_, .inr (u1.seqT hlv), _, zae (j := 0) rfl, ?_⟩
  (try walk_at "")
  have fin : ∀ rr : Str, rr = (if l0 = 0 then Str.ofString "given" else "guess") -> ([] : List V).length ≤ sizeLine /\ ∀ p2, upd H9 p1 (.lst [V.str "given", V.str "guess"]) p2 = none -> [V.int l0, V.str rr, va, .ref p2].length ≤ sizeLine /\ ∀ p3, upd (upd H9 p1 (.lst [V.str "given", V.str "guess"])) p2 (.tup []) p3 = none -> [V.ref p3].length ≤ sizeLine /\ ∀ p4, upd (upd (upd H9 p1 (.lst [V.str "given", V.str "guess"])) p2 (.tup [])) p3 (.tup [V.int l0, V.str rr, va, .ref p2]) p4 = none -> N [some (.ref a), some (.ref dp), some (.ref q), some (.ref rp), some (.int c), some va, some vb, some (.ref lv), some (.ref p4), none, none, none, none, none, none] (upd (upd (upd (upd H9 p1 (.lst [V.str "given", V.str "guess"])) p2 (.tup [])) p3 (.tup [V.int l0, V.str rr, va, .ref p2])) p4 (.lst [V.ref p3])) := fun rr hrr => by
   subst hrr
   refine ⟨Nat.zero_le _, fun p2 hp2 => ⟨zan (show 4 ≤ 100000 by decide), fun p3 hp3 => ⟨zan (show 1 ≤ 100000 by decide), fun p4 hp4 => ?_⟩⟩⟩
   have u2 := zab hp2 (.tup [])
   have u3 := zab hp3 (.tup [V.int l0, V.str (if l0 = 0 then Str.ofString "given" else "guess"), va, .ref p2])
   have u4 := zab hp4 (.lst [V.ref p3])
   have t3 := (u1.trans u2).trans u3
   have e4 : H9 p4 = none := by
    cases e : H9 p4 with
    | none => rfl
    | some z => rw [t3 _ _ e] at hp4; cases hp4
   exact hN _ _ ⟨t3.trans u4, p4, .ref p3, e4, zac, ⟨p3, va, p2, rfl, u4.seqT (SqT.of zac), RepS.same (S := A) (t3.trans u4) rA, (u3.trans u4).seqT (SqT.of zac)⟩, rfl⟩
  rcases hl0 with rfl | rfl
  ·exact ⟨_, .inl (SqL.of zac), _, zae (j := 0) rfl, fin _ rfl⟩
  ·exact ⟨_, .inl (SqL.of zac), _, zae (j := 1) rfl, fin _ rfl⟩
 obtain ⟨s10, ap, v0, hap0, hap, r0, rfl⟩ := hv
 refine za0 (fun σ' H' => Same H9 H' /\ ∃ (tw : Bool) (v1 : V), H' ap = some (.lst (if tw = true then [v0, v1] else [v0])) /\ RepN K H' ⟨(l0 : Int), (if l0 = 0 then "given" else "guess"), some A, []⟩ v0 /\ (tw = true -> RepN K H' ⟨1, "guess", some S, []⟩ v1) /\ tw = decide (l1 = 1) /\ σ' = [some (.ref a), some (.ref dp), some (.ref q), some (.ref rp), some (.int c), some va, some vb, some (.ref lv), some (.ref ap), none, none, none, none, none, none]) (fun N hN => ?_) fun σ' H11 hv => ?_
 ·walk_at ""
  refine ⟨_, .inr (s10.seqT hlv), _, zae (j := 1) rfl, ?_⟩
  (try walk_at "")
  refine ite2 (fun c1 => ?_) fun c1 => hN _ _ ⟨s10, false, .non, hap, r0, fun z => (by cases z), (decide_eq_false (by omega)).symm, rfl⟩
  refine ⟨⟨_, SqL.of hap⟩, Nat.zero_le _, fun p2 hp2 => ⟨zan (show 4 ≤ 100000 by decide), fun p3 hp3 => ?_⟩⟩
  have u2 := zab hp2 (.tup [])
  have u3 := zab hp3 (.tup [V.int 1, V.str "guess", vb, .ref p2])
  have t3 := u2.trans u3
  have hap3 := t3 _ _ hap
  refine ⟨[v0], hap3, zbb (show 1 ≤ 100000 by decide), hN _ _ ⟨(s10.trans t3).upd hap0, true, .ref p3, zac, (r0.same t3).keepL hap3, fun _ => RepN.keepL hap3 ⟨p3, vb, p2, rfl, SqT.of zac, RepS.same (S := S) (s10.trans t3) rS, u3.seqT (SqT.of zac)⟩, (decide_eq_true (by omega)).symm, rfl⟩⟩
 clear r0 hap s10
 obtain ⟨s11, tw, v1, hap, r0, r1, htw, rfl⟩ := hv
 refine za0 (fun σ' H' => Same H9 H' /\ ∃ (ap : Addr) (tw : Bool) (v1 : V), H' ap = some (.lst (if tw = true then [v0, v1] else [v0])) /\ RepN K H' ⟨(l0 : Int), (if l0 = 0 then "given" else "guess"), some A, []⟩ v0 /\ (tw = true -> RepN K H' ⟨1, "guess", some S, []⟩ v1) /\ (l1 = 0 -> tw = false) /\ (l0 = 0 -> l1 = 1 -> tw = true) /\ σ' = [some (.ref a), some (.ref dp), some (.ref q), some (.ref rp), some (.int c), some va, some vb, some (.ref lv), some (.ref ap), none, none, none, none, none, none]) (fun N hN => ?_) fun σ' H12 hv => ?_
 ·have keep : ∀ H', Same H11 H' -> N [some (.ref a), some (.ref dp), some (.ref q), some (.ref rp), some (.int c), some va, some vb, some (.ref lv), some (.ref ap), none, none, none, none, none, none] H' := fun H' s' => hN _ _ ⟨s11.trans s', ap, tw, v1, s' _ _ hap, r0.same s', fun z => (r1 z).same s', fun z => by rw [htw, z]; rfl, fun _ z => by rw [htw, z]; rfl, rfl⟩
  walk_at ""
  refine ⟨zan (show 2 ≤ 100000 by decide), fun p2 hp2 => ?_⟩
  have u2 := zab hp2 (.tup [V.int 1, V.int 1])
  refine ⟨.tup [.int l0, .int l1], .tup [.int 1, .int 1], RepD.t2 ((s11.trans u2).seqT hlv) (.int _) (.int _), RepD.t2 (SqT.of zac) (.int _) (.int _), (show 1 ≤ 60 by decide), ite2 (fun e1 => ?_) fun _ => keep _ u2⟩
  have e2 : l0 = 1 /\ l1 = 1 := by
   injection e1 with e1
   injection e1 with e2 e3
   injection e3 with e3
   injection e2 with e2
   injection e3 with e3
   omega
  refine ⟨a, ns, _, rfl, (s11.trans u2).seq hS2, hl, by decide, fun d d0 d1 => ?_⟩
  (try walk_at "")
  refine ⟨cdiv, by decide, ite2 (fun _ => ?_) fun _ => keep _ u2⟩
  refine ⟨_, .inl ⟨SqL.of (u2 _ _ hap), fun q1 hq1 => ?_⟩⟩
  have u3 := zab hq1 (.lst (cutV (if tw = true then [v0, v1] else [v0]) none (some 1)))
  refine hN _ _ ⟨(s11.trans u2).trans u3, q1, false, v1, ?_, r0.same (u2.trans u3), fun z => (by cases z), fun _ => rfl, fun z => absurd z (by omega), rfl⟩
  rw [zac]
  cases tw <;> rfl
 clear r0 r1 hap htw s11 v1 hap0 tw ap
 obtain ⟨s12, ap, tw, v1, hap, r0, r1, ht0, ht1, rfl⟩ := hv
 replace hq := s12.seq hq
 replace hS2 := s12.seq hS2
 replace rA := rA.same s12
 replace rS := rS.same s12
 replace hrp := s12.seq hrp
 replace hlv := s12.seqT hlv
 clear s12
 obtain ⟨hsm, hrl, hrz⟩ := hrs
 have hap' : SqL K H12 ap (if tw = true then [v0, v1] else [v0]) := SqL.of hap
 have hlen : ((if tw = true then [v0, v1] else [v0]).length : Int) = (n6 tw : Int) := by cases tw <;> rfl
 refine za0 (fun σ' H' => Same H12 H' /\ ∃ (hp : Addr) (ls : List V), SqT K H' hp ls /\ RepNs K H' (L6 l0 A S tw l1 ru rs) ls /\ ls.length = n6 tw + 1 /\ σ' = [some (.ref a), some (.ref dp), some (.ref q), some (.ref rp), some (.int c), some va, some vb, some (.ref lv), some (.ref ap), some (.ref hp), none, none, none, none, none]) (fun N hN => ?_) fun σ' H13 hv => ?_
 ·walk_at ""
  refine ⟨_, .inr hlv, _, zae (j := 1) rfl, _, .inl hq, _, zae (j := 0) rfl, _, .inl ⟨hrp, fun p1 hp1 => ?_⟩⟩
  have u1 := zab hp1 (.tup (rs.map Rf.v))
  refine ⟨zan (show 4 ≤ 100000 by decide), fun p2 hp2 => ⟨zan (show 1 ≤ 100000 by decide), fun p3 hp3 => ?_⟩⟩
  have u2 := zab hp2 (.tup [V.int l1, V.str ru, vb, .ref p1])
  have u3 := zab hp3 (.lst [V.ref p2])
  have t3 := (u1.trans u2).trans u3
  refine ⟨_, _, .inl ⟨t3 _ _ hap, zac, zan (by cases tw; exact (show 2 ≤ 100000 by decide); exact (show 3 ≤ 100000 by decide)), fun p4 hp4 => ⟨_, .inl ⟨SqL.of zac, fun p5 hp5 => ?_⟩⟩⟩⟩
  have u4 := zab hp4 (.lst ((if tw = true then [v0, v1] else [v0]) ++ [V.ref p2]))
  have u5 := zab hp5 (.tup ((if tw = true then [v0, v1] else [v0]) ++ [V.ref p2]))
  have t5 := (t3.trans u4).trans u5
  have rl : RepN K (upd (upd (upd (upd (upd H12 p1 (.tup (rs.map Rf.v))) p2 (.tup [V.int l1, V.str ru, vb, .ref p1])) p3 (.lst [V.ref p2])) p4 (.lst ((if tw = true then [v0, v1] else [v0]) ++ [V.ref p2]))) p5 (.tup ((if tw = true then [v0, v1] else [v0]) ++ [V.ref p2]))) ⟨(l1 : Int), ru, some S, rs⟩ (.ref p2) :=
   ⟨p2, vb, p1, rfl, ((u3.trans u4).trans u5).seqT (SqT.of zac), RepS.same (S := S) t5 rS, (((u2.trans u3).trans u4).trans u5).seqT (SqT.of zac)⟩
  refine hN _ _ ⟨t5, p5, _, SqT.of zac, fun i x hx => ?_, by cases tw <;> rfl, rfl⟩
  replace r0 := r0.same t5
  replace r1 := fun z => (r1 z).same t5
  cases tw with
  | true =>
   match i, hx with
   | 0, hx => cases hx; exact r0
   | 1, hx => cases hx; exact r1 rfl
   | 2, hx => cases hx; exact rl
   | i + 3, hx => cases hx
  | false =>
   match i, hx with
   | 0, hx => cases hx; exact r0
   | 1, hx => cases hx; exact rl
   | i + 2, hx => cases hx
 obtain ⟨s13, hp, ls, hhp, hNs, hln, rfl⟩ := hv
 replace hq := s13.seq hq
 replace rA := rA.same s13
 replace rS := rS.same s13
 replace hrp := s13.seq hrp
 replace hlv := s13.seqT hlv
 replace hap' := s13.seq hap'
 clear s13 r0 r1 hap hS2
 have hru' : ru ∈ [Str.ofString "is", "false", "not", "and", "or", "then", "all", "some", "given", "guess", "each"] := by rcases hru with rfl | rfl <;> simp
 have hB : ∀ i, i < n6 tw + 1 -> LnB (L6 l0 A S tw l1 ru rs i) := fun i hi => by
  unfold L6
  by_cases e0 : i = 0
  ·rw [if_pos e0]
   exact ⟨⟨by show (0 : Int) ≤ (l0 : Int); omega, by show (l0 : Int) ≤ 2; omega⟩, by show (if l0 = 0 then Str.ofString "given" else "guess") ∈ _; split <;> simp, ⟨A, rfl, oA⟩, ⟨Nat.zero_le _, fun R hR => by cases hR⟩⟩
  ·rw [if_neg e0]
   by_cases e1 : tw = true /\ i = 1
   ·rw [if_pos e1]
    exact ⟨⟨(show (0 : Int) ≤ 1 by decide), (show (1 : Int) ≤ 2 by decide)⟩, by simp, ⟨S, rfl, oS⟩, ⟨Nat.zero_le _, fun R hR => by cases hR⟩⟩
   ·rw [if_neg e1]
    exact ⟨⟨by show (0 : Int) ≤ (l1 : Int); omega, by show (l1 : Int) ≤ 2; omega⟩, hru', ⟨S, rfl, oS⟩, ⟨hrl, hsm⟩⟩
 have hn3 : n6 tw + 1 ≤ 3 := by cases tw <;> decide
 have hPB := zls (L := L6 l0 A S tw l1 ru rs) (n := ls.length) (by omega) fun i hi => hB i (by omega)
 obtain ⟨dat, hdat⟩ : ∃ d, d = PyData.tuple ((List.range ls.length).map fun i => lnPd (L6 l0 A S tw l1 ru rs i)) := ⟨_, rfl⟩
 rw [<- hdat] at hPB
 have hrd : ∀ {H' : Hp}, Same H13 H' -> RdV K H' dat (.ref hp) := fun e => by rw [hdat]; exact zlr (hNs.same e) (e.seqT hhp)
 refine za0 (fun σ' H' => H' = H13 /\ σ' = [some (.ref a), some (.ref dp), some (.ref q), some (.ref rp), some (.int c), some va, some vb, some (.ref lv), some (.ref ap), some (.ref hp), some (.str dat.shown), none, none, none, none]) (fun N hN => ?_) fun σ' H14 hv => ?_
 ·walk_at ""
  exact ⟨dat, hrd (Same.refl _), hPB.sh, hPB.nd, Nat.le_trans hPB.dp (by decide), sz3 hPB.ln, hN _ _ ⟨rfl, rfl⟩⟩
 obtain ⟨rfl, rfl⟩ := hv
 have hvo := lv6 hl0 hl1 hru ht0 ht1
 refine za0 (fun σ' H' => Same H14 H' /\ ∃ ba ps, LnsAt K H' hp ba ls ps (L6 l0 A S tw l1 ru rs) (ss6 l0 tw ru) (g6 l0 l1 tw) /\ σ' = [some (.ref a), some (.ref dp), some (.ref q), some (.ref rp), some (.int c), some va, some vb, some (.ref lv), some (.ref ap), some (.ref hp), some (.str dat.shown), some (.ref ba), none, none, none]) (fun N hN => ?_) fun σ' H15 hv => ?_
 ·walk_at ""
  have hfit : ∀ i, i ≤ ls.length -> zbw (fun i => ((g6 l0 l1 tw i : Int), (ss6 l0 tw ru).getD i "")) i = some (pathAt (ss6 l0 tw ru) (g6 l0 l1 tw) i) := fun i hi => zfb hvo i (by omega) fun j _ => rfl
  have hLn : zjo K H14 (fun i => ((g6 l0 l1 tw i : Int), (ss6 l0 tw ru).getD i "")) ls := fun i x hx => by
   obtain ⟨a1, x1, b1, h1, h2, _⟩ := hNs i x hx
   obtain ⟨e1, e2⟩ := at6 (l0 := l0) (l1 := l1) (A := A) (S := S) (tw := tw) (ru := ru) (rs := rs) i (by have := (List.getElem?_eq_some_iff.mp hx).1; omega)
   rw [e1, e2] at h2
   exact ⟨a1, x1, _, h1, h2⟩
  refine ⟨hp, ls, _, rfl, hhp, hLn, by omega, by rw [hfit _ (Nat.le_refl _)]; simp, fun b ps H' s' hb hpl hP => hN _ _ ⟨s', b, ps, ⟨s'.seqT hhp, hNs.same s', hb, fun i x hx => ?_, hpl.symm, fun i hi => (at6 i (by omega)).2, fun i hi z => ?_, by omega⟩, rfl⟩⟩
  ·have hi : i < ls.length := by have := (List.getElem?_eq_some_iff.mp hx).1; omega
   obtain ⟨aa, e, hs⟩ := hP i x hx
   refine ⟨aa, e, ?_⟩
   have e2 : (zbw (fun i => ((g6 l0 l1 tw i : Int), (ss6 l0 tw ru).getD i "")) (i + 1)).getD [] = pathAt (ss6 l0 tw ru) (g6 l0 l1 tw) (i + 1) := by rw [hfit (i + 1) (by omega)]; rfl
   show SqT K H' aa (iv (pathAt (ss6 l0 tw ru) (g6 l0 l1 tw) (i + 1)))
   rw [<- e2]
   exact hs
  ·have := (hB i (by omega)).ru
   rw [z] at this
   exact absurd this (by decide +kernel)
 obtain ⟨s15, ba, ps, hA, rfl⟩ := hv
 have hpl : ps.length = n6 tw + 1 := by rw [<- hA.len]; exact hln
 replace hrd : ∀ {H' : Hp}, Same H15 H' -> RdV K H' dat (.ref hp) := fun e => hrd (s15.trans e)
 replace hq := s15.seq hq
 replace rA := rA.same s15
 replace rS := rS.same s15
 replace hrp := s15.seq hrp
 replace hlv := s15.seqT hlv
 replace hap' := s15.seq hap'
 clear s15 hNs hhp
 obtain ⟨gg, hgg⟩ : ∃ gg, (ru = "each" /\ gg = fEach) \/ (ru = "some" /\ gg = fSome) := by
  rcases hru with z | z
  ·exact ⟨_, .inl ⟨z, rfl⟩⟩
  ·exact ⟨_, .inr ⟨z, rfl⟩⟩
 have hg2 : gg = fEach \/ gg = fSome := hgg.elim (fun z => .inl z.2) fun z => .inr z.2
 obtain ⟨ra, wa, fa, hrow⟩ : ∃ ra wa fa, Row2 D ru ra wa fa [false, true] gg := by
  rcases hgg with ⟨rfl, rfl⟩ | ⟨rfl, rfl⟩
  ·exact ⟨_, _, _, .each⟩
  ·exact ⟨_, _, _, .some⟩
 have hLn : L6 l0 A S tw l1 ru rs (n6 tw) = ⟨(l1 : Int), ru, some S, rs⟩ := by cases tw <;> rfl
 obtain ⟨F, hF⟩ : ∃ F, ansW (L6 l0 A S tw l1 ru rs) (fun i => pathAt (ss6 l0 tw ru) (g6 l0 l1 tw) (i + 1)) ps.length (n6 tw) [false, true] gg S = F := ⟨_, rfl⟩
 have hF2 : F = (dueB gg A S rs && (decide (l0 = 0) || (decide (l1 = 1) && decide (n6 tw = 1)))) := by
  rw [<- hF, ans6 hg2 hrz, zmr hl0 hl1 hru ht0]
 have hokO : ∀ i, i < ps.length -> okO (L6 l0 A S tw l1 ru rs i).st := fun i hi S' e => by
  obtain ⟨S2, e2, o2⟩ := (hB i (by omega)).st
  rw [e2] at e
  cases e
  exact ⟨Nat.le_trans o2.2.1 (by decide), o2.1⟩
 have hfol : ∀ (H' : Hp) (Q' : VK), Same H15 H' -> (∀ H2, Same H' H2 -> Q' (.bl F) H2) -> zen D K [.ref hp, .ref ba, .int (n6 tw)] H' Q' E0 := fun H' Q' s' kk =>
  ⟨n6 tw, hp, ba, ls, ps, L6 l0 A S tw l1 ru rs, _, _, S, rfl, hA.same s', by omega, by rw [hLn]; show rs.length ≤ 10; omega, hokO, by rw [hLn]; exact hsm, by rw [hLn], oS.mono (by decide), .inr ⟨ra, wa, fa, _, gg, by rw [hLn]; exact hrow, fun H2 s2 => by rw [hF]; exact kk H2 s2⟩⟩
 refine za0 (fun σ' H' => H' = H15 /\ σ' = [some (.ref a), some (.ref dp), some (.ref q), some (.ref rp), some (.int c), some va, some vb, some (.ref lv), some (.ref ap), some (.ref hp), some (.str dat.shown), some (.ref ba), some (.int (n6 tw)), none, none]) (fun N hN => ?_) fun σ' H16 hv => ?_
 ·walk_at ""
  refine ⟨_, .inl hap', ?_⟩
  rw [hlen]
  exact hN _ _ ⟨rfl, rfl⟩
 obtain ⟨rfl, rfl⟩ := hv
 refine za0 (fun σ' H' => Same H16 H' /\ σ' = [some (.ref a), some (.ref dp), some (.ref q), some (.ref rp), some (.int c), some va, some vb, some (.ref lv), some (.ref ap), some (.ref hp), some (.str dat.shown), some (.ref ba), some (.int (n6 tw)), some (.bl F), none]) (fun N hN => ?_) fun σ' H17 hv => ?_
 ·walk_at ""
  exact hfol H16 _ (Same.refl _) fun H2 s2 => hN _ _ ⟨s2, rfl⟩
 obtain ⟨s17, rfl⟩ := hv
 refine za0 (fun σ' H' => Same H16 H' /\ σ' = [some (.ref a), some (.ref dp), some (.ref q), some (.ref rp), some (.int c), some va, some vb, some (.ref lv), some (.ref ap), some (.ref hp), some (.str dat.shown), some (.ref ba), some (.int (n6 tw)), some (.bl F), none]) (fun N hN => ?_) fun σ' H18 hv => ?_
 ·walk_at ""
  refine ⟨0, hp, ba, ls, ps, L6 l0 A S tw l1 ru rs, _, _, A, rfl, hA.same s17, by omega, Nat.zero_le _, hokO, (fun R hR => by cases hR), rfl, oA.mono (by decide), .inl ⟨?_, rfl, fun b H' s' => hN _ _ ⟨s17.trans s', rfl⟩⟩⟩
  show (if l0 = 0 then Str.ofString "given" else "guess") = "given" \/ (if l0 = 0 then Str.ofString "given" else "guess") = "guess"
  split
  ·exact .inl rfl
  ·exact .inr rfl
 clear s17
 obtain ⟨s18, rfl⟩ := hv
 refine za0 (fun σ' H' => Same H16 H' /\ σ' = [some (.ref a), some (.ref dp), some (.ref q), some (.ref rp), some (.int c), some va, some vb, some (.ref lv), some (.ref ap), some (.ref hp), some (.str dat.shown), some (.ref ba), some (.int (n6 tw)), some (.bl F), some (.bl F)]) (fun N hN => ?_) fun σ' H19 hv => ?_
 ·walk_at ""
  refine ⟨_, .inl (s18.seq hq), _, zae (j := 0) rfl, ru, va, vb, A, S, rp, rs, gg, rfl, rA.same s18, rS.same s18, Nat.le_trans oA.2.1 (by decide), Nat.le_trans oS.2.1 (by decide), oA.1, oS.1, s18.seq hrp, hsm, hgg, fun H2 s2 => ?_⟩
  have s2' := s18.trans s2
  have fin : ∀ b, b = F -> N [some (.ref a), some (.ref dp), some (.ref q), some (.ref rp), some (.int c), some va, some vb, some (.ref lv), some (.ref ap), some (.ref hp), some (.str dat.shown), some (.ref ba), some (.int (n6 tw)), some (.bl F), some (.bl b)] H2 := fun b e => by rw [e]; exact hN _ _ ⟨s2', rfl⟩
  refine ⟨_, rfl, ite2 (fun c1 => ?_) fun c1 => fin false (by rw [hF2, show dueB gg A S rs = false by simpa using c1]; rfl)⟩
  rw [c1, Bool.true_and] at hF2
  refine ⟨_, .inr (s2'.seqT hlv), _, zae (j := 0) rfl, ?_⟩
  (try walk_at "")
  refine ite2 (fun c2 => fin true (by rw [hF2, decide_eq_true (show l0 = 0 by omega)]; rfl)) fun c2 => ?_
  rw [decide_eq_false (show ¬ l0 = 0 by omega), Bool.false_or] at hF2
  refine ⟨_, .inr (s2'.seqT hlv), _, zae (j := 1) rfl, ?_⟩
  (try walk_at "")
  refine ite2 (fun c3 => fin _ ?_) fun c3 => fin false (by rw [hF2, decide_eq_false (show ¬ l1 = 1 by omega)]; rfl)
  rw [hF2, decide_eq_true (show l1 = 1 by omega), Bool.true_and]
  exact decide_eq_decide.mpr (by omega)
 clear s18
 obtain ⟨s19, rfl⟩ := hv
 walk_at ""
 refine ⟨true, rfl, ?_⟩
 rw [if_pos rfl]
 refine hfol H19 _ s19 fun H2 s2 => ?_
 (try walk_at "")
 refine ⟨dat, hrd (s19.trans s2), hPB.sh, hPB.nd, Nat.le_trans hPB.dp (by decide), sz3 hPB.ln, ?_⟩
 rw [decide_eq_true rfl]
 exact kQ _
end
local macro_rules | `(tactic| walk_at "b1") => `(tactic| exact fun _ _ _ _ _ _ us hl => match us, hl with | [_], _ => rfl)
local macro_rules | `(tactic| walk_at "b2") => `(tactic| exact fun _ _ _ _ _ _ us hl => match us, hl with | [_, _], _ => rfl)
local macro_rules | `(tactic| walk_at "b3") => `(tactic| exact fun _ _ _ _ _ _ us hl => match us, hl with | [_, _, _], _ => rfl)
local macro_rules | `(tactic| walk_at "b4") => `(tactic| exact fun _ _ _ _ _ _ us hl => match us, hl with | [_, _, _, _], _ => rfl)
theorem all_mk {l : W.OpenLaw} {w : World} {K : W.Frag} {h : Heap} {mg : Str -> Option Value} {fa : Addr} (X : K.In h) (G : h.Ns mainGlobals mg) (hfa : mg "law" = some (.ref fa)) {f0 f1 f2 f3 f4 f5 f6 f7 f8 f9 f10 f11 f12 f13 f14 f15 f16 f17 f18 f19 f20 f21 f22 f23 f24 f25 f26 f27 f28 f29 f30 f31 f32 f33 f34 f35 f36 f37 f38 f39 f40 f41 f42 f43 f44 f45 f46 f47 f48 f49 f50 : Addr}
  {od0 an0 od1 an1 od2 an2 od3 an3 od4 an4 od5 an5 od6 an6 od7 an7 od8 an8 od9 an9 od10 an10 od11 an11 od12 an12 od13 an13 od14 an14 od15 an15 od16 an16 od17 an17 od18 an18 od19 an19 od20 an20 od21 an21 od22 an22 od23 an23 od24 an24 od25 an25 od26 an26 od27 an27 od28 an28 od29 an29 od30 an30 od31 an31 od32 an32 od33 an33 od34 an34 od35 an35 od36 an36 : Option Addr} {sl0 sl1 sl2 sl3 sl4 sl5 sl6 sl7 sl8 sl9 sl10 sl11 sl12 sl13 sl14 sl15 sl16 sl17 sl18 sl19 sl20 sl21 sl22 sl23 sl24 sl25 sl26 sl27 sl28 sl29 sl30 sl31 sl32 sl33 sl34 sl35 sl36 : Array (Option Value)} {oc0 kV0 dc0 pm0 cd0 ct0 oc1 kV1 dc1 pm1 cd1 ct1 oc2 kV2 dc2 pm2 cd2 ct2 oc3 kV3 dc3 pm3 cd3 ct3 oc4 kV4 dc4 pm4 cd4 ct4 oc5 kV5 dc5 pm5 cd5 ct5 oc6 kV6 dc6 pm6 cd6 ct6 oc7 kV7 dc7 pm7 cd7 ct7 oc8 kV8 dc8 pm8 cd8 ct8 oc9 kV9 dc9 pm9 cd9 ct9 oc10 kV10 dc10 pm10 cd10 ct10 oc11 kV11 dc11 pm11 cd11 ct11 oc12 kV12 dc12 pm12 cd12 ct12 oc13 kV13 dc13 pm13 cd13 ct13 oc14 kV14 dc14 pm14 cd14 ct14 oc15 kV15 dc15 pm15 cd15 ct15 oc16 kV16 dc16 pm16 cd16 ct16 oc17 kV17 dc17 pm17 cd17 ct17 oc18 kV18 dc18 pm18 cd18 ct18 oc19 kV19 dc19 pm19 cd19 ct19 oc20 kV20 dc20 pm20 cd20 ct20 oc21 kV21 dc21 pm21 cd21 ct21 oc22 kV22 dc22 pm22 cd22 ct22 oc23 kV23 dc23 pm23 cd23 ct23 oc24 kV24 dc24 pm24 cd24 ct24 oc25 kV25 dc25 pm25 cd25 ct25 oc26 kV26 dc26 pm26 cd26 ct26 oc27 kV27 dc27 pm27 cd27 ct27 oc28 kV28 dc28 pm28 cd28 ct28 oc29 kV29 dc29 pm29 cd29 ct29 oc30 kV30 dc30 pm30 cd30 ct30 oc31 kV31 dc31 pm31 cd31 ct31 oc32 kV32 dc32 pm32 cd32 ct32 oc33 kV33 dc33 pm33 cd33 ct33 oc34 kV34 dc34 pm34 cd34 ct34 oc35 kV35 dc35 pm35 cd35 ct35 oc36 kV36 dc36 pm36 cd36 ct36 : Value}
  {oC_Ahead : Addr} (oa_Ahead : W.nsIn K mainGlobals "Ahead" = some (some (.ref oC_Ahead)))
  (a0 : W.nsIn K mainGlobals "seen" = some (some (.ref f0))) (l0 : K.lookup f0 = some ⟨oc0, od0, .func (W.fnOf "seen" "seen" (zak zce) (zaj zce) (zag zce) .none kV0 dc0 pm0 an0 cd0 ct0), sl0⟩) (c0 : W.codeIn K cd0 "seen" = true) (k0 : W.keepIn K (.ref f0) = true)
  (a1 : W.nsIn K mainGlobals "begins_with" = some (some (.ref f1))) (l1 : K.lookup f1 = some ⟨oc1, od1, .func (W.fnOf "begins_with" "begins_with" (zak zaK) (zaj zaK) (zag zaK) .none kV1 dc1 pm1 an1 cd1 ct1), sl1⟩) (c1 : W.codeIn K cd1 "begins_with" = true) (k1 : W.keepIn K (.ref f1) = true)
  (a2 : W.nsIn K mainGlobals "opens" = some (some (.ref f2))) (l2 : K.lookup f2 = some ⟨oc2, od2, .func (W.fnOf "opens" "opens" (zak zbA) (zaj zbA) (zag zbA) .none kV2 dc2 pm2 an2 cd2 ct2), sl2⟩) (c2 : W.codeIn K cd2 "opens" = true) (k2 : W.keepIn K (.ref f2) = true)
  (a3 : W.nsIn K mainGlobals "boxes" = some (some (.ref f3))) (l3 : K.lookup f3 = some ⟨oc3, od3, .func (W.fnOf "boxes" "boxes" (zak zbB) (zaj zbB) (zag zbB) .none kV3 dc3 pm3 an3 cd3 ct3), sl3⟩) (c3 : W.codeIn K cd3 "boxes" = true) (k3 : W.keepIn K (.ref f3) = true)
  (a4 : W.nsIn K mainGlobals "fitting_boxes" = some (some (.ref f4))) (l4 : K.lookup f4 = some ⟨oc4, od4, .func (W.fnOf "fitting_boxes" "fitting_boxes" (zak zaA) (zaj zaA) (zag zaA) .none kV4 dc4 pm4 an4 cd4 ct4), sl4⟩) (c4 : W.codeIn K cd4 "fitting_boxes" = true) (k4 : W.keepIn K (.ref f4) = true)
  (a5 : W.nsIn K mainGlobals "boxes_behind" = some (some (.ref f5))) (l5 : K.lookup f5 = some ⟨oc5, od5, .func (W.fnOf "boxes_behind" "boxes_behind" (zak zaE) (zaj zaE) (zag zaE) .none kV5 dc5 pm5 an5 cd5 ct5), sl5⟩) (c5 : W.codeIn K cd5 "boxes_behind" = true) (k5 : W.keepIn K (.ref f5) = true)
  (a6 : W.nsIn K mainGlobals "begins_and_goes_on" = some (some (.ref f6))) (l6 : K.lookup f6 = some ⟨oc6, od6, .func (W.fnOf "begins_and_goes_on" "begins_and_goes_on" (zak zaw) (zaj zaw) (zag zaw) .none kV6 dc6 pm6 an6 cd6 ct6), sl6⟩) (c6 : W.codeIn K cd6 "begins_and_goes_on" = true) (k6 : W.keepIn K (.ref f6) = true)
  (a7 : W.nsIn K mainGlobals "is_name" = some (some (.ref f7))) (l7 : K.lookup f7 = some ⟨oc7, od7, .func (W.fnOf "is_name" "is_name" (zak zbj) (zaj zbj) (zag zbj) .none kV7 dc7 pm7 an7 cd7 ct7), sl7⟩) (c7 : W.codeIn K cd7 "is_name" = true) (k7 : W.keepIn K (.ref f7) = true)
  (a8 : W.nsIn K mainGlobals "is_letter" = some (some (.ref f8))) (l8 : K.lookup f8 = some ⟨oc8, od8, .func (W.fnOf "is_letter" "is_letter" (zak zaV) (zaj zaV) (zag zaV) .none kV8 dc8 pm8 an8 cd8 ct8), sl8⟩) (c8 : W.codeIn K cd8 "is_letter" = true) (k8 : W.keepIn K (.ref f8) = true)
  (a9 : W.nsIn K mainGlobals "parts" = some (some (.ref f9))) (l9 : K.lookup f9 = some ⟨oc9, od9, .func (W.fnOf "parts" "parts" (zak zbC) (zaj zbC) (zag zbC) .none kV9 dc9 pm9 an9 cd9 ct9), sl9⟩) (c9 : W.codeIn K cd9 "parts" = true) (k9 : W.keepIn K (.ref f9) = true)
  (a10 : W.nsIn K mainGlobals "free_terms_in" = some (some (.ref f10))) (l10 : K.lookup f10 = some ⟨oc10, od10, .func (W.fnOf "free_terms_in" "free_terms_in" (zak zaB) (zaj zaB) (zag zaB) .none kV10 dc10 pm10 an10 cd10 ct10), sl10⟩) (c10 : W.codeIn K cd10 "free_terms_in" = true) (k10 : W.keepIn K (.ref f10) = true)
  (a11 : W.nsIn K mainGlobals "free_in" = some (some (.ref f11))) (l11 : K.lookup f11 = some ⟨oc11, od11, .func (W.fnOf "free_in" "free_in" (zak zbk) (zaj zbk) (zag zbk) .none kV11 dc11 pm11 an11 cd11 ct11), sl11⟩) (c11 : W.codeIn K cd11 "free_in" = true) (k11 : W.keepIn K (.ref f11) = true)
  (a12 : W.nsIn K mainGlobals "put" = some (some (.ref f12))) (l12 : K.lookup f12 = some ⟨oc12, od12, .func (W.fnOf "put" "put" (zak zd6) (zaj zd6) (zag zd6) .none kV12 dc12 pm12 an12 cd12 ct12), sl12⟩) (c12 : W.codeIn K cd12 "put" = true) (k12 : W.keepIn K (.ref f12) = true)
  (a13 : W.nsIn K mainGlobals "by_each" = some (some (.ref f13))) (l13 : K.lookup f13 = some ⟨oc13, od13, .func (W.fnOf "by_each" "by_each" (zak zbl) (zaj zbl) (zag zbl) .none kV13 dc13 pm13 an13 cd13 ct13), sl13⟩) (c13 : W.codeIn K cd13 "by_each" = true) (k13 : W.keepIn K (.ref f13) = true)
  (a14 : W.nsIn K mainGlobals "by_some" = some (some (.ref f14))) (l14 : K.lookup f14 = some ⟨oc14, od14, .func (W.fnOf "by_some" "by_some" (zak zbm) (zaj zbm) (zag zbm) .none kV14 dc14 pm14 an14 cd14 ct14), sl14⟩) (c14 : W.codeIn K cd14 "by_some" = true) (k14 : W.keepIn K (.ref f14) = true)
  (a15 : W.nsIn K mainGlobals "name_for" = some (some (.ref f15))) (l15 : K.lookup f15 = some ⟨oc15, od15, .func (W.fnOf "name_for" "name_for" (zak zbf) (zaj zbf) (zag zbf) .none kV15 dc15 pm15 an15 cd15 ct15), sl15⟩) (c15 : W.codeIn K cd15 "name_for" = true) (k15 : W.keepIn K (.ref f15) = true)
  (a16 : W.nsIn K mainGlobals "follows" = some (some (.ref f16))) (l16 : K.lookup f16 = some ⟨oc16, od16, .func (W.fnOf "follows" "follows" (zak zbn) (zaj zbn) (zag zbn) .none kV16 dc16 pm16 an16 cd16 ct16), sl16⟩) (c16 : W.codeIn K cd16 "follows" = true) (k16 : W.keepIn K (.ref f16) = true)
  (a17 : W.nsIn K mainGlobals "follows_behind" = some (some (.ref f17))) (l17 : K.lookup f17 = some ⟨oc17, od17, .func (W.fnOf "follows_behind" "follows_behind" (zak za6) (zaj za6) (zag za6) .none kV17 dc17 pm17 an17 cd17 ct17), sl17⟩) (c17 : W.codeIn K cd17 "follows_behind" = true) (k17 : W.keepIn K (.ref f17) = true)
  (a18 : W.nsIn K mainGlobals "fits_its_rule" = some (some (.ref f18))) (l18 : K.lookup f18 = some ⟨oc18, od18, .func (W.fnOf "fits_its_rule" "fits_its_rule" (zak zaC) (zaj zaC) (zag zaC) .none kV18 dc18 pm18 an18 cd18 ct18), sl18⟩) (c18 : W.codeIn K cd18 "fits_its_rule" = true) (k18 : W.keepIn K (.ref f18) = true)
  (a19 : W.nsIn K mainGlobals "follows_by" = some (some (.ref f19))) (l19 : K.lookup f19 = some ⟨oc19, od19, .func (W.fnOf "follows_by" "follows_by" (zak zaP) (zaj zaP) (zag zaP) .none kV19 dc19 pm19 an19 cd19 ct19), sl19⟩) (c19 : W.codeIn K cd19 "follows_by" = true) (k19 : W.keepIn K (.ref f19) = true)
  (a20 : W.nsIn K mainGlobals "stands_for" = some (some (.ref f20))) (l20 : K.lookup f20 = some ⟨oc20, od20, .func (W.fnOf "stands_for" "stands_for" (zak zaQ) (zaj zaQ) (zag zaQ) .none kV20 dc20 pm20 an20 cd20 ct20), sl20⟩) (c20 : W.codeIn K cd20 "stands_for" = true) (k20 : W.keepIn K (.ref f20) = true)
  (a21 : W.nsIn K mainGlobals "is_number_ahead" = some (some (.ref f21))) (l21 : K.lookup f21 = some ⟨oc21, od21, .func (W.fnOf "is_number_ahead" "is_number_ahead" (zak za3) (zaj za3) (zag za3) .none kV21 dc21 pm21 an21 cd21 ct21), sl21⟩) (c21 : W.codeIn K cd21 "is_number_ahead" = true) (k21 : W.keepIn K (.ref f21) = true)
  (a22 : W.nsIn K mainGlobals "statement_of" = some (some (.ref f22))) (l22 : K.lookup f22 = some ⟨oc22, od22, .func (W.fnOf "statement_of" "statement_of" (zak zaF) (zaj zaF) (zag zaF) .none kV22 dc22 pm22 an22 cd22 ct22), sl22⟩) (c22 : W.codeIn K cd22 "statement_of" = true) (k22 : W.keepIn K (.ref f22) = true)
  (a23 : W.nsIn K mainGlobals "_law_cell_at" = some (some (.ref f23))) (l23 : K.lookup f23 = some ⟨oc23, od23, .func (W.fnOf "_law_cell_at" "_law_cell_at" (zak zaW) (zaj zaW) (zag zaW) .none kV23 dc23 pm23 an23 cd23 ct23), sl23⟩) (c23 : W.codeIn K cd23 "_law_cell_at" = true) (k23 : W.keepIn K (.ref f23) = true)
  (a24 : W.nsIn K mainGlobals "_law_name_by" = some (some (.ref f24))) (l24 : K.lookup f24 = some ⟨oc24, od24, .func (W.fnOf "_law_name_by" "_law_name_by" (zak zaX) (zaj zaX) (zag zaX) .none kV24 dc24 pm24 an24 cd24 ct24), sl24⟩) (c24 : W.codeIn K cd24 "_law_name_by" = true) (k24 : W.keepIn K (.ref f24) = true)
  (a25 : W.nsIn K mainGlobals "_law_letter_by" = some (some (.ref f25))) (l25 : K.lookup f25 = some ⟨oc25, od25, .func (W.fnOf "_law_letter_by" "_law_letter_by" (zak zaL) (zaj zaL) (zag zaL) .none kV25 dc25 pm25 an25 cd25 ct25), sl25⟩) (c25 : W.codeIn K cd25 "_law_letter_by" = true) (k25 : W.keepIn K (.ref f25) = true)
  (a26 : W.nsIn K mainGlobals "_law_made" = some (some (.ref f26))) (l26 : K.lookup f26 = some ⟨oc26, od26, .func (W.fnOf "_law_made" "_law_made" (zak zbx) (zaj zbx) (zag zbx) .none kV26 dc26 pm26 an26 cd26 ct26), sl26⟩) (c26 : W.codeIn K cd26 "_law_made" = true) (k26 : W.keepIn K (.ref f26) = true)
  (a27 : W.nsIn K mainGlobals "_law_draw" = some (some (.ref f27))) (l27 : K.lookup f27 = some ⟨oc27, od27, .func (W.fnOf "_law_draw" "_law_draw" (zak zby) (zaj zby) (zag zby) .none kV27 dc27 pm27 an27 cd27 ct27), sl27⟩) (c27 : W.codeIn K cd27 "_law_draw" = true) (k27 : W.keepIn K (.ref f27) = true)
  (a28 : W.nsIn K mainGlobals "_law_put" = some (some (.ref f28))) (l28 : K.lookup f28 = some ⟨oc28, od28, .func (W.fnOf "_law_put" "_law_put" (zak zbD) (zaj zbD) (zag zbD) .none kV28 dc28 pm28 an28 cd28 ct28), sl28⟩) (c28 : W.codeIn K cd28 "_law_put" = true) (k28 : W.keepIn K (.ref f28) = true)
  (a29 : W.nsIn K mainGlobals "_law_is_name" = some (some (.ref f29))) (l29 : K.lookup f29 = some ⟨oc29, od29, .func (W.fnOf "_law_is_name" "_law_is_name" (zak zaY) (zaj zaY) (zag zaY) .none kV29 dc29 pm29 an29 cd29 ct29), sl29⟩) (c29 : W.codeIn K cd29 "_law_is_name" = true) (k29 : W.keepIn K (.ref f29) = true)
  (a30 : W.nsIn K mainGlobals "_law_slipped" = some (some (.ref f30))) (l30 : K.lookup f30 = some ⟨oc30, od30, .func (W.fnOf "_law_slipped" "_law_slipped" (zak zaZ) (zaj zaZ) (zag zaZ) .none kV30 dc30 pm30 an30 cd30 ct30), sl30⟩) (c30 : W.codeIn K cd30 "_law_slipped" = true) (k30 : W.keepIn K (.ref f30) = true)
  (a31 : W.nsIn K mainGlobals "_law_odd_name" = some (some (.ref f31))) (l31 : K.lookup f31 = some ⟨oc31, od31, .func (W.fnOf "_law_odd_name" "_law_odd_name" (zak zaR) (zaj zaR) (zag zaR) .none kV31 dc31 pm31 an31 cd31 ct31), sl31⟩) (c31 : W.codeIn K cd31 "_law_odd_name" = true) (k31 : W.keepIn K (.ref f31) = true)
  (a32 : W.nsIn K mainGlobals "_law_due" = some (some (.ref f32))) (l32 : K.lookup f32 = some ⟨oc32, od32, .func (W.fnOf "_law_due" "_law_due" (zak zbE) (zaj zbE) (zag zbE) .none kV32 dc32 pm32 an32 cd32 ct32), sl32⟩) (c32 : W.codeIn K cd32 "_law_due" = true) (k32 : W.keepIn K (.ref f32) = true)
  (a33 : W.nsIn K mainGlobals "_law_two" = some (some (.ref f33))) (l33 : K.lookup f33 = some ⟨oc33, od33, .func (W.fnOf "_law_two" "_law_two" (zak zbF) (zaj zbF) (zag zbF) .none kV33 dc33 pm33 an33 cd33 ct33), sl33⟩) (c33 : W.codeIn K cd33 "_law_two" = true) (k33 : W.keepIn K (.ref f33) = true)
  (a34 : W.nsIn K mainGlobals "law" = some (some (.ref f34))) (l34 : K.lookup f34 = some ⟨oc34, od34, .func (W.fnOf "law" "law" (zak zd7) (zaj zd7) (zag zd7) .none kV34 dc34 pm34 an34 cd34 ct34), sl34⟩) (c34 : W.codeIn K cd34 "law" = true) (k34 : W.keepIn K (.ref f34) = true)
  (a35 : W.findIn K (.ref oC_Ahead) "__init__" = some (some (.ref f35))) (i35 : W.isFn K (.ref f35) = true) (l35 : K.lookup f35 = some ⟨oc35, od35, .func (W.fnOf "__init__" "Ahead.__init__" (zak zaS) (zaj zaS) (zag zaS) .none kV35 dc35 pm35 an35 cd35 ct35), sl35⟩) (c35 : W.codeIn K cd35 "Ahead.__init__" = true) (k35 : W.keepIn K (.ref f35) = true)
  (a36 : W.findIn K (.ref oC_Ahead) "only_givens" = some (some (.ref f36))) (i36 : W.isFn K (.ref f36) = true) (l36 : K.lookup f36 = some ⟨oc36, od36, .func (W.fnOf "only_givens" "Ahead.only_givens" (zak zaz) (zaj zaz) (zag zaz) .none kV36 dc36 pm36 an36 cd36 ct36), sl36⟩) (c36 : W.codeIn K cd36 "Ahead.only_givens" = true) (k36 : W.keepIn K (.ref f36) = true)
  {p0 : Addr} {dd0 : Option Addr} {nn0 : Nat} {ss0 : Array (Option Value)} {u0_0 u0_1 u0_2 : Tok} (g0 : W.nsIn K mainGlobals "OPENING_RULES" = some (some (.ref p0))) (q0 : K.lookup p0 = some ⟨.type "tuple", dd0, .seq #[Value.str "guess" u0_0, Value.str "new" u0_1, Value.str "case" u0_2] nn0, ss0⟩)
  {t1 : Tok} (g1 : W.nsIn K mainGlobals "SMALL" = some (some (.str "abcdefghijklmnopqrstuvwxyz" t1)))
  {t2 : Tok} (g2 : W.nsIn K mainGlobals "GREAT" = some (some (.str "ABCDEFGHIJKLMNOPQRSTUVWXYZ" t2)))
  {t3 : Tok} (g3 : W.nsIn K mainGlobals "SMALL_OR_FIGURE" = some (some (.str "abcdefghijklmnopqrstuvwxyz0123456789" t3)))
  {p4 : Addr} {dd4 : Option Addr} {nn4 : Nat} {ss4 : Array (Option Value)} {u4_0 u4_1 u4_2 u4_3 u4_4 u4_5 u4_6 : Tok} (g4 : W.nsIn K mainGlobals "KEPT_WORDS" = some (some (.ref p4))) (q4 : K.lookup p4 = some ⟨.type "tuple", dd4, .seq #[Value.str "not" u4_0, Value.str "and" u4_1, Value.str "or" u4_2, Value.str "then" u4_3, Value.str "all" u4_4, Value.str "some" u4_5, Value.str "false" u4_6] nn4, ss4⟩)
  {t5 : Tok} (g5 : W.nsIn K mainGlobals "MOST_SIGNS" = some (some (.int 8 t5)))
  {p6 : Addr} {dd6 : Option Addr} {nn6 : Nat} {ss6 : Array (Option Value)} {u6_0 u6_1 : Tok} (g6 : W.nsIn K mainGlobals "QUANTIFIERS" = some (some (.ref p6))) (q6 : K.lookup p6 = some ⟨.type "tuple", dd6, .seq #[Value.str "all" u6_0, Value.str "some" u6_1] nn6, ss6⟩)
  {p7 : Addr} {dd7 : Option Addr} {nn7 : Nat} {ss7 : Array (Option Value)} {u7_0 : Tok} (g7 : W.nsIn K mainGlobals "FALSE" = some (some (.ref p7))) (q7 : K.lookup p7 = some ⟨.type "tuple", dd7, .seq #[Value.str "false" u7_0] nn7, ss7⟩)
  {p_RULES : Addr} {nn_RULES : Nat} {th0 th1 th2 th3 th4 th5 th6 th7 th8 th9 th10 th11 th12 th13 th14 th15 : Int} {tt0 tt1 tt2 tt3 tt4 tt5 tt6 tt7 tt8 tt9 tt10 tt11 tt12 tt13 tt14 tt15 : Tok} {tr0 tw0 tr1 tw1 tr2 tw2 tr3 tw3 tr4 tw4 tr5 tw5 tr6 tw6 tr7 tw7 tr8 tw8 tr9 tw9 tr10 tw10 tr11 tw11 tr12 tw12 tr13 tw13 tr14 tw14 tr15 tw15 : Addr} (g_RULES : W.nsIn K mainGlobals "RULES" = some (some (.ref p_RULES))) (q_RULES : K.lookup p_RULES = some ⟨.type "dict", none, .dict #[⟨th0, .str "again" tt0, .ref tr0⟩, ⟨th1, .str "both" tt1, .ref tr1⟩, ⟨th2, .str "left" tt2, .ref tr2⟩, ⟨th3, .str "right" tt3, .ref tr3⟩, ⟨th4, .str "either" tt4, .ref tr4⟩, ⟨th5, .str "cases" tt5, .ref tr5⟩, ⟨th6, .str "then" tt6, .ref tr6⟩, ⟨th7, .str "use" tt7, .ref tr7⟩, ⟨th8, .str "deny" tt8, .ref tr8⟩, ⟨th9, .str "clash" tt9, .ref tr9⟩, ⟨th10, .str "absurd" tt10, .ref tr10⟩, ⟨th11, .str "any" tt11, .ref tr11⟩, ⟨th12, .str "each" tt12, .ref tr12⟩, ⟨th13, .str "every" tt13, .ref tr13⟩, ⟨th14, .str "some" tt14, .ref tr14⟩, ⟨th15, .str "one" tt15, .ref tr15⟩] nn_RULES, #[]⟩) (e_RULES : (p_RULES == sysModules) = false)
  {td0 te0 : Option Addr} {tn0 tm0 : Nat} {ts0 tz0 : Array (Option Value)} {tu0_0 : Tok} (tq0 : K.lookup tr0 = some ⟨.type "tuple", td0, .seq #[.ref tw0, .ref f37] tn0, ts0⟩) (tv0 : K.lookup tw0 = some ⟨.type "tuple", te0, .seq #[Value.str "line" tu0_0] tm0, tz0⟩)
  {td1 te1 : Option Addr} {tn1 tm1 : Nat} {ts1 tz1 : Array (Option Value)} {tu1_0 tu1_1 : Tok} (tq1 : K.lookup tr1 = some ⟨.type "tuple", td1, .seq #[.ref tw1, .ref f38] tn1, ts1⟩) (tv1 : K.lookup tw1 = some ⟨.type "tuple", te1, .seq #[Value.str "line" tu1_0, Value.str "line" tu1_1] tm1, tz1⟩)
  {td2 te2 : Option Addr} {tn2 tm2 : Nat} {ts2 tz2 : Array (Option Value)} {tu2_0 : Tok} (tq2 : K.lookup tr2 = some ⟨.type "tuple", td2, .seq #[.ref tw2, .ref f39] tn2, ts2⟩) (tv2 : K.lookup tw2 = some ⟨.type "tuple", te2, .seq #[Value.str "line" tu2_0] tm2, tz2⟩)
  {td3 te3 : Option Addr} {tn3 tm3 : Nat} {ts3 tz3 : Array (Option Value)} {tu3_0 : Tok} (tq3 : K.lookup tr3 = some ⟨.type "tuple", td3, .seq #[.ref tw3, .ref f40] tn3, ts3⟩) (tv3 : K.lookup tw3 = some ⟨.type "tuple", te3, .seq #[Value.str "line" tu3_0] tm3, tz3⟩)
  {td4 te4 : Option Addr} {tn4 tm4 : Nat} {ts4 tz4 : Array (Option Value)} {tu4_0 : Tok} (tq4 : K.lookup tr4 = some ⟨.type "tuple", td4, .seq #[.ref tw4, .ref f41] tn4, ts4⟩) (tv4 : K.lookup tw4 = some ⟨.type "tuple", te4, .seq #[Value.str "line" tu4_0] tm4, tz4⟩)
  {td5 te5 : Option Addr} {tn5 tm5 : Nat} {ts5 tz5 : Array (Option Value)} {tu5_0 tu5_1 tu5_2 : Tok} (tq5 : K.lookup tr5 = some ⟨.type "tuple", td5, .seq #[.ref tw5, .ref f42] tn5, ts5⟩) (tv5 : K.lookup tw5 = some ⟨.type "tuple", te5, .seq #[Value.str "line" tu5_0, Value.str "box" tu5_1, Value.str "box" tu5_2] tm5, tz5⟩)
  {td6 te6 : Option Addr} {tn6 tm6 : Nat} {ts6 tz6 : Array (Option Value)} {tu6_0 : Tok} (tq6 : K.lookup tr6 = some ⟨.type "tuple", td6, .seq #[.ref tw6, .ref f43] tn6, ts6⟩) (tv6 : K.lookup tw6 = some ⟨.type "tuple", te6, .seq #[Value.str "box" tu6_0] tm6, tz6⟩)
  {td7 te7 : Option Addr} {tn7 tm7 : Nat} {ts7 tz7 : Array (Option Value)} {tu7_0 tu7_1 : Tok} (tq7 : K.lookup tr7 = some ⟨.type "tuple", td7, .seq #[.ref tw7, .ref f44] tn7, ts7⟩) (tv7 : K.lookup tw7 = some ⟨.type "tuple", te7, .seq #[Value.str "line" tu7_0, Value.str "line" tu7_1] tm7, tz7⟩)
  {td8 te8 : Option Addr} {tn8 tm8 : Nat} {ts8 tz8 : Array (Option Value)} {tu8_0 : Tok} (tq8 : K.lookup tr8 = some ⟨.type "tuple", td8, .seq #[.ref tw8, .ref f45] tn8, ts8⟩) (tv8 : K.lookup tw8 = some ⟨.type "tuple", te8, .seq #[Value.str "box" tu8_0] tm8, tz8⟩)
  {td9 te9 : Option Addr} {tn9 tm9 : Nat} {ts9 tz9 : Array (Option Value)} {tu9_0 tu9_1 : Tok} (tq9 : K.lookup tr9 = some ⟨.type "tuple", td9, .seq #[.ref tw9, .ref f46] tn9, ts9⟩) (tv9 : K.lookup tw9 = some ⟨.type "tuple", te9, .seq #[Value.str "line" tu9_0, Value.str "line" tu9_1] tm9, tz9⟩)
  {td10 te10 : Option Addr} {tn10 tm10 : Nat} {ts10 tz10 : Array (Option Value)} {tu10_0 : Tok} (tq10 : K.lookup tr10 = some ⟨.type "tuple", td10, .seq #[.ref tw10, .ref f47] tn10, ts10⟩) (tv10 : K.lookup tw10 = some ⟨.type "tuple", te10, .seq #[Value.str "box" tu10_0] tm10, tz10⟩)
  {td11 te11 : Option Addr} {tn11 tm11 : Nat} {ts11 tz11 : Array (Option Value)} {tu11_0 : Tok} (tq11 : K.lookup tr11 = some ⟨.type "tuple", td11, .seq #[.ref tw11, .ref f48] tn11, ts11⟩) (tv11 : K.lookup tw11 = some ⟨.type "tuple", te11, .seq #[Value.str "line" tu11_0] tm11, tz11⟩)
  {td12 te12 : Option Addr} {tn12 tm12 : Nat} {ts12 tz12 : Array (Option Value)} {tu12_0 tu12_1 : Tok} (tq12 : K.lookup tr12 = some ⟨.type "tuple", td12, .seq #[.ref tw12, .ref f13] tn12, ts12⟩) (tv12 : K.lookup tw12 = some ⟨.type "tuple", te12, .seq #[Value.str "line" tu12_0, Value.str "name" tu12_1] tm12, tz12⟩)
  {td13 te13 : Option Addr} {tn13 tm13 : Nat} {ts13 tz13 : Array (Option Value)} {tu13_0 : Tok} (tq13 : K.lookup tr13 = some ⟨.type "tuple", td13, .seq #[.ref tw13, .ref f49] tn13, ts13⟩) (tv13 : K.lookup tw13 = some ⟨.type "tuple", te13, .seq #[Value.str "box" tu13_0] tm13, tz13⟩)
  {td14 te14 : Option Addr} {tn14 tm14 : Nat} {ts14 tz14 : Array (Option Value)} {tu14_0 tu14_1 : Tok} (tq14 : K.lookup tr14 = some ⟨.type "tuple", td14, .seq #[.ref tw14, .ref f14] tn14, ts14⟩) (tv14 : K.lookup tw14 = some ⟨.type "tuple", te14, .seq #[Value.str "line" tu14_0, Value.str "name" tu14_1] tm14, tz14⟩)
  {td15 te15 : Option Addr} {tn15 tm15 : Nat} {ts15 tz15 : Array (Option Value)} {tu15_0 tu15_1 : Tok} (tq15 : K.lookup tr15 = some ⟨.type "tuple", td15, .seq #[.ref tw15, .ref f50] tn15, ts15⟩) (tv15 : K.lookup tw15 = some ⟨.type "tuple", te15, .seq #[Value.str "line" tu15_0, Value.str "box" tu15_1] tm15, tz15⟩)
  (og_Ahead : W.plainGet K oC_Ahead Str.empty = true) (oh_Ahead : W.hasDictIn K oC_Ahead = true) (op_Ahead : W.plainOver K oC_Ahead = true) (os_Ahead : W.findIn K (.ref oC_Ahead) "__setattr__" = some (some (.builtin "object.__setattr__"))) (om_Ahead : W.makesIn K oC_Ahead = true) (ok_Ahead : W.keepIn K (.ref oC_Ahead) = true)
  (on_Ahead_lines : W.findIn K (.ref oC_Ahead) "lines" = some none)
  (on_Ahead_givens : W.findIn K (.ref oC_Ahead) "givens" = some none)
  (on_Ahead_named : W.findIn K (.ref oC_Ahead) "named" = some none)
  (on_Ahead_first_places : W.findIn K (.ref oC_Ahead) "first_places" = some none)
  {xnm0 xq0 : Str} {xC0 xN0 : Addr} {xbs0 : List Value} {xh0 : Bool} {xsn0 : List Str} {xsu0 : List Value} {xab0 : Bool} {xco0 : Option Bool} {xdd0 xod0 : Option Addr} {xka0 xkb0 xkc0 xkd0 xke0 : Option Value} {xoc0 : Value} {xes0 : List DictEntry} {xep0 : Nat} {xsl0 : Array (Option Value)}
  (xa0 : W.nsIn K mainGlobals "BoxError" = some (some (.ref xC0))) (xl0 : K.lookup xC0 = some (excClassObj xnm0 xq0 xC0 xN0 xbs0 ([.type "ValueError", .type "Exception", .type "BaseException", .type "object"]) xh0 xsn0 xsu0 xab0 xco0 xdd0 xka0 xkb0 xkc0 xkd0 xke0 "ValueError.__new__"))
  (xn0 : K.lookup xN0 = some ⟨xoc0, xod0, .dict (List.toArray xes0) xep0, xsl0⟩) (xy0 : (xes0.all fun e => match e.key with | .str _ _ => true | _ => false) = true) (xp0 : W.nsIn K xN0 "__init__" = some none) (xr0 : W.nsIn K xN0 "__getattribute__" = some none) (xu0 : W.nsIn K xN0 "__getattr__" = some none) (xv0 : W.nsIn K xN0 "__class__" = some none)
  {xnm1 xq1 : Str} {xC1 xN1 : Addr} {xbs1 : List Value} {xh1 : Bool} {xsn1 : List Str} {xsu1 : List Value} {xab1 : Bool} {xco1 : Option Bool} {xdd1 xod1 : Option Addr} {xka1 xkb1 xkc1 xkd1 xke1 : Option Value} {xoc1 : Value} {xes1 : List DictEntry} {xep1 : Nat} {xsl1 : Array (Option Value)}
  (xa1 : W.nsIn K mainGlobals "NoBox" = some (some (.ref xC1))) (xl1 : K.lookup xC1 = some (excClassObj xnm1 xq1 xC1 xN1 xbs1 (Value.ref xC0 :: [.type "ValueError", .type "Exception", .type "BaseException", .type "object"]) xh1 xsn1 xsu1 xab1 xco1 xdd1 xka1 xkb1 xkc1 xkd1 xke1 "ValueError.__new__"))
  (xn1 : K.lookup xN1 = some ⟨xoc1, xod1, .dict (List.toArray xes1) xep1, xsl1⟩) (xy1 : (xes1.all fun e => match e.key with | .str _ _ => true | _ => false) = true) (xp1 : W.nsIn K xN1 "__init__" = some none) (xr1 : W.nsIn K xN1 "__getattribute__" = some none) (xu1 : W.nsIn K xN1 "__getattr__" = some none) (xv1 : W.nsIn K xN1 "__class__" = some none)
  (z_all : W.nsIn K mainGlobals "all" = some none)
  (z_bool : W.nsIn K mainGlobals "bool" = some none)
  (z_enumerate : W.nsIn K mainGlobals "enumerate" = some none)
  (z_int : W.nsIn K mainGlobals "int" = some none)
  (z_isinstance : W.nsIn K mainGlobals "isinstance" = some none)
  (z_len : W.nsIn K mainGlobals "len" = some none)
  (z_list : W.nsIn K mainGlobals "list" = some none)
  (z_range : W.nsIn K mainGlobals "range" = some none)
  (z_repr : W.nsIn K mainGlobals "repr" = some none)
  (z_set : W.nsIn K mainGlobals "set" = some none)
  (z_sorted : W.nsIn K mainGlobals "sorted" = some none)
  (z_str : W.nsIn K mainGlobals "str" = some none)
  (z_tuple : W.nsIn K mainGlobals "tuple" = some none)
  (z_zip : W.nsIn K mainGlobals "zip" = some none)
  (OK : ∀ (P : Program) (D : Defs) (base : Heap), Tx K mg D -> FnOk P w K mg base CX0 60 D.a_e9 D.d_e9 ["_law_script"] (zgq K)) :
  ∃ fd : FuncData, (∀ (s : Shared) (v : Value), BindsTo s fd ⟨[v], []⟩ [("_law_script", v)]) /\ ∀ base : Heap, K.In base -> base.Ns mainGlobals mg -> FnOk l.prog w K mg base CX0 60 fa fd ["_law_script"] (zgq K) := by
 have e := hfa.symm.trans (W.mg_of X G a34)
 cases e
 have F0 := zaD (st := zce) l0 c0 k0
 have b0 := F0.binds (ps := ["paths", "k", "i"]) (by walk_at "b3")
 have F1 := zaD (st := zaK) l1 c1 k1
 have b1 := F1.binds (ps := ["path", "beginning"]) (by walk_at "b2")
 have F2 := zaD (st := zbA) l2 c2 k2
 have b2 := F2.binds (ps := ["rule"]) (by walk_at "b1")
 have F3 := zaD (st := zbB) l3 c3 k3
 have b3 := F3.binds (ps := ["lines"]) (by walk_at "b1")
 have F4 := zaD (st := zaA) l4 c4 k4
 have b4 := F4.binds (ps := ["lines"]) (by walk_at "b1")
 have F5 := zaD (st := zaE) l5 c5 k5
 have b5 := F5.binds (ps := ["path", "line", "k"]) (by walk_at "b3")
 have F6 := zaD (st := zaw) l6 c6 k6
 have b6 := F6.binds (ps := ["text", "first_signs"]) (by walk_at "b2")
 have F7 := zaD (st := zbj) l7 c7 k7
 have b7 := F7.binds (ps := ["text"]) (by walk_at "b1")
 have F8 := zaD (st := zaV) l8 c8 k8
 have b8 := F8.binds (ps := ["text"]) (by walk_at "b1")
 have F9 := zaD (st := zbC) l9 c9 k9
 have b9 := F9.binds (ps := ["A"]) (by walk_at "b1")
 have F10 := zaD (st := zaB) l10 c10 k10
 have b10 := F10.binds (ps := ["A"]) (by walk_at "b1")
 have F11 := zaD (st := zbk) l11 c11 k11
 have b11 := F11.binds (ps := ["A"]) (by walk_at "b1")
 have F12 := zaD (st := zd6) l12 c12 k12
 have b12 := F12.binds (ps := ["A", "letter", "name"]) (by walk_at "b3")
 have F13 := zaD (st := zbl) l13 c13 k13
 have b13 := F13.binds (ps := ["S", "taken"]) (by walk_at "b2")
 have F14 := zaD (st := zbm) l14 c14 k14
 have b14 := F14.binds (ps := ["S", "taken"]) (by walk_at "b2")
 have F15 := zaD (st := zbf) l15 c15 k15
 have b15 := F15.binds (ps := ["ref"]) (by walk_at "b1")
 have F16 := zaD (st := zbn) l16 c16 k16
 have b16 := F16.binds (ps := ["lines", "paths", "k"]) (by walk_at "b3")
 have F17 := zaD (st := za6) l17 c17 k17
 have b17 := F17.binds (ps := ["ahead", "lines", "paths", "k"]) (by walk_at "b4")
 have F18 := zaD (st := zaC) l18 c18 k18
 have b18 := F18.binds (ps := ["statement", "rule"]) (by walk_at "b2")
 have F19 := zaD (st := zaP) l19 c19 k19
 have b19 := F19.binds (ps := ["wants_and_step", "lines", "paths", "k"]) (by walk_at "b4")
 have F20 := zaD (st := zaQ) l20 c20 k20
 have b20 := F20.binds (ps := ["want", "ref", "lines", "paths", "k"]) fun _ _ _ _ _ _ us hl => match us, hl with | [_, _, _, _, _], _ => rfl
 have F21 := zaD (st := za3) l21 c21 k21
 have b21 := F21.binds (ps := ["ref", "k"]) (by walk_at "b2")
 have F22 := zaD (st := zaF) l22 c22 k22
 have b22 := F22.binds (ps := ["line"]) (by walk_at "b1")
 have F23 := zaD (st := zaW) l23 c23 k23
 have b23 := F23.binds (ps := ["_law_script", "_law_k"]) (by walk_at "b2")
 have F24 := zaD (st := zaX) l24 c24 k24
 have b24 := F24.binds (ps := ["_law_shape", "_law_cell", "_law_k"]) (by walk_at "b3")
 have F25 := zaD (st := zaL) l25 c25 k25
 have b25 := F25.binds (ps := ["_law_cell"]) (by walk_at "b1")
 have F26 := zaD (st := zbx) l26 c26 k26
 have b26 := F26.binds (ps := ["_law_number", "_law_room", "_law_terms_here", "_law_words"]) (by walk_at "b4")
 have F27 := zaD (st := zby) l27 c27 k27
 have b27 := F27.binds (ps := ["_law_script", "_law_at"]) (by walk_at "b2")
 have F28 := zaD (st := zbD) l28 c28 k28
 have b28 := F28.binds (ps := ["_law_ka", "_law_letter", "_law_name"]) (by walk_at "b3")
 have F29 := zaD (st := zaY) l29 c29 k29
 have b29 := F29.binds (ps := ["_law_thing"]) (by walk_at "b1")
 have F30 := zaD (st := zaZ) l30 c30 k30
 have b30 := F30.binds (ps := ["_law_ka", "_law_number", "_law_name"]) (by walk_at "b3")
 have F31 := zaD (st := zaR) l31 c31 k31
 have b31 := F31.binds (ps := ["_law_cell"]) (by walk_at "b1")
 have F32 := zaD (st := zbE) l32 c32 k32
 have b32 := F32.binds (ps := ["_law_rule", "_law_ka", "_law_ks", "_law_refs"]) (by walk_at "b4")
 have F33 := zaD (st := zbF) l33 c33 k33
 have b33 := F33.binds (ps := ["_law_script", "_law_drawn"]) (by walk_at "b2")
 have F34 := zaD (st := zd7) l34 c34 k34
 have b34 := F34.binds (ps := ["_law_script"]) (by walk_at "b1")
 have F35 := zaD (st := zaS) l35 c35 k35
 have b35 := F35.binds (ps := ["self", "lines"]) (by walk_at "b2")
 have F36 := zaD (st := zaz) l36 c36 k36
 have b36 := F36.binds (ps := ["self", "k"]) (by walk_at "b2")
 let D : Defs := ⟨f0, W.fnOf "seen" "seen" (zak zce) (zaj zce) (zag zce) .none kV0 dc0 pm0 an0 cd0 ct0, f1, W.fnOf "begins_with" "begins_with" (zak zaK) (zaj zaK) (zag zaK) .none kV1 dc1 pm1 an1 cd1 ct1, f2, W.fnOf "opens" "opens" (zak zbA) (zaj zbA) (zag zbA) .none kV2 dc2 pm2 an2 cd2 ct2, f3, W.fnOf "boxes" "boxes" (zak zbB) (zaj zbB) (zag zbB) .none kV3 dc3 pm3 an3 cd3 ct3, f4, W.fnOf "fitting_boxes" "fitting_boxes" (zak zaA) (zaj zaA) (zag zaA) .none kV4 dc4 pm4 an4 cd4 ct4, f5, W.fnOf "boxes_behind" "boxes_behind" (zak zaE) (zaj zaE) (zag zaE) .none kV5 dc5 pm5 an5 cd5 ct5, f6, W.fnOf "begins_and_goes_on" "begins_and_goes_on" (zak zaw) (zaj zaw) (zag zaw) .none kV6 dc6 pm6 an6 cd6 ct6, f7, W.fnOf "is_name" "is_name" (zak zbj) (zaj zbj) (zag zbj) .none kV7 dc7 pm7 an7 cd7 ct7, f8, W.fnOf "is_letter" "is_letter" (zak zaV) (zaj zaV) (zag zaV) .none kV8 dc8 pm8 an8 cd8 ct8, f9, W.fnOf "parts" "parts" (zak zbC) (zaj zbC) (zag zbC) .none kV9 dc9 pm9 an9 cd9 ct9, f10, W.fnOf "free_terms_in" "free_terms_in" (zak zaB) (zaj zaB) (zag zaB) .none kV10 dc10 pm10 an10 cd10 ct10, f11, W.fnOf "free_in" "free_in" (zak zbk) (zaj zbk) (zag zbk) .none kV11 dc11 pm11 an11 cd11 ct11, f12, W.fnOf "put" "put" (zak zd6) (zaj zd6) (zag zd6) .none kV12 dc12 pm12 an12 cd12 ct12, f13, W.fnOf "by_each" "by_each" (zak zbl) (zaj zbl) (zag zbl) .none kV13 dc13 pm13 an13 cd13 ct13, f14, W.fnOf "by_some" "by_some" (zak zbm) (zaj zbm) (zag zbm) .none kV14 dc14 pm14 an14 cd14 ct14, f15, W.fnOf "name_for" "name_for" (zak zbf) (zaj zbf) (zag zbf) .none kV15 dc15 pm15 an15 cd15 ct15, f16, W.fnOf "follows" "follows" (zak zbn) (zaj zbn) (zag zbn) .none kV16 dc16 pm16 an16 cd16 ct16, f17, W.fnOf "follows_behind" "follows_behind" (zak za6) (zaj za6) (zag za6) .none kV17 dc17 pm17 an17 cd17 ct17, f18, W.fnOf "fits_its_rule" "fits_its_rule" (zak zaC) (zaj zaC) (zag zaC) .none kV18 dc18 pm18 an18 cd18 ct18, f19, W.fnOf "follows_by" "follows_by" (zak zaP) (zaj zaP) (zag zaP) .none kV19 dc19 pm19 an19 cd19 ct19, f20, W.fnOf "stands_for" "stands_for" (zak zaQ) (zaj zaQ) (zag zaQ) .none kV20 dc20 pm20 an20 cd20 ct20, f21, W.fnOf "is_number_ahead" "is_number_ahead" (zak za3) (zaj za3) (zag za3) .none kV21 dc21 pm21 an21 cd21 ct21, f22, W.fnOf "statement_of" "statement_of" (zak zaF) (zaj zaF) (zag zaF) .none kV22 dc22 pm22 an22 cd22 ct22, f23, W.fnOf "_law_cell_at" "_law_cell_at" (zak zaW) (zaj zaW) (zag zaW) .none kV23 dc23 pm23 an23 cd23 ct23, f24, W.fnOf "_law_name_by" "_law_name_by" (zak zaX) (zaj zaX) (zag zaX) .none kV24 dc24 pm24 an24 cd24 ct24, f25, W.fnOf "_law_letter_by" "_law_letter_by" (zak zaL) (zaj zaL) (zag zaL) .none kV25 dc25 pm25 an25 cd25 ct25, f26, W.fnOf "_law_made" "_law_made" (zak zbx) (zaj zbx) (zag zbx) .none kV26 dc26 pm26 an26 cd26 ct26, f27, W.fnOf "_law_draw" "_law_draw" (zak zby) (zaj zby) (zag zby) .none kV27 dc27 pm27 an27 cd27 ct27, f28, W.fnOf "_law_put" "_law_put" (zak zbD) (zaj zbD) (zag zbD) .none kV28 dc28 pm28 an28 cd28 ct28, f29, W.fnOf "_law_is_name" "_law_is_name" (zak zaY) (zaj zaY) (zag zaY) .none kV29 dc29 pm29 an29 cd29 ct29, f30, W.fnOf "_law_slipped" "_law_slipped" (zak zaZ) (zaj zaZ) (zag zaZ) .none kV30 dc30 pm30 an30 cd30 ct30, f31, W.fnOf "_law_odd_name" "_law_odd_name" (zak zaR) (zaj zaR) (zag zaR) .none kV31 dc31 pm31 an31 cd31 ct31, f32, W.fnOf "_law_due" "_law_due" (zak zbE) (zaj zbE) (zag zbE) .none kV32 dc32 pm32 an32 cd32 ct32, f33, W.fnOf "_law_two" "_law_two" (zak zbF) (zaj zbF) (zag zbF) .none kV33 dc33 pm33 an33 cd33 ct33, fa, W.fnOf "law" "law" (zak zd7) (zaj zd7) (zag zd7) .none kV34 dc34 pm34 an34 cd34 ct34, f35, W.fnOf "__init__" "Ahead.__init__" (zak zaS) (zaj zaS) (zag zaS) .none kV35 dc35 pm35 an35 cd35 ct35, f36, W.fnOf "only_givens" "Ahead.only_givens" (zak zaz) (zaj zaz) (zag zaz) .none kV36 dc36 pm36 an36 cd36 ct36, f37, f38, f39, f40, f41, f42, f43, f44, f45, f46, f47, f48, f49, f50, p0, p4, p6, p7, p_RULES, tr0, tw0, tr1, tw1, tr2, tw2, tr3, tw3, tr4, tw4, tr5, tw5, tr6, tw6, tr7, tw7, tr8, tw8, tr9, tw9, tr10, tw10, tr11, tw11, tr12, tw12, tr13, tw13, tr14, tw14, tr15, tw15, xC0, xC1, oC_Ahead⟩
 have T : Tx K mg D := ⟨F0, W.mg_of X G a0, b0, F1, W.mg_of X G a1, b1, F2, W.mg_of X G a2, b2, F3, W.mg_of X G a3, b3, F4, W.mg_of X G a4, b4, F5, W.mg_of X G a5, b5, F6, W.mg_of X G a6, b6, F7, W.mg_of X G a7, b7, F8, W.mg_of X G a8, b8, F9, W.mg_of X G a9, b9, F10, W.mg_of X G a10, b10, F11, W.mg_of X G a11, b11, F12, W.mg_of X G a12, b12, F13, W.mg_of X G a13, b13, F14, W.mg_of X G a14, b14, F15, W.mg_of X G a15, b15, F16, W.mg_of X G a16, b16, F17, W.mg_of X G a17, b17, F18, W.mg_of X G a18, b18, F19, W.mg_of X G a19, b19, F20, W.mg_of X G a20, b20, F21, W.mg_of X G a21, b21, F22, W.mg_of X G a22, b22, F23, W.mg_of X G a23, b23, F24, W.mg_of X G a24, b24, F25, W.mg_of X G a25, b25, F26, W.mg_of X G a26, b26, F27, W.mg_of X G a27, b27, F28, W.mg_of X G a28, b28, F29, W.mg_of X G a29, b29, F30, W.mg_of X G a30, b30, F31, W.mg_of X G a31, b31, F32, W.mg_of X G a32, b32, F33, W.mg_of X G a33, b33, F34, W.mg_of X G a34, b34, F35, ⟨a35, i35, k35⟩, b35, F36, ⟨a36, i36, k36⟩, b36, W.mg_of X G g0, fun H => .inr ⟨_, _, _, q0, rfl, rfl, (by show 3 ≤ sizeLine; decide), (.cons ⟨_, rfl⟩ (.cons ⟨_, rfl⟩ (.cons ⟨_, rfl⟩ .nil)))⟩, ⟨_, W.mg_of X G g1⟩, ⟨_, W.mg_of X G g2⟩, ⟨_, W.mg_of X G g3⟩, W.mg_of X G g4, fun H => .inr ⟨_, _, _, q4, rfl, rfl, (by show 7 ≤ sizeLine; decide), (.cons ⟨_, rfl⟩ (.cons ⟨_, rfl⟩ (.cons ⟨_, rfl⟩ (.cons ⟨_, rfl⟩ (.cons ⟨_, rfl⟩ (.cons ⟨_, rfl⟩ (.cons ⟨_, rfl⟩ .nil)))))))⟩, ⟨_, W.mg_of X G g5⟩, W.mg_of X G g6, fun H => .inr ⟨_, _, _, q6, rfl, rfl, (by show 2 ≤ sizeLine; decide), (.cons ⟨_, rfl⟩ (.cons ⟨_, rfl⟩ .nil))⟩, W.mg_of X G g7, fun H => .inr ⟨_, _, _, q7, rfl, rfl, (by show 1 ≤ sizeLine; decide), (.cons ⟨_, rfl⟩ .nil)⟩, W.mg_of X G g_RULES, TabK.mk q_RULES e_RULES (.cons rfl rfl (.cons rfl rfl (.cons rfl rfl (.cons rfl rfl (.cons rfl rfl (.cons rfl rfl (.cons rfl rfl (.cons rfl rfl (.cons rfl rfl (.cons rfl rfl (.cons rfl rfl (.cons rfl rfl (.cons rfl rfl (.cons rfl rfl (.cons rfl rfl (.cons rfl rfl .nil)))))))))))))))), fun H => .inr ⟨_, _, _, tq0, rfl, rfl, (by show 2 ≤ sizeLine; decide), .cons rfl (.cons rfl .nil)⟩, fun H => .inr ⟨_, _, _, tv0, rfl, rfl, (by show 1 ≤ sizeLine; decide), (.cons ⟨_, rfl⟩ .nil)⟩, fun H => .inr ⟨_, _, _, tq1, rfl, rfl, (by show 2 ≤ sizeLine; decide), .cons rfl (.cons rfl .nil)⟩, fun H => .inr ⟨_, _, _, tv1, rfl, rfl, (by show 2 ≤ sizeLine; decide), (.cons ⟨_, rfl⟩ (.cons ⟨_, rfl⟩ .nil))⟩, fun H => .inr ⟨_, _, _, tq2, rfl, rfl, (by show 2 ≤ sizeLine; decide), .cons rfl (.cons rfl .nil)⟩, fun H => .inr ⟨_, _, _, tv2, rfl, rfl, (by show 1 ≤ sizeLine; decide), (.cons ⟨_, rfl⟩ .nil)⟩, fun H => .inr ⟨_, _, _, tq3, rfl, rfl, (by show 2 ≤ sizeLine; decide), .cons rfl (.cons rfl .nil)⟩, fun H => .inr ⟨_, _, _, tv3, rfl, rfl, (by show 1 ≤ sizeLine; decide), (.cons ⟨_, rfl⟩ .nil)⟩, fun H => .inr ⟨_, _, _, tq4, rfl, rfl, (by show 2 ≤ sizeLine; decide), .cons rfl (.cons rfl .nil)⟩, fun H => .inr ⟨_, _, _, tv4, rfl, rfl, (by show 1 ≤ sizeLine; decide), (.cons ⟨_, rfl⟩ .nil)⟩, fun H => .inr ⟨_, _, _, tq5, rfl, rfl, (by show 2 ≤ sizeLine; decide), .cons rfl (.cons rfl .nil)⟩, fun H => .inr ⟨_, _, _, tv5, rfl, rfl, (by show 3 ≤ sizeLine; decide), (.cons ⟨_, rfl⟩ (.cons ⟨_, rfl⟩ (.cons ⟨_, rfl⟩ .nil)))⟩, fun H => .inr ⟨_, _, _, tq6, rfl, rfl, (by show 2 ≤ sizeLine; decide), .cons rfl (.cons rfl .nil)⟩, fun H => .inr ⟨_, _, _, tv6, rfl, rfl, (by show 1 ≤ sizeLine; decide), (.cons ⟨_, rfl⟩ .nil)⟩, fun H => .inr ⟨_, _, _, tq7, rfl, rfl, (by show 2 ≤ sizeLine; decide), .cons rfl (.cons rfl .nil)⟩, fun H => .inr ⟨_, _, _, tv7, rfl, rfl, (by show 2 ≤ sizeLine; decide), (.cons ⟨_, rfl⟩ (.cons ⟨_, rfl⟩ .nil))⟩, fun H => .inr ⟨_, _, _, tq8, rfl, rfl, (by show 2 ≤ sizeLine; decide), .cons rfl (.cons rfl .nil)⟩, fun H => .inr ⟨_, _, _, tv8, rfl, rfl, (by show 1 ≤ sizeLine; decide), (.cons ⟨_, rfl⟩ .nil)⟩, fun H => .inr ⟨_, _, _, tq9, rfl, rfl, (by show 2 ≤ sizeLine; decide), .cons rfl (.cons rfl .nil)⟩, fun H => .inr ⟨_, _, _, tv9, rfl, rfl, (by show 2 ≤ sizeLine; decide), (.cons ⟨_, rfl⟩ (.cons ⟨_, rfl⟩ .nil))⟩, fun H => .inr ⟨_, _, _, tq10, rfl, rfl, (by show 2 ≤ sizeLine; decide), .cons rfl (.cons rfl .nil)⟩, fun H => .inr ⟨_, _, _, tv10, rfl, rfl, (by show 1 ≤ sizeLine; decide), (.cons ⟨_, rfl⟩ .nil)⟩, fun H => .inr ⟨_, _, _, tq11, rfl, rfl, (by show 2 ≤ sizeLine; decide), .cons rfl (.cons rfl .nil)⟩, fun H => .inr ⟨_, _, _, tv11, rfl, rfl, (by show 1 ≤ sizeLine; decide), (.cons ⟨_, rfl⟩ .nil)⟩, fun H => .inr ⟨_, _, _, tq12, rfl, rfl, (by show 2 ≤ sizeLine; decide), .cons rfl (.cons rfl .nil)⟩, fun H => .inr ⟨_, _, _, tv12, rfl, rfl, (by show 2 ≤ sizeLine; decide), (.cons ⟨_, rfl⟩ (.cons ⟨_, rfl⟩ .nil))⟩, fun H => .inr ⟨_, _, _, tq13, rfl, rfl, (by show 2 ≤ sizeLine; decide), .cons rfl (.cons rfl .nil)⟩, fun H => .inr ⟨_, _, _, tv13, rfl, rfl, (by show 1 ≤ sizeLine; decide), (.cons ⟨_, rfl⟩ .nil)⟩, fun H => .inr ⟨_, _, _, tq14, rfl, rfl, (by show 2 ≤ sizeLine; decide), .cons rfl (.cons rfl .nil)⟩, fun H => .inr ⟨_, _, _, tv14, rfl, rfl, (by show 2 ≤ sizeLine; decide), (.cons ⟨_, rfl⟩ (.cons ⟨_, rfl⟩ .nil))⟩, fun H => .inr ⟨_, _, _, tq15, rfl, rfl, (by show 2 ≤ sizeLine; decide), .cons rfl (.cons rfl .nil)⟩, fun H => .inr ⟨_, _, _, tv15, rfl, rfl, (by show 2 ≤ sizeLine; decide), (.cons ⟨_, rfl⟩ (.cons ⟨_, rfl⟩ .nil))⟩, W.mg_none_of X G z_all, W.mg_none_of X G z_bool, W.mg_none_of X G z_enumerate, W.mg_none_of X G z_int, W.mg_none_of X G z_isinstance, W.mg_none_of X G z_len, W.mg_none_of X G z_list, W.mg_none_of X G z_range, W.mg_none_of X G z_repr, W.mg_none_of X G z_set, W.mg_none_of X G z_sorted, W.mg_none_of X G z_str, W.mg_none_of X G z_tuple, W.mg_none_of X G z_zip, zlN (W.mg_of X G xa0) xl0 ⟨⟨_, _, _, _, _, xn0, xy0⟩, xp0, xr0, xu0, xv0⟩, zlO (W.mg_of X G xa1) xl1 ⟨⟨_, _, _, _, _, xn1, xy1⟩, xp1, xr1, xu1, xv1⟩ xl0 ⟨⟨_, _, _, _, _, xn0, xy0⟩, xp0, xr0, xu0, xv0⟩, W.mg_of X G oa_Ahead, ⟨og_Ahead, oh_Ahead, op_Ahead, os_Ahead⟩, ⟨om_Ahead, a35, i35, ok_Ahead⟩, on_Ahead_lines, on_Ahead_givens, on_Ahead_named, on_Ahead_first_places⟩
 exact ⟨_, fun s v => .of_eq rfl, fun base _ _ => OK l.prog D base T⟩
theorem walk {l : W.OpenLaw} {q : Program} {loose : List Str} {XP : (Str -> Option Value) -> Heap -> Prop} {YP : World -> Heap -> Prop} {d : DefRec} {K : Params -> W.Frag} (hn : l.most = some 63) (hdf : d.params.defaults = [])
  (hY : ∀ (w : World) (h : Heap), YP w h -> (K w.params).In h)
  (F : ∀ (w : World) (mg : Str -> Option Value) (fa : Addr) (h : Heap), (K w.params).In h -> h.Ns mainGlobals mg -> mg d.name = some (.ref fa) ->
   ∃ fd : FuncData, (∀ (s : Shared) (u : Value), BindsTo s fd ⟨[u], []⟩ [("_law_script", u)]) /\ ∀ base : Heap, (K w.params).In base -> base.Ns mainGlobals mg -> FnOk l.prog w (K w.params) mg base CX0 60 fa fd ["_law_script"] (zgq (K w.params))) :
  W.WalkO q loose XP YP l.row.toRowW d [] (fun f vs => PySem.call f vs) :=
 L2.walk_of (n := 63) (k := 60) (x := "_law_script") (CX := fun _ => CX0) (sp := fun w => zgq (K w.params)) hn (by decide) hdf ⟨rfl, by decide, by decide, rfl⟩ hY F (fun _ _ a ns hl _ hS => ⟨a, ns, rfl, hS, hl, fun _ => rfl⟩) fun _ _ _ _ _ z => z
end K34
namespace PySem.W.Fast
def tw1561757084769906317 := 0
def tw7967134780094939234 := 0
def tw6791589424230112799 := 0
def tw1746143797703714406 := 0
def tw7836944500510908999 := 0
def tw1398522768467507687 := 0
def tw8262636227352729521 := 0
def tw15392534160971076666 := 0
def tw2695819091169984688 := 0
def tw5286969355413625456 := 0
def tw13152160028759089145 := 0
def tw17914267769281330939 := 0
def tw16766955974919722961 := 0
def tw17248656053255684307 := 0
def tw16886701633887143394 := 0
def tw9787548444943939334 := 0
def tw1647634939868140854 := 0
def tw5132662830897307170 := 0
def tw8790544370166008591 := 0
def tw16114927095424085470 := 0
def tw14102544207853786304 := 0
def tw9044686896527626361 := 0
def tw14595728663302673306 := 0
def tw5346378343940480677 := 0
def tw299974702489141043 := 0
def tw9390942912150577106 := 0
def tw3934243421910870615 := 0
def tw12441019233318527450 := 0
def tw4845236685622992078 := 0
def tw16536635495391449150 := 0
def tw9488478580799146584 := 0
def tw12650537147530060238 := 0
def tw14760785873566242711 := 0
def tw12733616278866334027 := 0
def tw6235494245697106661 := 0
def tw4570957187552802738 := 0
def tw4630885119211877431 := 0
def tw14948337759797720684 := 0
def tw12496144264376041407 := 0
def tw3252482079772197428 := 0
def tw18232298244655001249 := 0
def tw4166058463838438005 := 0
def tw5441287323241379861 := 0
def tw3947386395368729292 := 0
def tw10973002996262615201 := 0
def tw3957630047121256028 := 0
def tw14781119581437333462 := 0
def tw584132756860793547 := 0
def tw11120053802709499597 := 0
def tw1646769159864183545 := 0
def tw7932272271113649530 := 0
def tw12807716445487208558 := 0
def tw4909651800567786351 := 0
def tw457396728353565909 := 0
def tw9795365478154223847 := 0
def tw9906182633406710268 := 0
def tw11251520906323901406 := 0
def tw6685069576349305856 := 0
def tw8617762702961005296 := 0
def tw1792633127828771104 := 0
def tw5095980470771507061 := 0
def tw15841799271425821820 := 0
def tw8501042277401517718 := 0
def tw12000006459943309538 := 0
def tw16125252082864544821 := 0
def tw11800560654173217152 := 0
def tw3084746116985256974 := 0
def tw550515825055905644 := 0
def tw7255094533873237682 := 0
def tw5545135398001254074 := 0
def tw12912123774371067632 := 0
def tw3457549380099868155 := 0
def tw5449759545732388489 := 0
def tw111480018203431252 := 0
def tw2809977713566815123 := 0
def tw1499912993642926758 := 0
def tw8178989578194267659 := 0
def tw8464588225927765738 := 0
def tw15974748314705212055 := 0
def tw5532681320394461746 := 0
def tw11098555243051440785 := 0
def tw16588872461559181542 := 0
def tw13089135035762413028 := 0
def tw6285940103209674736 := 0
def tw16237487413574762846 := 0
def tw13914734084374084077 := 0
def tw10375659231225044657 := 0
def tw17351809781928866031 := 0
def tw16347946565002878690 := 0
def tw8412125880755408198 := 0
def tw17247065468700239844 := 0
def tw10524390938188037152 := 0
def tw11474709205537976571 := 0
def tw11567898644989126809 := 0
def tw10938492694135970784 := 0
def tw273592983846183784 := 0
def tw6850198806964124015 := 0
def tw1443318161202719909 := 0
def tw10052792895482808675 := 0
def tw9208460364547316517 := 0
def tw5413866293110639472 := 0
def tw3694383501924754961 := 0
def tw11860072253247454870 := 0
def tw6482791290713989213 := 0
def tw17722824831991109623 := 0
def tw874306923409456908 := 0
def tw12958126316540141273 := 0
def tw10398810604136043720 := 0
def tw1196543431953486335 := 0
def tw11540095060357273549 := 0
def tw15327191136192910327 := 0
def tw11712962006474381606 := 0
def tw2794287133886514424 := 0
def tw1319920713440473407 := 0
def tw17837488759601868811 := 0
def tw6996778335451716566 := 0
def tw13087026893982789104 := 0
def tw7091157686791642231 := 0
def tw3488797079410026721 := 0
end PySem.W.Fast
open PySem PySem.W PyProof.Rows
set_option maxRecDepth 100000 in
set_option maxHeartbeats 0 in
theorem PySem.Challenge.cw_boxproof_k34_each_and_some_holds : PySem.Challenge.rw_boxproof_k34_each_and_some.Holds := by
 w_on; o_law; k_head; (case hw => w_witness2)
 k_fill
 refine K34.walk (l := PySem.Challenge.rw_boxproof_k34_each_and_some) rfl rfl (fun w h Y => W.kIn_of Y) ?F
 case F =>
  intro w mg fa h KX G hmg
  refine' K34.all_mk KX G hmg ?bpoa_Ahead ?bpa0 ?bpl0 ?bpc0 ?bpk0 ?bpa1 ?bpl1 ?bpc1 ?bpk1 ?bpa2 ?bpl2 ?bpc2 ?bpk2 ?bpa3 ?bpl3 ?bpc3 ?bpk3 ?bpa4 ?bpl4 ?bpc4 ?bpk4 ?bpa5 ?bpl5 ?bpc5 ?bpk5 ?bpa6 ?bpl6 ?bpc6 ?bpk6 ?bpa7 ?bpl7 ?bpc7 ?bpk7 ?bpa8 ?bpl8 ?bpc8 ?bpk8 ?bpa9 ?bpl9 ?bpc9 ?bpk9 ?bpa10 ?bpl10 ?bpc10 ?bpk10 ?bpa11 ?bpl11 ?bpc11 ?bpk11 ?bpa12 ?bpl12 ?bpc12 ?bpk12 ?bpa13 ?bpl13 ?bpc13 ?bpk13 ?bpa14 ?bpl14 ?bpc14 ?bpk14 ?bpa15 ?bpl15 ?bpc15 ?bpk15 ?bpa16 ?bpl16 ?bpc16 ?bpk16 ?bpa17 ?bpl17 ?bpc17 ?bpk17 ?bpa18 ?bpl18 ?bpc18 ?bpk18 ?bpa19 ?bpl19 ?bpc19 ?bpk19 ?bpa20 ?bpl20 ?bpc20 ?bpk20 ?bpa21 ?bpl21 ?bpc21 ?bpk21 ?bpa22 ?bpl22 ?bpc22 ?bpk22 ?bpa23 ?bpl23 ?bpc23 ?bpk23 ?bpa24 ?bpl24 ?bpc24 ?bpk24 ?bpa25 ?bpl25 ?bpc25 ?bpk25 ?bpa26 ?bpl26 ?bpc26 ?bpk26 ?bpa27 ?bpl27 ?bpc27 ?bpk27 ?bpa28 ?bpl28 ?bpc28 ?bpk28 ?bpa29 ?bpl29 ?bpc29 ?bpk29 ?bpa30 ?bpl30 ?bpc30 ?bpk30 ?bpa31 ?bpl31 ?bpc31 ?bpk31 ?bpa32 ?bpl32 ?bpc32 ?bpk32 ?bpa33 ?bpl33 ?bpc33 ?bpk33 ?bpa34 ?bpl34 ?bpc34 ?bpk34 ?bpa35 ?bpi35 ?bpl35 ?bpc35 ?bpk35 ?bpa36 ?bpi36 ?bpl36 ?bpc36 ?bpk36 ?bpg0 ?bpq0 ?bpg1 ?bpg2 ?bpg3 ?bpg4 ?bpq4 ?bpg5 ?bpg6 ?bpq6 ?bpg7 ?bpq7 ?bpg_RULES ?bpq_RULES ?bpe_RULES ?bptq0 ?bptv0 ?bptq1 ?bptv1 ?bptq2 ?bptv2 ?bptq3 ?bptv3 ?bptq4 ?bptv4 ?bptq5 ?bptv5 ?bptq6 ?bptv6 ?bptq7 ?bptv7 ?bptq8 ?bptv8 ?bptq9 ?bptv9 ?bptq10 ?bptv10 ?bptq11 ?bptv11 ?bptq12 ?bptv12 ?bptq13 ?bptv13 ?bptq14 ?bptv14 ?bptq15 ?bptv15 ?bpog_Ahead ?bpoh_Ahead ?bpop_Ahead ?bpos_Ahead ?bpom_Ahead ?bpok_Ahead ?bpon_Ahead_lines ?bpon_Ahead_givens ?bpon_Ahead_named ?bpon_Ahead_first_places ?bpxa0 ?bpxl0 ?bpxn0 ?bpxy0 ?bpxp0 ?bpxr0 ?bpxu0 ?bpxv0 ?bpxa1 ?bpxl1 ?bpxn1 ?bpxy1 ?bpxp1 ?bpxr1 ?bpxu1 ?bpxv1 ?bpz_all ?bpz_bool ?bpz_enumerate ?bpz_int ?bpz_isinstance ?bpz_len ?bpz_list ?bpz_range ?bpz_repr ?bpz_set ?bpz_sorted ?bpz_str ?bpz_tuple ?bpz_zip ?bpOK
  (case bpoa_Ahead => k_is)
  (case bpa0 => k_is)
  (case bpl0 => k_is)
  (case bpc0 => k_is)
  (case bpk0 => k_is)
  (case bpa1 => k_is)
  (case bpl1 => k_is)
  (case bpc1 => k_is)
  (case bpk1 => k_is)
  (case bpa2 => k_is)
  (case bpl2 => k_is)
  (case bpc2 => k_is)
  (case bpk2 => k_is)
  (case bpa3 => k_is)
  (case bpl3 => k_is)
  (case bpc3 => k_is)
  (case bpk3 => k_is)
  (case bpa4 => k_is)
  (case bpl4 => k_is)
  (case bpc4 => k_is)
  (case bpk4 => k_is)
  (case bpa5 => k_is)
  (case bpl5 => k_is)
  (case bpc5 => k_is)
  (case bpk5 => k_is)
  (case bpa6 => k_is)
  (case bpl6 => k_is)
  (case bpc6 => k_is)
  (case bpk6 => k_is)
  (case bpa7 => k_is)
  (case bpl7 => k_is)
  (case bpc7 => k_is)
  (case bpk7 => k_is)
  (case bpa8 => k_is)
  (case bpl8 => k_is)
  (case bpc8 => k_is)
  (case bpk8 => k_is)
  (case bpa9 => k_is)
  (case bpl9 => k_is)
  (case bpc9 => k_is)
  (case bpk9 => k_is)
  (case bpa10 => k_is)
  (case bpl10 => k_is)
  (case bpc10 => k_is)
  (case bpk10 => k_is)
  (case bpa11 => k_is)
  (case bpl11 => k_is)
  (case bpc11 => k_is)
  (case bpk11 => k_is)
  (case bpa12 => k_is)
  (case bpl12 => k_is)
  (case bpc12 => k_is)
  (case bpk12 => k_is)
  (case bpa13 => k_is)
  (case bpl13 => k_is)
  (case bpc13 => k_is)
  (case bpk13 => k_is)
  (case bpa14 => k_is)
  (case bpl14 => k_is)
  (case bpc14 => k_is)
  (case bpk14 => k_is)
  (case bpa15 => k_is)
  (case bpl15 => k_is)
  (case bpc15 => k_is)
  (case bpk15 => k_is)
  (case bpa16 => k_is)
  (case bpl16 => k_is)
  (case bpc16 => k_is)
  (case bpk16 => k_is)
  (case bpa17 => k_is)
  (case bpl17 => k_is)
  (case bpc17 => k_is)
  (case bpk17 => k_is)
  (case bpa18 => k_is)
  (case bpl18 => k_is)
  (case bpc18 => k_is)
  (case bpk18 => k_is)
  (case bpa19 => k_is)
  (case bpl19 => k_is)
  (case bpc19 => k_is)
  (case bpk19 => k_is)
  (case bpa20 => k_is)
  (case bpl20 => k_is)
  (case bpc20 => k_is)
  (case bpk20 => k_is)
  (case bpa21 => k_is)
  (case bpl21 => k_is)
  (case bpc21 => k_is)
  (case bpk21 => k_is)
  (case bpa22 => k_is)
  (case bpl22 => k_is)
  (case bpc22 => k_is)
  (case bpk22 => k_is)
  (case bpa23 => k_is)
  (case bpl23 => k_is)
  (case bpc23 => k_is)
  (case bpk23 => k_is)
  (case bpa24 => k_is)
  (case bpl24 => k_is)
  (case bpc24 => k_is)
  (case bpk24 => k_is)
  (case bpa25 => k_is)
  (case bpl25 => k_is)
  (case bpc25 => k_is)
  (case bpk25 => k_is)
  (case bpa26 => k_is)
  (case bpl26 => k_is)
  (case bpc26 => k_is)
  (case bpk26 => k_is)
  (case bpa27 => k_is)
  (case bpl27 => k_is)
  (case bpc27 => k_is)
  (case bpk27 => k_is)
  (case bpa28 => k_is)
  (case bpl28 => k_is)
  (case bpc28 => k_is)
  (case bpk28 => k_is)
  (case bpa29 => k_is)
  (case bpl29 => k_is)
  (case bpc29 => k_is)
  (case bpk29 => k_is)
  (case bpa30 => k_is)
  (case bpl30 => k_is)
  (case bpc30 => k_is)
  (case bpk30 => k_is)
  (case bpa31 => k_is)
  (case bpl31 => k_is)
  (case bpc31 => k_is)
  (case bpk31 => k_is)
  (case bpa32 => k_is)
  (case bpl32 => k_is)
  (case bpc32 => k_is)
  (case bpk32 => k_is)
  (case bpa33 => k_is)
  (case bpl33 => k_is)
  (case bpc33 => k_is)
  (case bpk33 => k_is)
  (case bpa34 => k_is)
  (case bpl34 => k_is)
  (case bpc34 => k_is)
  (case bpk34 => k_is)
  (case bpa35 => k_is)
  (case bpi35 => k_is)
  (case bpl35 => k_is)
  (case bpc35 => k_is)
  (case bpk35 => k_is)
  (case bpa36 => k_is)
  (case bpi36 => k_is)
  (case bpl36 => k_is)
  (case bpc36 => k_is)
  (case bpk36 => k_is)
  (case bpg0 => k_is)
  (case bpq0 => k_is)
  (case bpg1 => k_is)
  (case bpg2 => k_is)
  (case bpg3 => k_is)
  (case bpg4 => k_is)
  (case bpq4 => k_is)
  (case bpg5 => k_is)
  (case bpg6 => k_is)
  (case bpq6 => k_is)
  (case bpg7 => k_is)
  (case bpq7 => k_is)
  (case bpg_RULES => k_is)
  (case bpq_RULES => k_is)
  (case bpe_RULES => rfl)
  (case bptq0 => k_is)
  (case bptv0 => k_is)
  (case bptq1 => k_is)
  (case bptv1 => k_is)
  (case bptq2 => k_is)
  (case bptv2 => k_is)
  (case bptq3 => k_is)
  (case bptv3 => k_is)
  (case bptq4 => k_is)
  (case bptv4 => k_is)
  (case bptq5 => k_is)
  (case bptv5 => k_is)
  (case bptq6 => k_is)
  (case bptv6 => k_is)
  (case bptq7 => k_is)
  (case bptv7 => k_is)
  (case bptq8 => k_is)
  (case bptv8 => k_is)
  (case bptq9 => k_is)
  (case bptv9 => k_is)
  (case bptq10 => k_is)
  (case bptv10 => k_is)
  (case bptq11 => k_is)
  (case bptv11 => k_is)
  (case bptq12 => k_is)
  (case bptv12 => k_is)
  (case bptq13 => k_is)
  (case bptv13 => k_is)
  (case bptq14 => k_is)
  (case bptv14 => k_is)
  (case bptq15 => k_is)
  (case bptv15 => k_is)
  (case bpog_Ahead => k_is)
  (case bpoh_Ahead => k_is)
  (case bpop_Ahead => k_is)
  (case bpos_Ahead => k_is)
  (case bpom_Ahead => k_is)
  (case bpok_Ahead => k_is)
  (case bpon_Ahead_lines => k_is)
  (case bpon_Ahead_givens => k_is)
  (case bpon_Ahead_named => k_is)
  (case bpon_Ahead_first_places => k_is)
  (case bpxa0 => k_is)
  (case bpxl0 => k_is)
  (case bpxn0 => k_is)
  (case bpxy0 => rfl)
  (case bpxp0 => k_is)
  (case bpxr0 => k_is)
  (case bpxu0 => k_is)
  (case bpxv0 => k_is)
  (case bpxa1 => k_is)
  (case bpxl1 => k_is)
  (case bpxn1 => k_is)
  (case bpxy1 => rfl)
  (case bpxp1 => k_is)
  (case bpxr1 => k_is)
  (case bpxu1 => k_is)
  (case bpxv1 => k_is)
  (case bpz_all => k_is)
  (case bpz_bool => k_is)
  (case bpz_enumerate => k_is)
  (case bpz_int => k_is)
  (case bpz_isinstance => k_is)
  (case bpz_len => k_is)
  (case bpz_list => k_is)
  (case bpz_range => k_is)
  (case bpz_repr => k_is)
  (case bpz_set => k_is)
  (case bpz_sorted => k_is)
  (case bpz_str => k_is)
  (case bpz_tuple => k_is)
  (case bpz_zip => k_is)
  case bpOK => exact fun P D base T => K34.ok_law T
#print axioms PySem.Challenge.cw_boxproof_k34_each_and_some_holds