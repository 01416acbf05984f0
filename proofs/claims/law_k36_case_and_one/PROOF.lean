import PyProof.Rows.All
import Wide.All
import OpenK.AllK
import Wide.FinOn
import Lean
import PyProof.EqAt
import PyProof.EqKinds
import PyProof.TupleCall
import PyProof.StationsW
import PyProof.PassesOwn
import PyProof.Rows.CatchOwn
import PyProof.Rows.CatchBare
import PyProof.Rows.Own
import PyProof.ExcAttrAll.ValueError
import PyProof.ExcBaseAll.ValueError
import KE.RegKIsAll
import PyProof.FString4
import PyProof.StrLawsRepr
import PyProof.NeKinds
import PyProof.StrCalls
import PyProof.StrCalls2
import PyProof.FitsReplace
import PyProof.StrOps2
import PyProof.ConsumeWalk
import PyProof.SumWalkG
import PyProof.StrCalls6
import PyProof.ToksMono
import PyProof.StrLawsReplace
import PyProof.ListRange
import KE.KTab
import PyProof.EnumFor
import PyProof.EnumStmt
import PyProof.EnumMake
import PyProof.TupleIter
import PyProof.ZipIter
import PyProof.Rows.ZipGen
import PyProof.CollectIter
import PyProof.TupleOfGen
import PyProof.AutoListH
import PyProof.FactsAll.list
import PyProof.SliceSyntax
import PyProof.SliceList
import PyProof.FactsAll.range
import PyProof.MaxThree
import PyProof.ReprRoads
import PyProof.Rows.EqBoolInt
import PyProof.ReprLen
import PyProof.MeetsDict
import PyProof.DictList
import PyProof.FactsAll.dict
import PySem.Challenge.RW_boxproof_k36_case_and_one
set_option Elab.async false
set_option linter.all false
set_option maxRecDepth 100000
set_option compiler.extract_closed false
set_option maxHeartbeats 4000000
namespace L2
open PySem PySem.Spec PyProof.Rows
def _root_.yaa := @wpAny_bind
def _root_.yab := @wpAny_pure
def _root_.yac := @Heap.get?_push_of_some
def _root_.yad := @List.size_toArray
def _root_.yae := @List.length_append
def _root_.yaf := @List.length_map
def _root_.yag := @List.getElem?_eq_some_iff
def _root_.yah := @List.mem_singleton
def _root_.yai := @Nat.le_refl
def _root_.yaj := @Heap.get?_push_size
def _root_.yak := @Int.emod_lt_of_pos
def _root_.yal := @List.getElem?_eq_getElem
def _root_.yam := @Bool.false_ne_true
def _root_.yan := @Heap.lt_size
def _root_.yao := @Int.emod_nonneg
def _root_.yap := @PySem.boot_len
def _root_.yaq := @Nat.zero_le
def _root_.yar := @PySem.F.plainAttrs_list
def _root_.yas := @List.length_singleton
def _root_.yat := @Nat.le_trans
def _root_.yau := @List.mem_cons
def _root_.yav := @List.getElem?_map
def _root_.yaw := @PySem.F.type_list_append
def _root_.yax := @Classical.byContradiction
def _root_.yay := @List.mem_append
def _root_.yaz := @List.take_add_one
def _root_.ya0 := @List.map_append
def _root_.ya1 := @List.mem_of_getElem?
def _root_.ya2 := @Int.ediv_nonneg
def _root_.ya3 := @List.length_take
def _root_.ya4 := @Int.toNat_natCast
def _root_.ya5 := @List.getElem?_append_left
def _root_.ya6 := @List.mem_map
def _root_.ya7 := @of_decide_eq_true
def _root_.ya8 := @decide_eq_false
def _root_.ya9 := @decide_eq_true
abbrev Key := Sum Int Str
def ziJ : Key -> Value -> Bool
 | .inl k, v => Value.isInt k v
 | .inr x, v => Value.isStrOf x v
def keyH (w : World) : Key -> Int
 | .inl k => hashInt k
 | .inr x => hashStr w x
theorem keyIs_shape : ∀ {k : Key} {v : Value}, ziJ k v = true -> (∃ i t, k = Sum.inl i /\ v = Value.int i t) \/ (∃ x t, k = Sum.inr x /\ v = Value.str x t)
 | .inl i, v, h => by
  obtain ⟨t, e⟩ := Value.isInt_shape (k := i) (v := v) h;exact .inl ⟨i, t, rfl, e⟩
 | .inr x, v, h => by
  obtain ⟨t, e⟩ := Value.isStrOf_shape (x := x) (v := v) h;exact .inr ⟨x, t, rfl, e⟩
theorem zeQ (x : Str) (t : Tok) : ziJ (.inr x) (.str x t) = true := by simp [ziJ, Value.isStrOf]
theorem zl7 (a b : Int) : decide ((Sum.inl a : Key) = Sum.inl b) = (a == b) := by
 by_cases e : a = b
 ·subst e; simp
 ·have h : ¬ (Sum.inl a : Key) = Sum.inl b := fun q => e (Sum.inl.inj q);rw [ya8 h];exact (beq_eq_false_iff_ne.mpr e).symm
theorem zl8 (a b : Str) : decide ((Sum.inr a : Key) = Sum.inr b) = decide (a = b) := by
 by_cases e : a = b
 ·subst e; simp
 ·have h : ¬ (Sum.inr a : Key) = Sum.inr b := fun q => e (Sum.inr.inj q);rw [ya8 h, ya8 e]
theorem zl9 (a : Int) (b : Str) : decide ((Sum.inl a : Key) = Sum.inr b) = false := ya8 (fun q => nomatch q)
theorem zlA (a : Str) (b : Int) : decide ((Sum.inr a : Key) = Sum.inl b) = false := ya8 (fun q => nomatch q)
def mixKind (prog : Program) (w : World) : PySem.KeyKind prog w Key where
 is := ziJ
 hash := keyH w
 inj := fun v a b ha hb => by
  rcases keyIs_shape ha with ⟨i, t, rfl, rfl⟩ | ⟨x, t, rfl, rfl⟩
  ·rcases keyIs_shape hb with ⟨j, u, rfl, e⟩ | ⟨y, u, rfl, e⟩
   ·injection e with e1 _; rw [e1]
   ·exact nomatch e
  ·rcases keyIs_shape hb with ⟨j, u, rfl, e⟩ | ⟨y, u, rfl, e⟩
   ·exact nomatch e
   ·injection e with e1 _; rw [e1]
 byValue := fun k v h => by
  rcases keyIs_shape h with ⟨i, t, rfl, rfl⟩ | ⟨x, t, rfl, rfl⟩ <;> rfl
 pyHash := fun hv h => by
  rcases keyIs_shape hv with ⟨i, t, rfl, rfl⟩ | ⟨x, t, rfl, rfl⟩
  ·exact wpAny_pyHash_int h
  ·exact wpAny_pyHash_str h
 eqBool := fun hu hv h => by
  rcases keyIs_shape hu with ⟨i, t, rfl, rfl⟩ | ⟨x, t, rfl, rfl⟩
  ·rcases keyIs_shape hv with ⟨j, u, rfl, rfl⟩ | ⟨y, u, rfl, rfl⟩
   ·rw [zl7] at h; exact wpAny_eqBool_int h
   ·rw [zl9] at h; exact SeqAt.EqAt.int_str i t y u _ _ _ _ h
  ·rcases keyIs_shape hv with ⟨j, u, rfl, rfl⟩ | ⟨y, u, rfl, rfl⟩
   ·rw [zlA] at h; exact SeqAt.EqAt.str_int x t j u _ _ _ _ h
   ·rw [zl8] at h; exact wpAny_eqBool_str h
 «strs» := fun k x t v h => by
  rcases keyIs_shape h with ⟨i, u, rfl, e⟩ | ⟨y, u, rfl, e⟩
  ·exact nomatch e
  ·injection e with e1 _
   subst e1;cases v <;> rfl
theorem zd2 (prog : Program) (w : World) (x : Str) (t : Tok) : (mixKind prog w).is (.inr x) (.str x t) = true := zeQ x t
inductive V where
 | non | bl (b : Bool) | int (i : Int) | str (x : Str) | byt (b : Array UInt8) | flt (b : UInt64) | ref (a : Addr) | ty (n : String)
 deriving DecidableEq
def RelV : V -> Value -> Prop
 | .non, u => u = Value.none
 | .bl b, u => u = Value.bool b
 | .int i, u => ∃ t, u = Value.int i t
 | .str x, u => ∃ t, u = Value.str x t
 | .byt b, u => ∃ t, u = Value.bytes b t
 | .flt b, u => ∃ t, u = Value.float b t
 | .ref a, u => u = Value.ref a
 | .ty n, u => u = Value.type n
abbrev Vals : List V -> List Value -> Prop := Paired RelV
theorem Vals.length {xs : List V} {us : List Value} (r : Vals xs us) : xs.length = us.length := Paired.length r
theorem Vals.get : ∀ {xs : List V} {us : List Value} {i : Nat} {x : V}, Vals xs us -> xs[i]? = some x -> ∃ u, us[i]? = some u /\ RelV x u
 | _, _, _, _, .nil, e => by simp at e
 | _, _, 0, _, .cons r _, e => by simp at e; subst e; exact ⟨_, rfl, r⟩
 | _, _, i + 1, x, .cons _ t, e => by
  obtain ⟨u, h1, h2⟩ := Vals.get (i := i) (x := x) t (by simpa using e);exact ⟨u, by simpa using h1, h2⟩
theorem Vals.set {x : V} {u : Value} (r : RelV x u) : ∀ {xs : List V} {us : List Value} (i : Nat), Vals xs us -> Vals (xs.set i x) (us.set i u)
 | _, _, _, .nil => .nil
 | _, _, 0, .cons _ t => .cons r t
 | _, _, i + 1, .cons q t => .cons q (Vals.set r i t)
theorem Vals.append : ∀ {xs ys : List V} {us ws : List Value}, Vals xs us -> Vals ys ws -> Vals (xs ++ ys) (us ++ ws)
 | _, _, _, _, .nil, s => s
 | _, _, _, _, .cons r t, s => .cons r (Vals.append t s)
theorem Vals.take : ∀ {xs : List V} {us : List Value} (n : Nat), Vals xs us -> Vals (xs.take n) (us.take n)
 | _, _, 0, _ => .nil
 | _, _, _ + 1, .nil => .nil
 | _, _, n + 1, .cons r t => .cons r (Vals.take n t)
theorem Vals.drop : ∀ {xs : List V} {us : List Value} (n : Nat), Vals xs us -> Vals (xs.drop n) (us.drop n)
 | _, _, 0, r => r
 | _, _, _ + 1, .nil => .nil
 | _, _, n + 1, .cons _ t => Vals.drop n t
def RelO : Option V -> Option Value -> Prop
 | some v, some u => RelV v u
 | none, none => True
 | _, _ => False
def KV {κ : Type} : List (κ × V) -> List (κ × Value) -> Prop := Paired fun (p : κ × V) (q : κ × Value) => p.1 = q.1 /\ RelV p.2 q.2
def kV : Key -> V
 | .inl i => .int i
 | .inr x => .str x
inductive HO where
 | lst (xs : List V)
 | tup (xs : List V)
 | dK (kvs : List (Key × V)) | dT (kvs : List (List Key × V))
 | set (S : Int -> Bool) (n : Nat)
 | ins (C dx : Addr) (fs : List (Str × V))
 | own (x : Addr)
 | xd (fs : List (Str × V))
 | met (f x : Addr)
 | rng (lo hi : Int)
 | frz (o : Obj) (u : HO)
 | tbl (ps : Array Value)
 | ext (φ : Heap -> Prop)
abbrev Hp := Addr -> Option HO
def upd (H : Hp) (a : Addr) (o : HO) : Hp := fun b => if b = a then some o else H b
theorem zad {H : Hp} {a : Addr} {o : HO} : upd H a o a = some o := by unfold upd; rw [if_pos rfl]
theorem za7 {H : Hp} {a b : Addr} {o : HO} (h : b ≠ a) : upd H a o b = H b := by unfold upd; rw [if_neg h]
theorem zhm {H : Hp} {a : Addr} {o u : HO} : upd (upd H a o) a u = upd H a u := by
 funext b; unfold upd; split <;> rfl
theorem zn4 {H : Hp} {a b : Addr} {o u : HO} (h : H a = some o) (h' : H b = some u) (d : o ≠ u) : a ≠ b := by
 intro e; subst e; rw [h] at h'; exact d (Option.some.inj h')
theorem za8 {H : Hp} {a b : Addr} {o : HO} (h : H a = some o) (h' : H b = none) : a ≠ b := by
 intro e; subst e; rw [h] at h'; cases h'
section
variable (P : Program) (w : World)
def ObjOk (H : Hp) (h : Heap) (a : Addr) : HO -> Prop
 | .lst xs => xs.length <= sizeLine /\ ∃ (its : List Value) (n : Nat), Vals xs its /\ h.get? a = some { cls := .type "list", data := .seq its.toArray n }
 | .tup xs => xs.length <= sizeLine /\ ∃ its : List Value, Vals xs its /\ IsTup h a its.toArray
 | .dK kvs => kvs.length <= sizeLine /\ (a == sysModules) = false /\ ∃ vs, KV kvs vs /\ h.DictOf (mixKind P w) a vs
 | .dT kvs => kvs.length <= sizeLine /\ (a == sysModules) = false /\ ∃ xs : List (List Key × Addr × Value),
   Paired (fun (p : List Key × V) (q : List Key × Addr × Value) => p.1 = q.1 /\ H q.2.1 = some (.tup (p.1.map kV)) /\ RelV p.2 q.2.2) kvs xs /\
   ∃ o es ep, h.get? a = some o /\ o.ExactDict /\ o.data = .dict es ep /\ es.toList = xs.map (entryOfKey (tupleKind (mixKind P w))) /\ (xs.map (·.1)).Nodup
 | .set S n => h.SetOf (intKind P w) a S n
 | .ins C dx fs => H dx = some (.own a) /\ fs.length <= 1000 /\ dx ≠ a /\ h.get? a = some (W.instObj C dx) /\
   ∃ mA, h.Ns1 dx mA /\ (∀ f, RelO (fs.lookup f) (mA f)) /\ PySem.Within mA (fs.map (·.1))
 | .own _ => ∃ o, h.get? a = some o
 | .xd fs => ∃ mA, h.Ns1 a mA /\ ∀ f, RelO (fs.lookup f) (mA f)
 | .rng lo hi => ∃ t u v, h.get? a = some { cls := .type "range", data := .fields #[.int lo t, .int hi u, .int 1 v] }
 | .frz o u => h.get? a = some o /\ ObjOk H h a u
 | .tbl ps => h.get? a = some { cls := .none, data := .fields ps }
 | .met f x => h.get? a = some (W.methodObj (.ref f) (.ref x))
 | .ext φ => φ h /\ (∃ o, h.get? a = some o) /\ ∀ h1 h2 : Heap, φ h1 -> (∀ o, h1.get? a = some o -> h2.get? a = some o) -> φ h2
def HOk (H : Hp) (h : Heap) : Prop := ∀ a o, H a = some o -> ObjOk P w H h a o
end
section
variable {P : Program} {w : World} {H H' : Hp} {h h' : Heap} {a : Addr} {o : HO}
theorem ObjOk.lt (x : ObjOk P w H h a o) : a < h.objs.size := by
 cases o with
 | lst xs => obtain ⟨_, _, _, _, e⟩ := x; exact yan e
 | tup xs => obtain ⟨_, _, _, p⟩ := x; exact p.lt
 | dK kvs => obtain ⟨_, _, _, _, o, _, _, e, _⟩ := x; exact yan e
 | dT kvs => obtain ⟨_, _, _, _, o, _, _, e, _⟩ := x; exact yan e
 | set S n => obtain ⟨o, _, _, _, e, _⟩ := x; exact yan e
 | ins C dx fs => obtain ⟨_, _, _, e, _⟩ := x; exact yan e
 | own y => obtain ⟨_, e⟩ := x; exact yan e
 | xd fs => obtain ⟨_, ⟨_, _, _, e, _⟩, _⟩ := x; exact yan e
 | rng lo hi => obtain ⟨_, _, _, e⟩ := x; exact yan e
 | frz ob u => obtain ⟨e, _⟩ := x; exact yan e
 | tbl ps => exact yan (show h.get? a = some _ from x)
 | met f y => exact yan (show h.get? a = some _ from x)
 | ext φ => obtain ⟨_, ⟨_, e⟩, _⟩ := x; exact yan e
theorem Paired.mapP {α β : Type} {F G : α -> β -> Prop} : ∀ {l₁ : List α} {l₂ : List β}, Paired F l₁ l₂ -> (∀ a b, F a b -> G a b) -> Paired G l₁ l₂
 | _, _, .nil, _ => .nil
 | _, _, .cons r t, f => .cons (f _ _ r) (Paired.mapP t f)
theorem ObjOk.stay (x : ObjOk P w H h a o) (k : ∀ b u, (b = a \/ H b = some (.own a)) -> h.get? b = some u -> h'.get? b = some u)
  (ho : ∀ b, H b = some (.own a) -> H' b = some (.own a)) (ht : ∀ b xs, H b = some (.tup xs) -> H' b = some (.tup xs)) : ObjOk P w H' h' a o := by
 induction o with
 | lst xs => obtain ⟨z, its, n, r, e⟩ := x; exact ⟨z, its, n, r, k _ _ (.inl rfl) e⟩
 | tup xs => obtain ⟨z, its, r, ob, e, c⟩ := x; exact ⟨z, its, r, ob, k _ _ (.inl rfl) e, c⟩
 | dK kvs => obtain ⟨z, y, vs, r, ob, es, ep, e, c⟩ := x; exact ⟨z, y, vs, r, ob, es, ep, k _ _ (.inl rfl) e, c⟩
 | dT kvs =>
  obtain ⟨z, y, xs, r, ob, es, ep, e, c⟩ := x;exact ⟨z, y, xs, Paired.mapP r fun p q z => ⟨z.1, ht _ _ z.2.1, z.2.2⟩, ob, es, ep, k _ _ (.inl rfl) e, c⟩
 | set S n => obtain ⟨ob, es, ep, t, e, c⟩ := x; exact ⟨ob, es, ep, t, k _ _ (.inl rfl) e, c⟩
 | ins C dx fs =>
  obtain ⟨d, z, ne, e, mA, ⟨od, es, ep, e2, c⟩, r⟩ := x;exact ⟨ho _ d, z, ne, k _ _ (.inl rfl) e, mA, ⟨od, es, ep, k _ _ (.inr d) e2, c⟩, r⟩
 | own y => obtain ⟨ob, e⟩ := x; exact ⟨ob, k _ _ (.inl rfl) e⟩
 | xd fs => obtain ⟨mA, ⟨od, es, ep, e, c⟩, r⟩ := x; exact ⟨mA, ⟨od, es, ep, k _ _ (.inl rfl) e, c⟩, r⟩
 | rng lo hi => obtain ⟨t, u, v, e⟩ := x; exact ⟨t, u, v, k _ _ (.inl rfl) e⟩
 | frz ob u ih => obtain ⟨e, q⟩ := x; exact ⟨k _ _ (.inl rfl) e, ih q⟩
 | tbl ps =>
  have e : h.get? a = some { cls := .none, data := .fields ps } := x;show h'.get? a = some { cls := .none, data := .fields ps };exact k a _ (.inl rfl) e
 | met f y =>
  have e : h.get? a = some (W.methodObj (.ref f) (.ref y)) := x;show h'.get? a = some (W.methodObj (.ref f) (.ref y));exact k a _ (.inl rfl) e
 | ext φ => obtain ⟨p, ⟨o, e⟩, st⟩ := x; exact ⟨st _ _ p fun o q => k _ _ (.inl rfl) q, ⟨o, k _ _ (.inl rfl) e⟩, st⟩
theorem HOk.lt (x : HOk P w H h) (e : H a = some o) : a < h.objs.size := (x a o e).lt
theorem HOk.fresh (x : HOk P w H h) (e : h.objs.size <= a) : H a = none := by
 cases q : H a with
 | none => rfl
 | some u => exact absurd (Nat.lt_of_lt_of_le (x.lt q) e) (Nat.lt_irrefl _)
theorem HOk.kept (x : HOk P w H h) (k : ∀ b u, h.get? b = some u -> h'.get? b = some u) : HOk P w H h' := fun a o e =>
 (x a o e).stay (fun b u _ q => k b u q) (fun _ q => q) fun _ _ q => q
theorem HOk.laid (x : HOk P w H h) (k : ∀ b u, h.get? b = some u -> h'.get? b = some u) (hp : h.objs.size <= a) (new : ObjOk P w (upd H a o) h' a o) : HOk P w (upd H a o) h' := fun b u e => by
 have hn := x.fresh hp
 by_cases hb : b = a
 ·subst hb; rw [zad] at e; cases e; exact new
 ·rw [za7 hb] at e;exact (x b u e).stay (fun c v _ q => k c v q) (fun c q => by rw [za7 (za8 q hn)]; exact q) fun c xs q => by rw [za7 (za8 q hn)]; exact q
end
def Rd (H : Hp) (a : Addr) (u : HO) : Prop := H a = some u \/ ∃ o, H a = some (.frz o u)
theorem Rd.ok {P : Program} {w : World} {H : Hp} {h : Heap} {a : Addr} {u : HO} (r : Rd H a u) (x : HOk P w H h) : ObjOk P w H h a u := by
 rcases r with r | ⟨o, r⟩
 ·exact x a u r
 ·obtain ⟨_, q⟩ := x a _ r;exact q
def Mut : Option HO -> Prop
 | some (.lst _) => True
 | some (.dK _) => True
 | some (.dT _) => True
 | some (.set _ _) => True
 | some (.ins _ _ _) => True
 | some (.ext _) => True
 | _ => False
section
variable {P : Program} {w : World} {H : Hp} {h h' : Heap} {x e : Addr} {o' : HO}
theorem HOk.write (ok : HOk P w H h) (mu : Mut (H x)) (he : e = x \/ H e = some (.own x)) (k : ∀ b u, b ≠ e -> h.get? b = some u -> h'.get? b = some u) (heo : ∃ u, h'.get? e = some u)
  (new : ObjOk P w (upd H x o') h' x o') : HOk P w (upd H x o') h' := fun b u q => by
 have nown : ∀ c y, H c = some (.own y) -> c ≠ x := fun c y r z => by subst z; rw [r] at mu; exact mu
 have ntup : ∀ c xs, H c = some (.tup xs) -> c ≠ x := fun c xs r z => by subst z; rw [r] at mu; exact mu
 by_cases hb : b = x
 ·subst hb; rw [zad] at q; cases q; exact new
 ·rw [za7 hb] at q
  by_cases hbe : b = e
  ·have q' : H b = some (.own x) := by
    rcases he with z | z
    ·exact absurd (hbe.trans z) hb
    ·rw [hbe]; exact z
   rw [q] at q'; cases q';obtain ⟨v, hv⟩ := heo;exact ⟨v, by rw [hbe]; exact hv⟩
  ·refine (ok b u q).stay (fun c v hc r => k c v ?_ r) (fun c r => by rw [za7 (nown c b r)]; exact r) fun c xs r => by rw [za7 (ntup c xs r)]; exact r
   rcases hc with rfl | hc
   ·exact hbe
   ·rintro rfl
    rcases he with z | z
    ·exact nown c b hc z
    ·rw [hc] at z; cases z; exact hb rfl
end
structure Un (fs ex : List Addr) (H H' : Hp) (h h' : Heap) : Prop where
 keep : ∀ b o, h.get? b = some o -> H b = none -> b ∉ fs -> b ∉ ex -> h'.get? b = some o
 slot : ∀ b o, h.get? b = some o -> H b = none -> b ∈ fs -> b ∉ ex -> ∃ sl, h'.get? b = some { o with slots := sl }
 free : ∀ b o, h.get? b = some o -> H b = none -> b ∉ ex -> H' b = none
 there : ∀ b o, h.get? b = some o -> b ∉ ex -> ∃ o', h'.get? b = some o'
 tups : ∀ b xs, H b = some (.tup xs) -> H' b = some (.tup xs)
 frzs : ∀ b o u, H b = some (.frz o u) -> H' b = some (.frz o u)
 tbls : ∀ b ps, H b = some (.tbl ps) -> ∃ more, H' b = some (.tbl (ps ++ more))
section
variable {fs fs' ex ex' : List Addr} {H H1 H2 : Hp} {h h1 h2 h' : Heap} {a x e : Addr} {o : HO}
theorem Un.any (u : Un fs ex H H1 h h1) {b : Addr} {ob : Obj} (q : h.get? b = some ob) (n : H b = none) (hx : b ∉ ex) : ∃ sl, h1.get? b = some { ob with slots := sl } := by
 by_cases hb : b ∈ fs
 ·exact u.slot b ob q n hb hx
 ·exact ⟨ob.slots, u.keep b ob q n hb hx⟩
theorem Un.kept (k : ∀ b u, h.get? b = some u -> h'.get? b = some u) : Un fs ex H H h h' :=
 ⟨fun b ob q _ _ _ => k b ob q, fun b ob q _ _ _ => ⟨ob.slots, k b ob q⟩, fun _ _ _ n _ => n, fun b ob q _ => ⟨ob, k b ob q⟩, fun _ _ q => q, fun _ _ _ q => q, fun _ ps q => ⟨#[], by rw [q]; simp⟩⟩
theorem Un.refl : Un fs ex H H h h := Un.kept fun _ _ q => q
theorem Un.laid (k : ∀ b u, h.get? b = some u -> h'.get? b = some u) (hp : h.objs.size <= a) (hn : H a = none) : Un fs ex H (upd H a o) h h' where
 keep := fun b u q _ _ _ => k b u q
 slot := fun b u q _ _ _ => ⟨u.slots, k b u q⟩
 free := fun b u q n _ => by rw [za7 (Nat.ne_of_lt (Nat.lt_of_lt_of_le (yan q) hp))]; exact n
 there := fun b u q _ => ⟨u, k b u q⟩
 tups := fun b xs q => by rw [za7 (za8 q hn)]; exact q
 frzs := fun b u xs q => by rw [za7 (za8 q hn)]; exact q
 tbls := fun b ps q => ⟨#[], by rw [za7 (za8 q hn), q]; simp⟩
theorem Un.write (mu : Mut (H x)) (he : e = x \/ H e = some (.own x)) (k : ∀ b u, b ≠ e -> h.get? b = some u -> h'.get? b = some u) (heo : ∃ u, h'.get? e = some u) : Un fs ex H (upd H x o) h h' := by
 have hx : ∀ b, H b = none -> b ≠ x := fun b n z => by subst z; rw [n] at mu; exact mu
 have hb : ∀ b, H b = none -> b ≠ e := fun b n z => by
  subst z;rcases he with r | r
  ·exact hx b n r
  ·rw [n] at r; cases r
 have hm : ∀ b u, H b = some u -> ¬ Mut (some u) -> b ≠ x := fun b u q nm z => by subst z; rw [q] at mu; exact nm mu
 refine ⟨fun b u q n _ _ => k b u (hb b n) q, fun b u q n _ _ => ⟨u.slots, k b u (hb b n) q⟩, fun b u q n _ => by rw [za7 (hx b n)]; exact n, fun b u q _ => ?_,
  fun b xs q => by rw [za7 (hm b _ q fun z => z)]; exact q, fun b u xs q => by rw [za7 (hm b _ q fun z => z)]; exact q, fun b ps q => ⟨#[], by rw [za7 (hm b _ q fun z => z), q]; simp⟩⟩
 by_cases hbe : b = e
 ·subst hbe; exact heo
 ·exact ⟨u, k b u hbe q⟩
end
def trk (h : Heap) (H : Hp) : List Addr := (List.range h.objs.size).filter fun a => (H a).isSome
def hidT (h : Heap) (H : Hp) : Heap := W.hideAll h (trk h H)
theorem zhn (h : Heap) (H : Hp) : (hidT h H).objs.size = h.objs.size := W.hideAll_size _ _
theorem ziK {h : Heap} {H : Hp} {b : Addr} {o : Obj} (e : h.get? b = some o) (n : H b = none) : (hidT h H).get? b = some o :=
 W.hideAll_get _ e fun hm => by
  have q : (H b).isSome = true := (List.mem_filter.mp hm).2;rw [n] at q; simp at q
theorem zkx {h : Heap} {H : Hp} {b : Addr} {o : Obj} (e : (hidT h H).get? b = some o) : h.get? b = some o /\ H b = none := by
 have e' : h.get? b = some o := W.of_hideAll (trk h H) e;refine ⟨e', ?_⟩;cases q : H b with
 | none => rfl
 | some x =>
  have hm : b ∈ trk h H := List.mem_filter.mpr ⟨List.mem_range.mpr (yan e'), by simp [q]⟩;have z : (hidT h H).get? b = none := W.hideAll_none (trk h H) hm;rw [z] at e; cases e
structure Mod (K : W.Frag) (mg : Str -> Option Value) (base : Heap) : Prop where
 kin : K.In base
 glob : base.Ns mainGlobals mg
 blt : ∃ mb, base.Ns builtinsNs mb /\ ∀ x : Str, x ≠ "__name__" -> mb x = bootBuiltins x
 nolimit : base.NoLimit
structure Cx where
 prog : Program
 w : World
 K : W.Frag
 mg : Str -> Option Value
 base : Heap
 A : Around
 N : List Str
 s₀ : Shared
 H₀ : Hp
 env : Env
 outer : List Env
 stack : List Env
 ex : List Addr
 fn : Str -> Bool
 calm : Bool
 pn : List (Addr × Obj)
 xe : Value -> Shared -> Prop
def frs (l : List Env) : List Addr := l.filterMap (·.frame)
abbrev Cx.fs (X : Cx) : List Addr := frs X.outer
def Vis (sc : Scope) (x : Str) : Prop := sc.names.lookup x = some .local \/ sc.names.lookup x = some .cell \/ sc.names.lookup x = some .free
def Loc (sc : Scope) (x : Str) : Prop := sc.names.lookup x = some .local \/ sc.names.lookup x = some .cell
def Look (env : Env) (h : Heap) (m : Str -> Option Value) (x : Str) (u : Value) : Prop :=
 (env.kindOf x = some .local /\ m x = some u) \/ ((env.kindOf x = some .cell \/ env.kindOf x = some .free) /\ ∃ c, env.cells.lookup x = some c /\ h.IsCell c (some u))
structure Cx.Ok (X : Cx) : Prop where
 mod : Mod X.K X.mg X.base
 kind : X.env.scope.kind = .function
 glob : X.env.globals = mainGlobals
 blt : X.env.builtins = builtinsNs
 above : X.s₀.heap.objs.size <= X.env.locals
 inj : ∀ x y c, X.env.cells.lookup x = some c -> X.env.cells.lookup y = some c -> x = y
 has : ∀ x, (X.env.kindOf x = some .cell \/ X.env.kindOf x = some .free) -> ∃ c, X.env.cells.lookup x = some c
 cab : ∀ x c, X.fn x = true -> X.env.cells.lookup x = some c -> X.s₀.heap.objs.size <= c
 hd : X.calm = true -> X.A.handled = none
 frames : X.A.frames = some X.stack
 stk : X.stack = X.outer \/ (X.stack = X.env :: X.outer /\ X.env.frame = some X.env.locals)
 exf : ∀ b ∈ X.ex, b ≠ X.env.locals /\ ∀ x c, X.env.cells.lookup x = some c -> c ≠ b
 bs : ∀ b o, X.base.get? b = some o -> X.s₀.heap.get? b = some o /\ X.H₀ b = none
 bsz : X.base.objs.size <= X.s₀.heap.objs.size
 noex : ∀ b o, X.base.get? b = some o -> b ∉ X.ex
 exfs : ∀ b ∈ X.ex, b ∉ X.fs
 funs : X.s₀.heap.FunFrames X.base X.outer
 frf : ∀ b ∈ X.fs, X.H₀ b = none
structure Inv (X : Cx) (Qa : List (Addr × Obj)) (σ : List (Option V)) (H : Hp) (s : Shared) : Prop where
 ok : X.Ok
 os : s.os = X.s₀.os
 bare : AllBare s.gens
 base : Un X.fs X.ex X.H₀ H X.s₀.heap s.heap
 loc : ∃ m, s.heap.Ns X.env.locals m /\ ∀ (i : Nat) (x : Str) (v : V), X.N[i]? = some x -> σ[i]? = some (some v) -> Vis X.env.scope x -> ∃ u, RelV v u /\ Look X.env s.heap m x u
 cell : ∀ x c, X.env.cells.lookup x = some c -> ∃ v, s.heap.IsCell c v
 free : H X.env.locals = none
 freeC : ∀ x c, X.env.cells.lookup x = some c -> H c = none
 pin : ∀ p ∈ X.pn ++ Qa, s.heap.get? p.1 = some p.2 /\ H p.1 = none /\ p.1 ≠ X.env.locals /\ p.1 ∉ X.fs /\ ∀ v, p.2.data ≠ .cell v
 hok : HOk X.prog X.w H s.heap
 len : σ.length = X.N.length
section
variable {X : Cx} {Qa : List (Addr × Obj)} {σ : List (Option V)} {H H' : Hp} {s : Shared} {h' : Heap}
theorem Cx.Ok.nofr (ok : X.Ok) {b : Addr} {o : Obj} (e : X.base.get? b = some o) : b ∉ X.fs := fun hb => by
 have := (ok.funs.mem hb).1;rw [e] at this; cases this
theorem Inv.bs (I : Inv X Qa σ H s) : ∀ b o, X.base.get? b = some o -> s.heap.get? b = some o /\ H b = none := fun b o e =>
 ⟨I.base.keep b o (I.ok.bs b o e).1 (I.ok.bs b o e).2 (I.ok.nofr e) (I.ok.noex b o e), I.base.free b o (I.ok.bs b o e).1 (I.ok.bs b o e).2 (I.ok.noex b o e)⟩
theorem Inv.bk (I : Inv X Qa σ H s) : ∀ b o, X.base.get? b = some o -> s.heap.get? b = some o := fun b o e => (I.bs b o e).1
theorem Inv.mod (I : Inv X Qa σ H s) : Mod X.K X.mg X.base := I.ok.mod
theorem Inv.kIn (I : Inv X Qa σ H s) : X.K.In s.heap := I.ok.mod.kin.keeps I.bk
theorem Inv.fr (I : Inv X Qa σ H s) : ∃ m, Fr X.base X.env.locals s.heap m :=
 let ⟨m, hn, _⟩ := I.loc
 ⟨m, hn, I.bk, yat I.ok.bsz I.ok.above⟩
theorem Inv.lt (I : Inv X Qa σ H s) : X.env.locals < s.heap.objs.size := let ⟨_, hn, _⟩ := I.loc; hn.lt
theorem Inv.sz (I : Inv X Qa σ H s) : X.s₀.heap.objs.size <= s.heap.objs.size := yat I.ok.above (Nat.le_of_lt I.lt)
theorem Inv.nofs (I : Inv X Qa σ H s) {a : Addr} (h : s.heap.objs.size <= a) : a ∉ X.fs := fun hb => by
 obtain ⟨_, o, ho, _⟩ := I.ok.funs.mem hb;exact absurd (Nat.lt_of_lt_of_le (yan ho) (yat I.sz h)) (Nat.lt_irrefl _)
theorem Inv.cne (I : Inv X Qa σ H s) : ∀ x c, X.env.cells.lookup x = some c -> c ≠ X.env.locals := fun x c e z => by
 obtain ⟨v, o, ho, hd⟩ := I.cell x c e;obtain ⟨m, ⟨o', es, ep, ho', hd', _⟩, _⟩ := I.loc;rw [z, ho'] at ho; cases ho; rw [hd'] at hd; cases hd
theorem Inv.funs (I : Inv X Qa σ H s) : s.heap.FunFrames X.base X.outer := by
 have all : ∀ (l : List Env), (∀ b ∈ frs l, b ∈ X.fs) -> X.s₀.heap.FunFrames X.base l -> s.heap.FunFrames X.base l := by
  intro l
  induction l with
  | nil => intro _ _; trivial
  | cons env r ih =>
   intro hs hl;obtain ⟨hk, ⟨L, o, hf, hn, ho, hd⟩, hr⟩ := hl;have hL : L ∈ X.fs := hs L (by unfold frs; rw [List.filterMap_cons, hf]; exact List.mem_cons_self);obtain ⟨sl, e⟩ := I.base.slot L o ho (I.ok.frf L hL) hL fun z => I.ok.exfs L z hL;exact ⟨hk, ⟨L, _, hf, hn, e, hd⟩, ih (fun b hb => hs b (by unfold frs; rw [List.filterMap_cons, hf]; exact List.mem_cons_of_mem _ hb)) hr⟩
 exact all X.outer (fun _ hb => hb) I.ok.funs
theorem Inv.stack (I : Inv X Qa σ H s) : s.heap.FunFrames X.base X.stack := by
 rcases I.ok.stk with e | ⟨e, hf⟩
 ·rw [e]; exact I.funs
 ·rw [e];obtain ⟨m, hn, _⟩ := I.loc;refine .cons (by rw [I.ok.kind]; decide) hf hn ?_ I.funs;exact Heap.get?_none_of_le (yat I.ok.bsz I.ok.above)
theorem Inv.stkSub (I : Inv X Qa σ H s) : ∀ b ∈ frs X.stack, b ∈ X.env.locals :: X.fs := fun b hb => by
 rcases I.ok.stk with e | ⟨e, hf⟩
 ·rw [e] at hb; exact List.mem_cons_of_mem _ hb
 ·rw [e] at hb;unfold frs at hb;rw [List.filterMap_cons, hf] at hb;exact hb
theorem Inv.stkFree (I : Inv X Qa σ H s) : ∀ b ∈ frs X.stack, H b = none := fun b hb => by
 rcases yau.mp (I.stkSub b hb) with e | hb
 ·rw [e]; exact I.free
 ·obtain ⟨_, o, ho, _⟩ := I.ok.funs.mem hb;exact I.base.free b o ho (I.ok.frf b hb) fun z => I.ok.exfs b z hb
theorem Inv.step {g' : Array GenState} {t' : Nat} {d' : Drawn} {ch : List Addr} (I : Inv X Qa σ H s)
  (hch : ∀ b ∈ ch, (b ∈ X.ex \/ X.s₀.heap.objs.size <= b) /\ b ≠ X.env.locals /\ (∀ x c, X.env.cells.lookup x = some c -> c ≠ b) /\ ∀ p ∈ X.pn ++ Qa, p.1 ≠ b)
  (keep : ∀ b o, b ≠ X.env.locals -> b ∉ X.fs -> b ∉ ch -> s.heap.get? b = some o -> H b = none -> h'.get? b = some o)
  (slot : ∀ b o, b ≠ X.env.locals -> b ∈ X.fs -> b ∉ ch -> s.heap.get? b = some o -> H b = none -> ∃ sl, h'.get? b = some { o with slots := sl }) (free : ∀ b o, b ∉ ch -> s.heap.get? b = some o -> H b = none -> H' b = none)
  (there : ∀ b o, b ∉ ch -> s.heap.get? b = some o -> ∃ o', h'.get? b = some o')
  (tups : ∀ b xs, H b = some (.tup xs) -> H' b = some (.tup xs)) (frzs : ∀ b o u, H b = some (.frz o u) -> H' b = some (.frz o u)) (tbls : ∀ b ps, H b = some (.tbl ps) -> ∃ more, H' b = some (.tbl (ps ++ more)))
  (ns : ∀ m, s.heap.Ns X.env.locals m -> h'.Ns X.env.locals m) (hok : HOk X.prog X.w H' h') (hg : AllBare g') :
  Inv X Qa σ H' { s with heap := h', gens := g', drawn := d', toks := t' } := by
 have neL : ∀ b o, X.s₀.heap.get? b = some o -> b ≠ X.env.locals := fun b o e => Nat.ne_of_lt (Nat.lt_of_lt_of_le (yan e) I.ok.above);have neC : ∀ b o, X.s₀.heap.get? b = some o -> b ∉ X.ex -> b ∉ ch := fun b o e hx hb => by
  rcases (hch b hb).1 with z | z
  ·exact hx z
  ·exact absurd (Nat.lt_of_lt_of_le (yan e) z) (Nat.lt_irrefl _)
 have cellK : ∀ x c, X.env.cells.lookup x = some c -> ∀ v, s.heap.IsCell c v -> h'.IsCell c v := fun x c e v ⟨o, ho, hd⟩ => by
  have nch : c ∉ ch := fun z => (hch c z).2.2.1 x c e rfl
  by_cases hc : c ∈ X.fs
  ·obtain ⟨sl, q⟩ := slot c o (I.cne x c e) hc nch ho (I.freeC x c e);exact ⟨_, q, hd⟩
  ·exact ⟨o, keep c o (I.cne x c e) hc nch ho (I.freeC x c e), hd⟩
 refine ⟨I.ok, I.os, hg, ⟨fun b o e n hb hx => ?_, fun b o e n hb hx => ?_, fun b o e n hx => ?_, fun b o e hx => ?_, fun b xs e => tups b xs (I.base.tups b xs e), fun b o xs e => frzs b o xs (I.base.frzs b o xs e), fun b ps e => ?_⟩, ?_, fun x c e => ?_, ?_, fun x c e => ?_, fun p hp => ?_, hok, I.len⟩
 ·exact keep b o (neL b o e) hb (neC b o e hx) (I.base.keep b o e n hb hx) (I.base.free b o e n hx)
 ·obtain ⟨sl, e1⟩ := I.base.slot b o e n hb hx;obtain ⟨sl', e2⟩ := slot b _ (neL b o e) hb (neC b o e hx) e1 (I.base.free b o e n hx);exact ⟨sl', e2⟩
 ·obtain ⟨o', e1⟩ := I.base.there b o e hx;exact free b o' (neC b o e hx) e1 (I.base.free b o e n hx)
 ·obtain ⟨o', e1⟩ := I.base.there b o e hx;exact there b o' (neC b o e hx) e1
 ·obtain ⟨m1, e1⟩ := I.base.tbls b ps e;obtain ⟨m2, e2⟩ := tbls b _ e1;exact ⟨m1 ++ m2, by rw [e2, Array.append_assoc]⟩
 ·obtain ⟨m, hn, hl⟩ := I.loc;refine ⟨m, ns m hn, fun i x v e1 e2 e3 => ?_⟩;obtain ⟨u, r, l⟩ := hl i x v e1 e2 e3;refine ⟨u, r, ?_⟩;rcases l with l | ⟨k, c, e, z⟩
  ·exact .inl l
  ·exact .inr ⟨k, c, e, cellK x c e _ z⟩
 ·obtain ⟨v, z⟩ := I.cell x c e;exact ⟨v, cellK x c e v z⟩
 ·obtain ⟨m, ⟨o, _, _, ho, _⟩, _⟩ := I.loc;exact free _ o (fun z => (hch _ z).2.1 rfl) ho I.free
 ·obtain ⟨v, o, ho, hd⟩ := I.cell x c e;exact free c o (fun z => (hch c z).2.2.1 x c e rfl) ho (I.freeC x c e)
 ·obtain ⟨e, n, ne, nf, d⟩ := I.pin p hp;have nch : p.1 ∉ ch := fun z => (hch p.1 z).2.2.2 p hp rfl;exact ⟨keep p.1 p.2 ne nf nch e n, free p.1 p.2 nch e n, ne, nf, d⟩
theorem Inv.un {t' : Nat} (I : Inv X Qa σ H s) (u : Un X.fs [] H H' s.heap h') (hok : HOk X.prog X.w H' h') : Inv X Qa σ H' { s with heap := h', toks := t' } := by
 obtain ⟨m, ⟨o, es, ep, ho, r⟩, _⟩ := id I.loc;obtain ⟨sl, hL⟩ := u.any ho I.free (by simp);exact I.step (g' := s.gens) (d' := s.drawn) (ch := []) (fun _ z => nomatch z) (fun b o _ hb _ e n => u.keep b o e n hb (by simp)) (fun b o _ hb _ e n => u.slot b o e n hb (by simp)) (fun b o _ e n => u.free b o e n (by simp)) (fun b o _ e => u.there b o e (by simp)) u.tups u.frzs u.tbls (fun m' hm => by
  obtain ⟨o', es', ep', ho', r'⟩ := hm;rw [ho] at ho'; cases ho';exact ⟨_, es', ep', hL, r'⟩) hok I.bare
theorem Inv.call {g' : Array GenState} {t' : Nat} {d' : Drawn} {ch : List Addr} (I : Inv X Qa σ H s) (u : Un (frs X.stack) ch H H' s.heap h') (hok : HOk X.prog X.w H' h') (hg : AllBare g')
  (hch : ∀ b ∈ ch, (b ∈ X.ex \/ X.s₀.heap.objs.size <= b) /\ b ≠ X.env.locals /\ (∀ x c, X.env.cells.lookup x = some c -> c ≠ b) /\ ∀ p ∈ X.pn ++ Qa, p.1 ≠ b) :
  Inv X Qa σ H' { s with heap := h', gens := g', drawn := d', toks := t' } := by
 obtain ⟨m, ⟨o, es, ep, ho, r⟩, _⟩ := id I.loc;obtain ⟨sl, hL⟩ := u.any ho I.free fun z => (hch _ z).2.1 rfl;exact I.step (ch := ch) hch (fun b o hL hb hc e n => u.keep b o e n (fun z => (yau.mp (I.stkSub b z)).elim hL hb) hc) (fun b o _ _ hc e n => u.any e n hc) (fun b o hc e n => u.free b o e n hc) (fun b o hc e => u.there b o e hc) u.tups u.frzs u.tbls (fun m' hm => by
  obtain ⟨o', es', ep', ho', r'⟩ := hm;rw [ho] at ho'; cases ho';exact ⟨_, es', ep', hL, r'⟩) hok hg
theorem Inv.turned {t' : Nat} {it : Addr} (I : Inv X Qa σ H s) (k : ∀ b o, b ≠ it -> s.heap.get? b = some o -> h'.get? b = some o) (hn : H it = none) (hL : it ≠ X.env.locals)
  (h1 : it ∈ X.ex \/ X.s₀.heap.objs.size <= it) (h2 : ∀ x c, X.env.cells.lookup x = some c -> c ≠ it) (h3 : ∀ p ∈ X.pn ++ Qa, p.1 ≠ it) : Inv X Qa σ H { s with heap := h', toks := t' } := by
 have nit : ∀ b u, H b = some u -> b ≠ it := fun b u e z => by rw [z, hn] at e; cases e
 refine I.step (g' := s.gens) (d' := s.drawn) (ch := [it]) (fun b hb => ?_) (fun b o _ _ hc e _ => k b o (fun z => hc (by simp [z])) e) (fun b o _ _ hc e _ => ⟨o.slots, k b o (fun z => hc (by simp [z])) e⟩) (fun _ _ _ _ n => n)
  (fun b o hc e => ⟨o, k b o (fun z => hc (by simp [z])) e⟩) (fun _ _ e => e) (fun _ _ _ e => e) (fun b ps e => ⟨#[], by rw [e]; simp⟩) (fun m hm => ?_) (fun b u e => ?_) I.bare
 ·have e : b = it := by simpa using hb
  subst e;exact ⟨h1, hL, h2, h3⟩
 ·obtain ⟨o, es, ep, ho, r⟩ := hm;exact ⟨o, es, ep, k _ o (Ne.symm hL) ho, r⟩
 ·refine (I.hok b u e).stay (fun c v hc q => k c v ?_ q) (fun _ q => q) fun _ _ q => q;rcases hc with z | z
  ·rw [z]; exact nit b u e
  ·exact nit c _ z
theorem Inv.tok (I : Inv X Qa σ H s) (t : Nat) : Inv X Qa σ H { s with toks := t } := I.un (h' := s.heap) (t' := t) Un.refl I.hok
theorem Inv.kept {t' : Nat} (I : Inv X Qa σ H s) (k : ∀ b u, s.heap.get? b = some u -> h'.get? b = some u) : Inv X Qa σ H { s with heap := h', toks := t' } := I.un (Un.kept k) (I.hok.kept k)
theorem Inv.laid {a : Addr} {o : HO} {t' : Nat} (I : Inv X Qa σ H s) (k : ∀ b u, s.heap.get? b = some u -> h'.get? b = some u) (hp : s.heap.objs.size <= a) (new : ObjOk X.prog X.w (upd H a o) h' a o) :
  Inv X Qa σ (upd H a o) { s with heap := h', toks := t' } := I.un (Un.laid k hp (I.hok.fresh hp)) (I.hok.laid k hp new)
theorem Inv.write {x e : Addr} {o : HO} {t' : Nat} (I : Inv X Qa σ H s) (mu : Mut (H x)) (he : e = x \/ H e = some (.own x)) (k : ∀ b u, b ≠ e -> s.heap.get? b = some u -> h'.get? b = some u) (heo : ∃ u, h'.get? e = some u)
  (new : ObjOk X.prog X.w (upd H x o) h' x o) : Inv X Qa σ (upd H x o) { s with heap := h', toks := t' } := I.un (Un.write mu he k heo) (I.hok.write mu he k heo new)
theorem Inv.weak {σ' : List (Option V)} (I : Inv X Qa σ H s) (hl : σ'.length = σ.length) (w : ∀ (i : Nat) v, σ'[i]? = some (some v) -> σ[i]? = some (some v)) : Inv X Qa σ' H s :=
 ⟨I.ok, I.os, I.bare, I.base, let ⟨m, hn, hl'⟩ := I.loc; ⟨m, hn, fun i x v e1 e2 e3 => hl' i x v e1 (w i v e2) e3⟩, I.cell, I.free, I.freeC, I.pin, I.hok, hl.trans I.len⟩
theorem Inv.pins_of {pins' : List (Addr × Obj)} (I : Inv X Qa σ H s) (h : ∀ p ∈ pins', s.heap.get? p.1 = some p.2 /\ H p.1 = none /\ p.1 ≠ X.env.locals /\ p.1 ∉ X.fs /\ ∀ v, p.2.data ≠ .cell v) : Inv X pins' σ H s :=
 ⟨I.ok, I.os, I.bare, I.base, I.loc, I.cell, I.free, I.freeC, fun p hp => (yay.mp hp).elim (fun z => I.pin p (List.mem_append_left _ z)) (h p), I.hok, I.len⟩
theorem zge {N : List Str} (hN : N.Nodup) {i j : Nat} {x : Str} (a : N[i]? = some x) (b : N[j]? = some x) : i = j := by
 obtain ⟨h1, e1⟩ := yag.mp a;obtain ⟨h2, e2⟩ := yag.mp b;exact (List.getElem_inj hN).mp (e1.trans e2.symm)
theorem zeR {M : Model} {A : Around} {E : Value -> Shared -> Prop} {i : Nat} {x : Str} {v : V} {u : Value} {Q : Unit -> Shared -> Prop} (I : Inv X Qa σ H s) (hN : X.N.Nodup) (hi : X.N[i]? = some x) (hx : Loc X.env.scope x) (r : RelV v u)
  (h : ∀ s', Inv X Qa (σ.set i (some v)) H s' -> (∃ a, Heap.SameBut a s.heap s'.heap /\ (a = X.env.locals \/ X.env.cells.lookup x = some a)) -> Q () s') (hf : X.fn x = true \/ X.env.scope.names.lookup x = some .local := by first | exact .inl rfl | exact .inr rfl | assumption) : wpAny M A (storeName X.env x u) Q E s := by
 obtain ⟨m, hn, hl⟩ := id I.loc;have hcls : (X.env.scope.kind == .class || (X.env.scope.kind == .module && X.env.locals != X.env.globals)) = false := by rw [I.ok.kind]; rfl
 have hiσ : i < σ.length := by rw [I.len]; exact (yag.mp hi).1
 have cne := I.cne;have tracked : ∀ {a : Addr} {h' : Heap}, (∃ o, s.heap.get? a = some o /\ H a = none) -> Heap.SameBut a s.heap h' -> HOk X.prog X.w H h' := fun {a h'} ha hs b ob e => by
  obtain ⟨_, _, hfree⟩ := ha;refine (I.hok b ob e).stay (fun c w' hc q => (hs.2 c ?_).trans q) (fun _ q => q) fun _ _ q => q
  rintro rfl
  rcases hc with rfl | hc
  ·rw [hfree] at e; cases e
  ·rw [hfree] at hc; cases hc
 rcases hx with hk | hk
 ·refine wpAny_storeName_local hk hn (fun h' hn' hs => ?_) hcls;obtain ⟨oL, _, _, hoL, _⟩ := id hn;refine h _ ⟨I.ok, I.os, I.bare, ⟨fun b o e n hb hx => ?_, fun b o e n hb hx => ?_, I.base.free, fun b o e hx => ?_, I.base.tups, I.base.frzs, I.base.tbls⟩, ⟨_, hn', fun j y v' e1 e2 e3 => ?_⟩, fun y c e => ?_, I.free, I.freeC, fun p hp => ?_, tracked ⟨oL, hoL, I.free⟩ hs, by simpa using I.len⟩ ⟨_, hs, .inl rfl⟩
  ·exact (hs.2 b (Nat.ne_of_lt (Nat.lt_of_lt_of_le (yan e) I.ok.above))).trans (I.base.keep b o e n hb hx)
  ·obtain ⟨sl, e1⟩ := I.base.slot b o e n hb hx;exact ⟨sl, (hs.2 b (Nat.ne_of_lt (Nat.lt_of_lt_of_le (yan e) I.ok.above))).trans e1⟩
  ·obtain ⟨o', e1⟩ := I.base.there b o e hx;exact ⟨o', (hs.2 b (Nat.ne_of_lt (Nat.lt_of_lt_of_le (yan e) I.ok.above))).trans e1⟩
  ·by_cases hj : j = i
   ·subst hj;rw [hi] at e1; cases e1;rw [List.getElem?_set_self hiσ] at e2;cases e2;exact ⟨u, r, .inl ⟨hk, by simp⟩⟩
   ·rw [List.getElem?_set_ne (Ne.symm hj)] at e2;obtain ⟨u', r', q⟩ := hl j y v' e1 e2 e3;refine ⟨u', r', ?_⟩;rcases q with ⟨k, e⟩ | ⟨k, c, e, z⟩
    ·refine .inl ⟨k, ?_⟩;have : y ≠ x := fun e => hj (zge hN e1 (e ▸ hi));simp [this, e]
    ·exact .inr ⟨k, c, e, z.sameBut hs (cne y c e)⟩
  ·obtain ⟨w', z⟩ := I.cell y c e;exact ⟨w', z.sameBut hs (cne y c e)⟩
  ·obtain ⟨e, n, ne, nf, d⟩ := I.pin p hp;exact ⟨(hs.2 p.1 ne).trans e, n, ne, nf, d⟩
 ·have hfn : X.fn x = true := by
   rcases hf with z | z
   ·exact z
   ·rw [z] at hk; cases hk
  obtain ⟨c, hc⟩ := I.ok.has x (.inl hk);obtain ⟨w', z⟩ := I.cell x c hc;refine wpAny_storeName_cell I.ok.kind hk hc z (fun h' hc' hs => ?_);obtain ⟨oc, hoc, hocd⟩ := id z;refine h { s with heap := h' } ⟨I.ok, I.os, I.bare, ⟨fun b o e n hb hx => ?_, fun b o e n hb hx => ?_, I.base.free, fun b o e hx => ?_, I.base.tups, I.base.frzs, I.base.tbls⟩, ⟨m, hn.sameBut hs (Ne.symm (cne x c hc)), fun j y v' e1 e2 e3 => ?_⟩, fun y c' e => ?_, I.free, I.freeC, fun p hp => ?_, tracked ⟨oc, hoc, I.freeC x c hc⟩ hs, by simpa using I.len⟩ ⟨c, hs, .inr hc⟩
  ·exact (hs.2 b (Nat.ne_of_lt (Nat.lt_of_lt_of_le (yan e) (I.ok.cab x c hfn hc)))).trans (I.base.keep b o e n hb hx)
  ·obtain ⟨sl, e1⟩ := I.base.slot b o e n hb hx;exact ⟨sl, (hs.2 b (Nat.ne_of_lt (Nat.lt_of_lt_of_le (yan e) (I.ok.cab x c hfn hc)))).trans e1⟩
  ·obtain ⟨o', e1⟩ := I.base.there b o e hx;exact ⟨o', (hs.2 b (Nat.ne_of_lt (Nat.lt_of_lt_of_le (yan e) (I.ok.cab x c hfn hc)))).trans e1⟩
  ·by_cases hj : j = i
   ·subst hj;rw [hi] at e1; cases e1;rw [List.getElem?_set_self hiσ] at e2;cases e2;exact ⟨u, r, .inr ⟨.inl hk, c, hc, hc'⟩⟩
   ·rw [List.getElem?_set_ne (Ne.symm hj)] at e2;obtain ⟨u', r', q⟩ := hl j y v' e1 e2 e3;refine ⟨u', r', ?_⟩;rcases q with q | ⟨k, c', e, z'⟩
    ·exact .inl q
    ·refine .inr ⟨k, c', e, z'.sameBut hs ?_⟩
     rintro rfl
     exact hj (zge hN e1 (I.ok.inj _ _ _ e hc ▸ hi))
  ·by_cases hcc : c' = c
   ·subst hcc; exact ⟨_, hc'⟩
   ·obtain ⟨w2, z2⟩ := I.cell y c' e;exact ⟨w2, z2.sameBut hs hcc⟩
  ·obtain ⟨e, n, ne, nf, d⟩ := I.pin p hp;refine ⟨(hs.2 p.1 ?_).trans e, n, ne, nf, d⟩;intro q;rw [q, hoc] at e;have q' : oc = p.2 := Option.some.inj e;exact d w' (by rw [<- q']; exact hocd)
theorem zgf {M : Model} {A : Around} {E : Value -> Shared -> Prop} {i : Nat} {x : Str} {v : V} {u : Value} {Q : Unit -> Shared -> Prop} (I : Inv X Qa σ H s) (hN : X.N.Nodup) (hi : X.N[i]? = some x) (hx : Loc X.env.scope x) (r : RelV v u)
  (h : ∀ s', Inv X Qa (σ.set i (some v)) H s' -> Q () s') (hf : X.fn x = true \/ X.env.scope.names.lookup x = some .local := by first | exact .inl rfl | exact .inr rfl | assumption) : wpAny M A (storeName X.env x u) Q E s :=
 zeR I hN hi hx r (fun s' I' _ => h s' I') hf
theorem Inv.call' {s' : Shared} {ch : List Addr} (I : Inv X Qa σ H s) (ho : s'.os = s.os) (u : Un (frs X.stack) ch H H' s.heap s'.heap) (hok : HOk X.prog X.w H' s'.heap) (hg : AllBare s'.gens)
  (hch : ∀ b ∈ ch, (b ∈ X.ex \/ X.s₀.heap.objs.size <= b) /\ b ≠ X.env.locals /\ (∀ x c, X.env.cells.lookup x = some c -> c ≠ b) /\ ∀ p ∈ X.pn ++ Qa, p.1 ≠ b) : Inv X Qa σ H' s' := by
 obtain ⟨h', g', d', t', o'⟩ := s';have e : o' = s.os := ho;subst e;exact I.call (g' := g') (t' := t') (d' := d') u hok hg hch
end
abbrev XK := Value -> Option Addr -> Hp -> Prop
abbrev St := List (Option V)
abbrev VK := V -> Hp -> Prop
abbrev TE := St -> Hp -> VK -> Prop
abbrev TT := St -> Hp -> (Bool -> Hp -> Prop) -> Prop
abbrev TA := St -> Hp -> (List V -> Hp -> Prop) -> Prop
structure Ends where
 nx : St -> Hp -> Prop
 rt : VK
 bk : St -> Hp -> Prop := fun _ _ => False
 ct : St -> Hp -> Prop := fun _ _ => False
abbrev TS := Ends -> St -> Hp -> Prop
def EP (X : Cx) (Qa : List (Addr × Obj)) (σ : St) (Q : VK) (u : Value) (s' : Shared) : Prop := ∃ v H', Inv X Qa σ H' s' /\ RelV v u /\ Q v H'
def TP (X : Cx) (Qa : List (Addr × Obj)) (σ : St) (Q : Bool -> Hp -> Prop) (b : Bool) (s' : Shared) : Prop := ∃ H', Inv X Qa σ H' s' /\ Q b H'
def AP (X : Cx) (Qa : List (Addr × Obj)) (σ : St) (Q : List V -> Hp -> Prop) (us : List Value) (s' : Shared) : Prop := ∃ vs H', Inv X Qa σ H' s' /\ Vals vs us /\ Q vs H'
def SP (X : Cx) (Qa : List (Addr × Obj)) (D : Ends) (f : Flow) (s' : Shared) : Prop :=
 match f with
 | .next => ∃ σ' H', Inv X Qa σ' H' s' /\ D.nx σ' H'
 | .brk => ∃ σ' H', Inv X Qa σ' H' s' /\ D.bk σ' H'
 | .cont => ∃ σ' H', Inv X Qa σ' H' s' /\ D.ct σ' H'
 | .ret u => ∃ v σ' H', Inv X Qa σ' H' s' /\ RelV v u /\ D.rt v H'
def PE (X : Cx) (e : Expr) (t : TE) : Prop :=
 ∀ (Qa : List (Addr × Obj)) (s : Shared) (σ : St) (H : Hp) (Q : VK), Inv X Qa σ H s -> t σ H Q -> wpAny (model X.prog X.w) X.A (eval e X.env) (EP X Qa σ Q) X.xe s
def PT (X : Cx) (e : Expr) (t : TT) : Prop :=
 ∀ (Qa : List (Addr × Obj)) (s : Shared) (σ : St) (H : Hp) (Q : Bool -> Hp -> Prop), Inv X Qa σ H s -> t σ H Q -> wpAny (model X.prog X.w) X.A (isTrue e X.env (eval e X.env)) (TP X Qa σ Q) X.xe s
def PW (X : Cx) (e : Expr) (t : TT) : Prop :=
 ∀ (whole : Sem Value) (Qa : List (Addr × Obj)) (s : Shared) (σ : St) (H : Hp) (Q : Bool -> Hp -> Prop), Inv X Qa σ H s -> t σ H Q -> wpAny (model X.prog X.w) X.A (isTrue e X.env whole) (TP X Qa σ Q) X.xe s
theorem PW.pt {X : Cx} {e : Expr} {t : TT} (h : PW X e t) : PT X e t := h _
def PA (X : Cx) (es : List Expr) (t : TA) : Prop :=
 ∀ (pos : Pos) (Qa : List (Addr × Obj)) (s : Shared) (σ : St) (H : Hp) (Q : List V -> Hp -> Prop), Inv X Qa σ H s -> t σ H Q -> wpAny (model X.prog X.w) X.A (spliced (backTo pos (starEach es X.env))) (AP X Qa σ Q) X.xe s
def PS (X : Cx) (st : Stmt) (t : TS) : Prop :=
 ∀ (Qa : List (Addr × Obj)) (s : Shared) (σ : St) (H : Hp) (D : Ends), Inv X Qa σ H s -> t D σ H -> wpAny (model X.prog X.w) X.A (exec st X.env) (SP X Qa D) X.xe s
def PSs (X : Cx) (st : List Stmt) (t : TS) : Prop :=
 ∀ (Qa : List (Addr × Obj)) (s : Shared) (σ : St) (H : Hp) (D : Ends), Inv X Qa σ H s -> t D σ H -> wpAny (model X.prog X.w) X.A (execs st X.env) (SP X Qa D) X.xe s
theorem thn {α : Type} {t : Sem α} {Q Q' : α -> Shared -> Prop} {M : Model} {A : Around} {E : Value -> Shared -> Prop} {s : Shared} (h : wpAny M A t Q E s) (hQ : ∀ a s, Q a s -> Q' a s) : wpAny M A t Q' E s := wpAny_mono h hQ fun _ _ x => x
section
variable {X : Cx}
theorem bin {a b : Expr} {ta tb : TE} (ha : PE X a ta) (hb : PE X b tb) {Qa : List (Addr × Obj)} {s : Shared} {σ : St} {H : Hp} {R : V -> V -> Hp -> Prop} (I : Inv X Qa σ H s) (h : ta σ H fun x H1 => tb σ H1 fun y H2 => R x y H2)
  {α : Type} {Q : α -> Shared -> Prop} {f : Value -> Value -> Sem α}
  (hf : ∀ v u s2 x y H2, Inv X Qa σ H2 s2 -> RelV x v -> RelV y u -> R x y H2 -> wpAny (model X.prog X.w) X.A (f v u) Q X.xe s2) :
  wpAny (model X.prog X.w) X.A (eval a X.env) (fun v s₁ => wpAny (model X.prog X.w) X.A (eval b X.env) (fun u s₂ => wpAny (model X.prog X.w) X.A (f v u) Q X.xe s₂) X.xe s₁) X.xe s := by
 refine thn (ha Qa s σ H _ I h) fun v s1 ⟨x, H1, I1, r1, q1⟩ => ?_;refine thn (hb Qa s1 σ H1 _ I1 q1) fun u s2 ⟨y, H2, I2, r2, q2⟩ => ?_;exact hf v u s2 x y H2 I2 r1 r2 q2
def tVar (i : Nat) : TE := fun σ H Q => ∃ v, σ[i]? = some (some v) /\ Q v H
def tC (v : V) : TE := fun _ H Q => Q v H
theorem zlB {i : Nat} {x : Str} {pos : Pos} (hN : X.N[i]? = some x) (hv : Vis X.env.scope x) (hd : (x == ("__debug__" : Str)) = false := by decide) (hcd : (x == ("__classdict__" : Str)) = false := by decide) : PE X (.Name x pos) (tVar i) := by
 intro Qa s σ H Q I h;obtain ⟨v, e, h⟩ := h;obtain ⟨m, hn, hl⟩ := I.loc;obtain ⟨u, r, l⟩ := hl i x v hN e hv;have fin : EP X Qa σ Q u s := ⟨v, H, I, r, h⟩
 rcases l with ⟨hk, hm⟩ | ⟨hk, c, hc, hcell⟩
 ·exact wpAny_Name (wpAny_loadName_local I.ok.kind hk hn hm fin) hd
 ·rcases hk with hk | hk
  ·exact wpAny_Name (wpAny_loadName_cell I.ok.kind hk hc hcell fin) hd
  ·exact wpAny_Name (wpAny_loadName_free I.ok.kind hk hc hcell fin hcd) hd
theorem zab {i j pos} : PE X (.Constant (.int i) j pos) (tC (.int i)) := fun _ _ _ H _ I h => wpAny_Constant_int ⟨.int i, H, I.tok _, ⟨_, rfl⟩, h⟩
theorem zcI {b j pos} : PE X (.Constant (.bool b) j pos) (tC (.bl b)) := fun _ _ _ H _ I h => Constant_bool ⟨.bl b, H, I, rfl, h⟩
theorem zbA {j pos} : PE X (.Constant .none j pos) (tC .non) := fun _ _ _ H _ I h => Constant_none ⟨.non, H, I, rfl, h⟩
theorem zas {x j pos} : PE X (.Constant (.str x) j pos) (tC (.str x)) := fun _ _ _ H _ I h => Calls.Constant_str ⟨.str x, H, I.tok _, ⟨_, rfl⟩, h⟩
def Gl (X : Cx) (x : Str) : Prop := X.env.kindOf x = some .globalImplicit
theorem zf7 {E : Value -> Shared -> Prop} {Qa : List (Addr × Obj)} {s : Shared} {σ : St} {H : Hp} {x : Str} {u : Value} {pos : Pos} {Q : Value -> Shared -> Prop} (I : Inv X Qa σ H s) (hg : Gl X x) (hm : X.mg x = some u) (h : Q u s)
  (hd : (x == ("__debug__" : Str)) = false := by decide) : wpAny (model X.prog X.w) X.A (eval (.Name x pos) X.env) Q E s :=
 Calls.Name_function_global I.ok.kind hg (Calls.loadGlobal_global (by rw [I.ok.glob]; exact I.mod.glob.keeps I.bk) hm h) hd
theorem zd3 {E : Value -> Shared -> Prop} {Qa : List (Addr × Obj)} {s : Shared} {σ : St} {H : Hp} {x : Str} {u : Value} {pos : Pos} {Q : Value -> Shared -> Prop} (I : Inv X Qa σ H s) (hg : Gl X x) (hm : X.mg x = none) (hv : bootBuiltins x = some u) (h : Q u s)
  (hn : x ≠ "__name__" := by decide) (hd : (x == ("__debug__" : Str)) = false := by decide) : wpAny (model X.prog X.w) X.A (eval (.Name x pos) X.env) Q E s := by
 obtain ⟨mb, h1, h2⟩ := I.mod.blt;exact Calls.Name_function_global I.ok.kind hg (Calls.loadGlobal_builtin (by rw [I.ok.glob]; exact I.mod.glob.keeps I.bk) hm (by rw [I.ok.blt]; exact h1.keeps I.bk) ((h2 x hn).trans hv) h) hd
theorem zcw {x : Str} {v : V} {u : Value} {pos : Pos} (hg : Gl X x) (hm : X.mg x = some u) (r : RelV v u) (hd : (x == ("__debug__" : Str)) = false := by decide) : PE X (.Name x pos) (tC v) :=
 fun _ _ _ H _ I h => zf7 I hg hm ⟨v, H, I, r, h⟩ hd
theorem zbT {x : Str} {v : V} {u : Value} {pos : Pos} (hg : Gl X x) (hm : X.mg x = none) (hv : bootBuiltins x = some u) (r : RelV v u) (hn : x ≠ "__name__" := by decide) (hd : (x == ("__debug__" : Str)) = false := by decide) : PE X (.Name x pos) (tC v) :=
 fun _ _ _ H _ I h => zd3 I hg hm hv ⟨v, H, I, r, h⟩ hn hd
variable {a b : Expr} {ta tb : TE} {pos : Pos}
def PC (X : Cx) (op : CmpOp) (a b : Expr) (t : TE) : Prop :=
 ∀ (Qa : List (Addr × Obj)) (s : Shared) (σ : St) (H : Hp) (Q : VK), Inv X Qa σ H s -> t σ H Q ->
  wpAny (model X.prog X.w) X.A (eval a X.env) (fun v s₁ => wpAny (model X.prog X.w) X.A (eval b X.env) (fun u s₂ => wpAny (model X.prog X.w) X.A (compareOp op v u) (EP X Qa σ Q) X.xe s₂) X.xe s₁) X.xe s
theorem zgg (b : Expr) {op : CmpOp} (h : op ≠ .In) (h2 : op ≠ .NotIn) : behindInMarks op b = false := by
 have e1 : (op == CmpOp.In) = false := by cases op <;> first | rfl | exact absurd rfl h
 have e2 : (op == CmpOp.NotIn) = false := by cases op <;> first | rfl | exact absurd rfl h2
 cases b <;> simp [behindInMarks, e1, e2]
def tIsN (ta : TE) : TE := fun σ H Q => ta σ H fun x H1 => Q (.bl (decide (x = .non))) H1
def zlC (ta : TE) : TE := fun σ H Q => ta σ H fun x H1 => Q (.bl (!decide (x = .non))) H1
theorem RelV.none_iff {x : V} {v : Value} (r : RelV x v) : (v == Value.none) = decide (x = .non) := by
 cases x with
 | non => cases r; rfl
 | bl _ => cases r; rfl
 | int _ => obtain ⟨t, rfl⟩ := r; rfl
 | str _ => obtain ⟨t, rfl⟩ := r; rfl
 | byt _ => obtain ⟨t, rfl⟩ := r; rfl
 | flt _ => obtain ⟨t, rfl⟩ := r; rfl
 | ref _ => cases r; rfl
 | ty _ => cases r; rfl
theorem zdi {j pos'} (ha : PE X a ta) : PC X .Is a (.Constant .none j pos') (tIsN ta) := by
 intro Qa s σ H Q I h;refine thn (ha Qa s σ H _ I h) fun v s1 ⟨x, H1, I1, r1, q1⟩ => ?_;exact Constant_none (is_none_gen ⟨.bl _, H1, I1, by rw [r1.none_iff]; rfl, q1⟩)
theorem zho {j pos'} (ha : PE X a ta) : PC X .IsNot a (.Constant .none j pos') (zlC ta) := by
 intro Qa s σ H Q I h;refine thn (ha Qa s σ H _ I h) fun v s1 ⟨x, H1, I1, r1, q1⟩ => ?_;exact Constant_none (isnot_none_gen ⟨.bl _, H1, I1, by rw [r1.none_iff]; rfl, q1⟩)
def tB (t : TE) : TT := fun σ H Q => t σ H fun x H1 => ∃ c, x = .bl c /\ Q c H1
theorem zjQ {op : CmpOp} {t : TE} (h : PC X op a b t) (h1 : behindInMarks op b = false := by first | exact zgg _ (by decide) (by decide) | rfl) : PE X (.Compare a [op] [b] pos) t := fun Qa s σ H Q I hw => wpAny_Compare1 (h Qa s σ H Q I hw) h1
theorem zdj {op : CmpOp} {t : TE} (h : PC X op a b t) (h1 : behindInMarks op b = false := by first | exact zgg _ (by decide) (by decide) | rfl) : PT X (.Compare a [op] [b] pos) (tB t) := by
 intro Qa s σ H Q I hw;refine wpAny_isTrue_Compare1 (thn (h Qa s σ H _ I hw) fun v s1 h1 => thn h1 fun u s2 h2 => thn h2 fun c s3 ⟨x, H1, I1, r1, q1⟩ => ?_) h1;obtain ⟨d, rfl, q⟩ := q1;cases r1;exact wpAny_truthy_bool ⟨H1, I1, q⟩
theorem zbm {e : Expr} {t : TE} (h : PE X e t) (he : ∀ whole, isTrue e X.env whole = (do let v <- whole; standAt e.pos; holding [v] (truthy v)) := by intro _; rfl) : PT X e (tB t) := by
 intro Qa s σ H Q I hw;refine isTrue_plain (thn (h Qa s σ H _ I hw) fun v s1 ⟨x, H1, I1, r1, q1⟩ => ?_) (he _);obtain ⟨d, rfl, q⟩ := q1;cases r1;exact wpAny_truthy_bool ⟨H1, I1, q⟩
variable {tA tB' : TT} {rest : List Expr}
def tAnd (t u : TT) : TT := fun σ H Q => t σ H fun c H1 => if c = true then u σ H1 Q else Q false H1
def tOr (t u : TT) : TT := fun σ H Q => t σ H fun c H1 => if c = true then Q true H1 else u σ H1 Q
def tNot (t : TT) : TT := fun σ H Q => t σ H fun c H1 => Q (!c) H1
theorem zhp (ha : PT X a tA) : PW X (.BoolOp .And [a] pos) tA := by
 intro wh Qa s σ H Q I h;refine isTrue_and (thn (ha Qa s σ H Q I h) fun c s1 e => ?_);cases c with
 | true => exact isTrue_and_nil e
 | false => exact e
theorem zby (ha : PT X a tA) : PW X (.BoolOp .Or [a] pos) tA := by
 intro wh Qa s σ H Q I h;refine isTrue_or (thn (ha Qa s σ H Q I h) fun c s1 e => ?_);cases c with
 | false => exact isTrue_or_nil e
 | true => exact e
theorem zjR (ha : PT X a tA) (hb : PW X (.BoolOp .And (b :: rest) pos) tB') : PW X (.BoolOp .And (a :: b :: rest) pos) (tAnd tA tB') := by
 intro wh Qa s σ H Q I h;refine isTrue_and (thn (ha Qa s σ H _ I h) fun c s1 ⟨H1, I1, q1⟩ => ?_);cases c with
 | true => exact hb wh Qa s1 σ H1 Q I1 q1
 | false => exact ⟨H1, I1, q1⟩
theorem zbz (ha : PT X a tA) (hb : PW X (.BoolOp .Or (b :: rest) pos) tB') : PW X (.BoolOp .Or (a :: b :: rest) pos) (tOr tA tB') := by
 intro wh Qa s σ H Q I h;refine isTrue_or (thn (ha Qa s σ H _ I h) fun c s1 ⟨H1, I1, q1⟩ => ?_);cases c with
 | true => exact ⟨H1, I1, q1⟩
 | false => exact hb wh Qa s1 σ H1 Q I1 q1
theorem zcr (ha : PT X a tA) : PT X (.UnaryOp .Not a pos) (tNot tA) := by
 intro Qa s σ H Q I h;exact isTrue_not (ha Qa s σ H (fun c H1 => Q (!c) H1) I h)
def zlD (ta tb : TE) : TE := fun σ H Q => ta σ H fun x H1 => ∃ c, x = .bl c /\ if c = true then tb σ H1 Q else Q (.bl false) H1
def zlE (ta : TE) : TE := fun σ H Q => ta σ H fun x H1 => ∃ c, x = .bl c /\ Q (.bl (!c)) H1
theorem zcx {op} {t : TE} (h : PE X a t) : PE X (.BoolOp op [a] pos) t := fun Qa s σ H Q I hw => BoolOp_one (h Qa s σ H Q I hw)
theorem zbB (ha : PE X a ta) (hb : PE X (.BoolOp .And (b :: rest) pos) tb) : PE X (.BoolOp .And (a :: b :: rest) pos) (zlD ta tb) := by
 intro Qa s σ H Q I h;refine BoolOp_and (thn (ha Qa s σ H _ I h) fun v s1 ⟨x, H1, I1, r1, q1⟩ => ?_);obtain ⟨c, rfl, q1⟩ := q1;cases r1;refine wpAny_truthy_bool ?_;cases c with
 | true => exact hb Qa s1 σ H1 Q I1 q1
 | false => exact ⟨.bl false, H1, I1, rfl, q1⟩
theorem zjS (ha : PE X a ta) : PE X (.UnaryOp .Not a pos) (zlE ta) := by
 intro Qa s σ H Q I h;refine UnaryOp_ (thn (ha Qa s σ H _ I h) fun v s1 ⟨x, H1, I1, r1, q1⟩ => ?_);obtain ⟨c, rfl, q1⟩ := q1;cases r1;exact not_of (wpAny_truthy_bool ⟨.bl (!c), H1, I1, rfl, q1⟩)
def tIf (t : TT) (ta tb : TE) : TE := fun σ H Q => t σ H fun c H1 => if c = true then ta σ H1 Q else tb σ H1 Q
theorem zc4 {c : Expr} (hc : PT X c tA) (ha : PE X a ta) (hb : PE X b tb) : PE X (.IfExp c a b pos) (tIf tA ta tb) := by
 intro Qa s σ H Q I h;refine wpAny_IfExp (thn (hc Qa s σ H _ I h) fun d s1 ⟨H1, I1, q1⟩ => ?_);cases d with
 | true => exact ha Qa s1 σ H1 Q I1 q1
 | false => exact hb Qa s1 σ H1 Q I1 q1
end
def SqL (K : W.Frag) (H : Hp) (a : Addr) (xs : List V) : Prop :=
 Rd H a (.lst xs) \/
  ∃ (o : Obj) (its : Array Value) (n : Nat), K.lookup a = some o /\ o.cls = .type "list" /\ o.dict = none /\ o.data = .seq its n /\ its.size <= sizeLine /\ Vals xs its.toList
def SqT (K : W.Frag) (H : Hp) (a : Addr) (xs : List V) : Prop :=
 Rd H a (.tup xs) \/
  ∃ (o : Obj) (its : Array Value) (n : Nat), K.lookup a = some o /\ o.cls = .type "tuple" /\ o.data = .seq its n /\ its.size <= sizeLine /\ Vals xs its.toList
def absV : Value -> Option V
 | .none => some .non
 | .bool b => some (.bl b)
 | .int i _ => some (.int i)
 | .str x _ => some (.str x)
 | .bytes b _ => some (.byt b)
 | .float b _ => some (.flt b)
 | .ref a => some (.ref a)
 | .type n => some (.ty n)
 | _ => none
theorem RelV.abs {x : V} {u : Value} (r : RelV x u) : absV u = some x := by
 cases x with
 | non => cases r; rfl
 | bl _ => cases r; rfl
 | int _ => obtain ⟨t, rfl⟩ := r; rfl
 | str _ => obtain ⟨t, rfl⟩ := r; rfl
 | byt _ => obtain ⟨t, rfl⟩ := r; rfl
 | flt _ => obtain ⟨t, rfl⟩ := r; rfl
 | ref _ => cases r; rfl
 | ty _ => cases r; rfl
theorem RelV.inj {x y : V} {u : Value} (r : RelV x u) (q : RelV y u) : x = y := Option.some.inj (r.abs.symm.trans q.abs)
theorem Vals.inj : ∀ {xs ys : List V} {us : List Value}, Vals xs us -> Vals ys us -> xs = ys
 | _, _, _, .nil, .nil => rfl
 | _, _, _, .cons r t, .cons r' t' => by rw [r.inj r', Vals.inj t t']
section
variable {X : Cx} {Qa : List (Addr × Obj)} {σ : St} {H : Hp} {s : Shared} {a : Addr} {xs ys : List V}
theorem SqL.of {K : W.Frag} (h : H a = some (.lst xs)) : SqL K H a xs := .inl (.inl h)
theorem SqT.of {K : W.Frag} (h : H a = some (.tup xs)) : SqT K H a xs := .inl (.inl h)
theorem Inv.list (I : Inv X Qa σ H s) (h : SqL X.K H a xs) : ∃ its : List Value, Vals xs its /\ PlainL s.heap a its.toArray /\ xs.length <= sizeLine := by
 rcases h with h | ⟨o, its, n, hk, hc, hd, hs, hz, r⟩
 ·obtain ⟨z, its, n, r, e⟩ := h.ok I.hok;exact ⟨its, r, ⟨_, n, e, rfl, rfl, rfl⟩, z⟩
 ·refine ⟨its.toList, r, ⟨o, n, I.kIn a o hk, hc, hd, by simpa using hs⟩, ?_⟩;have e := r.length;simp only [Array.length_toList] at e;omega
theorem Inv.tuple (I : Inv X Qa σ H s) (h : SqT X.K H a xs) : ∃ its : List Value, Vals xs its /\ IsTup s.heap a its.toArray /\ xs.length <= sizeLine := by
 rcases h with h | ⟨o, its, n, hk, hc, hs, hz, r⟩
 ·obtain ⟨z, its, r, p⟩ := h.ok I.hok;exact ⟨its, r, p, z⟩
 ·refine ⟨its.toList, r, ⟨o, I.kIn a o hk, hc, n, by simpa using hs⟩, ?_⟩;have e := r.length;simp only [Array.length_toList] at e;omega
theorem Inv.list_inj (I : Inv X Qa σ H s) (h : SqL X.K H a xs) (h' : SqL X.K H a ys) : xs = ys := by
 obtain ⟨its, r, ⟨o, n, e, _, _, d⟩, _⟩ := I.list h;obtain ⟨its', r', ⟨o', n', e', _, _, d'⟩, _⟩ := I.list h';rw [e] at e'; cases e';rw [d] at d'
 injection d' with d1 _
 have : its = its' := by simpa using congrArg Array.toList d1
 subst this;exact r.inj r'
theorem Inv.tuple_inj (I : Inv X Qa σ H s) (h : SqT X.K H a xs) (h' : SqT X.K H a ys) : xs = ys := by
 obtain ⟨its, r, ⟨o, e, _, n, d⟩, _⟩ := I.tuple h;obtain ⟨its', r', ⟨o', e', _, n', d'⟩, _⟩ := I.tuple h';rw [e] at e'; cases e';rw [d] at d'
 injection d' with d1 _
 have : its = its' := by simpa using congrArg Array.toList d1
 subst this;exact r.inj r'
end
abbrev Cx.wish (X : Cx) (E : Value -> Shared -> Prop) : Cx := { X with xe := E }
abbrev Cx.nox (X : Cx) : Cx := X.wish fun _ _ => False
theorem Cx.Ok.wish {X : Cx} (ok : X.Ok) (E : Value -> Shared -> Prop) : (X.wish E).Ok :=
 ⟨ok.mod, ok.kind, ok.glob, ok.blt, ok.above, ok.inj, ok.has, ok.cab, ok.hd, ok.frames, ok.stk, ok.exf, ok.bs, ok.bsz, ok.noex, ok.exfs, ok.funs, ok.frf⟩
theorem Cx.Ok.unwish {X : Cx} {E : Value -> Shared -> Prop} (ok : (X.wish E).Ok) : X.Ok :=
 ⟨ok.mod, ok.kind, ok.glob, ok.blt, ok.above, ok.inj, ok.has, ok.cab, ok.hd, ok.frames, ok.stk, ok.exf, ok.bs, ok.bsz, ok.noex, ok.exfs, ok.funs, ok.frf⟩
section
variable {X : Cx} {Qa : List (Addr × Obj)} {σ : St} {H : Hp} {s : Shared} {E : Value -> Shared -> Prop}
theorem Inv.wish (I : Inv X Qa σ H s) (E : Value -> Shared -> Prop) : Inv (X.wish E) Qa σ H s := ⟨I.ok.wish E, I.os, I.bare, I.base, I.loc, I.cell, I.free, I.freeC, I.pin, I.hok, I.len⟩
theorem Inv.unwish (I : Inv (X.wish E) Qa σ H s) : Inv X Qa σ H s := ⟨I.ok.unwish, I.os, I.bare, I.base, I.loc, I.cell, I.free, I.freeC, I.pin, I.hok, I.len⟩
theorem SP.unwish {D : Ends} {f : Flow} {s' : Shared} (h : SP (X.wish E) Qa D f s') : SP X Qa D f s' := by
 cases f with
 | next => obtain ⟨σ', H', I, q⟩ := h; exact ⟨σ', H', I.unwish, q⟩
 | brk => obtain ⟨σ', H', I, q⟩ := h; exact ⟨σ', H', I.unwish, q⟩
 | cont => obtain ⟨σ', H', I, q⟩ := h; exact ⟨σ', H', I.unwish, q⟩
 | ret u => obtain ⟨v, σ', H', I, r, q⟩ := h; exact ⟨v, σ', H', I.unwish, r, q⟩
theorem PSs.nox {st : List Stmt} {t : TS} (h : PSs X.nox st t) : PSs X st t := fun Qa s σ H D I hw =>
 wpAny_mono (h Qa s σ H D (I.wish _) hw) (fun _ _ q => q.unwish) fun _ _ z => False.elim z
end
section
variable {X : Cx} {st : Stmt} {rest : List Stmt} {t u : TS} {e : Expr} {te : TE} {pos : Pos}
def ziL : TS := fun D σ H => D.nx σ H
def tSeq (t u : TS) : TS := fun D σ H => t { D with nx := u D } σ H
theorem zat : PSs X [] ziL := fun _ _ σ H _ I h => wpAny_execs_nil ⟨σ, H, I, h⟩
theorem zaf (h1 : PS X st t) (h2 : PSs X rest u) : PSs X (st :: rest) (tSeq t u) := by
 intro Qa s σ H D I h;refine wpAny_execs_cons (thn (h1 Qa s σ H { D with nx := u D } I h) fun f s1 q => ?_);cases f with
 | next =>
  obtain ⟨σ', H', I', q⟩ := q;exact h2 Qa s1 σ' H' D I' q
 | ret v => exact q
 | brk => exact q
 | cont => exact q
theorem zai (h1 : PS X st t) : PSs X [st] t := by
 intro Qa s σ H D I h;refine wpAny_execs_cons (thn (h1 Qa s σ H D I h) fun f s1 q => ?_);cases f with
 | next => exact wpAny_execs_nil q
 | ret v => exact q
 | brk => exact q
 | cont => exact q
def zjT : TS := fun D σ H => D.bk σ H
theorem zgh : PS X (.Break pos) zjT := fun _ _ σ H _ I h => wpAny_Break ⟨σ, H, I, h⟩
theorem Inv.quiet {Qa : List (Addr × Obj)} {σ : St} {H : Hp} {s : Shared} (I : Inv X Qa σ H s) : interactive X.env = false := by simp [interactive, I.ok.kind]
def zlF (te : TE) : TS := fun D σ H => te σ H fun _ H1 => D.nx σ H1
theorem zbl (he : PE X e te) (hs : swapsWith e none pos.line X.env = pure false := by rfl) : PS X (.Expr e pos) (zlF te) := by
 intro Qa s σ H D I h;exact wpAny_Expr_any (thn (he Qa s σ H _ I h) fun v s1 ⟨x, H1, I1, r1, q1⟩ => ⟨σ, H1, I1, q1⟩) I.quiet hs
def tRet (te : TE) : TS := fun D σ H => te σ H D.rt
theorem zaq (he : PE X e te) : PS X (.Return (some e) pos) (tRet te) := by
 intro Qa s σ H D I h;exact wpAny_Return_some (thn (he Qa s σ H _ I h) fun v s1 ⟨x, H1, I1, r1, q1⟩ => ⟨x, σ, H1, I1, r1, q1⟩)
def tIfS (c : TT) (t u : TS) : TS := fun D σ H => c σ H fun b H1 => if b = true then t D σ H1 else u D σ H1
theorem za6 {c : Expr} {a b : List Stmt} {tc : TT} (hc : PT X c tc) (ha : PSs X a t) (hb : PSs X b u) : PS X (.If c a b pos) (tIfS tc t u) := by
 intro Qa s σ H D I h;refine wpAny_If (thn (hc Qa s σ H _ I h) fun d s1 ⟨H1, I1, q1⟩ => ?_);cases d with
 | true => exact ha Qa s1 σ H1 D I1 q1
 | false => exact hb Qa s1 σ H1 D I1 q1
def zlG : TS := fun _ _ _ => False
theorem ziM : PS X st zlG := fun _ _ _ _ _ _ h => h.elim
end
abbrev TG := V -> St -> Hp -> (St -> Hp -> Prop) -> Prop
abbrev TGs := List V -> St -> Hp -> (St -> Hp -> Prop) -> Prop
def PG (X : Cx) (target : Expr) (t : TG) : Prop :=
 ∀ (Qa : List (Addr × Obj)) (s : Shared) (σ : St) (H : Hp) (v : V) (u : Value) (Q : St -> Hp -> Prop), Inv X Qa σ H s -> RelV v u -> t v σ H Q ->
  wpAny (model X.prog X.w) X.A (assign target X.env u) (fun _ s' => ∃ σ' H', Inv X Qa σ' H' s' /\ Q σ' H') X.xe s
def PGs (X : Cx) (ts : List Expr) (t : TGs) : Prop :=
 ∀ (Qa : List (Addr × Obj)) (s : Shared) (σ : St) (H : Hp) (vs : List V) (us : List Value) (Q : St -> Hp -> Prop), Inv X Qa σ H s -> Vals vs us -> t vs σ H Q ->
  wpAny (model X.prog X.w) X.A (assignInOrder ((assignEach ts X.env).map (·.2)) us) (fun _ s' => ∃ σ' H', Inv X Qa σ' H' s' /\ Q σ' H') X.xe s
abbrev TSet := V -> V -> V -> Hp -> (Hp -> Prop) -> Prop
def PSet (X : Cx) (t : TSet) : Prop :=
 ∀ (Qa : List (Addr × Obj)) (s : Shared) (σ : St) (H : Hp) (o i v : V) (ov iv u : Value) (Q : Hp -> Prop), Inv X Qa σ H s -> RelV o ov -> RelV i iv -> RelV v u -> t o i v H Q ->
  wpAny (model X.prog X.w) X.A (setItem ov iv u) (fun _ s' => ∃ H', Inv X Qa σ H' s' /\ Q H') X.xe s
abbrev TIp := V -> V -> Hp -> VK -> Prop
section
variable {X : Cx} {pos : Pos}
def zdV (i : Nat) : TG := fun v σ H Q => Q (σ.set i (some v)) H
theorem zaG {i : Nat} {x : Str} (hN : X.N.Nodup) (hi : X.N[i]? = some x) (hx : Loc X.env.scope x) (hf : X.fn x = true \/ X.env.scope.names.lookup x = some .local := by first | exact .inl rfl | exact .inr rfl | assumption) : PG X (.Name x pos) (zdV i) := by
 intro Qa s σ H v u Q I r h;exact wpAny_assign_Name (zgf I hN hi hx r (fun s' I' => ⟨_, H, I', h⟩) hf)
def gNil : TGs := fun vs σ H Q => vs = [] /\ Q σ H
def zgG (t : TG) (u : TGs) : TGs := fun vs σ H Q => ∃ v r, vs = v :: r /\ t v σ H fun σ' H' => u r σ' H' Q
theorem zhq : PGs X [] gNil := by
 intro Qa s σ H vs us Q I r h;obtain ⟨e, h⟩ := h;subst e;cases r;exact assignInOrder_nil ⟨σ, H, I, h⟩
theorem zdx {e : Expr} {es : List Expr} {t : TG} {u : TGs} (h1 : PG X e t) (h2 : PGs X es u)
  (hs : (assignEach (e :: es) X.env).map (·.2) = assign e X.env :: (assignEach es X.env).map (·.2) := by rfl) : PGs X (e :: es) (zgG t u) := by
 intro Qa s σ H vs us Q I r h;obtain ⟨v, vr, e1, h⟩ := h;subst e1;cases r with
 | cons r rr =>
  rw [hs];refine assignInOrder_cons (thn (h1 Qa s σ H _ _ _ I r h) fun _ s1 ⟨σ1, H1, I1, q1⟩ => ?_);exact h2 Qa s1 σ1 H1 _ _ Q I1 rr q1
def gTup (K : W.Frag) (n : Nat) (t : TGs) : TG := fun v σ H Q => ∃ a xs, v = .ref a /\ SqT K H a xs /\ xs.length = n /\ t xs σ H Q
theorem zjU {es : List Expr} {k : Nat} {t : TGs} {n : Nat} (hc : X.calm = true) (h : PGs X es t)
  (hn : (assignEach es X.env).length = n := by rfl) (hst : (assignEach es X.env).findIdx? (·.1) = none := by rfl) : PG X (.Tuple es k pos) (gTup X.K n t) := by
 intro Qa s σ H v u Q I r hw;obtain ⟨a, xs, e1, hq, hl, hw⟩ := hw;subst e1;cases r;obtain ⟨its, rv, ht, hz⟩ := I.tuple hq;refine assign_Tuple_tuple (I.ok.hd hc) ht (by simp [hn, <- hl, rv.length]) hst fun h' hx => ?_;have I1 : Inv X Qa σ H { s with heap := h' } := I.kept (t' := s.toks) fun b o e => hx b o (Nat.ne_of_lt (yan e)) e;exact h Qa _ σ H xs _ Q I1 (by simpa using rv) hw
def gSub (to ti : TE) (t : TSet) : TG := fun v σ H Q => to σ H fun o H1 => ti σ H1 fun i H2 => t o i v H2 fun H3 => Q σ H3
theorem zlH {o i : Expr} {to ti : TE} {t : TSet} (ho : PE X o to) (hi : PE X i ti) (hs : PSet X t)
  (ha : ∀ v, assign (.Subscript o i pos) X.env v = (do
   let ov <- holding [v] (eval o X.env)
   let iv <- holding [v, ov] (eval i X.env)
   standAt pos
   holding [v, ov, iv] (setItem ov iv v)
   release [v, ov, iv] []) := by intro _; rfl) : PG X (.Subscript o i pos) (gSub to ti t) := by
 intro Qa s σ H v u Q I r h;rw [ha];refine yaa (wpAny_holding (thn (ho Qa s σ H _ I h) fun ov s1 ⟨x, H1, I1, r1, q1⟩ => ?_));refine yaa (wpAny_holding (thn (hi Qa s1 σ H1 _ I1 q1) fun iv s2 ⟨y, H2, I2, r2, q2⟩ => ?_));refine yaa (wpAny_standAt (yaa (wpAny_holding (thn (hs Qa s2 σ H2 x y v ov iv u _ I2 r1 r2 r q2) fun _ s3 ⟨H3, I3, q3⟩ => ?_))));exact wpAny_release ⟨σ, H3, I3, q3⟩
def tAsg (te : TE) (g : TG) : TS := fun D σ H => te σ H fun x H1 => g x σ H1 D.nx
theorem zlI {tg e : Expr} {te : TE} {g : TG} (he : PE X e te) (hg : PG X tg g) (hs : swapsWithSole [tg] e pos.line X.env = pure false := by rfl) (hw : swappedStores [tg] e X.env = pure none := by rfl)
  (h1 : (assignEach [tg] X.env).map (·.2) = [assign tg X.env] := by rfl) : PS X (.Assign [tg] e pos) (tAsg te g) := by
 intro Qa s σ H D I h;refine wpAny_Assign_stores (thn (he Qa s σ H _ I h) fun v s1 ⟨x, H1, I1, r1, q1⟩ => ?_) hs hw;rw [h1];exact thn (hg Qa s1 σ H1 x v _ I1 r1 q1) fun _ s2 q => q
theorem zap {i : Nat} {x : Str} {e : Expr} {te : TE} {pos' : Pos} (hN : X.N.Nodup) (hi : X.N[i]? = some x) (hx : Loc X.env.scope x) (he : PE X e te) (hs : swapsWith e (some (.Name x pos')) pos.line X.env = pure false := by rfl) (hf : X.fn x = true \/ X.env.scope.names.lookup x = some .local := by first | exact .inl rfl | exact .inr rfl | assumption) :
  PS X (.Assign [.Name x pos'] e pos) (tAsg te (zdV i)) := by
 intro Qa s σ H D I h;refine wpAny_Assign_Name (thn (he Qa s σ H _ I h) fun v s1 ⟨y, H1, I1, r1, q1⟩ => ?_) hs;exact zgf I1 hN hi hx r1 (fun s2 I2 => ⟨_, H1, I2, q1⟩) hf
def ipI (f : Int -> Int -> Int) : TIp := fun x y H Q => ∃ i j, x = .int i /\ y = .int j /\ Q (.int (f i j)) H
end
section
variable {X : Cx} {pos : Pos}
def zjV (c : TT) (tb : TS) : TS := fun D σ H => ∃ W : Nat -> St -> Hp -> Prop, (∃ m, W m σ H) /\ ∀ m σ H, W m σ H ->
 c σ H fun b H1 => if b = true then ∃ N : St -> Hp -> Prop, (∀ σ' H', N σ' H' -> ∃ m', m' < m /\ W m' σ' H') /\ tb { D with nx := N, ct := N, bk := D.nx } σ H1 else D.nx σ H1
theorem zgi {c : Expr} {body : List Stmt} {tc : TT} {tb : TS} (hp : PassesOwn (model X.prog X.w) X.A X.env X.xe) (hc : PT X c tc) (hb : PSs X body tb) : PS X (.While c body [] pos) (zjV tc tb) := by
 intro Qa s σ H D I h;obtain ⟨W, ⟨m0, w0⟩, turn⟩ := h;refine wpAny_While (codeAny_whileLoop (fun n s' => ∃ σ' H', Inv X Qa σ' H' s' /\ W n σ' H') ?_ m0 ⟨σ, H, I, w0⟩)
 rintro n s1 ⟨σ1, H1, I1, w1⟩
 refine wpAny_passesOwn hp (thn (hc Qa s1 σ1 H1 _ I1 (turn n σ1 H1 w1)) fun b s2 ⟨H2, I2, q2⟩ => ?_);cases b with
 | true =>
  obtain ⟨N, hN, q2⟩ := q2;rw [if_pos rfl];refine wpAny_passesOwn hp (thn (hb Qa s2 σ1 H2 _ I2 q2) fun f s3 q3 => ?_);cases f with
  | next =>
   obtain ⟨σ3, H3, I3, n3⟩ := q3;obtain ⟨m', hm, w3⟩ := hN σ3 H3 n3;exact ⟨m', hm, σ3, H3, I3, w3⟩
  | cont =>
   obtain ⟨σ3, H3, I3, n3⟩ := q3;obtain ⟨m', hm, w3⟩ := hN σ3 H3 n3;exact ⟨m', hm, σ3, H3, I3, w3⟩
  | brk => exact q3
  | ret v => exact q3
 | false =>
  rw [if_neg yam];exact wpAny_execs_nil ⟨σ1, H2, I2, q2⟩
end
structure It where
 go : Nat -> Hp -> Prop
 yld : Nat -> Hp -> V -> Hp -> Prop
 stop : Nat -> Hp -> Prop
def FpOk (X : Cx) (Qa : List (Addr × Obj)) (H : Hp) (b : Addr) : Prop :=
 H b = none /\ b ≠ X.env.locals /\ b ∉ X.fs /\ (b ∈ X.ex \/ X.s₀.heap.objs.size <= b) /\ (∀ x c, X.env.cells.lookup x = some c -> c ≠ b) /\ ∀ p ∈ X.pn ++ Qa, p.1 ≠ b
theorem Inv.fpOk {X : Cx} {Qa : List (Addr × Obj)} {σ : St} {H H' : Hp} {s : Shared} {b : Addr} (I : Inv X Qa σ H s) (hb : s.heap.objs.size <= b) (hn : H' b = none) : FpOk X Qa H' b := by
 refine ⟨hn, Nat.ne_of_gt (Nat.lt_of_lt_of_le I.lt hb), I.nofs hb, .inr (yat I.sz hb), fun x c e z => ?_, fun p hp z => ?_⟩
 ·obtain ⟨v, q⟩ := I.cell x c e;exact absurd (Nat.lt_of_lt_of_le q.lt (by rw [z]; exact hb)) (Nat.lt_irrefl _)
 ·exact absurd (Nat.lt_of_lt_of_le (yan (I.pin p hp).1) (by rw [z]; exact hb)) (Nat.lt_irrefl _)
structure Turn (P : Program) (w : World) (K : W.Frag) (tg : Expr) (J : It) (fp : List Addr) (it : Addr) (tn : Nat -> Heap -> Prop) : Prop where
 mem : it ∈ fp
 obj : ∀ i h, tn i h -> ∀ b ∈ fp, ∃ o, h.get? b = some o /\ ∀ v, o.data ≠ .cell v
 keep : ∀ i h h', tn i h -> (∀ b ∈ fp, ∀ o, h.get? b = some o -> h'.get? b = some o) -> tn i h'
 item : ∀ (X : Cx), X.prog = P -> X.w = w -> X.K = K -> X.calm = true -> ∀ (i : Nat) (Qa : List (Addr × Obj)) (s : Shared) (σ : St) (H : Hp) (E : Value -> Shared -> Prop), Inv X Qa σ H s -> (∀ b ∈ fp, FpOk X Qa H b) -> tn i s.heap -> J.go i H ->
  wpAny (model P w) X.A (pyNext (.ref it)) (fun r s1 => ∃ u, r = some u /\
   wpAny (model P w) X.A (letOwnedTupleGo tg (.ref it) u) (fun _ s2 => ∃ x H', Inv X Qa σ H' s2 /\ RelV x u /\ J.yld i H x H' /\ tn (i + 1) s2.heap /\ ∀ b ∈ fp, H' b = none) E s1) E s
 done : ∀ (X : Cx), X.prog = P -> X.w = w -> X.K = K -> X.calm = true -> ∀ (i : Nat) (Qa : List (Addr × Obj)) (s : Shared) (σ : St) (H : Hp) (E : Value -> Shared -> Prop), Inv X Qa σ H s -> (∀ b ∈ fp, FpOk X Qa H b) -> tn i s.heap -> J.stop i H ->
  wpAny (model P w) X.A (pyNext (.ref it)) (fun r s1 => r = none /\ Inv X Qa σ H s1) E s
 self : ∀ (A : Around) (i : Nat) (s : Shared) (Q : Value -> Shared -> Prop) (E : Value -> Shared -> Prop), tn i s.heap -> Q (.ref it) s -> wpAny (model P w) A (pyIter (.ref it)) Q E s
abbrev TI := St -> Hp -> (It -> Hp -> Prop) -> Prop
def PIE (X : Cx) (Qa : List (Addr × Obj)) (σ : St) (tg : Expr) (R : It -> Hp -> Prop) (itv : Value) (s2 : Shared) : Prop :=
 ∃ (it : Addr) (fp : List Addr) (tn : Nat -> Heap -> Prop) (J : It) (H' : Hp), itv = .ref it /\ Inv X Qa σ H' s2 /\ Turn X.prog X.w X.K tg J fp it tn /\ tn 0 s2.heap /\ (∀ b ∈ fp, FpOk X Qa H' b) /\ R J H'
def PI (X : Cx) (tg iter : Expr) (wi : TI) : Prop :=
 ∀ (Qa : List (Addr × Obj)) (s : Shared) (σ : St) (H : Hp) (R : It -> Hp -> Prop), Inv X Qa σ H s -> wi σ H R ->
  wpAny (model X.prog X.w) X.A (eval iter X.env) (fun v s1 => wpAny (model X.prog X.w) X.A (pyIter v) (PIE X Qa σ tg R) X.xe s1) X.xe s
theorem zhr {M : Model} {A : Around} {E : Value -> Shared -> Prop} {s : Shared} {tg : Expr} {it : Addr} {u : Value} {o : Obj} {n : String} {vs : Array Value} {Q : Unit -> Shared -> Prop} (ho : s.heap.get? it = some o) (hc : o.cls = .type n) (hd : o.data = .fields vs)
    (hn : ["enumerate", "zip", "dict_itemiterator", "dict_reverseitemiterator", "odict_iterator", "itertools.zip_longest", "itertools.pairwise"].contains n = false) (hQ : Q () s) : wpAny M A (letOwnedTupleGo tg (.ref it) u) Q E s := by
  unfold letOwnedTupleGo;cases tg <;> first
    | exact yab hQ
    | (cases u <;> first
        | exact yab hQ
        | (refine yaa (wpAny_load ho ?_)
           rw [hc, hd];show wpAny M A (if (["enumerate", "zip", "dict_itemiterator", "dict_reverseitemiterator", "odict_iterator", "itertools.zip_longest", "itertools.pairwise"].contains n && vs[0]? == some (rawInt _)) = true then _ else _) Q E s;rw [if_neg (by intro h; rw [hn, Bool.false_and] at h; cases h)];exact yab hQ))
def Itl (K : W.Frag) (a : Addr) : It :=
 ⟨fun i H => ∃ xs x, SqL K H a xs /\ xs[i]? = some x, fun i H x H' => H' = H /\ ∀ xs, SqL K H a xs -> xs[i]? = some x, fun i H => ∃ xs, SqL K H a xs /\ xs.length <= i⟩
def Itt (K : W.Frag) (a : Addr) : It :=
 ⟨fun i H => ∃ xs x, SqT K H a xs /\ xs[i]? = some x, fun i H x H' => H' = H /\ ∀ xs, SqT K H a xs -> xs[i]? = some x, fun i H => ∃ xs, SqT K H a xs /\ xs.length <= i⟩
def Itr (lo : Int) (n : Nat) : It := ⟨fun i _ => i < n, fun i H x H' => H' = H /\ x = .int (lo + i), fun i _ => n <= i⟩
theorem zhs {P : Program} {w : World} {K : W.Frag} {tg : Expr} (a it : Addr) : Turn P w K tg (Itl K a) [it] it (fun i h => h.IsListIter it a i) where
 mem := by simp
 obj := fun i h st b hb => by
  have e : b = it := by simpa using hb
  subst e;obtain ⟨o, e, c, d⟩ := st;exact ⟨o, e, fun v z => by rw [d] at z; cases z⟩
 keep := fun i h h' st k => st.at fun o e => k it (by simp) o e
 item := by
  intro X hP hw hK hc i Qa s σ H E I hf st hg;subst hP hw hK;obtain ⟨xs, x, hq, hx⟩ := hg;obtain ⟨its, rv, p, hz⟩ := I.list hq;obtain ⟨u, hu, ru⟩ := rv.get hx;obtain ⟨f0, f1, f2, f3, f4, f5⟩ := hf it (by simp);refine wpAny_pyNext_list_item st p.isList (x := u) (by simpa using hu) fun h' st' sb => ?_;have I1 : Inv X Qa σ H { s with heap := h' } := I.turned (t' := s.toks) (fun b o hb e => (sb.2 b hb).trans e) f0 f1 f3 f4 f5;obtain ⟨o, e, c, d⟩ := id st';exact ⟨u, rfl, zhr (s := { s with heap := h' }) e c d (by decide) ⟨x, H, I1, ru, ⟨rfl, fun ys hy => by rw [I.list_inj hy hq]; exact hx⟩, st', fun b hb => (hf b hb).1⟩⟩
 done := by
  intro X hP hw hK hc i Qa s σ H E I hf st hg;subst hP hw hK;obtain ⟨xs, hq, hx⟩ := hg;obtain ⟨its, rv, p, hz⟩ := I.list hq;obtain ⟨f0, f1, f2, f3, f4, f5⟩ := hf it (by simp);have hl := rv.length;exact wpAny_pyNext_list_end (I.ok.hd hc) st p.isList (by simp; omega) fun h' eb => ⟨rfl, I.turned (t' := s.toks) (fun b o hb e => eb b o hb e) f0 f1 f3 f4 f5⟩
 self := fun _ _ _ _ _ st h => wpAny_pyIter_listiter st h
theorem zgH {P : Program} {w : World} {K : W.Frag} {tg : Expr} (a it : Addr) : Turn P w K tg (Itt K a) [it] it (fun i h => h.IsTupleIter it a i) where
 mem := by simp
 obj := fun i h st b hb => by
  have e : b = it := by simpa using hb
  subst e;obtain ⟨o, e, c, d⟩ := st;exact ⟨o, e, fun v z => by rw [d] at z; cases z⟩
 keep := fun i h h' st k => st.at fun o e => k it (by simp) o e
 item := by
  intro X hP hw hK hc i Qa s σ H E I hf st hg;subst hP hw hK;obtain ⟨xs, x, hq, hx⟩ := hg;obtain ⟨its, rv, p, hz⟩ := I.tuple hq;obtain ⟨u, hu, ru⟩ := rv.get hx;obtain ⟨f0, f1, f2, f3, f4, f5⟩ := hf it (by simp);refine wpAny_pyNext_tuple_item st (show s.heap.IsTuple a its.toArray from p) (x := u) (by simpa using hu) fun h' st' sb => ?_;have I1 : Inv X Qa σ H { s with heap := h' } := I.turned (t' := s.toks) (fun b o hb e => (sb.2 b hb).trans e) f0 f1 f3 f4 f5;obtain ⟨o, e, c, d⟩ := id st';exact ⟨u, rfl, zhr (s := { s with heap := h' }) e c d (by decide) ⟨x, H, I1, ru, ⟨rfl, fun ys hy => by rw [I.tuple_inj hy hq]; exact hx⟩, st', fun b hb => (hf b hb).1⟩⟩
 done := by
  intro X hP hw hK hc i Qa s σ H E I hf st hg;subst hP hw hK;obtain ⟨xs, hq, hx⟩ := hg;obtain ⟨its, rv, p, hz⟩ := I.tuple hq;obtain ⟨f0, f1, f2, f3, f4, f5⟩ := hf it (by simp);have hl := rv.length;exact wpAny_pyNext_tuple_end (I.ok.hd hc) st (show s.heap.IsTuple a its.toArray from p) (by simp; omega) fun h' eb => ⟨rfl, I.turned (t' := s.toks) (fun b o hb e => eb b o hb e) f0 f1 f3 f4 f5⟩
 self := fun _ _ _ _ _ st h => wpAny_pyIter_tupleiter st h
theorem zgI {P : Program} {w : World} {K : W.Frag} {tg : Expr} (it : Addr) (lo : Int) (n : Nat) : Turn P w K tg (Itr lo n) [it] it (fun i h => IsRangeIter h it (lo + (i : Nat) * 1) ((n : Int) - (i : Nat)) 1) where
 mem := by simp
 obj := fun i h st b hb => by
  have e : b = it := by simpa using hb
  subst e;exact ⟨_, st, fun v z => by
   have z' : Data.fields _ = Data.cell v := z;cases z'⟩
 keep := fun i h h' st k => k it (by simp) _ st
 item := by
  intro X hP hw hK hc i Qa s σ H E I hf st hg;subst hP hw hK;obtain ⟨f0, f1, f2, f3, f4, f5⟩ := hf it (by simp);have W := Walks.range (prog := X.prog) (w := X.w) (I.ok.hd hc) it lo 1 n;refine W.item i s _ _ hg st fun v h' tk hv st' kk => ?_;obtain ⟨t, rfl⟩ := hv;have I1 : Inv X Qa σ H { s with heap := h', toks := tk } := I.turned (fun b o hb e => kk b o (by simpa using hb) e) f0 f1 f3 f4 f5;refine ⟨_, rfl, zhr (s := { s with heap := h', toks := tk }) (n := "range_iterator") st' rfl rfl (by decide) ⟨.int (lo + i), H, I1, ⟨t, ?_⟩, ⟨rfl, rfl⟩, st', fun b hb => (hf b hb).1⟩⟩;rw [Int.mul_one]
 done := by
  intro X hP hw hK hc i Qa s σ H E I hf st hg;subst hP hw hK;obtain ⟨f0, f1, f2, f3, f4, f5⟩ := hf it (by simp);exact wpAny_pyNext_range_end (I.ok.hd hc) st (by have : n <= i := hg; omega) fun h' eb => ⟨rfl, I.turned (t' := s.toks) (fun b o hb e => eb b o hb e) f0 f1 f3 f4 f5⟩
 self := fun _ _ _ _ _ st h => wpAny_pyIter_rangeiter st h
section
variable {X : Cx} {tg : Expr}
theorem zgj {Qa : List (Addr × Obj)} {σ : St} {H : Hp} {s : Shared} {R : It -> Hp -> Prop} {E : Value -> Shared -> Prop} {lo hi : Int} {t u v : Tok} {tk : Nat} (I : Inv X Qa σ H s) (h1 : -(2 ^ 62) <= lo) (h2 : lo < 2 ^ 62) (h3 : -(2 ^ 62) <= hi) (h4 : hi < 2 ^ 62)
  (q : R (Itr lo (hi - lo).toNat) H) : wpAny (model X.prog X.w) X.A (pyIter (.ref s.heap.objs.size)) (PIE X Qa σ tg R) E { s with heap := s.heap.push { cls := .type "range", data := .fields #[.int lo t, .int hi u, .int 1 v] }, toks := tk } := by
 refine wpAny_pyIter_range (IsRange.new ..) (small_one h1 h2 h3 h4) ?_;have I1 : Inv X Qa σ H { s with heap := s.heap.push { cls := .type "range", data := .fields #[.int lo t, .int hi u, .int 1 v] }, toks := tk } := I.kept fun b o e => yac _ e;refine ⟨(s.heap.push { cls := .type "range", data := .fields #[.int lo t, .int hi u, .int 1 v] }).objs.size, [(s.heap.push { cls := .type "range", data := .fields #[.int lo t, .int hi u, .int 1 v] }).objs.size], _, _, H, rfl,
  I1.kept (t' := tk) fun b o e => yac _ e, zgI _ lo (hi - lo).toNat, ?_, fun b hb => ?_, q⟩
 ·have e1 : lo + ((0 : Nat) : Int) * 1 = lo := by simp
  have e2 : (((hi - lo).toNat : Nat) : Int) - ((0 : Nat) : Int) = Builtin.Range.rangeSize lo hi 1 := by rw [rangeSize_one]; split <;> omega
  show IsRangeIter _ _ (lo + ((0 : Nat) : Int) * 1) ((((hi - lo).toNat : Nat) : Int) - ((0 : Nat) : Int)) 1;rw [e1, e2];exact yaj _ rfl
 ·have e : b = (s.heap.push { cls := .type "range", data := .fields #[.int lo t, .int hi u, .int 1 v] }).objs.size := by simpa using hb
  subst e;exact I1.fpOk (yai _) (I1.hok.fresh (yai _))
def zlJ (ta : TA) : TI := fun σ H R => ta σ H fun vs H1 => ∃ j : Int, vs = [.int j] /\ -(2 ^ 62) <= j /\ j < 2 ^ 62 /\ R (Itr 0 j.toNat) H1
def zlK (ta : TA) : TI := fun σ H R => ta σ H fun vs H1 => ∃ i j : Int, vs = [.int i, .int j] /\ (-(2 ^ 62) <= i /\ i < 2 ^ 62 /\ -(2 ^ 62) <= j /\ j < 2 ^ 62) /\ R (Itr i (j - i).toNat) H1
theorem zb0 {a : Expr} {ta : TA} {p pos : Pos} (hg : Gl X "range") (hm : X.mg "range" = none) (ha : PA X [a] ta) (hs : starEach [a] X.env = [(false, eval a X.env)] := by rfl) : PI X tg (.Call (.Name "range" p) [a] [] pos) (zlJ ta) := by
 intro Qa s σ H R I h;refine Call_ (zd3 I hg hm boot_range (PyProof.Rows.callWith_type1 (thn (ha pos Qa s σ H _ I h) fun us s1 ⟨vs, H1, I1, r1, q1⟩ => ?_) hs rfl));obtain ⟨j, e, q1, q2, q⟩ := q1;subst e;cases r1 with
 | cons r rr =>
  cases rr;obtain ⟨t, rfl⟩ := r;exact call_range_1 (zgj I1 (by omega) (by omega) q1 q2 (by simpa using q))
theorem zht {a b : Expr} {ta : TA} {p pos : Pos} (hg : Gl X "range") (hm : X.mg "range" = none) (ha : PA X [a, b] ta) (hs : starEach [a, b] X.env = [(false, eval a X.env), (false, eval b X.env)] := by rfl) (hs2 : starEach [b] X.env = [(false, eval b X.env)] := by rfl) :
  PI X tg (.Call (.Name "range" p) [a, b] [] pos) (zlK ta) := by
 intro Qa s σ H R I h;refine Call_ (zd3 I hg hm boot_range (PyProof.Rows.callWith_type1 (thn (ha pos Qa s σ H _ I h) fun us s1 ⟨vs, H1, I1, r1, q1⟩ => ?_) (by rw [hs, hs2]) (by rw [hs2]; rfl)));obtain ⟨i, j, e, ⟨q1, q2, q3, q4⟩, q⟩ := q1;subst e;cases r1 with
 | cons r rr =>
  cases rr with
  | cons r' rr =>
   cases rr;obtain ⟨t, rfl⟩ := r;obtain ⟨t', rfl⟩ := r';exact call_range_2 (zgj I1 q1 q2 q3 q4 q)
def tFor (wi : TI) (g : TG) (tb : TS) : TS := fun D σ H => wi σ H fun J H1 => ∃ W : Nat -> Nat -> St -> Hp -> Prop, (∃ m, W 0 m σ H1) /\ ∀ i m σ H, W i m σ H ->
 (J.stop i H /\ D.nx σ H) \/ (J.go i H /\ ∃ N : St -> Hp -> Prop, (∀ σ' H', N σ' H' -> ∃ m', m' < m /\ W (i + 1) m' σ' H') /\ ∀ x H', J.yld i H x H' -> g x σ H' fun σ2 H2 => tb { D with nx := N, ct := N, bk := D.nx } σ2 H2)
def zeS (fp : List Addr) (h : Heap) : List (Addr × Obj) := fp.filterMap fun b => (h.get? b).map fun o => (b, o)
theorem zc5 {fp : List Addr} {h : Heap} {b : Addr} {o : Obj} (hb : b ∈ fp) (e : h.get? b = some o) : (b, o) ∈ zeS fp h := List.mem_filterMap.mpr ⟨b, hb, by rw [e]; rfl⟩
theorem zhu {fp : List Addr} {h : Heap} {p : Addr × Obj} (hp : p ∈ zeS fp h) : p.1 ∈ fp /\ h.get? p.1 = some p.2 := by
 obtain ⟨b, hb, e⟩ := List.mem_filterMap.mp hp;cases q : h.get? b with
 | none => rw [q] at e; cases e
 | some o =>
  rw [q] at e;have e' : (b, o) = p := Option.some.inj e;subst e';exact ⟨hb, q⟩
theorem Inv.pinned {Qa : List (Addr × Obj)} {σ : St} {H : Hp} {s : Shared} {fp : List Addr} (I : Inv X Qa σ H s) (hf : ∀ b ∈ fp, FpOk X Qa H b) (ho : ∀ b ∈ fp, ∃ o, s.heap.get? b = some o /\ ∀ v, o.data ≠ .cell v) : Inv X (Qa ++ zeS fp s.heap) σ H s :=
 I.pins_of fun p hp => (yay.mp hp).elim (fun z => I.pin p (List.mem_append_right _ z)) fun z => by
  obtain ⟨hb, e⟩ := zhu z;obtain ⟨f0, f1, f2, _⟩ := hf p.1 hb;obtain ⟨o, e', d⟩ := ho p.1 hb;rw [e] at e'; cases e';exact ⟨e, f0, f1, f2, d⟩
theorem Inv.unpinned {Qa pl : List (Addr × Obj)} {σ : St} {H : Hp} {s : Shared} (I : Inv X (Qa ++ pl) σ H s) : Inv X Qa σ H s := I.pins_of fun p hp => I.pin p (List.mem_append_right _ (List.mem_append_left _ hp))
theorem zcd {iter : Expr} {body : List Stmt} {wi : TI} {g : TG} {tb : TS} {pos : Pos} (hp : PassesOwn (model X.prog X.w) X.A X.env X.xe) (hc : X.calm = true) (hi : PI X tg iter wi) (hg : PG X tg g) (hb : PSs X body tb)
  (hs : ∀ x, foldedSetIterable iter X.env x = pure x := by intro _; rfl) : PS X (.For tg iter body [] pos) (tFor wi g tb) := by
 intro Qa s σ H D I h;refine wpAny_For (thn (hi Qa s σ H _ I h) fun v s1 h1 => thn h1 fun itv s2 h2 => ?_) hs;obtain ⟨it, fp, tn, J, H2, e, I2, T, st2, f2, W, ⟨m0, w0⟩, turn⟩ := h2;subst e;have stat : ∀ {H' : Hp}, (∀ b ∈ fp, H' b = none) -> ∀ b ∈ fp, FpOk X Qa H' b := fun hn b hb => ⟨hn b hb, (f2 b hb).2⟩
 refine codeAny_forLoop_any (fun n s' => ∃ i σ' H', Inv X Qa σ' H' s' /\ tn i s'.heap /\ (∀ b ∈ fp, H' b = none) /\ W i n σ' H') ?_ m0 ⟨0, σ, H2, I2, st2, fun b hb => (f2 b hb).1, w0⟩
 rintro n s3 ⟨i, σ3, H3, I3, st3, fr3, w3⟩
 rcases turn i n σ3 H3 w3 with ⟨stop, qn⟩ | ⟨go, N, hN, step⟩
 ·refine wpAny_passesOwn hp (thn (T.done X rfl rfl rfl hc i Qa s3 σ3 H3 X.xe I3 (stat fr3) st3 stop) fun r s4 ⟨hr, I4⟩ => ?_);subst hr;exact wpAny_execs_nil ⟨σ3, H3, I4, qn⟩
 ·refine wpAny_passesOwn hp (thn (T.item X rfl rfl rfl hc i Qa s3 σ3 H3 X.xe I3 (stat fr3) st3 go) fun r s4 ⟨u, hr, h4⟩ => ?_);subst hr;refine wpAny_passesOwn hp (thn h4 fun _ s5 ⟨x, H5, I5, r5, y5, st5, fr5⟩ => ?_);have I5' := I5.pinned (stat fr5) (T.obj _ _ st5);refine wpAny_passesOwn hp (thn (hg _ s5 σ3 H5 x u _ I5' r5 (step x H5 y5)) fun _ s6 ⟨σ6, H6, I6, q6⟩ => ?_);refine wpAny_passesOwn hp (thn (hb _ s6 σ6 H6 _ I6 q6) fun f s7 q7 => ?_);have again : ∀ {σ7 : St} {H7 : Hp}, Inv X (Qa ++ zeS fp s5.heap) σ7 H7 s7 -> N σ7 H7 -> ∃ m, m < n /\ ∃ i σ' H', Inv X Qa σ' H' s7 /\ tn i s7.heap /\ (∀ b ∈ fp, H' b = none) /\ W i m σ' H' := fun {σ7 H7} I7 n7 => by
   obtain ⟨m', hm, w7⟩ := hN σ7 H7 n7;refine ⟨m', hm, i + 1, σ7, H7, I7.unpinned, T.keep _ _ _ st5 fun b hb o e => (I7.pin (b, o) (List.mem_append_right _ (List.mem_append_right _ (zc5 hb e)))).1, fun b hb => ?_, w7⟩;obtain ⟨o, e, d⟩ := T.obj _ _ st5 b hb;exact (I7.pin (b, o) (List.mem_append_right _ (List.mem_append_right _ (zc5 hb e)))).2.1
  cases f with
  | next => obtain ⟨σ7, H7, I7, n7⟩ := q7; exact again I7 n7
  | cont => obtain ⟨σ7, H7, I7, n7⟩ := q7; exact again I7 n7
  | brk => obtain ⟨σ7, H7, I7, q7⟩ := q7; exact ⟨σ7, H7, I7.unpinned, q7⟩
  | ret v => obtain ⟨x7, σ7, H7, I7, r7, q7⟩ := q7; exact ⟨x7, σ7, H7, I7.unpinned, r7, q7⟩
end
theorem ziN {K : W.Frag} {a : Addr} {xs : List V} {g : TG} {tb : TS} {D : Ends} {σ : St} {H : Hp} (Pv : Nat -> St -> Hp -> Prop) (h0 : Pv 0 σ H) (hl : ∀ i σ H, i <= xs.length -> Pv i σ H -> SqL K H a xs)
  (hs : ∀ i x σ H, xs[i]? = some x -> Pv i σ H -> g x σ H fun σ2 H2 => tb { D with nx := Pv (i + 1), ct := Pv (i + 1), bk := D.nx } σ2 H2) (hd : ∀ σ H, Pv xs.length σ H -> D.nx σ H) :
  ∃ W : Nat -> Nat -> St -> Hp -> Prop, (∃ m, W 0 m σ H) /\ ∀ i m σ H, W i m σ H ->
   ((Itl K a).stop i H /\ D.nx σ H) \/ ((Itl K a).go i H /\ ∃ N : St -> Hp -> Prop, (∀ σ' H', N σ' H' -> ∃ m', m' < m /\ W (i + 1) m' σ' H') /\ ∀ x H', (Itl K a).yld i H x H' -> g x σ H' fun σ2 H2 => tb { D with nx := N, ct := N, bk := D.nx } σ2 H2) := by
 refine ⟨fun i m σ H => m = xs.length - i /\ i <= xs.length /\ Pv i σ H, ⟨xs.length, by simp, yaq _, h0⟩, ?_⟩
 rintro i m σ H ⟨rfl, hi, p⟩
 have q := hl i σ H hi p
 by_cases hlt : i < xs.length
 ·refine .inr ⟨⟨xs, xs[i], q, by simp [hlt]⟩, Pv (i + 1), fun σ' H' p' => ⟨xs.length - (i + 1), by omega, rfl, hlt, p'⟩, fun x H' y => ?_⟩;obtain ⟨e, y⟩ := y;subst e;exact hs i x σ _ (y xs q) p
 ·have e : i = xs.length := by omega
  subst e;exact .inl ⟨⟨xs, q, yai _⟩, hd σ H p⟩
theorem zky {K : W.Frag} {a : Addr} {xs : List V} {g : TG} {tb : TS} {D : Ends} {σ : St} {H : Hp} (Pv : Nat -> St -> Hp -> Prop) (h0 : Pv 0 σ H) (hl : ∀ i σ H, i <= xs.length -> Pv i σ H -> SqT K H a xs)
  (hs : ∀ i x σ H, xs[i]? = some x -> Pv i σ H -> g x σ H fun σ2 H2 => tb { D with nx := Pv (i + 1), ct := Pv (i + 1), bk := D.nx } σ2 H2) (hd : ∀ σ H, Pv xs.length σ H -> D.nx σ H) :
  ∃ W : Nat -> Nat -> St -> Hp -> Prop, (∃ m, W 0 m σ H) /\ ∀ i m σ H, W i m σ H ->
   ((Itt K a).stop i H /\ D.nx σ H) \/ ((Itt K a).go i H /\ ∃ N : St -> Hp -> Prop, (∀ σ' H', N σ' H' -> ∃ m', m' < m /\ W (i + 1) m' σ' H') /\ ∀ x H', (Itt K a).yld i H x H' -> g x σ H' fun σ2 H2 => tb { D with nx := N, ct := N, bk := D.nx } σ2 H2) := by
 refine ⟨fun i m σ H => m = xs.length - i /\ i <= xs.length /\ Pv i σ H, ⟨xs.length, by simp, yaq _, h0⟩, ?_⟩
 rintro i m σ H ⟨rfl, hi, p⟩
 have q := hl i σ H hi p
 by_cases hlt : i < xs.length
 ·refine .inr ⟨⟨xs, xs[i], q, by simp [hlt]⟩, Pv (i + 1), fun σ' H' p' => ⟨xs.length - (i + 1), by omega, rfl, hlt, p'⟩, fun x H' y => ?_⟩;obtain ⟨e, y⟩ := y;subst e;exact hs i x σ _ (y xs q) p
 ·have e : i = xs.length := by omega
  subst e;exact .inl ⟨⟨xs, q, yai _⟩, hd σ H p⟩
theorem zhv {lo : Int} {n : Nat} {g : TG} {tb : TS} {D : Ends} {σ : St} {H : Hp} (Pv : Nat -> St -> Hp -> Prop) (h0 : Pv 0 σ H)
  (hs : ∀ i σ H, i < n -> Pv i σ H -> g (.int (lo + i)) σ H fun σ2 H2 => tb { D with nx := Pv (i + 1), ct := Pv (i + 1), bk := D.nx } σ2 H2) (hd : ∀ σ H, Pv n σ H -> D.nx σ H) :
  ∃ W : Nat -> Nat -> St -> Hp -> Prop, (∃ m, W 0 m σ H) /\ ∀ i m σ H, W i m σ H ->
   ((Itr lo n).stop i H /\ D.nx σ H) \/ ((Itr lo n).go i H /\ ∃ N : St -> Hp -> Prop, (∀ σ' H', N σ' H' -> ∃ m', m' < m /\ W (i + 1) m' σ' H') /\ ∀ x H', (Itr lo n).yld i H x H' -> g x σ H' fun σ2 H2 => tb { D with nx := N, ct := N, bk := D.nx } σ2 H2) := by
 refine ⟨fun i m σ H => m = n - i /\ i <= n /\ Pv i σ H, ⟨n, by simp, yaq _, h0⟩, ?_⟩
 rintro i m σ H ⟨rfl, hi, p⟩
 by_cases hlt : i < n
 ·refine .inr ⟨hlt, Pv (i + 1), fun σ' H' p' => ⟨n - (i + 1), by omega, rfl, hlt, p'⟩, fun x H' y => ?_⟩;obtain ⟨e, y⟩ := y;subst e y;exact hs i σ _ hlt p
 ·have e : i = n := by omega
  subst e;exact .inl ⟨yai _, hd σ H p⟩
abbrev R2 := V -> V -> Hp -> VK -> Prop
def OpR (X : Cx) (f : Value -> Value -> Sem Value) (r : R2) : Prop :=
 ∀ (Qa : List (Addr × Obj)) (s : Shared) (σ : St) (H : Hp) (x y : V) (v u : Value) (Q : VK), Inv X Qa σ H s -> RelV x v -> RelV y u -> r x y H Q ->
  wpAny (model X.prog X.w) X.A (f v u) (EP X Qa σ Q) X.xe s
def UnR (X : Cx) (f : Value -> Sem Value) (r : V -> Hp -> VK -> Prop) : Prop :=
 ∀ (Qa : List (Addr × Obj)) (s : Shared) (σ : St) (H : Hp) (x : V) (v : Value) (Q : VK), Inv X Qa σ H s -> RelV x v -> r x H Q ->
  wpAny (model X.prog X.w) X.A (f v) (EP X Qa σ Q) X.xe s
def zbE (X : Cx) (f : Value) (r : List V -> Hp -> VK -> Prop) : Prop :=
 ∀ (Qa : List (Addr × Obj)) (s : Shared) (σ : St) (H : Hp) (xs : List V) (us : List Value) (Q : VK), Inv X Qa σ H s -> Vals xs us -> r xs H Q ->
  wpAny (model X.prog X.w) X.A (call f us) (EP X Qa σ Q) X.xe s
def TruR (X : Cx) (r : V -> Hp -> (Bool -> Hp -> Prop) -> Prop) : Prop :=
 ∀ (Qa : List (Addr × Obj)) (s : Shared) (σ : St) (H : Hp) (x : V) (v : Value) (Q : Bool -> Hp -> Prop), Inv X Qa σ H s -> RelV x v -> r x H Q ->
  wpAny (model X.prog X.w) X.A (truthy v) (TP X Qa σ Q) X.xe s
def tOp (r : R2) (ta tb : TE) : TE := fun σ H Q => ta σ H fun x H1 => tb σ H1 fun y H2 => r x y H2 Q
def tUn (r : V -> Hp -> VK -> Prop) (ta : TE) : TE := fun σ H Q => ta σ H fun x H1 => r x H1 Q
def rI (C : Int -> Int -> Prop) (g : Int -> Int -> V) : R2 := fun x y H Q => ∃ i j, x = .int i /\ y = .int j /\ C i j /\ Q (g i j) H
def rI0 (g : Int -> Int -> V) : R2 := fun x y H Q => ∃ i j, x = .int i /\ y = .int j /\ Q (g i j) H
def rU (g : Int -> V) : V -> Hp -> VK -> Prop := fun x H Q => ∃ i, x = .int i /\ Q (g i) H
section
variable {X : Cx} {a b c : Expr} {ta tb tc : TE} {pos : Pos}
theorem binT (ha : PE X a ta) (hb : PE X b tb) {Qa : List (Addr × Obj)} {s : Shared} {σ : St} {H : Hp} {R : V -> V -> Hp -> Prop} (I : Inv X Qa σ H s)
  (h : ta σ H fun x H1 => tb σ H1 fun y H2 => R x y H2) {Q : Value -> Shared -> Prop} {f : Value -> Value -> Sem Value}
  (hf : ∀ v u s2 x y H2, Inv X Qa σ H2 s2 -> RelV x v -> RelV y u -> R x y H2 -> wpAny (model X.prog X.w) X.A (f v u) Q X.xe s2) :
  wpAny (model X.prog X.w) X.A (eval a X.env) (fun v s₁ => wpAny (model X.prog X.w) X.A (eval b X.env) (fun u s₂ => wpAny (model X.prog X.w) X.A (f v u) Q X.xe s₂) X.xe s₁) X.xe s := by
 refine thn (ha Qa s σ H _ I h) fun v s1 ⟨x, H1, I1, r1, q1⟩ => ?_;refine thn (hb Qa s1 σ H1 _ I1 q1) fun u s2 ⟨y, H2, I2, r2, q2⟩ => ?_;exact hf v u s2 x y H2 I2 r1 r2 q2
theorem zao {op : Operator} {r : R2} (ho : OpR X (binaryOp op) r) (ha : PE X a ta) (hb : PE X b tb) : PE X (.BinOp a op b pos) (tOp r ta tb) := by
 intro Qa s σ H Q I h;exact wpAny_BinOp (binT ha hb I h fun v u s2 x y H2 I2 rx ry q => ho Qa s2 σ H2 x y v u Q I2 rx ry q)
theorem zkz {op : UnaryOp} {r : V -> Hp -> VK -> Prop} (ho : UnR X (unaryOp op) r) (ha : PE X a ta) : PE X (.UnaryOp op a pos) (tUn r ta) := by
 intro Qa s σ H Q I h;exact UnaryOp_ (thn (ha Qa s σ H _ I h) fun v s1 ⟨x, H1, I1, r1, q1⟩ => ho Qa s1 σ H1 x v Q I1 r1 q1)
theorem opI {f : Value -> Value -> Sem Value} {C : Int -> Int -> Prop} {g : Int -> Int -> Int}
  (rule : ∀ (i j : Int) (t u : Tok) (s : Shared) (Q : Value -> Shared -> Prop) (E : Value -> Shared -> Prop), C i j -> Q (.int (g i j) s.toks) { s with toks := s.toks + 1 } -> wpAny (model X.prog X.w) X.A (f (.int i t) (.int j u)) Q E s) :
  OpR X f (rI C fun i j => .int (g i j)) := by
 intro Qa s σ H x y v u Q I rx ry h;obtain ⟨i, j, rfl, rfl, hc, q⟩ := h;obtain ⟨t, rfl⟩ := rx;obtain ⟨t', rfl⟩ := ry;exact rule i j t t' s _ _ hc ⟨.int (g i j), H, I.tok _, ⟨_, rfl⟩, q⟩
theorem opI0 {f : Value -> Value -> Sem Value} {g : Int -> Int -> Int}
  (rule : ∀ (i j : Int) (t u : Tok) (s : Shared) (Q : Value -> Shared -> Prop) (E : Value -> Shared -> Prop), Q (.int (g i j) s.toks) { s with toks := s.toks + 1 } -> wpAny (model X.prog X.w) X.A (f (.int i t) (.int j u)) Q E s) :
  OpR X f (rI0 fun i j => .int (g i j)) := by
 intro Qa s σ H x y v u Q I rx ry h;obtain ⟨i, j, rfl, rfl, q⟩ := h;obtain ⟨t, rfl⟩ := rx;obtain ⟨t', rfl⟩ := ry;exact rule i j t t' s _ _ ⟨.int (g i j), H, I.tok _, ⟨_, rfl⟩, q⟩
theorem opB0 {f : Value -> Value -> Sem Value} {g : Int -> Int -> Bool}
  (rule : ∀ (i j : Int) (t u : Tok) (s : Shared) (Q : Value -> Shared -> Prop) (E : Value -> Shared -> Prop), Q (.bool (g i j)) s -> wpAny (model X.prog X.w) X.A (f (.int i t) (.int j u)) Q E s) :
  OpR X f (rI0 fun i j => .bl (g i j)) := by
 intro Qa s σ H x y v u Q I rx ry h;obtain ⟨i, j, rfl, rfl, q⟩ := h;obtain ⟨t, rfl⟩ := rx;obtain ⟨t', rfl⟩ := ry;exact rule i j t t' s _ _ ⟨.bl (g i j), H, I, rfl, q⟩
def CDiv (i j : Int) : Prop := 0 < j /\ j < 1073741824
def CPow (i j : Int) : Prop := 0 <= j /\ j <= 1000000 /\ i.natAbs < 2 ^ 64
def CMul (i j : Int) : Prop := (-(2 ^ 64) < i /\ i < 2 ^ 64) \/ (-(2 ^ 64) < j /\ j < 2 ^ 64)
theorem CMul.ok {i j : Int} (h : CMul i j) : IntMulOk i j := by
 rcases h with ⟨h1, h2⟩ | ⟨h1, h2⟩
 ·exact .of_left (intBits_le_64 h1 h2)
 ·exact .of_right (intBits_le_64 h1 h2)
theorem zjW : OpR X (binaryOp .Add) (rI0 fun i j => .int (i + j)) := opI0 fun _ _ _ _ _ _ _ q => add_int q
theorem zbU : OpR X (binaryOp .Sub) (rI0 fun i j => .int (i - j)) := opI0 fun _ _ _ _ _ _ _ q => sub_int q
theorem zlL : OpR X (binaryOp .Mult) (rI CMul fun i j => .int (i * j)) := opI fun _ _ _ _ _ _ _ hc q => mul_int q hc.ok
theorem zk0 : OpR X (binaryOp .FloorDiv) (rI CDiv fun i j => .int (i / j)) := opI fun i j _ _ _ _ _ hc q => by
 have h1 : (0 : Int) < j := hc.1;have h2 : j < 1073741824 := hc.2;exact floordiv_int (by omega) (by rw [Int.fdiv_eq_ediv_of_nonneg i (by omega)]; exact q) (.inl (PyProof.noPylong_small (by omega)))
theorem zlM : OpR X (binaryOp .Mod) (rI (fun _ j => 0 < j) fun i j => .int (i % j)) := opI fun i j _ _ _ _ _ hc q => by
 have h1 : (0 : Int) < j := hc;exact mod_int' (by omega) (by rw [Int.fmod_eq_emod_of_nonneg i (by omega)]; exact q)
theorem zjX : OpR X (binaryOp .Pow) (rI CPow fun i j => .int (i ^ j.toNat)) := opI fun _ _ _ _ _ _ _ hc q => pow_int_small hc.1 hc.2.1 hc.2.2 q
theorem unI {f : Value -> Sem Value} {g : Int -> Int}
  (rule : ∀ (i : Int) (t : Tok) (s : Shared) (Q : Value -> Shared -> Prop) (E : Value -> Shared -> Prop), Q (.int (g i) s.toks) { s with toks := s.toks + 1 } -> wpAny (model X.prog X.w) X.A (f (.int i t)) Q E s) :
  UnR X f (rU fun i => .int (g i)) := by
 intro Qa s σ H x v Q I rx h;obtain ⟨i, rfl, q⟩ := h;obtain ⟨t, rfl⟩ := rx;exact rule i t s _ _ ⟨.int (g i), H, I.tok _, ⟨_, rfl⟩, q⟩
theorem zhw : UnR X (unaryOp .USub) (rU fun i => .int (-i)) := unI fun _ _ _ _ _ q => neg_int q
end
def scal : V -> V -> Bool
 | .non, .non => true | .non, .int _ => true | .int _, .non => true | .non, .bl _ => true | .bl _, .non => true | .non, .str _ => true | .str _, .non => true
 | .int _, .int _ => true | .bl _, .bl _ => true | .str _, .str _ => true | .byt _, .byt _ => true
 | .int _, .str _ => true | .str _, .int _ => true | .bl _, .str _ => true | .str _, .bl _ => true
 | _, _ => false
def rEq : R2 := fun x y H Q => scal x y = true /\ Q (.bl (decide (x = y))) H
def rNe : R2 := fun x y H Q => scal x y = true /\ Q (.bl (!decide (x = y))) H
theorem zhx {i j : Int} : decide (V.int i = V.int j) = (i == j) := by
 rw [Bool.eq_iff_iff];simp
theorem zee {i j : Bool} : decide (V.bl i = V.bl j) = (i == j) := by
 rw [Bool.eq_iff_iff];simp
theorem zhy {i j : Str} : decide (V.str i = V.str j) = (i == j) := by
 rw [Bool.eq_iff_iff];simp
theorem zhz {i j : Array UInt8} : decide (V.byt i = V.byt j) = (i.toList == j.toList) := by
 rw [Bool.eq_iff_iff];cases i;cases j;simp
section
variable {X : Cx} {a b c : Expr} {ta tb tc : TE} {pos : Pos}
theorem zaW {Qa : List (Addr × Obj)} {σ : St} {H : Hp} {s : Shared} {Q : VK} {k k' : Bool} (I : Inv X Qa σ H s) (q : Q (.bl k) H) (e : k = k') : EP X Qa σ Q (.bool k') s := by
 subst e;exact ⟨.bl k, H, I, rfl, q⟩
theorem zlN : OpR X (compareOp .Eq) rEq := by
 intro Qa s σ H x y v u Q I rx ry h;obtain ⟨hs, q⟩ := h;cases x with
 | non =>
  cases rx;cases y with
  | non => cases ry; exact PySem.EqNone.eq_none_none (zaW I q (by simp))
  | bl j => cases ry; exact PySem.EqNone.eq_none_bool (zaW I q (by simp))
  | int j => obtain ⟨t', rfl⟩ := ry; exact PySem.EqNone.eq_none_int (zaW I q (by simp))
  | str j => obtain ⟨t', rfl⟩ := ry; exact PySem.EqNone.eq_none_str (zaW I q (by simp))
  | _ => exact absurd (show false = true from hs) yam
 | bl i =>
  cases rx;cases y with
  | non => cases ry; exact PySem.EqNone.eq_bool_none (zaW I q (by simp))
  | bl j => cases ry; exact eq_bool (zaW I q zee)
  | str j => obtain ⟨t', rfl⟩ := ry; exact PySem.EqMixed.eq_bool_str (zaW I q (by simp))
  | _ => exact absurd (show false = true from hs) yam
 | int i =>
  obtain ⟨t, rfl⟩ := rx;cases y with
  | non => cases ry; exact PySem.EqNone.eq_int_none (zaW I q (by simp))
  | int j => obtain ⟨t', rfl⟩ := ry; exact eq_int (zaW I q zhx)
  | str j => obtain ⟨t', rfl⟩ := ry; exact PySem.EqMixed.eq_int_str (zaW I q (by simp))
  | _ => exact absurd (show false = true from hs) yam
 | str i =>
  obtain ⟨t, rfl⟩ := rx;cases y with
  | non => cases ry; exact PySem.EqNone.eq_str_none (zaW I q (by simp))
  | bl j => cases ry; exact PySem.EqMixed.eq_str_bool (zaW I q (by simp))
  | int j => obtain ⟨t', rfl⟩ := ry; exact PySem.EqMixed.eq_str_int (zaW I q (by simp))
  | str j => obtain ⟨t', rfl⟩ := ry; exact eq_str (zaW I q zhy)
  | _ => exact absurd (show false = true from hs) yam
 | byt i =>
  obtain ⟨t, rfl⟩ := rx;cases y with
  | byt j => obtain ⟨t', rfl⟩ := ry; exact W.eq_bytes (zaW I q zhz)
  | _ => exact absurd (show false = true from hs) yam
 | _ => cases y <;> exact absurd (show false = true from hs) yam
theorem zlO : OpR X (compareOp .NotEq) rNe := by
 intro Qa s σ H x y v u Q I rx ry h;obtain ⟨hs, q⟩ := h;cases x with
 | non =>
  cases rx;cases y with
  | non => cases ry; exact PySem.EqNone.ne_none_none (zaW I q (by simp))
  | bl j => cases ry; exact PySem.EqNone.ne_none_bool (zaW I q (by simp))
  | int j => obtain ⟨t', rfl⟩ := ry; exact PySem.EqNone.ne_none_int (zaW I q (by simp))
  | str j => obtain ⟨t', rfl⟩ := ry; exact PySem.EqNone.ne_none_str (zaW I q (by simp))
  | _ => exact absurd (show false = true from hs) yam
 | bl i =>
  cases rx;cases y with
  | non => cases ry; exact PySem.EqNone.ne_bool_none (zaW I q (by simp))
  | bl j => cases ry; exact ne_bool (zaW I q (congrArg not zee))
  | str j => obtain ⟨t', rfl⟩ := ry; exact PySem.EqMixed.ne_bool_str (zaW I q (by simp))
  | _ => exact absurd (show false = true from hs) yam
 | int i =>
  obtain ⟨t, rfl⟩ := rx;cases y with
  | non => cases ry; exact PySem.EqNone.ne_int_none (zaW I q (by simp))
  | int j => obtain ⟨t', rfl⟩ := ry; exact ne_int (zaW I q (congrArg not zhx))
  | str j => obtain ⟨t', rfl⟩ := ry; exact PySem.EqMixed.ne_int_str (zaW I q (by simp))
  | _ => exact absurd (show false = true from hs) yam
 | str i =>
  obtain ⟨t, rfl⟩ := rx;cases y with
  | non => cases ry; exact PySem.EqNone.ne_str_none (zaW I q (by simp))
  | bl j => cases ry; exact PySem.EqMixed.ne_str_bool (zaW I q (by simp))
  | int j => obtain ⟨t', rfl⟩ := ry; exact PySem.EqMixed.ne_str_int (zaW I q (by simp))
  | str j => obtain ⟨t', rfl⟩ := ry; exact ne_str (zaW I q (congrArg not zhy))
  | _ => exact absurd (show false = true from hs) yam
 | byt i =>
  obtain ⟨t, rfl⟩ := rx;cases y with
  | byt j => obtain ⟨t', rfl⟩ := ry; exact W.ne_bytes (zaW I q (congrArg not zhz))
  | _ => exact absurd (show false = true from hs) yam
 | _ => cases y <;> exact absurd (show false = true from hs) yam
theorem zn5 : OpR X (compareOp .Lt) (rI0 fun i j => .bl (decide (i < j))) := opB0 fun _ _ _ _ _ _ _ q => lt_int q
theorem ziO : OpR X (compareOp .LtE) (rI0 fun i j => .bl (decide (i <= j))) := opB0 fun _ _ _ _ _ _ _ q => le_int q
theorem zlP : OpR X (compareOp .Gt) (rI0 fun i j => .bl (decide (j < i))) := opB0 fun _ _ _ _ _ _ _ q => gt_int q
theorem zk1 : OpR X (compareOp .GtE) (rI0 fun i j => .bl (decide (j <= i))) := opB0 fun _ _ _ _ _ _ _ q => ge_int q
theorem zh0 : OpR X (compareOp .Lt) (fun x y H Q => ∃ i j, x = .str i /\ y = .str j /\ Q (.bl (decide (i.cps.toList < j.cps.toList))) H) := by
 intro Qa s σ H x y v u Q I rx ry h;obtain ⟨i, j, rfl, rfl, q⟩ := h;obtain ⟨t, rfl⟩ := rx;obtain ⟨t', rfl⟩ := ry;exact lt_str (zaW I q rfl)
theorem zh1 : OpR X (compareOp .In) (fun x y H Q => ∃ i j, x = .str i /\ y = .str j /\ Q (.bl (!(Builtin.Str.occurrences j i 0 j.length 1).isEmpty)) H) := by
 intro Qa s σ H x y v u Q I rx ry h;obtain ⟨i, j, rfl, rfl, q⟩ := h;obtain ⟨t, rfl⟩ := rx;obtain ⟨t', rfl⟩ := ry;exact in_str (zaW I q rfl)
theorem OpR.or {f : Value -> Value -> Sem Value} {r r' : R2} (h : OpR X f r) (h' : OpR X f r') : OpR X f (fun x y H Q => r x y H Q \/ r' x y H Q) := by
 intro Qa s σ H x y v u Q I rx ry q;rcases q with q | q
 ·exact h Qa s σ H x y v u Q I rx ry q
 ·exact h' Qa s σ H x y v u Q I rx ry q
theorem zav (b : Expr) {op : CmpOp} (h : op ≠ .In := by decide) (h2 : op ≠ .NotIn := by decide) : behindInMarks op b = false := by
 have e1 : (op == CmpOp.In) = false := by cases op <;> first | rfl | exact absurd rfl h
 have e2 : (op == CmpOp.NotIn) = false := by cases op <;> first | rfl | exact absurd rfl h2
 cases b <;> simp [behindInMarks, e1, e2]
theorem zaH {op : CmpOp} {r : R2} (ho : OpR X (compareOp op) r) (ha : PE X a ta) (hb : PE X b tb) (hm : behindInMarks op b = false) : PE X (.Compare a [op] [b] pos) (tOp r ta tb) := by
 intro Qa s σ H Q I h;exact wpAny_Compare1 (binT ha hb I h fun v u s2 x y H2 I2 rx ry q => ho Qa s2 σ H2 x y v u Q I2 rx ry q) hm
def zk2 (t : TE) : TT := fun σ H Q => t σ H fun x H' => ∃ k, x = .bl k /\ Q k H'
theorem zan {op : CmpOp} {r : R2} (ho : OpR X (compareOp op) r) (ha : PE X a ta) (hb : PE X b tb) (hm : behindInMarks op b = false) : PT X (.Compare a [op] [b] pos) (zk2 (tOp r ta tb)) := by
 intro Qa s σ H Q I h;refine wpAny_isTrue_Compare1 (thn (ha Qa s σ H _ I h) fun v s1 ⟨x, H1, I1, r1, q1⟩ => thn (hb Qa s1 σ H1 _ I1 q1) fun u s2 ⟨y, H2, I2, r2, q2⟩ =>
  thn (ho Qa s2 σ H2 x y v u _ I2 r1 r2 q2) fun c s3 ⟨z, H3, I3, r3, k, e, q3⟩ => ?_) hm
 subst e;cases r3;exact wpAny_truthy_bool ⟨H3, I3, q3⟩
def zjY (r r' : R2) (ta tb tc : TE) : TE := fun σ H Q => ta σ H fun x H1 => tb σ H1 fun y H2 => r x y H2 fun z H3 => ∃ k, z = .bl k /\
 (if k = true then tc σ H3 fun w' H4 => r' y w' H4 Q else Q (.bl false) H3)
theorem ziP {op op' : CmpOp} {r r' : R2} (ho : OpR X (compareOp op) r) (ho' : OpR X (compareOp op') r') (ha : PE X a ta) (hb : PE X b tb) (hc : PE X c tc)
  (hm : lastMarks [op, op'] [b, c] = false := by with_unfolding_all rfl) : PT X (.Compare a [op, op'] [b, c] pos) (zk2 (zjY r r' ta tb tc)) := by
 intro Qa s σ H Q I h;refine isTrue_chain (thn (ha Qa s σ H _ I h) fun v s1 ⟨x, H1, I1, r1, q1⟩ => test_link (thn (hb Qa s1 σ H1 _ I1 q1) fun u s2 ⟨y, H2, I2, r2, q2⟩ =>
  thn (ho Qa s2 σ H2 x y v u _ I2 r1 r2 q2) fun d s3 ⟨z, H3, I3, r3, k, e, q3⟩ => ?_)) hm
 subst e;cases r3;refine wpAny_truthy_bool ?_;cases k with
 | false =>
  obtain ⟨k', e', q'⟩ := q3;cases e';exact ite_ff ⟨H3, I3, q'⟩
 | true =>
  refine ite_tt (test_last (thn (hc Qa s3 σ H3 _ I3 q3) fun w' s4 ⟨z', H4, I4, r4, q4⟩ => thn (ho' Qa s4 σ H4 y z' u w' _ I4 r2 r4 q4) fun d' s5 ⟨z2, H5, I5, r5, k2, e2, q5⟩ => ?_));subst e2;cases r5;exact wpAny_truthy_bool ⟨H5, I5, q5⟩
def TruV (K : W.Frag) (x : V) (H : Hp) (k : Bool) : Prop :=
 match x with
 | .non => k = false
 | .bl b => k = b
 | .int i => k = (i != 0)
 | .str y => y.length <= sizeLine /\ k = ((y.length : Int) != 0)
 | .byt y => y.size <= sizeLine /\ k = ((y.size : Int) != 0)
 | .ref p => (∃ xs, SqL K H p xs /\ k = !xs.isEmpty) \/ (∃ xs, SqT K H p xs /\ k = !xs.isEmpty) \/ ∃ kvs, H p = some (.dK kvs) /\ k = !kvs.isEmpty
 | _ => False
theorem zgJ {κ : Type} {kvs : List (κ × V)} {vs : List (κ × Value)} (r : KV kvs vs) : (!vs.isEmpty) = !kvs.isEmpty := by
 cases r <;> rfl
theorem zef {xs : List V} {its : List Value} (r : Vals xs its) : (!its.toArray.isEmpty) = !xs.isEmpty := by
 cases r <;> simp
theorem zeg : (sizeLine : Nat) < 2 ^ 63 := by rw [sizeLine_eq]; decide
theorem zoz : TruR X (fun x H Q => ∃ k, TruV X.K x H k /\ Q k H) := by
 intro Qa s σ H x v Q I rx h;obtain ⟨k, e, q⟩ := h;have hl := zeg;have hs : sizeLine = 16777216 := sizeLine_eq;cases x with
 | non =>
  cases rx;have e' : k = false := e;subst e';exact truthy_none ⟨H, I, q⟩
 | bl b =>
  cases rx;have e' : k = b := e;subst e';exact wpAny_truthy_bool ⟨H, I, q⟩
 | int i =>
  obtain ⟨t, rfl⟩ := rx;have e' : k = (i != 0) := e;subst e';exact PySem.P.truthy_int ⟨H, I, q⟩
 | str y =>
  obtain ⟨t, rfl⟩ := rx;obtain ⟨hy, e'⟩ : y.length <= sizeLine /\ k = ((y.length : Int) != 0) := e;subst e';exact PySem.P.truthy_str (by omega) ⟨H, I.tok _, q⟩
 | byt y =>
  obtain ⟨t, rfl⟩ := rx;obtain ⟨hy, e'⟩ : y.size <= sizeLine /\ k = ((y.size : Int) != 0) := e;subst e';exact W.truthy_bytes (by omega) ⟨H, I.tok _, q⟩
 | ref p =>
  cases rx;have e' : (∃ xs, SqL X.K H p xs /\ k = !xs.isEmpty) \/ (∃ xs, SqT X.K H p xs /\ k = !xs.isEmpty) \/ ∃ kvs, H p = some (.dK kvs) /\ k = !kvs.isEmpty := e;rcases e' with ⟨xs, hx, e'⟩ | ⟨xs, hx, e'⟩ | ⟨kvs, hx, e'⟩
  ·subst e';obtain ⟨its, r, pl, hz⟩ := I.list hx;have Qe := r.length;exact wpAny_truthy_list pl.isList (by simp only [List.size_toArray]; omega) ⟨H, I.tok _, by rw [zef r]; exact q⟩
  ·subst e';obtain ⟨its, r, pl, hz⟩ := I.tuple hx;have Qe := r.length;exact truthy_tuple pl (by simp only [List.size_toArray]; omega) ⟨H, I.tok _, by rw [zef r]; exact q⟩
  ·subst e';obtain ⟨hz, hS, vs, r, m⟩ : kvs.length <= sizeLine /\ (p == sysModules) = false /\ ∃ vs, KV kvs vs /\ s.heap.DictOf (mixKind X.prog X.w) p vs := I.hok p _ hx;have Qe : kvs.length = vs.length := Paired.length r;exact wpAny_truthy_dict hS m (by omega) ⟨H, I.tok _, by rw [zgJ r]; exact q⟩
 | _ => exact (show False from e).elim
theorem zeh : OpR X (binaryOp .Add) (fun x y H Q => ∃ i j, x = .str i /\ y = .str j /\ i.length + j.length <= sizeLine /\ Q (.str (i ++ j)) H) := by
 intro Qa s σ H x y v u Q I rx ry h;obtain ⟨i, j, rfl, rfl, hz, q⟩ := h;obtain ⟨t, rfl⟩ := rx;obtain ⟨t', rfl⟩ := ry;exact add_str (fun t' tk => ⟨.str (i ++ j), H, I.tok _, ⟨_, rfl⟩, q⟩) hz
theorem zeT {x : V} {us : List Value} (r : Vals [x] us) : ∃ u, us = [u] /\ RelV x u := by
 cases r with
 | cons r1 r2 => cases r2; exact ⟨_, rfl, r1⟩
theorem zh2 {x y : V} {us : List Value} (r : Vals [x, y] us) : ∃ u w', us = [u, w'] /\ RelV x u /\ RelV y w' := by
 cases r with
 | cons r1 r2 =>
  cases r2 with
  | cons r3 r4 => cases r4; exact ⟨_, _, rfl, r1, r3⟩
theorem zh3 : zbE X (.type "int") (fun xs H Q => (∃ i, xs = [.int i] /\ Q (.int i) H) \/ ∃ k, xs = [.bl k] /\ Q (.int (if k then 1 else 0)) H) := by
 intro Qa s σ H xs us Q I r h;rcases h with ⟨i, rfl, q⟩ | ⟨k, rfl, q⟩
 ·obtain ⟨u, rfl, t, rfl⟩ := zeT r;exact call_int_int ⟨.int i, H, I, ⟨_, rfl⟩, q⟩
 ·obtain ⟨u, rfl, r1⟩ := zeT r;cases r1;exact call_int_bool ⟨.int (if k then 1 else 0), H, I.tok _, ⟨_, rfl⟩, q⟩
def LenV (K : W.Frag) (x : V) (H : Hp) (n : Nat) : Prop :=
 match x with
 | .str y => y.length <= sizeLine /\ n = y.length
 | .byt y => y.size <= sizeLine /\ n = y.size
 | .ref p => (∃ xs, SqL K H p xs /\ n = xs.length) \/ ∃ xs, SqT K H p xs /\ n = xs.length
 | _ => False
theorem call_len : zbE X (.builtin "len") (fun xs H Q => ∃ x n, xs = [x] /\ LenV X.K x H n /\ Q (.int n) H) := by
 intro Qa s σ H xs us Q I r h;obtain ⟨x, n, rfl, e, q⟩ := h;obtain ⟨u, rfl, rx⟩ := zeT r;have hl := zeg;have hs : sizeLine = 16777216 := sizeLine_eq;cases x with
 | str y =>
  obtain ⟨t, rfl⟩ := rx;obtain ⟨hy, e'⟩ : y.length <= sizeLine /\ n = y.length := e;subst e';exact len_str (by omega) ⟨.int _, H, I.tok _, ⟨_, rfl⟩, q⟩
 | byt y =>
  obtain ⟨t, rfl⟩ := rx;obtain ⟨hy, e'⟩ : y.size <= sizeLine /\ n = y.size := e;subst e';exact W.len_bytes (by omega) ⟨.int _, H, I.tok _, ⟨_, rfl⟩, q⟩
 | ref p =>
  cases rx;have e' : (∃ xs, SqL X.K H p xs /\ n = xs.length) \/ ∃ xs, SqT X.K H p xs /\ n = xs.length := e;rcases e' with ⟨xs, hx, e'⟩ | ⟨xs, hx, e'⟩
  ·subst e';obtain ⟨its, r', pl, hz⟩ := I.list hx;have Qe := r'.length;exact Calls.call_len_list pl.isList (by simp only [List.size_toArray]; omega) ⟨.int xs.length, H, I.tok _, ⟨_, by simp only [List.size_toArray]; rw [Qe]⟩, q⟩
  ·subst e';obtain ⟨its, r', pl, hz⟩ := I.tuple hx;have Qe := r'.length;exact len_tuple pl (by simp only [List.size_toArray]; omega) ⟨.int xs.length, H, I.tok _, ⟨_, by simp only [List.size_toArray]; rw [Qe]⟩, q⟩
 | _ => exact (show False from e).elim
end
structure ObjM (h : Heap) (x dx C : Addr) (mA : Str -> Option Value) : Prop where
 obj : h.get? x = some (W.instObj C dx)
 ns : h.Ns1 dx mA
 ne : dx ≠ x
theorem zh4 {h : Heap} {dx : Addr} {mA : Str -> Option Value} (n : h.Ns1 dx mA) : ∃ od, h.get? dx = some od /\ ∀ name, W.lookIn name od = some (mA name) := by
 obtain ⟨o, es, ep, ho, hd, hk, _, hm⟩ := n;refine ⟨o, ho, fun name => ?_⟩;have e := hm name;unfold nsFind findBy at e;rw [<- Array.find?_toList] at e;unfold W.lookIn;rw [hd];dsimp only
 split
 ·rename_i y q
  rw [q] at e;exact congrArg some e
 ·rename_i q
  rw [q] at e;have a : es.toList.any (·.refKey) = false := by
   rw [List.any_eq_false];intro y hy;obtain ⟨z, t, hkey⟩ := hk y (Array.mem_toList_iff.mp hy);simp [DictEntry.refKey, hkey]
  have a' : ¬ es.toList.any (·.refKey) = true := by rw [a]; exact yam
  rw [if_neg a'];exact congrArg some e
theorem ObjM.look {h : Heap} {x dx C : Addr} {mA : Str -> Option Value} (I : ObjM h x dx C mA) : ∃ od, W.InstAt h x (W.instObj C dx) C (some od) /\ ∀ name, W.lookIn name od = some (mA name) :=
 let ⟨od, ho, hl⟩ := zh4 I.ns
 ⟨od, ⟨I.obj, rfl, rfl, ho⟩, hl⟩
section
variable {prog : Program} {w : World} {A : Around} {E : Value -> Shared -> Prop} {s : Shared} {K : W.Frag} {x dx C f : Addr} {mA : Str -> Option Value} {name : Str} {v : Value}
theorem zk3 {expr : Bool} {Q : Value -> Shared -> Prop} (X : K.In s.heap) (I : ObjM s.heap x dx C mA) (hg : W.plainGet K C name = true) (hh : W.hasDictIn K C = true)
  (ha : W.findIn K (.ref C) name = some none) (hv : mA name = some v) (hv' : W.handedIn v = true) (h : Q v { s with toks := s.toks + 1 }) :
  wpAny (model prog w) A (getAttr (.ref x) name expr) Q E s := by
 obtain ⟨od, J, hl⟩ := I.look;exact W.get_value X J (W.plainGet_of hg).1 (W.findObj_own hh ha rfl (by rw [hl, hv])) hv' h
theorem ziQ {pl : Sem Bool} {Q : Value × List Value -> Shared -> Prop} (X : K.In s.heap) (I : ObjM s.heap x dx C mA) (hg : W.plainGet K C name = true)
  (hf : W.findIn K (.ref C) name = some (some (.ref f))) (ht : W.isFn K (.ref f) = true) (hv : mA name = none) (h : Q (.ref f, [.ref x]) s) :
  wpAny (model prog w) A (getMethod (.ref x) name pl) Q E s := by
 obtain ⟨od, J, hl⟩ := I.look;exact W.method_fn X J (W.plainGet_of hg).1 (W.plainGet_of hg).2 hf (beq_iff_eq.mp ht) (by show (W.lookIn name od).map (·.isSome) = some false; rw [hl, hv]; rfl) h
theorem zk4 {ns : List Str} {Q : Unit -> Shared -> Prop} (X : K.In s.heap) (I : ObjM s.heap x dx C mA)
  (hs : W.findIn K (.ref C) "__setattr__" = some (some (.builtin "object.__setattr__"))) (hp : W.plainOver K C = true) (ht : W.takerIn K C name = some none) (hh : W.hasDictIn K C = true)
  (hw : PySem.Within mA ns) (hsz : ns.length <= sizeLine)
  (h : ∀ h', ObjM h' x dx C (fun y => if y = name then some v else mA y) -> Heap.SameBut dx s.heap h' -> Q () { s with heap := h', toks := s.toks + 2 }) :
  wpAny (model prog w) A (setAttr (.ref x) name v) Q E s := by
 obtain ⟨od, J, hl⟩ := I.look;refine W.set_plain X J hs (W.osa_open (s := { s with toks := s.toks + 1 }) (r := none) X J hp ht fun b => ?_);obtain ⟨cd, hc, hd'⟩ := W.any_some hh;have hx : s.heap.get? x = some ⟨.ref C, some dx, .plain, #[]⟩ := I.obj;refine yaa (yab (yaa (yaa (wpAny_loadPart hx (yaa (W.Looks.here (s := { s with toks := s.toks + 1 }) (W.looks_clsIn X hc) ?_))))));rw [hd'];refine yab (a := some dx) (yaa (yab (yaa ?_)));refine wpAny_nsSet1 (s := { s with toks := s.toks + 1 }) I.ns fun h' hn2 hs2 => ?_;obtain ⟨oD, esD, epD, hoD, hdD, hcD⟩ := hn2.count (PySem.Within.cons name v hw);refine yaa (wpAny_lookBehind hoD (by rw [hdD]; exact pastItsLine_dict (yat hcD (by rw [List.length_cons]; omega))) ?_);exact yab (h _ ⟨(hs2.2 _ (Ne.symm I.ne)).trans I.obj, hn2, I.ne⟩ hs2)
theorem ziR {R : Result -> Shared -> Prop} {vs : List Value} {kw : List (Str × Value)} (X : K.In s.heap) (hm : W.makesIn K C = true)
  (hi : W.findIn K (.ref C) "__init__" = some (some (.ref f))) (hf : W.typeIn K (.ref f) = some (.type "function"))
  (h : codeAny (model prog w) (A.under (.builtin "type.__call__" ⟨.ref C :: vs, kw⟩)) (.call (.ref f) ⟨.ref (s.heap.objs.size + 1) :: vs, kw⟩) (W.InitBack (s.heap.objs.size + 1) R)
   { s with heap := (s.heap.push W.emptyDict).push (W.instObj C s.heap.objs.size) }) :
  codeAny (model prog w) A (.call (.ref C) ⟨vs, kw⟩) R s := by
 obtain ⟨hh, g, d, t, os⟩ := s;exact W.make_core (W.makes_of X hm) (W.looks_findIn X hi) (fun self => W.bind_fn X self hf) (.inl rfl) h
end
def putF (f : Str) (v : V) : List (Str × V) -> List (Str × V)
 | [] => [(f, v)]
 | (g, x) :: r => if g = f then (g, v) :: r else (g, x) :: putF f v r
theorem zd4 (f g : Str) (v : V) : ∀ fs : List (Str × V), (putF f v fs).lookup g = if g = f then some v else fs.lookup g
 | [] => by
  show List.lookup g [(f, v)] = _
  by_cases h : g = f
  ·have hb : (g == f) = true := beq_iff_eq.mpr h;simp only [List.lookup, hb, if_pos h]
  ·have hb : (g == f) = false := beq_eq_false_iff_ne.mpr h;simp only [List.lookup, hb, if_neg h]
 | (k, x) :: r => by
  have ih := zd4 f g v r;rw [show putF f v ((k, x) :: r) = (if k = f then (k, v) :: r else (k, x) :: putF f v r) from rfl]
  by_cases hk : k = f
  ·rw [if_pos hk]
   by_cases h : g = k
   ·have hb : (g == k) = true := beq_iff_eq.mpr h;simp only [List.lookup, hb, if_pos (h.trans hk)]
   ·have hb : (g == k) = false := beq_eq_false_iff_ne.mpr h;simp only [List.lookup, hb, if_neg (fun e : g = f => h (e.trans hk.symm))]
  ·rw [if_neg hk]
   by_cases h : g = k
   ·have hb : (g == k) = true := beq_iff_eq.mpr h;simp only [List.lookup, hb, if_neg (fun e : g = f => hk (h.symm.trans e))]
   ·have hb : (g == k) = false := beq_eq_false_iff_ne.mpr h;simp only [List.lookup, hb];exact ih
theorem zd5 (f : Str) (v : V) : ∀ fs : List (Str × V), f ∈ (putF f v fs).map (·.1) /\ ∀ g, g ∈ fs.map (·.1) -> g ∈ (putF f v fs).map (·.1)
 | [] => ⟨by simp [putF], fun g h => by simp at h⟩
 | (k, x) :: r => by
  obtain ⟨i1, i2⟩ := zd5 f v r;rw [show putF f v ((k, x) :: r) = (if k = f then (k, v) :: r else (k, x) :: putF f v r) from rfl]
  by_cases hk : k = f
  ·rw [if_pos hk];subst hk;exact ⟨by simp, fun g h => by simpa using h⟩
  ·rw [if_neg hk];refine ⟨?_, fun g h => ?_⟩
   ·rw [List.map_cons];exact List.mem_cons_of_mem _ i1
   ·rw [List.map_cons] at h ⊢;rcases yau.mp h with e | e
    ·exact yau.mpr (.inl e)
    ·exact List.mem_cons_of_mem _ (i2 g e)
theorem zd6 (f : Str) (v : V) : ∀ fs : List (Str × V), (putF f v fs).length <= fs.length + 1
 | [] => by simp [putF]
 | (k, x) :: r => by
  have ih := zd6 f v r;rw [show putF f v ((k, x) :: r) = (if k = f then (k, v) :: r else (k, x) :: putF f v r) from rfl]
  by_cases hk : k = f
  ·rw [if_pos hk, List.length_cons, List.length_cons]; omega
  ·rw [if_neg hk, List.length_cons, List.length_cons]; omega
theorem RelO.some_of {v : V} {o : Option Value} (r : RelO (some v) o) : ∃ u, o = some u /\ RelV v u := by
 cases o with
 | none => exact (show False from r).elim
 | some u => exact ⟨u, rfl, r⟩
theorem RelO.none_of {o : Option Value} (r : RelO none o) : o = none := by
 cases o with
 | none => rfl
 | some u => exact (show False from r).elim
theorem zh5 {v : V} {u : Value} (r : RelV v u) : W.handedIn u = true := by
 cases v with
 | non => cases (show u = Value.none from r); rfl
 | bl b => cases (show u = Value.bool b from r); rfl
 | int i => obtain ⟨t, e⟩ := (show ∃ t, u = Value.int i t from r); cases e; rfl
 | str x => obtain ⟨t, e⟩ := (show ∃ t, u = Value.str x t from r); cases e; rfl
 | byt b => obtain ⟨t, e⟩ := (show ∃ t, u = Value.bytes b t from r); cases e; rfl
 | flt b => obtain ⟨t, e⟩ := (show ∃ t, u = Value.float b t from r); cases e; rfl
 | ref a => cases (show u = Value.ref a from r); rfl
 | ty n => cases (show u = Value.type n from r); rfl
section
variable {P : Program} {w : World} {H H' : Hp} {h h' : Heap} {a C dx : Addr} {fs fs' : List (Str × V)}
theorem zeu (hok : HOk P w H h) (e : H a = some (.ins C dx fs)) : ∃ mA, ObjM h a dx C mA /\ (∀ f, RelO (fs.lookup f) (mA f)) /\ PySem.Within mA (fs.map (·.1)) /\ fs.length <= 1000 /\ H dx = some (.own a) := by
 obtain ⟨d, z, ne, ob, mA, n, r, q⟩ := (show ObjOk P w H h a (.ins C dx fs) from hok a _ e)
 exact ⟨mA, ⟨ob, n, ne⟩, r, q, z, d⟩
end
structure Cls (K : W.Frag) (C : Addr) : Prop where
 pg : W.plainGet K C Str.empty = true
 hd : W.hasDictIn K C = true
 po : W.plainOver K C = true
 sa : W.findIn K (.ref C) "__setattr__" = some (some (.builtin "object.__setattr__"))
theorem Cls.get {K : W.Frag} {C : Addr} (c : Cls K C) (f : Str) : W.plainGet K C f = true := c.pg
def NoAttr (K : W.Frag) (C : Addr) (f : Str) : Prop := W.findIn K (.ref C) f = some none
theorem NoAttr.taker {K : W.Frag} {C : Addr} {f : Str} (n : NoAttr K C f) : W.takerIn K C f = some none := by
 unfold W.takerIn;rw [show W.findIn K (.ref C) f = some none from n]
 rfl
structure Con (K : W.Frag) (C : Addr) (f : Str) (v : V) (u : Value) : Prop where
 at_ : W.findIn K (.ref C) f = some (some u)
 rel : RelV v u
 get : W.specialIn K u "__get__" = some none
 cp : W.copiedNames.contains f = false
structure Meth (K : W.Frag) (C : Addr) (m : Str) (f : Addr) : Prop where
 at_ : W.findIn K (.ref C) m = some (some (.ref f))
 fn : W.isFn K (.ref f) = true
 kp : W.keepIn K (.ref f) = true
section
variable {X : Cx} {Qa : List (Addr × Obj)} {σ : St} {H : Hp} {s : Shared} {a C dx : Addr} {fs : List (Str × V)} {f : Str} {v : V} {A : Around} {E : Value -> Shared -> Prop}
theorem zei {b : Bool} {Q : Value -> Shared -> Prop} (I : Inv X Qa σ H s) (e : H a = some (.ins C dx fs)) (c : Cls X.K C) (n : NoAttr X.K C f) (l : fs.lookup f = some v)
  (h : ∀ u s', Inv X Qa σ H s' -> RelV v u -> Q u s') : wpAny (model X.prog X.w) A (getAttr (.ref a) f b) Q E s := by
 obtain ⟨mA, O, r, _, _, _⟩ := zeu I.hok e;obtain ⟨u, hu, ru⟩ := RelO.some_of (v := v) (o := mA f) (by rw [<- l]; exact r f);exact zk3 I.kIn O (c.get f) c.hd n hu (zh5 ru) (h u _ (I.tok _) ru)
theorem zej {m : Str} {g : Addr} {pl : Sem Bool} {Q : Value × List Value -> Shared -> Prop} (I : Inv X Qa σ H s) (e : H a = some (.ins C dx fs)) (c : Cls X.K C) (k : Meth X.K C m g) (l : fs.lookup m = none)
  (h : Q (.ref g, [.ref a]) s) : wpAny (model X.prog X.w) A (getMethod (.ref a) m pl) Q E s := by
 obtain ⟨mA, O, r, _, _, _⟩ := zeu I.hok e;have hn : mA m = none := RelO.none_of (by rw [<- l]; exact r m);exact ziQ I.kIn O (c.get m) k.at_ k.fn hn h
theorem zek {y : V} {u : Value} {Q : Unit -> Shared -> Prop} (I : Inv X Qa σ H s) (e : H a = some (.ins C dx fs)) (c : Cls X.K C) (n : NoAttr X.K C f) (hl : fs.length < 1000) (ry : RelV y u)
  (h : ∀ s', Inv X Qa σ (upd H a (.ins C dx (putF f y fs))) s' -> Q () s') : wpAny (model X.prog X.w) A (setAttr (.ref a) f u) Q E s := by
 obtain ⟨mA, O, r, wi, _, ho⟩ := zeu I.hok e;have hz : (fs.map (·.1)).length <= sizeLine := by rw [yaf, sizeLine_eq]; omega
 refine zk4 I.kIn O c.sa c.po n.taker c.hd wi hz fun h' O' sb => h _ ?_;have hd : ∃ o, h'.get? dx = some o := let ⟨o, _, _, e', _⟩ := O'.ns; ⟨o, e'⟩;refine I.write (x := a) (e := dx) (by rw [e]; exact True.intro) (.inr ho) (fun b q hb z => (sb.2 b hb).trans z) hd ?_;refine ⟨by rw [za7 O.ne]; exact ho, ?_, O.ne, O'.obj, _, O'.ns, fun g => ?_, fun g hg => ?_⟩
 ·have := zd6 f y fs; omega
 ·show RelO ((putF f y fs).lookup g) (if g = f then some u else mA g);rw [zd4]
  by_cases q : g = f
  ·rw [if_pos q, if_pos q]; exact ry
  ·rw [if_neg q, if_neg q]; exact r g
 ·by_cases q : g = f
  ·rw [q]; exact (zd5 f y fs).1
  ·refine (zd5 f y fs).2 g (wi g fun z => hg ?_);show (if g = f then some u else mA g) = none;rw [if_neg q]; exact z
theorem Inv.made (I : Inv X Qa σ H s) : Inv X Qa σ (upd (upd H s.heap.objs.size (.own (s.heap.objs.size + 1))) (s.heap.objs.size + 1) (.ins C s.heap.objs.size []))
  { s with heap := (s.heap.push W.emptyDict).push (W.instObj C s.heap.objs.size) } := by
 have e1 : (s.heap.push W.emptyDict).get? s.heap.objs.size = some W.emptyDict := yaj s.heap rfl;have e2 : ((s.heap.push W.emptyDict).push (W.instObj C s.heap.objs.size)).get? (s.heap.objs.size + 1) = some (W.instObj C s.heap.objs.size) := by
  have := yaj (s.heap.push W.emptyDict) (o := W.instObj C s.heap.objs.size) rfl
  rwa [Heap.size_push] at this
 have e3 : (s.heap.push W.emptyDict).Ns s.heap.objs.size (fun _ => none) := ⟨W.emptyDict, #[], _, e1, rfl, (fun e he => absurd he (by simp)), fun _ => rfl⟩
 have I1 := I.laid (a := s.heap.objs.size) (o := .own (s.heap.objs.size + 1)) (h' := s.heap.push W.emptyDict) (t' := s.toks) (fun b u q => yac _ q) (yai _) ⟨_, e1⟩;refine I1.laid (a := s.heap.objs.size + 1) (o := .ins C s.heap.objs.size []) (t' := s.toks) (fun b u q => yac _ q) (Nat.le_of_eq (Heap.size_push _ _)) ?_;have ne : s.heap.objs.size ≠ s.heap.objs.size + 1 := Nat.ne_of_lt (Nat.lt_succ_self _);refine ⟨by rw [za7 ne, zad], yaq _, ne, e2, fun _ => none, (Heap.Ns1.of_empty e3).at fun o q => yac _ q, fun _ => True.intro, fun y hy => absurd rfl hy⟩
theorem zk5 {prog : Program} {w : World} {env : Env} {e : Expr} {f : Str} {pos : Pos} {s : Shared} {Q : Value -> Shared -> Prop} (hb : attributeBase e f env (eval e env) = eval e env)
  (h : wpAny (model prog w) A (eval e env) (fun o s₁ => wpAny (model prog w) A (getAttr o f true) Q E s₁) E s) : wpAny (model prog w) A (eval (.Attribute e f pos) env) Q E s :=
 Attribute_any_ h (by rw [arm_eval_Attribute, hb])
end
def tFld (K : W.Frag) (ta : TE) (f : Str) : TE := fun σ H Q => ta σ H fun x H1 => ∃ a C dx fs v, x = .ref a /\ H1 a = some (.ins C dx fs) /\ Cls K C /\ NoAttr K C f /\ fs.lookup f = some v /\ Q v H1
def sFld (K : W.Frag) (ta tv : TE) (f : Str) : TS := fun D σ H => tv σ H fun y H1 => ta σ H1 fun x H2 => ∃ a C dx fs, x = .ref a /\ H2 a = some (.ins C dx fs) /\ Cls K C /\ NoAttr K C f /\ fs.length < 1000 /\
 D.nx σ (upd H2 a (.ins C dx (putF f y fs)))
def InOp (X : Cx) (op : Operator) (rd : V -> V -> Hp -> VK -> Prop) : Prop :=
 ∀ (Qa : List (Addr × Obj)) (s : Shared) (σ : St) (H : Hp) (x y : V) (u v : Value) (Q : VK), Inv X Qa σ H s -> RelV x u -> RelV y v -> rd x y H Q -> wpAny (model X.prog X.w) X.A (inplaceOp op u v) (EP X Qa σ Q) X.xe s
def zk6 (K : W.Frag) (ta tv : TE) (rd : V -> V -> Hp -> VK -> Prop) (f : Str) : TS := fun D σ H => ta σ H fun x H1 => ∃ a C dx fs v, x = .ref a /\ H1 a = some (.ins C dx fs) /\ Cls K C /\ NoAttr K C f /\ fs.lookup f = some v /\
 tv σ H1 fun y H2 => rd v y H2 fun z H3 => ∃ dx' fs', H3 a = some (.ins C dx' fs') /\ fs'.length < 1000 /\ D.nx σ (upd H3 a (.ins C dx' (putF f z fs')))
section
variable {X : Cx} {o e value : Expr} {f : Str} {pos pos' tpos : Pos} {ta tv : TE}
theorem zcA (he : PE X e ta) (hb : attributeBase e f X.env (eval e X.env) = eval e X.env) : PE X (.Attribute e f pos) (tFld X.K ta f) := by
 intro Qa s σ H Q I h;refine zk5 hb (thn (he Qa s σ H _ I h) fun u s1 ⟨x, H1, I1, rx, a, C, dx, fs, v, ex, ea, c, n, l, q⟩ => ?_);subst ex;obtain rfl : u = Value.ref a := rx;exact zei I1 ea c n l fun u' s2 I2 ru => ⟨v, H1, I2, ru, q⟩
theorem zgk (ha : PE X o ta) (hv : PE X value tv) (hs : swapsWith value (some (.Attribute o f pos')) pos.line X.env = pure false) : PS X (.Assign [.Attribute o f pos'] value pos) (sFld X.K ta tv f) := by
 intro Qa s σ H D I h;refine plainObj_wpAny_Assign_Attribute (thn (hv Qa s σ H _ I h) fun u s1 ⟨y, H1, I1, ry, q⟩ => thn (ha Qa s1 σ H1 _ I1 q) fun ov s2 ⟨x, H2, I2, rx, a, C, dx, fs, ex, ea, c, n, l, q2⟩ => ?_) hs;subst ex;obtain rfl : ov = Value.ref a := rx;exact zek I2 ea c n l ry fun s3 I3 => ⟨σ, _, I3, q2⟩
theorem zeU {op : Operator} {rd : V -> V -> Hp -> VK -> Prop} (ha : PE X o ta) (hv : PE X value tv) (hop : InOp X op rd) : PS X (.AugAssign (.Attribute o f tpos) op value pos) (zk6 X.K ta tv rd f) := by
 intro Qa s σ H D I h;refine wpAny_AugAssign_AttributeAny (thn (ha Qa s σ H _ I h) fun ov s1 ⟨x, H1, I1, rx, a, C, dx, fs, v, ex, ea, c, n, l, q⟩ => ?_);subst ex;obtain rfl : ov = Value.ref a := rx;refine zei I1 ea c n l fun u s2 I2 ru => thn (hv Qa s2 σ H1 _ I2 q) fun w3 s3 ⟨y, H2, I3, ry, q3⟩ => thn (hop Qa s3 σ H2 v y u w3 _ I3 ru ry q3) fun w4 s4 ⟨z, H3, I4, rz, dx', fs', ea', l', q4⟩ => ?_;exact zek I4 ea' c n l' rz fun s5 I5 => ⟨σ, _, I5, q4⟩
def rAdd : V -> V -> Hp -> VK -> Prop := fun x y H Q => ∃ i j, x = .int i /\ y = .int j /\ Q (.int (i + j)) H
theorem zjZ : InOp X .Add rAdd := by
 rintro Qa s σ H x y u v Q I rx ry ⟨i, j, rfl, rfl, q⟩
 obtain ⟨t, rfl⟩ := (show ∃ t, u = Value.int i t from rx)
 obtain ⟨t', rfl⟩ := (show ∃ t', v = Value.int j t' from ry)
 exact PyProof.Rows.iadd_int ⟨.int (i + j), H, I.tok _, ⟨_, rfl⟩, q⟩
theorem zk7 {pl : Sem Bool} {m : Str} {apos : Pos} {args : List Expr} {Qa : List (Addr × Obj)} {s : Shared} {σ : St} {H : Hp} {Q : Value -> Shared -> Prop} {te : TE} (he : PE X e te) (I : Inv X Qa σ H s)
  (h : te σ H fun x H1 => ∃ a C dx fs g, x = .ref a /\ H1 a = some (.ins C dx fs) /\ Cls X.K C /\ Meth X.K C m g /\ fs.lookup m = none /\
   ∀ s1, Inv X Qa σ H1 s1 -> wpAny (model X.prog X.w) X.A (callWith pos (.ref g) [.ref a] (backTo pos (starEach args X.env)) (backToKw pos (keywordEach [] X.env))) Q X.xe s1)
  (ht : eval (.Call (.Attribute e m apos) args [] pos) X.env = (do
   let ov <- eval e X.env
   standAt apos.atName
   let (f, first) <- holding [ov] (getMethod ov m pl)
   callWith pos f first (backTo pos (starEach args X.env)) (backToKw pos (keywordEach [] X.env)))) :
  wpAny (model X.prog X.w) X.A (eval (.Call (.Attribute e m apos) args [] pos) X.env) Q X.xe s := by
 refine W.methodCall_KW (pl := pl) (thn (he Qa s σ H _ I h) fun u s1 ⟨x, H1, I1, rx, a, C, dx, fs, g, ex, ea, c, k, l, q⟩ => ?_) ht;subst ex;obtain rfl : u = Value.ref a := rx;exact zej I1 ea c k l (q s1 I1)
end
section
variable {X : Cx} {Qa : List (Addr × Obj)} {σ : St} {H : Hp} {s : Shared} {A : Around} {E : Value -> Shared -> Prop} {Q : Value -> Shared -> Prop} {c : Value} {b : Bool}
inductive TyOf (K : W.Frag) (H : Hp) : V -> Value -> Prop where
 | non : TyOf K H .non (.type "NoneType")
 | bl (x : Bool) : TyOf K H (.bl x) (.type "bool")
 | int (i : Int) : TyOf K H (.int i) (.type "int")
 | str (x : Str) : TyOf K H (.str x) (.type "str")
 | flt (x : UInt64) : TyOf K H (.flt x) (.type "float")
 | lst {a : Addr} {xs : List V} (e : H a = some (.lst xs)) : TyOf K H (.ref a) (.type "list")
 | frz {a : Addr} {o : Obj} {xs : List V} (e : H a = some (.frz o (.lst xs))) : TyOf K H (.ref a) (.type "list")
 | tup {a : Addr} {xs : List V} (e : H a = some (.tup xs)) : TyOf K H (.ref a) (.type "tuple")
 | dK {a : Addr} {kvs : List (Key × V)} (e : H a = some (.dK kvs)) : TyOf K H (.ref a) (.type "dict")
 | dT {a : Addr} {kvs : List (List Key × V)} (e : H a = some (.dT kvs)) : TyOf K H (.ref a) (.type "dict")
 | ins {a C dx : Addr} {fs : List (Str × V)} (e : H a = some (.ins C dx fs)) (cl : Cls K C) (ha : W.findIn K (.ref C) "__class__" = some (some (.builtin "object.__class__")))
   (hn : W.specialIn K (.builtin "object.__class__") "__get__" = some (some (.builtin "getset_descriptor.__get__"))) (htk : W.takesIn K (.builtin "object.__class__") = some true)
   (hm : W.mroIn K C (.type "object") = some true) : TyOf K H (.ref a) (.ref C)
theorem zh6 {x : V} {u t : Value} (I : Inv X Qa σ H s) (rx : RelV x u) (ty : TyOf X.K H x t) (e : W.kitOne X.K t c = some b) (h : ∀ tk, Q (.bool b) { s with toks := tk }) :
  wpAny (model X.prog X.w) A (call (.builtin "isinstance") [u, c]) Q E s := by
 cases ty with
 | non => cases (show u = Value.none from rx); exact W.kia_one W.kitx_none I.kIn True.intro e (fun z => nomatch z) h
 | bl y => cases (show u = Value.bool y from rx); exact W.kia_one W.kitx_bool I.kIn True.intro e (fun z => nomatch z) h
 | int i => obtain ⟨t, q⟩ := (show ∃ t, u = Value.int i t from rx); cases q; exact W.kia_one W.kitx_int I.kIn True.intro e (fun z => nomatch z) h
 | str y => obtain ⟨t, q⟩ := (show ∃ t, u = Value.str y t from rx); cases q; exact W.kia_one W.kitx_str I.kIn True.intro e (fun z => nomatch z) h
 | flt y => obtain ⟨t, q⟩ := (show ∃ t, u = Value.float y t from rx); cases q; exact W.kia_one W.kitx_float I.kIn True.intro e (fun z => nomatch z) h
 | @lst a xs ea =>
  cases (show u = Value.ref a from rx);obtain ⟨_, _, n, _, h1⟩ := (show ObjOk X.prog X.w H s.heap a (.lst xs) from I.hok a _ ea)
  exact W.kia_one W.kitx_list I.kIn ⟨_, h1, rfl⟩ e (fun z => nomatch z) h
 | @frz a ob xs ea =>
  cases (show u = Value.ref a from rx);obtain ⟨_, _, _, n, _, h1⟩ := (show ObjOk X.prog X.w H s.heap a (.frz ob (.lst xs)) from I.hok a _ ea)
  exact W.kia_one W.kitx_list I.kIn ⟨_, h1, rfl⟩ e (fun z => nomatch z) h
 | @tup a xs ea =>
  cases (show u = Value.ref a from rx);obtain ⟨_, _, _, p⟩ := (show ObjOk X.prog X.w H s.heap a (.tup xs) from I.hok a _ ea)
  obtain ⟨o, h1, h2, _⟩ := p;exact W.kia_one W.kitx_tuple I.kIn ⟨o, h1, h2⟩ e (fun z => nomatch z) h
 | @dK a kvs ea =>
  cases (show u = Value.ref a from rx);obtain ⟨_, _, vs, _, p⟩ := (show ObjOk X.prog X.w H s.heap a (.dK kvs) from I.hok a _ ea)
  obtain ⟨o, es, ep, h1, h2, _⟩ := p;exact W.kia_one W.kitx_dict I.kIn ⟨o, h1, h2.1⟩ e (fun z => nomatch z) h
 | @dT a kvs ea =>
  cases (show u = Value.ref a from rx);obtain ⟨_, _, xs, _, o, es, ep, h1, h2, _⟩ := (show ObjOk X.prog X.w H s.heap a (.dT kvs) from I.hok a _ ea)
  exact W.kia_one W.kitx_dict I.kIn ⟨o, h1, h2.1⟩ e (fun z => nomatch z) h
 | @ins a C dx fs ea cl ha hn htk hm =>
  cases (show u = Value.ref a from rx);obtain ⟨mA, O, _⟩ := zeu I.hok ea;obtain ⟨od, J, _⟩ := O.look;exact W.kia_one (W.kitx_own (cl.get _) cl.hd ha hn htk hm) I.kIn J e (fun z => nomatch z) h
end
structure Room (k : Nat) (A : Around) : Prop where
 hd : A.handled = none
 dp : A.depth + 3 * k + 5 < recursionLimit
 un : A.units + 16 * k + 200 < cLine
 gd : A.guards = some []
theorem Room.mono {j k : Nat} {A : Around} (r : Room k A) (h : j <= k) : Room j A := ⟨r.hd, by have := r.dp; omega, by have := r.un; omega, r.gd⟩
theorem Room.deeper {k : Nat} {A : Around} (r : Room (k + 1) A) (env : Env) : Room k (A.deeper env) :=
 ⟨r.hd, by have := r.dp; show A.depth + 1 + 3 * k + 5 < _; omega, by have := r.un; show A.units + 3 + 16 * k + 200 < _; omega, r.gd⟩
theorem zgK {A : Around} {C : Addr} {us : List Value} {kw : List (Str × Value)} : (A.under (.builtin "type.__call__" ⟨.ref C :: us, kw⟩)).depth = A.depth + 1 := by
 first | rfl | simp [Around.under, Code.weight, Code.isCreation, Code.isGuard, Code.isCaller, Code.frames, Code.isFrame, guardIds]
theorem zgL {A : Around} {C : Addr} {us : List Value} {kw : List (Str × Value)} : (A.under (.builtin "type.__call__" ⟨.ref C :: us, kw⟩)).units = A.units + 1 := by
 first | rfl | simp [Around.under, Code.cUnits, Code.frames, Code.isFrame]
theorem zf8 {A : Around} {C : Addr} {us : List Value} {kw : List (Str × Value)} : (A.under (.builtin "type.__call__" ⟨.ref C :: us, kw⟩)).guards = A.guards := by
 first | rfl | simp [Around.under, Code.isGuard, guardIds] | (simp [Around.under, Code.isGuard, guardIds]; decide)
theorem Room.make {k : Nat} {A : Around} (r : Room (k + 1) A) (C : Addr) (us : List Value) (kw : List (Str × Value)) : Room k (A.under (.builtin "type.__call__" ⟨.ref C :: us, kw⟩)) :=
 ⟨r.hd, by have := r.dp; rw [zgK]; omega, by have := r.un; rw [zgL]; omega, by rw [zf8]; exact r.gd⟩
theorem Room.depth {k : Nat} {A : Around} (r : Room k A) : A.depth < recursionLimit := by have := r.dp; omega
theorem Room.units {k : Nat} {A : Around} (r : Room k A) : A.units + 64 < cLine := by have := r.un; omega
def tNil : TA := fun _ H Q => Q [] H
def zlQ (ta : TE) (tr : TA) : TA := fun σ H Q => ta σ H fun x H1 => tr σ H1 fun xs H2 => Q (x :: xs) H2
section
variable {X : Cx} {e : Expr} {es : List Expr} {te : TE} {t : TA} {pos : Pos}
theorem zae : PA X [] tNil := fun _ _ _ _ H Q I h => Calls.spliced_nil ⟨[], H, I, .nil, h⟩
theorem zaa (ha : PE X e te) (hr : PA X es t) (hs : starEach (e :: es) X.env = (false, eval e X.env) :: starEach es X.env := by rfl) : PA X (e :: es) (zlQ te t) := by
 intro pos Qa s σ H Q I h;rw [hs];show wpAny _ _ (spliced ((false, eval e X.env) :: backTo pos (starEach es X.env))) _ _ s;refine Calls.spliced_cons (thn (ha Qa s σ H _ I h) fun u s1 ⟨x, H1, I1, r1, q1⟩ => ?_);exact thn (hr pos Qa s1 σ H1 _ I1 q1) fun us s2 ⟨xs, H2, I2, r2, q2⟩ => ⟨x :: xs, H2, I2, .cons r1 r2, q2⟩
def tTup (t : TA) : TE := fun σ H Q => t σ H fun xs H1 => xs.length <= sizeLine /\ ∀ p, H1 p = none -> Q (.ref p) (upd H1 p (.tup xs))
def tLst (t : TA) : TE := fun σ H Q => t σ H fun xs H1 => xs.length <= sizeLine /\ ∀ p, H1 p = none -> Q (.ref p) (upd H1 p (.lst xs))
theorem zaE {x1} (h : PA X es t) : PE X (.Tuple es x1 pos) (tTup t) := by
 intro Qa s σ H Q I hq;refine wpAny_Tuple_spliced (thn (h pos Qa s σ H _ I hq) fun us s1 ⟨xs, H1, I1, r, z, q⟩ => ⟨by rw [<- r.length]; exact z, ?_⟩);have hf : H1 s1.heap.objs.size = none := I1.hok.fresh (yai _);refine ⟨.ref s1.heap.objs.size, upd H1 s1.heap.objs.size (.tup xs), I1.laid (t' := s1.toks) (fun b u e => yac _ e) (yai _) ?_, rfl, q _ hf⟩;exact ⟨z, us, r, ⟨_, yaj _ rfl, rfl, _, rfl⟩⟩
theorem zaB (h : PA X es t) : PE X (.List es pos) (tLst t) := by
 intro Qa s σ H Q I hq;refine wpAny_List_spliced (thn (h pos Qa s σ H _ I hq) fun us s1 ⟨xs, H1, I1, r, z, q⟩ => ⟨by rw [<- r.length]; exact z, ?_⟩);have hf : H1 s1.heap.objs.size = none := I1.hok.fresh (yai _);refine ⟨.ref s1.heap.objs.size, upd H1 s1.heap.objs.size (.lst xs), I1.laid (t' := s1.toks) (fun b u e => yac _ e) (yai _) ?_, rfl, q _ hf⟩;exact ⟨z, us, 0, r, yaj _ rfl⟩
end
abbrev Sp := List V -> Hp -> VK -> XK -> Prop
abbrev CXT := List Env -> Hp -> Shared -> XK -> Value -> Shared -> Prop
structure Env0 (P : Program) (w : World) (K : W.Frag) (mg : Str -> Option Value) (base : Heap) (A : Around) (outer : List Env) (s : Shared) (H : Hp) : Prop where
 frames : A.frames = some outer
 mod : Mod K mg base
 bs : ∀ b o, base.get? b = some o -> s.heap.get? b = some o /\ H b = none
 bsz : base.objs.size <= s.heap.objs.size
 funs : s.heap.FunFrames base outer
 frf : ∀ b ∈ frs outer, H b = none
 hok : HOk P w H s.heap
 bare : AllBare s.gens
def CE (outer : List Env) (P : Program) (w : World) (H : Hp) (s : Shared) (Q : VK) (u : Value) (s' : Shared) : Prop :=
 ∃ v H', s'.os = s.os /\ AllBare s'.gens /\ Un (frs outer) [] H H' s.heap s'.heap /\ HOk P w H' s'.heap /\ RelV v u /\ Q v H'
def CR (CX : CXT) (outer : List Env) (P : Program) (w : World) (H : Hp) (s : Shared) (Q : VK) (E : XK) (r : Result) (s' : Shared) : Prop :=
 match r with
 | .ok (.ret u) => CE outer P w H s Q u s'
 | .ok _ => False
 | .error e => CX outer H s E e s'
structure FnOk (P : Program) (w : World) (K : W.Frag) (mg : Str -> Option Value) (base : Heap) (CX : CXT) (k : Nat) (f : Addr) (fd : FuncData) (ps : List Str) (sp : Sp) : Prop where
 len : ∀ vs H Q E, sp vs H Q E -> vs.length = ps.length
 run : ∀ (A : Around) (outer : List Env) (s : Shared) (H : Hp) (args : Args) (us : List Value) (vs : List V) (Q : VK) (E : XK), Room k A -> Env0 P w K mg base A outer s H -> BindsTo s fd args (ps.zip us) -> Vals vs us -> sp vs H Q E ->
  codeAny (model P w) A (.call (.ref f) args) (CR CX outer P w H s Q E) s
theorem Env0.make {P : Program} {w : World} {K : W.Frag} {mg : Str -> Option Value} {base : Heap} {A : Around} {outer : List Env} {s : Shared} {H : Hp} (e : Env0 P w K mg base A outer s H) (C : Addr) (us : List Value) (kw : List (Str × Value)) :
  Env0 P w K mg base (A.under (.builtin "type.__call__" ⟨.ref C :: us, kw⟩)) outer s H := ⟨by first | exact e.frames | (simpa [Around.under, Code.envs, Code.isFrame, pushEnvs] using e.frames), e.mod, e.bs, e.bsz, e.funs, e.frf, e.hok, e.bare⟩
section
variable {X : Cx} {Qa : List (Addr × Obj)} {σ : St} {H : Hp} {s s' : Shared}
theorem Inv.env0 (I : Inv X Qa σ H s) : Env0 X.prog X.w X.K X.mg X.base X.A X.stack s H :=
 ⟨I.ok.frames, I.ok.mod, I.bs, yat I.ok.bsz I.sz, I.stack, I.stkFree, I.hok, I.bare⟩
theorem Inv.after {Q : VK} {u : Value} (I : Inv X Qa σ H s) (h : CE X.stack X.prog X.w H s Q u s') : EP X Qa σ Q u s' := by
 obtain ⟨v, H', os, bare, un, hok, r, q⟩ := h;obtain ⟨hh, g, d, t, os'⟩ := s';obtain rfl : os' = s.os := os;exact ⟨v, H', I.call (h' := hh) (g' := g) (d' := d) (t' := t) (ch := []) un hok bare (fun b z => absurd z (by simp)), r, q⟩
end
def zlR (sp : Sp) (dvs : List V) (E : XK) (t : TA) : TE := fun σ H Q => t σ H fun vs H1 => sp (vs ++ dvs) H1 Q E
def zlS (C : Addr) (m : Str) (sp : Sp) (dvs : List V) (E : XK) (ta : TE) (t : TA) : TE := fun σ H Q => ta σ H fun x H1 => ∃ a dx fs, x = .ref a /\ H1 a = some (.ins C dx fs) /\ fs.lookup m = none /\
 t σ H1 fun vs H2 => sp (x :: (vs ++ dvs)) H2 Q E
def zlT (C : Addr) (sp : Sp) (dvs : List V) (E : XK) (t : TA) : TE := fun σ H Q => t σ H fun vs H1 => ∀ x dx, H1 x = none -> H1 dx = none -> dx ≠ x ->
 sp (.ref x :: (vs ++ dvs)) (upd (upd H1 dx (.own x)) x (.ins C dx [])) (fun v H2 => v = .non /\ Q (.ref x) H2) E
def Binds (K : W.Frag) (fd : FuncData) (ps : List Str) (ds : List Value) : Prop :=
 ∀ (s : Shared) (us : List Value), K.In s.heap -> (us ++ ds).length = ps.length -> BindsTo s fd ⟨us, []⟩ (ps.zip (us ++ ds))
theorem Binds.all {K : W.Frag} {fd : FuncData} {ps : List Str} (h : ∀ us : List Value, us.length = ps.length -> bindArgs fd ⟨us, []⟩ = pure (ps.zip us)) : Binds K fd ps [] := fun s us _ hl => by
 rw [List.append_nil] at hl ⊢;exact .of_eq (h us hl)
def zdk (CX : CXT) (X : Cx) (E : XK) : Prop := ∀ (Qa : List (Addr × Obj)) (σ : St) (H : Hp) (s : Shared) (e : Value) (s' : Shared), Inv X Qa σ H s -> CX X.stack H s E e s' -> X.xe e s'
section
variable {X : Cx} {CX : CXT} {k : Nat} {f C : Addr} {fd : FuncData} {ps : List Str} {sp : Sp} {dvs : List V} {ds : List Value} {E : XK} {x m : Str} {p pos apos : Pos} {e o : Expr} {es : List Expr} {ta : TE} {t : TA}
theorem zh7 {Qa : List (Addr × Obj)} {σ : St} {H : Hp} {s : Shared} {Q : VK} {us : List Value} {vs : List V} (F : FnOk X.prog X.w X.K X.mg X.base CX k f fd ps sp) (hr : Room k X.A) (hb : Binds X.K fd ps ds) (hd : Vals dvs ds) (hx : zdk CX X E)
  (I : Inv X Qa σ H s) (r : Vals vs us) (h : sp (vs ++ dvs) H Q E) : wpAny (model X.prog X.w) X.A (call (.ref f) us) (EP X Qa σ Q) X.xe s := by
 have r2 : Vals (vs ++ dvs) (us ++ ds) := r.append hd;have hl : (us ++ ds).length = ps.length := by rw [<- r2.length]; exact F.len _ _ _ _ h
 refine wpAny_call (codeAny_mono (F.run X.A X.stack s H ⟨us, []⟩ (us ++ ds) (vs ++ dvs) Q E hr I.env0 (hb s us I.kIn hl) r2 h) fun r s' hq => ?_);cases r with
 | error e => exact hx Qa σ H s e s' I hq
 | ok fl =>
  cases fl with
  | ret u => exact I.after hq
  | next => exact False.elim hq
  | brk => exact False.elim hq
  | cont => exact False.elim hq
theorem zam (F : FnOk X.prog X.w X.K X.mg X.base CX k f fd ps sp) (hr : Room k X.A) (hg : Gl X x) (hm : X.mg x = some (.ref f)) (hk : W.keepIn X.K (.ref f) = true) (hb : Binds X.K fd ps ds) (hd : Vals dvs ds) (hx : zdk CX X E)
  (ha : PA X (e :: es) t) (hdb : (x == ("__debug__" : Str)) = false := by decide) (he : starEach (e :: es) X.env = (false, eval e X.env) :: starEach es X.env := by rfl) (hpl : (backTo pos (starEach es X.env)).any (·.1) = false := by rfl) :
  PE X (.Call (.Name x p) (e :: es) [] pos) (zlR sp dvs E t) := by
 intro Qa s σ H Q I h;refine wpAny_Call_Name_kw (zf7 I hg hm ?_ hdb);refine W.callWith_K (h₀ := X.base) I.ok.mod.kin hk (thn (ha pos Qa s σ H _ I h) fun us s1 ⟨vs, H1, I1, r, q⟩ => ⟨I1.kIn, ?_⟩) he hpl;exact zh7 F hr hb hd hx I1 r q
theorem zh8 {pl : Sem Bool} (he : PE X o ta) (c : Cls X.K C) (hm : Meth X.K C m f) (F : FnOk X.prog X.w X.K X.mg X.base CX k f fd ps sp) (hr : Room k X.A) (hb : Binds X.K fd ps ds) (hd : Vals dvs ds) (hx : zdk CX X E) (ha : PA X (e :: es) t)
  (hst : starEach (e :: es) X.env = (false, eval e X.env) :: starEach es X.env := by rfl) (hpl : (backTo pos (starEach es X.env)).any (·.1) = false := by rfl)
  (ht : eval (.Call (.Attribute o m apos) (e :: es) [] pos) X.env = (do
   let ov <- eval o X.env
   standAt apos.atName
   let (f, first) <- holding [ov] (getMethod ov m pl)
   callWith pos f first (backTo pos (starEach (e :: es) X.env)) (backToKw pos (keywordEach [] X.env))) := by rfl) :
  PE X (.Call (.Attribute o m apos) (e :: es) [] pos) (zlS C m sp dvs E ta t) := by
 intro Qa s σ H Q I h;refine W.methodCall_KW (pl := pl) (thn (he Qa s σ H _ I h) fun u s1 ⟨x, H1, I1, rx, a, dx, fs, ex, ea, l, q⟩ => ?_) ht;subst ex;obtain rfl : u = Value.ref a := rx;refine zej I1 ea c hm l ?_;refine W.callWith_K (first := [.ref a]) (h₀ := X.base) I.ok.mod.kin hm.kp (thn (ha pos Qa s1 σ H1 _ I1 q) fun us s2 ⟨vs, H2, I2, r, q2⟩ => ⟨I2.kIn, ?_⟩) hst hpl;exact zh7 (us := .ref a :: us) (vs := .ref a :: vs) F hr hb hd hx I2 (.cons rfl r) q2
structure Mk (K : W.Frag) (C f : Addr) : Prop where
 makes : W.makesIn K C = true
 init : W.findIn K (.ref C) "__init__" = some (some (.ref f))
 fn : W.isFn K (.ref f) = true
 kp : W.keepIn K (.ref C) = true
theorem ziS {Qa : List (Addr × Obj)} {σ : St} {H : Hp} {s : Shared} {Q : VK} {us : List Value} {vs : List V} (M : Mk X.K C f) (F : FnOk X.prog X.w X.K X.mg X.base CX k f fd ps sp) (hr : Room (k + 1) X.A) (hb : Binds X.K fd ps ds) (hd : Vals dvs ds)
  (hx : zdk CX X E) (I : Inv X Qa σ H s) (r : Vals vs us)
  (h : ∀ x dx, H x = none -> H dx = none -> dx ≠ x -> sp (.ref x :: (vs ++ dvs)) (upd (upd H dx (.own x)) x (.ins C dx [])) (fun v H2 => v = .non /\ Q (.ref x) H2) E) :
  wpAny (model X.prog X.w) X.A (call (.ref C) us) (EP X Qa σ Q) X.xe s := by
 have hq := h (s.heap.objs.size + 1) s.heap.objs.size (I.hok.fresh (Nat.le_succ _)) (I.hok.fresh (yai _)) (Nat.ne_of_lt (Nat.lt_succ_self _));have I2 := Inv.made (C := C) I;have r2 : Vals (V.ref (s.heap.objs.size + 1) :: (vs ++ dvs)) (Value.ref (s.heap.objs.size + 1) :: (us ++ ds)) := .cons rfl (r.append hd);have hl : (Value.ref (s.heap.objs.size + 1) :: us ++ ds).length = ps.length := by
  have e := r2.length;rw [F.len _ _ _ _ hq] at e;exact e.symm
 refine wpAny_call (ziR (f := f) I.kIn M.makes M.init (beq_iff_eq.mp M.fn) (codeAny_mono (F.run _ X.stack _ _ ⟨Value.ref (s.heap.objs.size + 1) :: us, []⟩ (Value.ref (s.heap.objs.size + 1) :: (us ++ ds)) _ _ E (hr.make C us [])
  (I2.env0.make C us []) (hb _ (Value.ref (s.heap.objs.size + 1) :: us) I2.kIn hl) r2 hq) fun r s' hq' => ?_))
 cases r with
 | error e => exact hx Qa σ _ _ e s' I2 hq'
 | ok fl =>
  cases fl with
  | ret u =>
   obtain ⟨v, H', I3, rv, ev, q3⟩ := I2.after hq';subst ev;exact ⟨rv, ⟨V.ref (s.heap.objs.size + 1), H', I3, rfl, q3⟩⟩
  | next => exact False.elim hq'
  | brk => exact False.elim hq'
  | cont => exact False.elim hq'
theorem zk8 (M : Mk X.K C f) (F : FnOk X.prog X.w X.K X.mg X.base CX k f fd ps sp) (hr : Room (k + 1) X.A) (hg : Gl X x) (hm : X.mg x = some (.ref C)) (hb : Binds X.K fd ps ds) (hd : Vals dvs ds) (hx : zdk CX X E)
  (ha : PA X (e :: es) t) (hdb : (x == ("__debug__" : Str)) = false := by decide) (he : starEach (e :: es) X.env = (false, eval e X.env) :: starEach es X.env := by rfl) (hpl : (backTo pos (starEach es X.env)).any (·.1) = false := by rfl) :
  PE X (.Call (.Name x p) (e :: es) [] pos) (zlT C sp dvs E t) := by
 intro Qa s σ H Q I h;refine wpAny_Call_Name_kw (zf7 I hg hm ?_ hdb);refine W.callWith_K (h₀ := X.base) I.ok.mod.kin M.kp (thn (ha pos Qa s σ H _ I h) fun us s1 ⟨vs, H1, I1, r, q⟩ => ⟨I1.kIn, ?_⟩) he hpl;exact ziS M F hr hb hd hx I1 r q
end
section
variable {X : Cx} {CX : CXT} {k : Nat} {f C : Addr} {fd : FuncData} {ps ks : List Str} {sp : Sp} {E : XK} {x m : Str} {p pos apos kpos : Pos} {e o : Expr} {es : List Expr} {kws : List Keyword} {te ta : TE} {t tk : TA} {nm : Option Str}
structure zo0 (K : W.Frag) (fd : FuncData) (ps ks : List Str) (g : List Value -> List Value -> List Value) (gV : List V -> List V -> List V) : Prop where
 to : ∀ (s : Shared) (us ws : List Value), K.In s.heap -> (g us ws).length = ps.length -> BindsTo s fd ⟨us, ks.zip ws⟩ (ps.zip (g us ws))
 rel : ∀ {vs : List V} {us : List Value} {zs : List V} {ws : List Value}, Vals vs us -> Vals zs ws -> Vals (gV vs zs) (g us ws)
variable {g : List Value -> List Value -> List Value} {gV : List V -> List V -> List V}
end
structure zaz (N P : List Str) (sc : Scope) : Prop where
 kind : sc.kind = .function
 co : sc.isCoroutine = false
 gen : sc.isGenerator = false
 nd : N.Nodup
 pre : N.take P.length = P
 par : ∀ x ∈ P, sc.names.lookup x = some .local \/ sc.names.lookup x = some .cell
 nofree : ∀ y ∈ sc.names, y.2 ≠ .free
theorem zeV {kindOf : Str -> Option NameKind} {x : Str} : ∀ {binds : List (Str × Value)} {m : Str -> Option Value}, (∀ v, (x, v) ∉ binds) -> bindL kindOf binds m x = m x
 | [], _, _ => rfl
 | (n, v) :: r, m, h => by
  unfold bindL;rw [zeV fun w hw => h w (List.mem_cons_of_mem _ hw)]
  split
  ·have : x ≠ n := by rintro rfl; exact h v List.mem_cons_self
   simp [this]
  ·rfl
theorem zeW {kindOf : Str -> Option NameKind} {x : Str} : ∀ {binds : List (Str × Value)} {m : Str -> Option Value}, (∀ v, (x, v) ∉ binds) -> bindC kindOf binds m x = m x
 | [], _, _ => rfl
 | (n, v) :: r, m, h => by
  unfold bindC;rw [zeW fun w hw => h w (List.mem_cons_of_mem _ hw)]
  split
  ·rfl
  ·have : x ≠ n := by rintro rfl; exact h v List.mem_cons_self
   simp [this]
theorem zeX {kindOf : Str -> Option NameKind} {x : Str} {v : Value} : ∀ {P : List Str} {vs : List Value} {i : Nat} {m : Str -> Option Value}, P.Nodup -> P[i]? = some x -> vs[i]? = some v -> kindOf x = some .local ->
  bindL kindOf (P.zip vs) m x = some v
 | [], _, _, _, _, h, _, _ => by simp at h
 | _ :: _, [], _, _, _, _, h, _ => by simp at h
 | p :: P, w :: vs, 0, m, nd, h1, h2, hk => by
  simp at h1 h2; subst h1; subst h2;show bindL kindOf ((p, w) :: P.zip vs) m p = _;unfold bindL;rw [zeV fun v hv => (List.nodup_cons.mp nd).1 (List.of_mem_zip hv).1, if_pos hk];simp
 | p :: P, w :: vs, i + 1, m, nd, h1, h2, hk => by
  show bindL kindOf ((p, w) :: P.zip vs) m x = _;unfold bindL;exact zeX (i := i) (List.nodup_cons.mp nd).2 (by simpa using h1) (by simpa using h2) hk
theorem zeY {kindOf : Str -> Option NameKind} {x : Str} {v : Value} : ∀ {P : List Str} {vs : List Value} {i : Nat} {m : Str -> Option Value}, P.Nodup -> P[i]? = some x -> vs[i]? = some v -> kindOf x ≠ some .local ->
  bindC kindOf (P.zip vs) m x = some v
 | [], _, _, _, _, h, _, _ => by simp at h
 | _ :: _, [], _, _, _, _, h, _ => by simp at h
 | p :: P, w :: vs, 0, m, nd, h1, h2, hk => by
  simp at h1 h2; subst h1; subst h2;show bindC kindOf ((p, w) :: P.zip vs) m p = _;unfold bindC;rw [zeW fun v hv => (List.nodup_cons.mp nd).1 (List.of_mem_zip hv).1, if_neg hk];simp
 | p :: P, w :: vs, i + 1, m, nd, h1, h2, hk => by
  show bindC kindOf ((p, w) :: P.zip vs) m x = _;unfold bindC;exact zeY (i := i) (List.nodup_cons.mp nd).2 (by simpa using h1) (by simpa using h2) hk
def start (N : List Str) (vs : List V) : St := vs.map some ++ List.replicate (N.length - vs.length) none
def cxOf (CX : CXT) (P : Program) (w : World) (K : W.Frag) (mg : Str -> Option Value) (base : Heap) (N : List Str) (qual : Str) (scope : Scope) (f : Addr) (cd : Value) (A : Around) (outer : List Env) (s : Shared) (H : Hp) (E : XK) : Cx where
 prog := P
 w := w
 K := K
 mg := mg
 base := base
 A := A.deeper (envOfC qual scope s.heap.objs.size f cd)
 N := N
 s₀ := s
 H₀ := H
 env := envOfC qual scope s.heap.objs.size f cd
 outer := outer
 stack := envOfC qual scope s.heap.objs.size f cd :: outer
 ex := []
 calm := true
 fn := fun _ => true
 pn := []
 xe := fun e s' => wpAny (model P w) (A.deeper (envOfC qual scope s.heap.objs.size f cd)) (leaving (envOfC qual scope s.heap.objs.size f cd) e) (fun _ s'' => CX outer H s E e s'') (fun e' s'' => CX outer H s E e' s'') s'
theorem zgl {sc : Scope} {n : Nat} {x : Str} (h : sc.names.lookup x = some .cell) : ∃ c, (cellsFrom n sc.names []).lookup x = some c := by
 have q := W.cellsFrom_some sc.names n [] (.inl h);exact Option.isSome_iff_exists.mp q
theorem zh9 {CX : CXT} {P : Program} {w : World} {K : W.Frag} {mg : Str -> Option Value} {base : Heap} {N ps : List Str} {qual : Str} {scope : Scope} {f : Addr} {cd : Value} {A : Around} {outer : List Env} {s s1 : Shared} {H : Hp} {E : XK} {us : List Value} {vs : List V}
  (S : zaz N ps scope) (hd : A.handled = none) (e0 : Env0 P w K mg base A outer s H) (hl : vs.length = ps.length) (r : Vals vs us)
  (x : InCallC s s.heap.objs.size (bindL (envOfC qual scope s.heap.objs.size f cd).kindOf (ps.zip us) fun _ => none) (cellsFrom (s.heap.objs.size + 1) scope.names []) (bindC (envOfC qual scope s.heap.objs.size f cd).kindOf (ps.zip us) fun _ => none) s1) :
  Inv (cxOf CX P w K mg base N qual scope f cd A outer s H E) [] (start N vs) H s1 := by
 have hpl : ps.length <= N.length := by have := congrArg List.length S.pre; rw [ya3] at this; omega
 obtain ⟨h1, tk, rfl, hk⟩ := x.done;have noA : ∀ b : Addr, b ∉ (cxOf CX P w K mg base N qual scope f cd A outer s H E).ex := fun b z => absurd (show b ∈ ([] : List Addr) from z) (by simp);refine ⟨⟨e0.mod, S.kind, rfl, rfl, yai _, fun y z c h1 h2 => ?_, fun y hy => ?_, fun y c _ h => ?_, fun _ => hd, Around.frames_deeper e0.frames, .inr ⟨rfl, rfl⟩, fun b z => absurd z (noA b), e0.bs, e0.bsz, fun b _ _ => noA b, fun b z => absurd z (noA b), e0.funs, e0.frf⟩,
  rfl, e0.bare, Un.kept hk, ⟨_, x.toInCall.ns, fun i y v h1 h2 h3 => ?_⟩, fun y c h => ⟨_, x.cell y c h⟩, e0.hok.fresh (yai _), fun y c h => ?_, fun p hp => absurd (show p ∈ ([] : List (Addr × Obj)) from hp) (by simp), e0.hok.kept hk, ?_⟩
 ·exact name_of_addr x.apart (PySem.mem_of_lookup h1) (PySem.mem_of_lookup h2)
 ·have hy : scope.names.lookup y = some .cell \/ scope.names.lookup y = some .free := hy;rcases hy with hy | hy
  ·exact zgl hy
  ·exact absurd rfl (S.nofree _ (PySem.mem_of_lookup hy))
 ·exact Nat.le_of_lt (x.above y c (PySem.mem_of_lookup h))
 ·have hi : i < vs.length := by
   unfold start at h2
   by_cases hi : i < vs.length
   ·exact hi
   ·rw [List.getElem?_append_right (by simpa using hi)] at h2;rw [List.getElem?_replicate] at h2
    split at h2 <;> cases h2
  have ha : vs[i]? = some v := by
   unfold start at h2;rw [ya5 (by simpa using hi), yav] at h2;cases e : vs[i]? with
   | none => rw [e] at h2; cases h2
   | some a => rw [e] at h2; cases h2; rfl
  obtain ⟨u, hu, rv⟩ := r.get ha;have hp : ps[i]? = some y := by
   rw [<- S.pre, List.getElem?_take_of_lt (by omega)]; exact h1
  have ndP : ps.Nodup := by rw [<- S.pre]; exact S.nd.sublist (List.take_sublist _ _)
  refine ⟨u, rv, ?_⟩;rcases S.par y (ya1 hp) with k | k
  ·exact .inl ⟨k, zeX ndP hp hu k⟩
  ·obtain ⟨c, e⟩ := zgl (n := s.heap.objs.size + 1) k;refine .inr ⟨.inl k, c, e, ?_⟩;have q := x.cell y c e;rw [zeY ndP hp hu (by show scope.names.lookup y ≠ _; rw [k]; decide)] at q;exact q
 ·exact e0.hok.fresh (Nat.le_of_lt (x.above y c (PySem.mem_of_lookup h)))
 ·unfold start;show _ = N.length;rw [yae, yaf, List.length_replicate];omega
theorem zn6 {CX : CXT} {P : Program} {w : World} {K : W.Frag} {mg : Str -> Option Value} {base : Heap} {k : Nat} {f : Addr} {name qual : Str} {params : Arguments} {body : List Stmt} {scope : Scope} {dV kV doc pm cdv ct oc : Value} {an od : Option Addr}
  {osl : Array (Option Value)} {N ps : List Str} {sp : Sp} (lk : K.lookup f = some ⟨oc, od, .func (W.fnOf name qual params body scope dV kV doc pm an cdv ct), osl⟩) (hcd : W.codeIn K cdv qual = true) (S : zaz N ps scope)
  (len : ∀ vs H Q E, sp vs H Q E -> vs.length = ps.length)
  (hbody : ∀ (A : Around) (outer : List Env) (s : Shared) (H : Hp) (vs : List V) (Q : VK) (E : XK), Room k (A.deeper (envOfC qual scope s.heap.objs.size f cdv)) -> sp vs H Q E ->
   ∃ t, PSs (cxOf CX P w K mg base N qual scope f cdv A outer s H E) body t /\ t { nx := fun _ H' => Q .non H', rt := Q } (start N vs) H) :
  FnOk P w K mg base CX (k + 1) f (W.fnOf name qual params body scope dV kV doc pm an cdv ct) ps sp := by
 refine ⟨len, fun A outer s H args us vs Q E hr e0 hb r hsp => ?_⟩;have hl := len _ _ _ _ hsp;have KX : K.In s.heap := e0.mod.kin.keeps fun b o e => (e0.bs b o e).1;have lim : s.heap.NoLimit := e0.mod.nolimit.keeps fun b o e => (e0.bs b o e).1;have hkind : ∀ y ∈ ps.zip us, scope.names.lookup y.1 = some .local \/ (scope.names.lookup y.1 = some .cell /\ ((cellsFrom (s.heap.objs.size + 1) scope.names []).lookup y.1).isSome = true) := fun ⟨n, v⟩ hy => by
  rcases S.par n (List.of_mem_zip hy).1 with q | q
  ·exact .inl q
  ·exact .inr ⟨q, W.cellsFrom_some _ _ _ (.inl q)⟩
 refine codeAny_call_function hr.depth (KX _ _ lk) rfl S.co S.gen rfl (W.codeRec_of KX hcd) (hb _ _ _ _ ?_);refine wpAny_newFunctionEnv_cells S.kind hkind fun env he s1 x => ?_;subst he;refine ⟨lim.keeps x.toInCall.keep, codeAny_func ?_⟩;obtain ⟨t, ht, hq⟩ := hbody A outer s H vs Q E (hr.deeper _) hsp;have I : Inv (cxOf CX P w K mg base N qual scope f cdv A outer s H E) [] (start N vs) H s1 := zh9 S hr.hd e0 hl r x;refine wpAny_mono (ht [] s1 (start N vs) H _ I hq) (fun fl s' hs => ?_) fun e s' hs => hs;have fin : ∀ {σ' : St} {H' : Hp} {v : V} {u : Value}, Inv (cxOf CX P w K mg base N qual scope f cdv A outer s H E) [] σ' H' s' -> RelV v u -> Q v H' -> CE outer P w H s Q u s' :=
  fun {σ' H' v u} J rv q => ⟨v, H', J.os, J.bare, J.base, J.hok, rv, q⟩
 cases fl with
 | ret u =>
  obtain ⟨v, σ', H', J, rv, q⟩ := hs;exact fin J rv q
 | next =>
  obtain ⟨σ', H', J, q⟩ := hs;exact fin (v := V.non) (u := Value.none) J rfl q
 | brk =>
  obtain ⟨_, _, _, q⟩ := hs;exact False.elim q
 | cont =>
  obtain ⟨_, _, _, q⟩ := hs;exact False.elim q
section
variable {X : Cx} {x : Str} {p pos : Pos} {e : Expr} {es : List Expr} {t : TA} {id T : String} {r : List V -> Hp -> VK -> Prop}
def tCB (r : List V -> Hp -> VK -> Prop) (t : TA) : TE := fun σ H Q => t σ H fun vs H1 => r vs H1 Q
theorem zau (hc : zbE X (.builtin id) r) (hg : Gl X x) (hm : X.mg x = none) (hv : bootBuiltins x = some (.builtin id)) (ha : PA X (e :: es) t) (hn : x ≠ "__name__" := by decide) (hdb : (x == ("__debug__" : Str)) = false := by decide)
  (he : starEach (e :: es) X.env = (false, eval e X.env) :: starEach es X.env := by rfl) (hpl : (backTo pos (starEach es X.env)).any (·.1) = false := by rfl) : PE X (.Call (.Name x p) (e :: es) [] pos) (tCB r t) := by
 intro Qa s σ H Q I h;refine wpAny_Call_Name_kw (zd3 I hg hm hv ?_ hn hdb);exact PyProof.Rows.callWith_builtin1 (thn (ha pos Qa s σ H _ I h) fun us s1 ⟨vs, H1, I1, r1, q1⟩ => hc Qa s1 σ H1 vs us Q I1 r1 q1) he hpl
theorem zaF (hc : zbE X (.type T) r) (hg : Gl X x) (hm : X.mg x = none) (hv : bootBuiltins x = some (.type T)) (ha : PA X (e :: es) t) (hn : x ≠ "__name__" := by decide) (hdb : (x == ("__debug__" : Str)) = false := by decide)
  (he : starEach (e :: es) X.env = (false, eval e X.env) :: starEach es X.env := by rfl) (hpl : (backTo pos (starEach es X.env)).any (·.1) = false := by rfl) : PE X (.Call (.Name x p) (e :: es) [] pos) (tCB r t) := by
 intro Qa s σ H Q I h;refine wpAny_Call_Name_kw (zd3 I hg hm hv ?_ hn hdb);exact PyProof.Rows.callWith_type1 (thn (ha pos Qa s σ H _ I h) fun us s1 ⟨vs, H1, I1, r1, q1⟩ => hc Qa s1 σ H1 vs us Q I1 r1 q1) he hpl
end
end L2
namespace HT
open PySem PyProof.Rows
section
open PySem.SeqAt
open PySem.AutoSeq1 (wpAny_loadPart')
open PySem.MeetsSeq PySem.MeetsSeq2 PySem.MeetsSeq3
end
section
variable {prog : Program} {w : World} {A : Around} {E : Value -> Shared -> Prop} {s : Shared}
theorem cat_tup {t b : Addr} {vs ws : List Value} {Q : Value -> Shared -> Prop} (ht : IsTup s.heap t vs.toArray) (hb : IsTup s.heap b ws.toArray) (hv : vs ≠ [])
  (h1 : ws = [] -> Q (.ref t) s) (h2 : ws ≠ [] -> Q (.ref s.heap.objs.size) { s with heap := s.heap.push { cls := .type "tuple", data := .seq (vs ++ ws).toArray } })
  (hsz : vs.length + ws.length <= sizeLine) : wpAny (model prog w) A (binaryOp .Add (.ref t) (.ref b)) Q E s := by
 obtain ⟨⟨cls, dd, data, sl⟩, ho, hc, n, hd⟩ := id ht;obtain ⟨⟨cls2, dd2, data2, sl2⟩, ho2, hc2, n2, hd2⟩ := id hb;simp only at hc hd hc2 hd2;subst hc hd hc2 hd2;have e : vs.toArray ++ ws.toArray = (vs ++ ws).toArray := by simp
 by_cases hw : ws = []
 ·exact concat_meets ⟨_, ho, rfl⟩ ⟨_, ho2, rfl⟩ noFill_tuple_add seq_tuple_add PySem.F.slot_tuple_add PySem.F.entry_tuple_add (PySem.F.args_tuple_add_2 _ _)
   (tuple_addW1 t b vs.toArray ws.toArray n n2 dd dd2 sl sl2 (by simpa using hv) (by simp [hw])) ⟨ho, ho2, h1 hw⟩
 ·refine concat_meets ⟨_, ho, rfl⟩ ⟨_, ho2, rfl⟩ noFill_tuple_add seq_tuple_add PySem.F.slot_tuple_add PySem.F.entry_tuple_add (PySem.F.args_tuple_add_2 _ _)
   (tuple_addW2 t b vs.toArray ws.toArray n n2 dd dd2 sl sl2 (by simpa using hv) (by simpa using hw) (by rw [yad, yad]; exact hsz)) ⟨ho, ho2, ?_⟩
  rw [e];exact h2 hw
def sIx (n d : Nat) : Option Int -> Nat
 | none => d
 | some v => if v < 0 then (v + (n : Int)).toNat else min v.toNat n
theorem sIx_none (n d : Nat) : sIx n d none = d := rfl
theorem sIx_nat (n d k : Nat) : sIx n d (some (k : Int)) = min k n := by
 show (if (k : Int) < 0 then ((k : Int) + (n : Int)).toNat else min (k : Int).toNat n) = min k n;rw [if_neg (by omega), ya4]
theorem sIx_le (n d : Nat) (hd : d <= n) (o : Option Int) : sIx n d o <= n := by
 cases o with
 | none => exact hd
 | some v =>
  show (if v < 0 then (v + (n : Int)).toNat else min v.toNat n) <= n
  by_cases hv : v < 0
  ·rw [if_pos hv]; omega
  ·rw [if_neg hv]; exact Nat.min_le_right _ _
theorem clip_eq (v : Int) (n d : Nat) : (if v < 0 then max (v + (n : Int)) 0 else min v (n : Int)) = ((sIx n d (some v) : Nat) : Int) := by
 show (if v < 0 then max (v + (n : Int)) 0 else min v (n : Int)) = (((if v < 0 then (v + (n : Int)).toNat else min v.toNat n) : Nat) : Int)
 by_cases hv : v < 0
 ·simp only [if_pos hv]; omega
 ·simp only [if_neg hv]; omega
theorem zgM (lo hi : Option Int) (n : Nat) : Builtin.Slice.sliceAdjust lo hi 1 (n : Int) = (((sIx n 0 lo : Nat) : Int), ((sIx n n hi : Nat) : Int)) := by
 have h1 : ¬ ((1 : Int) < 0) := by omega
 unfold Builtin.Slice.sliceAdjust;simp only [h1, if_false];refine Prod.ext ?_ ?_
 ·cases lo with
  | none => rfl
  | some v => exact clip_eq v n 0
 ·cases hi with
  | none => rfl
  | some v => exact clip_eq v n n
theorem zgN (i j : Nat) : Builtin.Slice.slicePlaces (i : Int) (j : Int) 1 = j - i := by
 unfold Builtin.Slice.slicePlaces;have h1 : (1 : Int) > 0 := by omega
 simp only [h1, if_true, Int.ediv_one]
 split <;> omega
theorem zel {v : Value} {o : Option Int} {Q : Option Int -> Shared -> Prop} (p : IsPart v o) (h : Q o s) : wpAny (model prog w) A (Builtin.Slice.slicePartIndex v) Q E s := by
 cases p with
 | none => exact slicePart_none h
 | int i t => exact slicePart_int h
theorem zcs {sl : Addr} {vl vu : Value} {lo hi : Option Int} {n : Nat} {Q : Int × Int × Nat -> Shared -> Prop} (hs : s.heap.IsSliceOf sl vl vu .none) (pl : IsPart vl lo) (pu : IsPart vu hi)
  (h : Q (((sIx n 0 lo : Nat) : Int), 1, sIx n n hi - sIx n 0 lo) s) : wpAny (model prog w) A (Builtin.Slice.sliceApplied (.ref sl) (pure (n : Int))) Q E s := by
 obtain ⟨os, hos, hcs, hds⟩ := id hs;unfold Builtin.Slice.sliceApplied Builtin.Slice.sliceFields;refine yaa (yaa (wpAny_field hos hds (x := vl) rfl (yaa (wpAny_field hos hds (x := vu) rfl (yaa (wpAny_field hos hds (x := .none) rfl (yab ?_)))))));refine yaa (slicePart_none ?_);show wpAny _ _ (if ((1 : Int) == 0) = true then _ else _) _ _ s;rw [if_neg (by decide)];refine yaa (zel pl (yaa (zel pu (yaa (yab ?_)))));show wpAny _ _ (match Builtin.Slice.sliceAdjust lo hi 1 (n : Int) with | (lo, hi) => pure (lo, (1 : Int), Builtin.Slice.slicePlaces lo hi 1)) _ _ s;rw [zgM lo hi n];show wpAny _ _ (pure (((sIx n 0 lo : Nat) : Int), (1 : Int), Builtin.Slice.slicePlaces ((sIx n 0 lo : Nat) : Int) ((sIx n n hi : Nat) : Int) 1)) _ _ s;rw [zgN];exact yab h
theorem ziT (xs : Array Value) (i k : Nat) : ((List.range k).filterMap fun (m : Nat) => xs[((i : Int) + (m : Int) * 1).toNat]?).toArray = ((xs.toList.drop i).take k).toArray := by
 have e : (fun (m : Nat) => xs[((i : Int) + (m : Int) * 1).toNat]?) = fun m => xs[i + m]? := by
  funext m
  have : ((i : Int) + (m : Int) * 1).toNat = i + m := by omega
  rw [this]
 rw [e];have := pick_run xs i k;rw [List.filterMap_map] at this;have e2 : ((fun x => xs[x]?) ∘ fun x => i + x) = fun m => xs[i + m]? := rfl;rw [e2] at this;rw [this]
theorem getItem_tuple_cut {t sl : Addr} {items : Array Value} {vl vu : Value} {lo hi : Option Int} {Q : Value -> Shared -> Prop} (ht : IsTup s.heap t items) (hs : s.heap.IsSliceOf sl vl vu .none) (pl : IsPart vl lo) (pu : IsPart vu hi)
  (hw : ¬ (sIx items.size 0 lo = 0 /\ sIx items.size items.size hi = items.size))
  (h : Q (.ref s.heap.objs.size) { s with heap := s.heap.push { cls := .type "tuple", data := .seq ((items.toList.drop (sIx items.size 0 lo)).take (sIx items.size items.size hi - sIx items.size 0 lo)).toArray } })
  (hsz : items.size <= sizeLine) : wpAny (model prog w) A (getItem (.ref t) (.ref sl)) Q E s := by
 have htake : sizeOk (.seq ((items.toList.drop (sIx items.size 0 lo)).take (sIx items.size items.size hi - sIx items.size 0 lo)).toArray) := by
  show ((items.toList.drop (sIx items.size 0 lo)).take (sIx items.size items.size hi - sIx items.size 0 lo)).toArray.size <= sizeLine;rw [yad, ya3, List.length_drop, Array.length_toList];omega
 have hj : sIx items.size items.size hi <= items.size := sIx_le _ _ (yai _) hi;obtain ⟨os, hos, hcs, hds⟩ := id hs;have hTs : s.TypeIs (.ref sl) "slice" := ⟨os, hos, hcs⟩
 unfold getItem
 try with_reducible refine wpAny_holding ?_
 first | refine yaa (yab ?_) | skip
 refine yaa (wpAny_sequenceKey ht.typeIs (by decide) ?_);refine yaa (wpAny_callSpecial?_slot (name := Str.ofString "__getitem__") ht.typeIs PyProof.Rows.slot_tuple_getitem
  (wpAny_call_entry PyProof.Rows.slot_tuple_getitem ht.typeIs entry_tuple_getitem ?_ (args_tuple_getitem _ _)))
 show wpAny _ _ (Builtin.Tuple.tupleItemsOf (.ref t) >>= _) _ _ s;refine yaa (tupleItemsOf_ ht ?_);refine yaa (wpAny_typeOf hTs ?_);rw [if_pos (by decide)];refine yaa (zcs hs pl pu ?_);have hno : ¬ ((((sIx items.size 0 lo : Nat) : Int) == 0 && (1 : Int) == 1 && (sIx items.size items.size hi - sIx items.size 0 lo) == items.size) = true) := by
  intro q;rw [Bool.and_eq_true, Bool.and_eq_true] at q;have q1 : ((sIx items.size 0 lo : Nat) : Int) = 0 := eq_of_beq q.1.1;have q2 : sIx items.size items.size hi - sIx items.size 0 lo = items.size := eq_of_beq q.2;exact hw ⟨by omega, by omega⟩
 show wpAny _ _ (if (((sIx items.size 0 lo : Nat) : Int) == 0 && (1 : Int) == 1 && (sIx items.size items.size hi - sIx items.size 0 lo) == items.size) = true then _ else _) _ _ s;rw [if_neg hno, ziT]
 first
  | exact yaa (m := Builtin.Tuple.tupleExact _) (wpAny_newObj_type (yab ⟨_, rfl, yab h⟩) htake)
  | exact yaa (m := Builtin.Tuple.tupleExact _) (wpAny_newObj_type (yaa (yab (yab ⟨_, rfl, yab h⟩))) htake)
  | exact yaa (yaa (m := Builtin.Tuple.tupleExact _) (wpAny_newObj_type (yab (yab ⟨_, rfl, yab h⟩)) htake))
  | exact yaa (yaa (m := Builtin.Tuple.tupleExact _) (wpAny_newObj_type (yab ⟨_, rfl, yab h⟩) htake))
end
end HT
namespace L2
open PySem PySem.Spec PyProof.Rows
abbrev TO := St -> Hp -> (Option Int -> Hp -> Prop) -> Prop
def PO (X : Cx) (e : Option Expr) (t : TO) : Prop :=
 ∀ (Qa : List (Addr × Obj)) (s : Shared) (σ : St) (H : Hp) (Q : Option Int -> Hp -> Prop), Inv X Qa σ H s -> t σ H Q ->
  wpAny (model X.prog X.w) X.A (evalPart e X.env) (fun u s' => ∃ o H', Inv X Qa σ H' s' /\ IsPart u o /\ Q o H') X.xe s
def zhA : TO := fun _ H Q => Q none H
def zlU (t : TE) : TO := fun σ H Q => t σ H fun x H1 => ∃ i, x = .int i /\ Q (some i) H1
section
variable {X : Cx} {e : Expr} {te : TE} {lo hi : Option Expr} {tl th : TO} {pos p2 : Pos}
theorem zbd : PO X none zhA := by
 intro Qa s σ H Q I h;rw [evalPart_none];exact yab ⟨none, H, I, .none, h⟩
theorem zbe (h : PE X e te) : PO X (some e) (zlU te) := by
 intro Qa s σ H Q I hw;rw [evalPart_some];refine thn (h Qa s σ H _ I hw) fun u s1 ⟨x, H1, I1, r1, q1⟩ => ?_;obtain ⟨i, rfl, q⟩ := q1;obtain ⟨t, rfl⟩ := r1;exact ⟨some i, H1, I1, .int i t, q⟩
def SlR (X : Cx) (r : V -> Option Int -> Option Int -> Hp -> VK -> Prop) : Prop :=
 ∀ (Qa : List (Addr × Obj)) (s : Shared) (σ : St) (H : Hp) (x : V) (v vl vu : Value) (lo hi : Option Int) (sl : Addr) (Q : VK), Inv X Qa σ H s -> RelV x v -> s.heap.IsSliceOf sl vl vu .none -> IsPart vl lo -> IsPart vu hi -> r x lo hi H Q ->
  ∃ T id, typeLookup (.type T) "__getitem__" = pure (some (.builtin id)) /\ s.TypeIs v T /\ wpAny (model X.prog X.w) X.A (getItem v (.ref sl)) (EP X Qa σ Q) X.xe s
theorem SlR.or {r r' : V -> Option Int -> Option Int -> Hp -> VK -> Prop} (h : SlR X r) (h' : SlR X r') : SlR X (fun x lo hi H Q => r x lo hi H Q \/ r' x lo hi H Q) := by
 intro Qa s σ H x v vl vu lo hi sl Q I rx hs pl pu q;rcases q with q | q
 ·exact h Qa s σ H x v vl vu lo hi sl Q I rx hs pl pu q
 ·exact h' Qa s σ H x v vl vu lo hi sl Q I rx hs pl pu q
def tSl (r : V -> Option Int -> Option Int -> Hp -> VK -> Prop) (te : TE) (tl th : TO) : TE := fun σ H Q => te σ H fun x H1 => tl σ H1 fun l H2 => th σ H2 fun u H3 => r x l u H3 Q
theorem zaR {r : V -> Option Int -> Option Int -> Hp -> VK -> Prop} (hr : SlR X r) (he : PE X e te) (hl : PO X lo tl) (hu : PO X hi th) : PE X (.Subscript e (.Slice lo hi none p2) pos) (tSl r te tl th) := by
 intro Qa s σ H Q I h;refine Subscript_ (thn (he Qa s σ H _ I h) fun v s1 ⟨x, H1, I1, r1, q1⟩ => ?_);refine wpAny_Slice (thn (hl Qa s1 σ H1 _ I1 q1) fun vl s2 ⟨l, H2, I2, pl, q2⟩ => thn (hu Qa s2 σ H2 _ I2 q2) fun vu s3 ⟨u, H3, I3, pu, q3⟩ => ?_);rw [evalPart_none];refine yab ?_;have I4 : Inv X Qa σ H3 { s3 with heap := s3.heap.push { cls := .type "slice", data := .fields #[vl, vu, .none] } } := I3.kept (t' := s3.toks) fun b ob q => yac _ q;obtain ⟨T, id, hT, ht, hg⟩ := hr Qa { s3 with heap := s3.heap.push { cls := .type "slice", data := .fields #[vl, vu, .none] } } σ H3 x v vl vu l u s3.heap.objs.size Q I4 r1 (Heap.IsSliceOf.new ..) pl pu q3;show wpAny (model X.prog X.w) X.A (subscriptTail e (.Slice lo hi none p2) v (.ref s3.heap.objs.size)) (EP X Qa σ Q) X.xe { s3 with heap := s3.heap.push { cls := .type "slice", data := .fields #[vl, vu, .none] } };exact tail_any (ops := [.ref s3.heap.objs.size, v]) ht hT hg (by with_unfolding_all rfl)
def cutV (xs : List V) (lo hi : Option Int) : List V := (xs.drop (HT.sIx xs.length 0 lo)).take (HT.sIx xs.length xs.length hi - HT.sIx xs.length 0 lo)
theorem zd7 (xs : List V) (lo hi : Option Int) : (cutV xs lo hi).length <= xs.length := by
 unfold cutV;rw [ya3, List.length_drop];omega
def rSlT (K : W.Frag) : V -> Option Int -> Option Int -> Hp -> VK -> Prop := fun x lo hi H Q => ∃ a xs, x = .ref a /\ SqT K H a xs /\
 ¬ (HT.sIx xs.length 0 lo = 0 /\ HT.sIx xs.length xs.length hi = xs.length) /\ ∀ p, H p = none -> Q (.ref p) (upd H p (.tup (cutV xs lo hi)))
theorem zka : SlR X (rSlT X.K) := by
 intro Qa s σ H x v vl vu lo hi sl Q I rx hs pl pu h;obtain ⟨a, xs, rfl, hx, hw, q⟩ := h;cases rx;obtain ⟨its, r, ht, hz⟩ := I.tuple hx;have Qe : its.toArray.size = xs.length := by rw [yad]; exact r.length.symm
 refine ⟨"tuple", _, PyProof.Rows.slot_tuple_getitem.lookup, ht.typeIs, ?_⟩;refine HT.getItem_tuple_cut ht hs pl pu (by rw [Qe]; exact hw) ?_ (by rw [Qe]; exact hz);rw [Qe];refine ⟨.ref s.heap.objs.size, _, I.laid (t' := s.toks) (o := .tup (cutV xs lo hi)) (fun b ob q => yac _ q) (yai _) ?_, rfl, q _ (I.hok.fresh (yai _))⟩;exact ⟨yat (zd7 xs lo hi) hz, _, (r.drop (HT.sIx xs.length 0 lo)).take (HT.sIx xs.length xs.length hi - HT.sIx xs.length 0 lo), IsTup.new _ _⟩
def zlV (K : W.Frag) : R2 := fun x y H Q => ∃ a b xs ys, x = .ref a /\ y = .ref b /\ SqT K H a xs /\ SqT K H b ys /\ xs ≠ [] /\ xs.length + ys.length <= sizeLine /\
 (ys = [] -> Q (.ref a) H) /\ (ys ≠ [] -> ∀ p, H p = none -> Q (.ref p) (upd H p (.tup (xs ++ ys))))
theorem Vals.nil_iff {xs : List V} {us : List Value} (r : Vals xs us) : us = [] ↔ xs = [] := by
 cases r with
 | nil => simp
 | cons _ _ => simp
theorem zhB : OpR X (binaryOp .Add) (zlV X.K) := by
 intro Qa s σ H x y v u Q I rx ry h;obtain ⟨a, b, xs, ys, rfl, rfl, ha, hb, hx, hz, q1, q2⟩ := h;cases rx;cases ry;obtain ⟨its, r1, p1, _⟩ := I.tuple ha;obtain ⟨its2, r2, p2, _⟩ := I.tuple hb;refine HT.cat_tup p1 p2 (fun z => hx (r1.nil_iff.mp z)) (fun z => ⟨.ref a, H, I, rfl, q1 (r2.nil_iff.mp z)⟩) (fun z => ?_) (by rw [<- r1.length, <- r2.length]; exact hz);refine ⟨.ref s.heap.objs.size, _, I.laid (t' := s.toks) (o := .tup (xs ++ ys)) (fun b ob q => yac _ q) (yai _) ?_, rfl, q2 (fun w => z (r2.nil_iff.mpr w)) _ (I.hok.fresh (yai _))⟩;exact ⟨by rw [yae]; exact hz, _, r1.append r2, IsTup.new _ _⟩
end
def ixN (n : Nat) (i : Int) : Option Nat := if 0 <= i then (if i < n then some i.toNat else none) else if -(n : Int) <= i then some (i + n).toNat else none
def atI {α : Type} (xs : List α) (i : Int) : Option α := (ixN xs.length i).bind fun j => xs[j]?
theorem zhC {n : Nat} {i : Int} {j : Nat} (h : ixN n i = some j) : seqIndex? i n = some j /\ j < n /\ -(n : Int) <= i /\ i < n := by
 unfold ixN at h
 by_cases h0 : 0 <= i
 ·rw [if_pos h0] at h
  by_cases h1 : i < n
  ·rw [if_pos h1] at h;have e : i.toNat = j := Option.some.inj h;exact ⟨by rw [seqIndex_of h0 h1, e], by omega, by omega, h1⟩
  ·rw [if_neg h1] at h; cases h
 ·rw [if_neg h0] at h
  by_cases h1 : -(n : Int) <= i
  ·rw [if_pos h1] at h;have e : (i + n).toNat = j := Option.some.inj h;exact ⟨by rw [seqIndex_neg (by omega) h1, e], by omega, h1, by omega⟩
  ·rw [if_neg h1] at h; cases h
theorem zf9 {α : Type} {xs : List α} {i : Int} {v : α} (h : atI xs i = some v) : ∃ j, seqIndex? i xs.length = some j /\ xs[j]? = some v /\ j < xs.length /\ -(xs.length : Int) <= i /\ i < xs.length := by
 unfold atI at h;cases e : ixN xs.length i with
 | none => rw [e] at h; cases h
 | some j =>
  rw [e] at h;obtain ⟨h1, h2, h3, h4⟩ := zhC e;exact ⟨j, h1, h, h2, h3, h4⟩
theorem zag {α : Type} {xs : List α} {j : Nat} {v : α} (h : xs[j]? = some v) : atI xs (j : Int) = some v := by
 have hj : j < xs.length := (yag.mp h).1;have e : ixN xs.length (j : Int) = some j := by
  unfold ixN;rw [if_pos (by omega), if_pos (by omega)]; simp
 unfold atI; rw [e]; exact h
def zk9 (b : Expr) : Prop := ∀ o i, subscripted b false o i = operate [o, i] (getItem o i)
def IxR (X : Cx) (r : R2) : Prop :=
 ∀ (value slice : Expr) (Qa : List (Addr × Obj)) (s : Shared) (σ : St) (H : Hp) (x y : V) (v u : Value) (Q : VK), Inv X Qa σ H s -> RelV x v -> RelV y u -> r x y H Q ->
  subscripted slice false v u = operate [v, u] (getItem v u) -> wpAny (model X.prog X.w) X.A (subscriptTail value slice v u) (EP X Qa σ Q) X.xe s
def MtR (X : Cx) (id : String) (r : V -> List V -> Hp -> VK -> Prop) : Prop :=
 ∀ (Qa : List (Addr × Obj)) (s : Shared) (σ : St) (H : Hp) (x : V) (xs : List V) (v : Value) (us : List Value) (Q : VK), Inv X Qa σ H s -> RelV x v -> Vals xs us -> r x xs H Q ->
  wpAny (model X.prog X.w) X.A (call (.builtin id) (v :: us)) (EP X Qa σ Q) X.xe s
section
variable {X : Cx} {a b : Expr} {ta tb : TE} {pos : Pos}
theorem IxR.or {r r' : R2} (h : IxR X r) (h' : IxR X r') : IxR X (fun x y H Q => r x y H Q \/ r' x y H Q) := by
 intro value slice Qa s σ H x y v u Q I rx ry q hs;rcases q with q | q
 ·exact h value slice Qa s σ H x y v u Q I rx ry q hs
 ·exact h' value slice Qa s σ H x y v u Q I rx ry q hs
theorem zal {r : R2} (hr : IxR X r) (ha : PE X a ta) (hb : PE X b tb) (hs : zk9 b) : PE X (.Subscript a b pos) (tOp r ta tb) := by
 intro Qa s σ H Q I h;exact Subscript_ (binT ha hb I h fun v u s2 x y H2 I2 rx ry q => hr a b Qa s2 σ H2 x y v u Q I2 rx ry q (hs _ _))
def rIxL (K : W.Frag) : R2 := fun x y H Q => ∃ p xs i v, x = .ref p /\ y = .int i /\ SqL K H p xs /\ atI xs i = some v /\ Q v H
def rIxT (K : W.Frag) : R2 := fun x y H Q => ∃ p xs i v, x = .ref p /\ y = .int i /\ SqT K H p xs /\ atI xs i = some v /\ Q v H
def rIxS : R2 := fun x y H Q => ∃ z i c, x = .str z /\ y = .int i /\ z.length <= sizeLine /\ atI z.cps.toList i = some c /\ Q (.str ⟨#[c]⟩) H
theorem ix_list : IxR X (rIxL X.K) := by
 intro value slice Qa s σ H x y v u Q I rx ry h hs;obtain ⟨p, xs, i, z, rfl, rfl, hq, he, q⟩ := h;cases rx;obtain ⟨t, rfl⟩ := ry;obtain ⟨its, r, pl, hz⟩ := I.list hq;obtain ⟨j, h1, h2, h3, h4, h5⟩ := zf9 he;obtain ⟨w, ew, rw'⟩ := r.get h2;have hl := r.length;have hn := zeg;have fin : EP X Qa σ Q w s := ⟨z, H, I, rw', q⟩
 by_cases h0 : 0 <= i
 ·have hj : i.toNat = j := by
   rw [seqIndex_of h0 h5] at h1;exact Option.some.inj h1
  exact item_listR pl.isList h0 (by omega) (by rw [hj]; simpa using ew) fin hs
 ·have hj : (i + (its.toArray.size : Int)).toNat = j := by
   rw [seqIndex_neg (by omega) h4] at h1;rw [yad, <- hl];exact Option.some.inj h1
  exact subscriptTail_builtinR (x := w) pl.isList.typeIs slot_list_getitem.lookup
   (wpAny_getItem_list_neg (Q := fun r s' => r = w /\ EP X Qa σ Q r s') pl.isList (by omega) (by rw [yad] <;> omega) (by omega) (by rw [hj]; simpa using ew) ⟨rfl, fin⟩) hs
theorem ix_tup : IxR X (rIxT X.K) := by
 intro value slice Qa s σ H x y v u Q I rx ry h hs;obtain ⟨p, xs, i, z, rfl, rfl, hq, he, q⟩ := h;cases rx;obtain ⟨t, rfl⟩ := ry;obtain ⟨its, r, pl, hz⟩ := I.tuple hq;obtain ⟨j, h1, h2, h3, h4, h5⟩ := zf9 he;obtain ⟨w, ew, rw'⟩ := r.get h2;have hl := r.length;have hn := zeg;have fin : EP X Qa σ Q w s := ⟨z, H, I, rw', q⟩
 exact subscriptTail_builtinR (x := w) pl.typeIs slot_tuple_getitem.lookup
  (getItem_tuple (j := j) (Q := fun r s' => r = w /\ EP X Qa σ Q r s') pl (by omega) (by omega) (by rw [yad, <- hl]; exact h1) (by simpa using ew) ⟨rfl, fin⟩) hs
theorem zlW : IxR X rIxS := by
 intro value slice Qa s σ H x y v u Q I rx ry h hs;obtain ⟨z, i, c, rfl, rfl, hz, he, q⟩ := h;obtain ⟨t, rfl⟩ := rx;obtain ⟨t', rfl⟩ := ry;obtain ⟨j, h1, h2, h3, h4, h5⟩ := zf9 he;have hl : z.cps.toList.length = z.length := by simp [Str.length]
 rw [hl] at h1 h4 h5;have hn := zeg;exact tail_any (typeIs_str s z t) slot_str_getitem.lookup (getItem_str (c := c) (by
  have e1 : decide (i < -(2 ^ 63 : Int)) = false := ya8 (by omega);have e2 : decide (i ≥ 2 ^ 63) = false := ya8 (by omega);rw [e1, e2, Bool.or_false]) (by rw [h1]; simpa using h2) ⟨.str ⟨#[c]⟩, H, I.tok _, ⟨_, rfl⟩, q⟩) hs
def rIx (K : W.Frag) : R2 := fun x y H Q => rIxL K x y H Q \/ rIxT K x y H Q \/ rIxS x y H Q
theorem ix_seq : IxR X (rIx X.K) := ix_list.or (ix_tup.or zlW)
theorem zgO (its : List Value) (n j : Nat) (u : Value) : Obj.mapSeq (·.setIfInBounds j u) { cls := .type "list", data := .seq its.toArray n } = { cls := .type "list", data := .seq (its.set j u).toArray n } := by
 simp [Obj.mapSeq]
theorem Inv.lst {Qa : List (Addr × Obj)} {σ : St} {H : Hp} {s : Shared} {p : Addr} {xs : List V} (I : Inv X Qa σ H s) (h : H p = some (.lst xs)) :
  ∃ (its : List Value) (n : Nat), Vals xs its /\ s.heap.get? p = some { cls := .type "list", data := .seq its.toArray n } /\ xs.length <= sizeLine := by
 obtain ⟨z, its, n, r, e⟩ := I.hok p _ h;exact ⟨its, n, r, e, z⟩
theorem Inv.lstUpd {Qa : List (Addr × Obj)} {σ : St} {H : Hp} {s : Shared} {p : Addr} {xs ys : List V} {its its' : List Value} {n n' : Nat} {f : Obj -> Obj} (I : Inv X Qa σ H s) (h : H p = some (.lst xs))
  (ho : s.heap.get? p = some { cls := .type "list", data := .seq its.toArray n }) (hf : f { cls := .type "list", data := .seq its.toArray n } = { cls := .type "list", data := .seq its'.toArray n' }) (r : Vals ys its') (hz : ys.length <= sizeLine) (t : Nat) :
  Inv X Qa σ (upd H p (.lst ys)) { s with heap := s.heap.update p f, toks := t } := by
 have e : (s.heap.update p f).get? p = some { cls := .type "list", data := .seq its'.toArray n' } := by
  rw [Heap.get?_update_self f ho (by rw [hf] <;> rfl), hf]
 refine I.write (x := p) (e := p) (by rw [h]; trivial) (.inl rfl) (fun b u hb q => (Heap.get?_update_other _ _ (Ne.symm hb)).trans q) ⟨_, e⟩ ?_;exact ⟨hz, its', n', r, e⟩
def zlX : V -> V -> V -> Hp -> (Hp -> Prop) -> Prop := fun o i v H Q => ∃ p xs k j, o = .ref p /\ i = .int k /\ H p = some (.lst xs) /\ ixN xs.length k = some j /\ Q (upd H p (.lst (xs.set j v)))
theorem ziU : PSet X zlX := by
 intro Qa s σ H o i v ov iv u Q I ro ri rv h;obtain ⟨p, xs, k, j, rfl, rfl, hp, hj, q⟩ := h;cases ro;obtain ⟨t, rfl⟩ := ri;obtain ⟨its, n, r, ho, hz⟩ := I.lst hp;obtain ⟨h1, h2, h3, h4⟩ := zhC hj;have hl := r.length;have hn := zeg;have I' : Inv X Qa σ (upd H p (.lst (xs.set j v))) { s with heap := s.heap.update p (Obj.mapSeq (·.setIfInBounds j u)) } :=
  I.lstUpd hp ho (zgO its n j u) (r.set rv j) (by rw [List.length_set]; exact hz) s.toks
 by_cases h0 : 0 <= k
 ·have hk : k.toNat = j := by
   rw [seqIndex_of h0 h4] at h1;exact Option.some.inj h1
  exact W.ki_setAt ho h0 (by omega) (by rw [yad, <- hl]; exact h4) (by rw [hk]; exact ⟨_, I', q⟩)
 ·have hk : (k + (its.toArray.size : Int)).toNat = j := by
   rw [seqIndex_neg (by omega) h3] at h1;rw [yad, <- hl];exact Option.some.inj h1
  exact W.ki_setBack ho (by omega) (by rw [yad, <- hl]; exact h3) (by omega) (by rw [hk]; exact ⟨_, I', q⟩)
theorem zeZ (lo hi : Option Int) (n : Nat) : (sliceBounds lo hi none n).1 = ((HT.sIx n 0 lo : Nat) : Int) /\ (sliceBounds lo hi none n).2.1 = ((HT.sIx n n hi : Nat) : Int) /\ (sliceBounds lo hi none n).2.2 = 1 := by
 refine ⟨?_, ?_, rfl⟩
 ·cases lo with
  | none => simp [sliceBounds, HT.sIx]
  | some i =>
   simp only [sliceBounds, HT.sIx, Option.getD_none, show (1 : Int) > 0 by decide, if_true]
   by_cases h : i < 0
   ·simp only [h, if_true] <;> omega
   ·simp only [h, if_false] <;> omega
 ·cases hi with
  | none => simp [sliceBounds, HT.sIx]
  | some i =>
   simp only [sliceBounds, HT.sIx, Option.getD_none, show (1 : Int) > 0 by decide, if_true]
   by_cases h : i < 0
   ·simp only [h, if_true] <;> omega
   ·simp only [h, if_false] <;> omega
theorem zev (its : List Value) (lo hi : Option Int) : slicePick its.toArray lo hi none = ((its.drop (HT.sIx its.length 0 lo)).take (HT.sIx its.length its.length hi - HT.sIx its.length 0 lo)).toArray := by
 obtain ⟨h1, h2, h3⟩ := zeZ lo hi its.toArray.size;unfold slicePick;rw [h1, h2, h3];simp only [sliceRange_one, pick_run, List.size_toArray] <;> rfl
def rSlL (K : W.Frag) : V -> Option Int -> Option Int -> Hp -> VK -> Prop := fun x lo hi H Q => ∃ a xs, x = .ref a /\ SqL K H a xs /\ ∀ p, H p = none -> Q (.ref p) (upd H p (.lst (cutV xs lo hi)))
theorem zhD : SlR X (rSlL X.K) := by
 intro Qa s σ H x v vl vu lo hi sl Q I rx hs pl pu h;obtain ⟨a, xs, rfl, hx, q⟩ := h;cases rx;obtain ⟨its, r, ht, hz⟩ := I.list hx;have Qe := r.length;refine ⟨"list", _, slot_list_getitem.lookup, ht.isList.typeIs, ?_⟩;refine wpAny_getItem_list_slice ht.isList hs pl pu .none (by simp) ?_ (by rw [yad] <;> omega);rw [zev, <- Qe];refine ⟨.ref s.heap.objs.size, _, I.laid (t' := s.toks) (o := .lst (cutV xs lo hi)) (fun b ob q => yac _ q) (yai _) ?_, rfl, q _ (I.hok.fresh (yai _))⟩;exact ⟨yat (zd7 xs lo hi) hz, _, 0, (r.drop (HT.sIx xs.length 0 lo)).take (HT.sIx xs.length xs.length hi - HT.sIx xs.length 0 lo), yaj _ rfl⟩
def zbC : V -> Bool
 | .non => true
 | .bl _ => true
 | .int _ => true
 | .str _ => true
 | _ => false
def eqV : V -> V -> Bool
 | .non, .non => true
 | .bl a, .bl b => a == b
 | .bl a, .int b => (if a then 1 else 0) == b
 | .int a, .bl b => a == (if b then 1 else 0)
 | .int a, .int b => a == b
 | .str a, .str b => a == b
 | _, _ => false
theorem zkb {A : Around} {s : Shared} {y x : V} {u v : Value} (ry : RelV y u) (rx : RelV x v) (fy : zbC y = true) (fx : zbC x = true) : SeqAt.EqAt A s u v (eqV y x) := by
 cases y with
 | non =>
  cases ry;cases x with
  | non => cases rx; exact SeqAt.EqAt.same _
  | bl b => cases rx; exact SeqAt.EqAt.none_bool b
  | int b => obtain ⟨t, rfl⟩ := rx; exact SeqAt.EqAt.none_int b t
  | str b => obtain ⟨t, rfl⟩ := rx; exact SeqAt.EqAt.none_str b t
  | _ => exact absurd (show false = true from fx) yam
 | bl a =>
  cases ry;cases x with
  | non => cases rx; exact SeqAt.EqAt.bool_none a
  | bl b => cases rx; exact SeqAt.EqAt.bool_bool a b
  | int b => obtain ⟨t, rfl⟩ := rx; exact SeqAt.EqAt.bool_int a b t
  | str b => obtain ⟨t, rfl⟩ := rx; exact SeqAt.EqAt.bool_str a b t
  | _ => exact absurd (show false = true from fx) yam
 | int a =>
  obtain ⟨t', rfl⟩ := ry;cases x with
  | non => cases rx; exact SeqAt.EqAt.int_none a t'
  | bl b => cases rx; exact SeqAt.EqAt.int_bool a t' b
  | int b => obtain ⟨t, rfl⟩ := rx; exact SeqAt.EqAt.int_int a t' b t
  | str b => obtain ⟨t, rfl⟩ := rx; exact SeqAt.EqAt.int_str a t' b t
  | _ => exact absurd (show false = true from fx) yam
 | str a =>
  obtain ⟨t', rfl⟩ := ry;cases x with
  | non => cases rx; exact SeqAt.EqAt.str_none a t'
  | bl b => cases rx; exact SeqAt.EqAt.str_bool a t' b
  | int b => obtain ⟨t, rfl⟩ := rx; exact SeqAt.EqAt.str_int a t' b t
  | str b => obtain ⟨t, rfl⟩ := rx; exact SeqAt.EqAt.str_str a t' b t
  | _ => exact absurd (show false = true from fx) yam
 | _ => exact absurd (show false = true from fy) yam
def eqU (x : V) (u : Value) : Bool := match u with
 | .none => eqV .non x
 | .bool b => eqV (.bl b) x
 | .int i _ => eqV (.int i) x
 | .str z _ => eqV (.str z) x
 | _ => false
theorem zkc {x y : V} {u : Value} (r : RelV y u) (f : zbC y = true) : eqU x u = eqV y x := by
 cases y with
 | non => cases r; rfl
 | bl b => cases r; rfl
 | int i => obtain ⟨t, rfl⟩ := r; rfl
 | str z => obtain ⟨t, rfl⟩ := r; rfl
 | _ => exact absurd (show false = true from f) yam
theorem zd8 {x : V} : ∀ {xs : List V} {us : List Value}, Vals xs us -> xs.all zbC = true -> us.any (eqU x) = xs.any fun y => eqV y x
 | _, _, .nil, _ => rfl
 | y :: xs, u :: us, .cons r t, f => by
  rw [List.all_cons, Bool.and_eq_true] at f;rw [List.any_cons, List.any_cons, zkc r f.1, zd8 t f.2]
theorem zcJ {A : Around} {s : Shared} {x : V} {v : Value} (rx : RelV x v) (fx : zbC x = true) : ∀ {xs : List V} {us : List Value}, Vals xs us -> xs.all zbC = true -> ∀ u ∈ us, SeqAt.EqAt A s u v (eqU x u)
 | _, _, .nil, _ => fun u hu => by cases hu
 | y :: xs, u :: us, .cons r t, f => fun u' hu => by
  rw [List.all_cons, Bool.and_eq_true] at f;rcases yau.mp hu with rfl | hu
  ·rw [zkc r f.1]; exact zkb r rx f.1 fx
  ·exact zcJ rx fx t f.2 u' hu
def inV (x : V) (xs : List V) : Bool := xs.any fun y => eqV y x
def rIn (K : W.Frag) (neg : Bool) : R2 := fun x y H Q => ∃ p xs, y = .ref p /\ (SqL K H p xs \/ SqT K H p xs) /\ zbC x = true /\ xs.all zbC = true /\ Q (.bl (if neg then !inV x xs else inV x xs)) H
theorem zhE : OpR X (compareOp .In) (rIn X.K false) := by
 intro Qa s σ H x y v u Q I rx ry h;obtain ⟨p, xs, rfl, hq, fx, fs, q⟩ := h;cases ry;rcases hq with hq | hq
 ·obtain ⟨its, r, pl, hz⟩ := I.list hq;refine SeqAt.in_listAt (eqU x) pl.isList (fun w hw => zcJ rx fx r fs w (by simpa using hw)) ⟨.bl _, H, I, rfl, ?_⟩;rw [show its.toArray.any (eqU x) = its.any (eqU x) by simp, zd8 r fs];exact q
 ·obtain ⟨its, r, pl, hz⟩ := I.tuple hq;refine SeqAt.in_tupleAt (eqU x) pl (fun w hw => zcJ rx fx r fs w (by simpa using hw)) ⟨.bl _, H, I, rfl, ?_⟩;rw [show its.toArray.any (eqU x) = its.any (eqU x) by simp, zd8 r fs];exact q
theorem zfa : OpR X (compareOp .NotIn) (rIn X.K true) := by
 intro Qa s σ H x y v u Q I rx ry h;obtain ⟨p, xs, rfl, hq, fx, fs, q⟩ := h;cases ry;rcases hq with hq | hq
 ·obtain ⟨its, r, pl, hz⟩ := I.list hq;refine SeqAt.notIn_listAt (eqU x) pl.isList (fun w hw => zcJ rx fx r fs w (by simpa using hw)) ⟨.bl _, H, I, rfl, ?_⟩;rw [show its.toArray.any (eqU x) = its.any (eqU x) by simp, zd8 r fs];exact q
 ·obtain ⟨its, r, pl, hz⟩ := I.tuple hq;refine SeqAt.notIn_tupleAt (eqU x) pl (fun w hw => zcJ rx fx r fs w (by simpa using hw)) ⟨.bl _, H, I, rfl, ?_⟩;rw [show its.toArray.any (eqU x) = its.any (eqU x) by simp, zd8 r fs];exact q
theorem zfb : OpR X (compareOp .NotIn) (fun x y H Q => ∃ i j, x = .str i /\ y = .str j /\ Q (.bl (!(!(Builtin.Str.occurrences j i 0 j.length 1).isEmpty))) H) := by
 intro Qa s σ H x y v u Q I rx ry h;obtain ⟨i, j, rfl, rfl, q⟩ := h;obtain ⟨t, rfl⟩ := rx;obtain ⟨t', rfl⟩ := ry;exact notIn_str ⟨.bl _, H, I, rfl, q⟩
theorem call_list_of : zbE X (.type "list") (fun xs H Q => ∃ p ys, xs = [.ref p] /\ (SqL X.K H p ys \/ SqT X.K H p ys) /\ ∀ l, H l = none -> Q (.ref l) (upd H l (.lst ys))) := by
 intro Qa s σ H xs us Q I r h;obtain ⟨p, ys, rfl, hq, q⟩ := h;obtain ⟨u, rfl, rx⟩ := zeT r;cases rx;have fin : ∀ (its : List Value), Vals ys its -> ys.length <= sizeLine -> ∀ (h' : Heap) (c' : Nat), (∀ b o', s.heap.get? b = some o' -> h'.get? b = some o') ->
   h'.get? s.heap.objs.size = some { cls := .type "list", dict := none, data := .seq its.toArray c', slots := #[] } -> EP X Qa σ Q (.ref s.heap.objs.size) { s with heap := h' } := fun its r' hz h' c' kp e =>
  ⟨.ref s.heap.objs.size, _, I.laid (t' := s.toks) kp (yai _) (show ObjOk X.prog X.w _ h' _ (.lst ys) from ⟨hz, its, c', r', e⟩), rfl, q _ (I.hok.fresh (yai _))⟩
 rcases hq with hq | hq
 ·obtain ⟨its, r', pl, hz⟩ := I.list hq;have Qe := r'.length;obtain ⟨o, ho, hc, n, hd⟩ := pl.isList;exact call_list_seq p (.inl rfl) ho hc hd (fun h' c' kp e => fin its r' hz h' c' kp e) (by simp only [List.size_toArray] <;> omega)
 ·obtain ⟨its, r', pl, hz⟩ := I.tuple hq;have Qe := r'.length;obtain ⟨o, ho, hc, n, hd⟩ := pl;exact call_list_seq p (.inr rfl) ho hc hd (fun h' c' kp e => fin its r' hz h' c' kp e) (by simp only [List.size_toArray] <;> omega)
theorem call_tuple_of : zbE X (.type "tuple") (fun xs H Q => ∃ p ys, xs = [.ref p] /\ ((SqL X.K H p ys /\ ∀ l, H l = none -> Q (.ref l) (upd H l (.tup ys))) \/ (SqT X.K H p ys /\ Q (.ref p) H))) := by
 intro Qa s σ H xs us Q I r h;obtain ⟨p, ys, rfl, h⟩ := h;obtain ⟨u, rfl, rx⟩ := zeT r;cases rx;rcases h with ⟨hq, q⟩ | ⟨hq, q⟩
 ·obtain ⟨its, r', pl, hz⟩ := I.list hq;have Qe := r'.length;refine call_tuple_list pl.isList (fun h' kp => ?_) (by simp only [List.size_toArray] <;> omega);have I1 : Inv X Qa σ H { s with heap := h' } := I.kept (t' := s.toks) kp;have I2 : Inv X Qa σ (upd H h'.objs.size (.tup ys)) { s with heap := h'.push { cls := .type "tuple", data := .seq its.toArray } } :=
   I1.laid (t' := s.toks) (fun b o e => yac _ e) (yai _) (show ObjOk X.prog X.w _ _ _ (.tup ys) from ⟨hz, its, r', IsTup.new _ _⟩)
  exact ⟨.ref h'.objs.size, _, I2, rfl, q _ (I1.hok.fresh (yai _))⟩
 ·obtain ⟨its, r', pl, hz⟩ := I.tuple hq;exact call_tuple_same pl ⟨.ref p, H, I, rfl, q⟩
def tyV (K : W.Frag) (T : String) (x : V) (H : Hp) : Prop := match x with
 | .str _ => T = "str"
 | .int _ => T = "int"
 | .ref p => (T = "list" /\ ∃ xs, SqL K H p xs) \/ (T = "tuple" /\ ∃ o, K.lookup p = some o /\ o.cls = .type "tuple" /\ o.dict = none) \/
   (T = "dict" /\ ((∃ kvs, H p = some (.dK kvs)) \/ ∃ kvs, H p = some (.dT kvs))) \/ (T = "set" /\ ∃ S n, H p = some (.set S n))
 | _ => False
theorem zlY {Qa : List (Addr × Obj)} {σ : St} {H : Hp} {s : Shared} {T : String} {x : V} {v : Value} (I : Inv X Qa σ H s) (r : RelV x v) (ty : tyV X.K T x H) :
  s.TypeIs v T /\ ∀ a, v = .ref a -> ∃ ob, s.heap.get? a = some ob /\ ob.dict = none := by
 cases x with
 | str z =>
  obtain ⟨t, rfl⟩ := r;cases (show T = "str" from ty);exact ⟨typeIs_str s z t, fun _ e => nomatch e⟩
 | int i =>
  obtain ⟨t, rfl⟩ := r;cases (show T = "int" from ty);exact ⟨typeIs_int s i t, fun _ e => nomatch e⟩
 | ref p =>
  cases r;rcases ty with ⟨rfl, xs, hq⟩ | ⟨rfl, o, hk, hc, hd⟩ | ⟨rfl, hk⟩ | ⟨rfl, S, n, hk⟩
  ·obtain ⟨its, _, pl, _⟩ := I.list hq;refine ⟨pl.isList.typeIs, fun a e => ?_⟩;cases e;obtain ⟨o, n, e, c, hd, _⟩ := pl;exact ⟨o, e, hd⟩
  ·refine ⟨⟨o, I.kIn p o hk, hc⟩, fun a e => ?_⟩;cases e;exact ⟨o, I.kIn _ o hk, hd⟩
  ·have z : ∃ o, s.heap.get? p = some o /\ o.ExactDict := by
    rcases hk with ⟨kvs, hk⟩ | ⟨kvs, hk⟩
    ·obtain ⟨_, _, _, _, o, _, _, e, ex, _⟩ := I.hok p _ hk;exact ⟨o, e, ex⟩
    ·obtain ⟨_, _, _, _, o, _, _, e, ex, _⟩ := I.hok p _ hk;exact ⟨o, e, ex⟩
   obtain ⟨o, e, ex⟩ := z;refine ⟨⟨o, e, ex.1⟩, fun a e2 => ?_⟩;cases e2;exact ⟨o, e, ex.2.1⟩
  ·obtain ⟨o, _, _, _, e, ex, _⟩ := I.hok p _ hk;refine ⟨⟨o, e, ex.1⟩, fun a e2 => ?_⟩;cases e2;exact ⟨o, e, ex.2.1⟩
 | _ => exact False.elim ty
def tBM (K : W.Frag) (T : String) (r : V -> List V -> Hp -> VK -> Prop) (to : TE) (t : TA) : TE := fun σ H Q => to σ H fun x H1 => tyV K T x H1 /\ t σ H1 fun xs H2 => r x xs H2 Q
variable {o e : Expr} {es : List Expr} {to : TE} {t : TA} {name : Str} {apos cpos : Pos} {T id : String} {r : V -> List V -> Hp -> VK -> Prop}
theorem zn7 (pa : PlainAttrs T) (slot : Slot T name id) (hty : typeOf (.builtin id) = pure (.type "method_descriptor")) (hm : MtR X id r) (ho : PE X o to) (ha : PA X (e :: es) t)
  (hbase : attributeBase o name X.env (eval o X.env) = eval o X.env := by rfl)
  (hfew : ((backTo cpos (starEach (e :: es) X.env)).all (fun x => !x.1) && (backToKw cpos (keywordEach [] X.env)).all (fun x => x.1.isSome)
   && decide ((e :: es).length + ([] : List Keyword).length + (if ([] : List Keyword).isEmpty then 0 else 1) < 30)) = true := by rfl)
  (hline : (apos.endLine == cpos.line) = true := by rfl) (hs : starEach (e :: es) X.env = (false, eval e X.env) :: starEach es X.env := by rfl) (hplain : (backTo cpos (starEach es X.env)).any (·.1) = false := by rfl) :
  PE X (.Call (.Attribute o name apos) (e :: es) [] cpos) (tBM X.K T r to t) := by
 intro Qa s σ H Q I h;refine wpAny_Call_method_late hbase hfew hline rfl (thn (ho Qa s σ H _ I h) fun v s1 ⟨x, H1, I1, r1, ty, q1⟩ => ?_);obtain ⟨h1, h2⟩ := zlY I1 r1 ty;refine ⟨T, id, pa, slot, hty, h1, h2, ?_⟩;have hA := ha cpos Qa s1 σ H1 _ I1 q1;rw [hs] at hA ⊢;refine Calls.callWith_builtin (by show (false || (backTo cpos (starEach es X.env)).any (·.1)) = false; rw [hplain] <;> rfl) (Calls.evalArgs_plain ?_);exact thn hA fun us s2 ⟨vs, H2, I2, r2, q2⟩ => hm Qa s2 σ H2 x vs v us Q I2 r1 r2 q2
end
def MtM (X : Cx) (id : String) (r : V -> List V -> Hp -> VK -> Prop) : Prop :=
 ∀ (Qa : List (Addr × Obj)) (s : Shared) (σ : St) (H : Hp) (x : V) (xs : List V) (v : Value) (us : List Value) (Q : VK), Inv X Qa σ H s -> RelV x v -> Vals xs us -> r x xs H Q ->
  wpAny (model X.prog X.w) X.A (call (.builtin id) (v :: us)) (EP X Qa σ Q) X.xe s
theorem Vals.one : ∀ {x : V} {us : List Value}, Vals [x] us -> ∃ u, us = [u] /\ RelV x u
 | _, _, .cons r .nil => ⟨_, rfl, r⟩
theorem Vals.rep {xs : List V} {us : List Value} (h : Vals xs us) : ∀ k : Nat, Vals (List.replicate k xs).flatten (List.replicate k us).flatten
 | 0 => .nil
 | k + 1 => by
  rw [List.replicate_succ, List.replicate_succ, List.flatten_cons, List.flatten_cons];exact Vals.append h (Vals.rep h k)
theorem zfc (its : List Value) : ∀ (k : Nat) (acc : List Value),
  List.foldl (fun x1 x2 => x1 ++ x2) acc.toArray (List.replicate k its.toArray) = (acc ++ (List.replicate k its).flatten).toArray
 | 0, acc => by simp
 | k + 1, acc => by
  have e : acc.toArray ++ its.toArray = (acc ++ its).toArray := by simp
  have e2 : (acc ++ its) ++ (List.replicate k its).flatten = acc ++ (List.replicate (k + 1) its).flatten := by
   rw [List.replicate_succ, List.flatten_cons, List.append_assoc]
  rw [<- e2, <- zfc its k (acc ++ its), <- e, List.replicate_succ, List.foldl_cons]
section
variable {X : Cx} {Qa : List (Addr × Obj)} {σ : St} {H : Hp} {s : Shared} {l b : Addr} {xs ys zs : List V}
theorem Inv.lset {its its' : List Value} {n : Nat} {f : Array Value -> Array Value} {t' : Nat} (I : Inv X Qa σ H s) (hH : H l = some (.lst xs))
  (e : s.heap.get? l = some { cls := .type "list", data := .seq its.toArray n }) (hf : f its.toArray = its'.toArray) (hv : Vals ys its') (hz : ys.length <= sizeLine) :
  Inv X Qa σ (upd H l (.lst ys)) { s with heap := s.heap.update l (Obj.mapSeq f), toks := t' } := by
 have q := PySem.IsL.update e f;rw [hf] at q;refine I.write (x := l) (e := l) (by rw [hH]; exact trivial) (.inl rfl) (fun b' u hb hu => (Heap.get?_update_other s.heap (Obj.mapSeq f) (Ne.symm hb)).trans hu) ⟨_, q⟩ ?_;exact ⟨hz, its', _, hv, q⟩
theorem Inv.lnew {its : List Value} {t' : Nat} (I : Inv X Qa σ H s) (hv : Vals ys its) (hz : ys.length <= sizeLine) :
  Inv X Qa σ (upd H s.heap.objs.size (.lst ys)) { s with heap := s.heap.push { cls := .type "list", data := .seq its.toArray }, toks := t' } :=
 I.laid (fun _ _ q => yac _ q) (yai _) ⟨hz, its, 0, hv, yaj _ rfl⟩
theorem Inv.fresh (I : Inv X Qa σ H s) : H s.heap.objs.size = none := I.hok.fresh (yai _)
theorem Inv.lstM (I : Inv X Qa σ H s) (hH : H l = some (.lst xs)) : xs.length <= sizeLine /\ ∃ (its : List Value) (n : Nat), Vals xs its /\ xs.length = its.length /\ s.heap.get? l = some { cls := .type "list", data := .seq its.toArray n } := by
 obtain ⟨z, its, n, r, e⟩ := I.hok l _ hH;exact ⟨z, its, n, r, r.length, e⟩
theorem zew {n : Nat} (h : n <= sizeLine) : Builtin.List.listTooLong n = false := by
 unfold Builtin.List.listTooLong;exact ya8 (by omega)
end
section
variable {X : Cx}
def zfA : V -> List V -> Hp -> VK -> Prop := fun x vs H Q => ∃ l xs y, x = .ref l /\ vs = [y] /\ H l = some (.lst xs) /\ xs.length < sizeLine /\ Q .non (upd H l (.lst (xs ++ [y])))
theorem zhF : MtM X "list.append" zfA := by
 intro Qa s σ H x vs v us Q I rx rv h;obtain ⟨l, xs, y, rfl, rfl, hH, hz, q⟩ := h;cases rx;obtain ⟨u, rfl, ru⟩ := rv.one;obtain ⟨z, its, n, r, hl, e⟩ := I.lstM hH;refine call_meets F.slot_list_append ⟨_, e, rfl⟩ F.entry_list_append (F.args_list_append_2 _ _) (PySem.list_append l its.toArray n u (by rw [yad]; omega)) ⟨e, ?_⟩;refine ⟨.non, _, I.lset (its' := its ++ [u]) hH e (by simp) (r.append (.cons ru .nil)) ?_, rfl, q⟩;rw [yae, yas];omega
def zfB : V -> List V -> Hp -> VK -> Prop := fun x vs H Q => ∃ l b xs zs, x = .ref l /\ vs = [.ref b] /\ H l = some (.lst xs) /\ H b = some (.lst zs) /\ xs.length + zs.length <= sizeLine /\ Q .non (upd H l (.lst (xs ++ zs)))
theorem zhG : MtM X "list.extend" zfB := by
 intro Qa s σ H x vs v us Q I rx rv h;obtain ⟨l, b, xs, zs, rfl, rfl, hH, hB, hz, q⟩ := h;cases rx;obtain ⟨u, rfl, ru⟩ := rv.one;cases ru;obtain ⟨z, its, n, r, hl, e⟩ := I.lstM hH;obtain ⟨z2, its2, n2, r2, hl2, e2⟩ := I.lstM hB;have hsz : its.toArray.size + its2.toArray.size <= sizeLine := by rw [yad, yad]; omega
 have hlong : ¬ (!its.toArray.isEmpty && Builtin.List.listTooLong (its.toArray.size + its2.toArray.size)) = true := by
  rw [zew hsz, Bool.and_false];exact yam
 refine call_meets F.slot_list_extend ⟨_, e, rfl⟩ F.entry_list_extend (F.args_list_extend_2 _ _)
  (AutoSeq1.list_extend_list_list_0 l its.toArray n b its2.toArray n2 hlong (by rw [yad]; omega) (by omega)) ⟨e, e2, ?_⟩
 refine ⟨.non, _, I.lset (its' := its ++ its2) hH e (by simp) (r.append r2) ?_, rfl, q⟩;rw [yae];omega
def rCat : R2 := fun x y H Q => ∃ l b xs zs, x = .ref l /\ y = .ref b /\ H l = some (.lst xs) /\ H b = some (.lst zs) /\ xs.length + zs.length <= sizeLine /\ ∀ p, H p = none -> Q (.ref p) (upd H p (.lst (xs ++ zs)))
theorem zkd : OpR X (binaryOp .Add) rCat := by
 intro Qa s σ H x y v u Q I rx ry h;obtain ⟨l, b, xs, zs, rfl, rfl, hH, hB, hz, q⟩ := h;cases rx;cases ry;obtain ⟨z, its, n, r, hl, e⟩ := I.lstM hH;obtain ⟨z2, its2, n2, r2, hl2, e2⟩ := I.lstM hB;refine PySem.P.add_list e e2 ?_ (by rw [yad, yad]; omega);have ea : its.toArray ++ its2.toArray = (its ++ its2).toArray := by simp
 rw [ea];exact ⟨.ref _, _, I.lnew (t' := s.toks) (r.append r2) (by rw [yae]; omega), rfl, q _ I.fresh⟩
def rRep : R2 := fun x y H Q => ∃ l k xs, x = .ref l /\ y = .int k /\ H l = some (.lst xs) /\ -(2 ^ 63) <= k /\ k < 2 ^ 63 /\ xs.length * k.toNat <= sizeLine /\
 ∀ p, H p = none -> Q (.ref p) (upd H p (.lst (List.replicate k.toNat xs).flatten))
theorem zkA {α : Type} (xs : List α) (k : Nat) : (List.replicate k xs).flatten.length = k * xs.length := by
 induction k with
 | zero => simp
 | succ k ih => rw [List.replicate_succ, List.flatten_cons, yae, ih, Nat.succ_mul, Nat.add_comm]
theorem zlZ : OpR X (binaryOp .Mult) rRep := by
 intro Qa s σ H x y v u Q I rx ry h;obtain ⟨l, k, xs, rfl, rfl, hH, h1, h2, hz, q⟩ := h;cases rx;obtain ⟨t, rfl⟩ := ry;obtain ⟨z, its, n, r, hl, e⟩ := I.lstM hH;have Qe : its.toArray.size * k.toNat <= sizeLine := by rw [yad, <- hl]; exact hz
 have hcap : ¬ its.toArray.size * k.toNat > (2 ^ 63 - 1) / 8 := by
  have : (sizeLine : Nat) <= (2 ^ 63 - 1) / 8 := by decide
  omega
 have hfit : ¬ (!Builtin.List.listFitsIndex k) = true := by
  rw [fitsIndex_both h1 h2];exact yam
 have hlong : ¬ Builtin.List.listTooLong (its.toArray.size * k.toNat) = true := by
  rw [zew Qe];exact yam
 have hnew : List.foldl (fun x1 x2 => x1 ++ x2) #[] (List.replicate (if its.toArray.isEmpty = true then 0 else k.toNat) its.toArray) = (List.replicate k.toNat its).flatten.toArray := by
  have f0 : ∀ m : Nat, List.foldl (fun x1 x2 => x1 ++ x2) #[] (List.replicate m its.toArray) = (List.replicate m its).flatten.toArray := fun m => by
   have := zfc its m [];rw [List.nil_append] at this;exact this
  rw [f0];cases its with
  | nil => simp
  | cons a r' => rw [if_neg (by simp)]
 refine wpAny_binaryOp_repeat_ref (T := "list") (U := "int") (by decide) ⟨_, e, rfl⟩ (fun s' => typeIs_int s' k t) noFill_list_mul F.fills_int_mul F.slot_int_rmul repeat_list F.slot_int_index.lookup
  (call_meets F.slot_int_rmul (typeIs_int s k t) F.entry_int_rmul (F.args_int_rmul_2 _ _) (int___rmul___int_list k t l its.toArray n)
   ⟨e, rfl, ⟨_, e, rfl⟩, call_meets F.slot_list_mul ⟨_, e, rfl⟩ F.entry_list_mul (F.args_list_mul_2 _ _) (AutoListH.list___mul___list_int_3 l its.toArray n k t hfit hcap hlong) ⟨e, ?_⟩⟩)
 rw [hnew];exact ⟨.ref _, _, I.lnew (t' := s.toks) (r.rep k.toNat) (by rw [zkA, Nat.mul_comm]; exact hz), rfl, q _ I.fresh⟩
end
section
variable {prog : Program} {w : World} {A : Around} {E : Value -> Shared -> Prop} {s : Shared}
end
section
variable {X : Cx}
end
end L2
namespace Att
open PySem PySem.W PySem.Calls PyProof.Rows
theorem zd9 {P : Params} {h : Heap} : ∀ (ns : List Int) (vs : List Value), WellAll P h vs (ns.map WData.int) -> IntsAre vs ns := by
 intro ns
 induction ns with
 | nil =>
  intro vs w;rw [List.map_nil] at w;cases w;exact .nil
 | cons n ns ih =>
  intro vs w;rw [List.map_cons] at w;cases w with
  | cons a b =>
   cases a;exact .cons _ _ (ih _ b)
theorem zhH {l : OpenLaw} {n : Nat} (hn : l.most = some n) {P : Params} {h : Heap} {args : List WData} {vals : List Value}
  (hpre : l.row.toRowW.claim.pre args = true) (hwl : WellAll P h vals args) :
  ∃ a vs ns, vals = [Value.ref a] /\ args = [WData.list (ns.map WData.int)] /\ h.get? a = some { cls := .type "list", data := .seq vs.toArray } /\ IntsAre vs ns /\ ns.length <= n := by
 have hsh : WShape.hasAll [] args [.list .int] = true := (pre_splitW hpre).1;have hc : l.pre.holds [] { args := args } = true := (pre_splitW hpre).2;obtain ⟨d, r, rfl, h1, h2⟩ := hasAllW_cons hsh;obtain rfl := hasAllW_nil h2;obtain ⟨xs, rfl, h3⟩ := hasW_list h1;obtain ⟨ns, rfl⟩ := items_int h3;have Qe : ns.length <= n := by
  unfold OpenLaw.pre at hc;have h4 : (WTm.not (.lt (.lit (.int (n : Int))) (.len (.arg 0)))).holds [] { args := [.list (ns.map .int)] } = true := by
   have h4 := (holds_andW hc).1;rw [hn] at h4;exact h4
  have h5 := condW_of h4 (w_not (w_lt w_lit (w_len_list (w_arg rfl))));rw [yaf] at h5;refine Nat.le_of_not_lt fun q => ?_;have q' : (n : Int) < ((ns.length : Nat) : Int) := by omega
  first
   | (rw [ya9 q'] at h5; exact absurd h5 (by decide))
   | (simp at h5; omega)
 cases hwl with
 | cons w1 w2 =>
  cases w2;cases w1 with
  | list ho hall => exact ⟨_, _, ns, rfl, rfl, ho, zd9 ns _ hall, Qe⟩
theorem zhI (l : OpenLaw) (args : List WData) : l.row.toRowW.claim.post args (.bool true) args = true :=
 postW_of (r := l.row.toRowW) (X := (true == true))
  (show WShape.has [] (.bool true) .bool = true by first | rfl | decide | simp [WShape.has, WShape.arms, WShape.armsAll])
  (show (WTm.eq .res (.lit (.bool true))).value [] { args := args, res := some (.bool true), after := args } = some (.bool (true == true)) from w_eq_bool (w_res rfl) w_lit) rfl
theorem attach_call {l : OpenLaw} {n : Nat} {q : Program} {loose : List Str} {XP : (Str -> Option Value) -> Heap -> Prop} {YP : World -> Heap -> Prop} {d : DefRec}
  (hn : l.most = some n) (hdf : d.params.defaults = [])
  (call : ∀ (w : World) (s₀ s₁ : Shared) (mg mb : Str -> Option Value) (fa : Addr) (o : Obj) (pm cd doc : Value) (a : Addr) (vs : List Value) (ns : List Int),
   Ground q loose [] XP w s₀ mg mb s₁.heap -> YP w s₁.heap ->
   s₁.heap.get? fa = some o -> o.data = .func (docDef d.name d.params d.body d.scope pm cd doc) -> s₁.heap.CodeRec cd d.name -> mg d.name = some (.ref fa) ->
   s₁.heap.get? a = some { cls := .type "list", data := .seq vs.toArray } -> IntsAre vs ns -> ns.length <= n -> s₁.gens = #[] ->
   codeAny (model l.prog w) callerA (.call (.ref fa) ⟨[.ref a], []⟩) (fun r s' => r = .ok (.ret (.bool true)) /\ OldK s₁.heap s'.heap /\ s'.os = s₁.os /\ AllBare s'.gens) s₁) :
  WalkO q loose XP YP l.row.toRowW d [] (fun f vs => PySem.call f vs) := by
 intro w s₀ s₁ mg mb G Y fa o pm cd doc dV kV ho hd hcd hD hmg hg args vals as hpre hlay hrd hwl hlo;obtain rfl : dV = .none := Dflts.none hD hdf;obtain rfl : kV = .none := Dflts.noKw hD;obtain ⟨a, vs, ns, rfl, rfl, hobj, hints, Qe⟩ := zhH hn hpre hwl;refine enter_call (codeAny_mono (call w s₀ s₁ mg mb fa o pm cd doc a vs ns G Y ho (fd_plain hd) hcd hmg hobj hints Qe hg) fun r s' hq => ?_);obtain ⟨rfl, h2, h3, h4⟩ := hq;exact ⟨.inl ⟨.bool true, .bool true, [], rfl, fun _ => rfl, .bool true, zhI l _, fun _ => ⟨List.Pairwise.nil, fun _ hm => (nomatch hm)⟩⟩, h2, h3, h4⟩
section
variable {prog : Program} {w : World} {A : Around} {E : Value -> Shared -> Prop} {s : Shared} {K : Frag}
end
end Att
namespace L2
open PySem PySem.Spec PyProof.Rows
theorem zfd : ∀ {vs : List Value} {ns : List Int}, IntsAre vs ns -> Vals (ns.map V.int) vs
 | _, _, .nil => .nil
 | _, _, .cons n t h => .cons ⟨t, rfl⟩ (zfd h)
def Only (H : Hp) : Prop := ∀ b, H b = none \/ ∃ o xs, H b = some (.frz o (.lst xs))
theorem ziV {P : Program} {w : World} {K : W.Frag} {mg mb : Str -> Option Value} {CX : CXT} {k : Nat} {fa a : Addr} {fd : FuncData} {x : Str} {sp : Sp} {s₁ : Shared} {vs : List Value} {ns : List Int}
  (KX : K.In s₁.heap) (hns : s₁.heap.Ns mainGlobals mg) (hb : s₁.heap.Ns builtinsNs mb) (hbb : ∀ x : Str, x ≠ "__name__" -> mb x = bootBuiltins x) (hlim : s₁.heap.NoLimit) (hg : s₁.gens = #[])
  (ha : s₁.heap.get? a = some { cls := .type "list", data := .seq vs.toArray }) (hi : IntsAre vs ns) (hl : ns.length <= sizeLine) (hr : Room k callerA)
  (F : ∀ base : Heap, K.In base -> base.Ns mainGlobals mg -> FnOk P w K mg base CX k fa fd [x] sp) (hbind : ∀ (s : Shared) (u : Value), BindsTo s fd ⟨[u], []⟩ [(x, u)])
  (hsp : ∀ H : Hp, Only H -> SqL K H a (ns.map V.int) -> sp [.ref a] H (fun v _ => v = .bl true) fun _ _ _ => False)
  (hCX : ∀ H e s', CX [] H s₁ (fun _ _ _ => False) e s' -> False) :
  codeAny (model P w) callerA (.call (.ref fa) ⟨[.ref a], []⟩) (fun r s' => r = .ok (.ret (.bool true)) /\ OldK s₁.heap s'.heap /\ s'.os = s₁.os /\ AllBare s'.gens) s₁ := by
 have rv := zfd hi;have lenV := hi.length;have core : ∀ H : Hp, Only H -> SqL K H a (ns.map V.int) -> HOk P w H s₁.heap -> (∀ b, H b ≠ none -> b = a) -> (H a ≠ none -> K.lookup a = none) ->
   codeAny (model P w) callerA (.call (.ref fa) ⟨[.ref a], []⟩) (fun r s' => r = .ok (.ret (.bool true)) /\ OldK s₁.heap s'.heap /\ s'.os = s₁.os /\ AllBare s'.gens) s₁ := by
  intro H hO hS hok hA hK;have base_of : ∀ {b : Addr} {o : Obj}, s₁.heap.get? b = some o -> H b = none -> (hidT s₁.heap H).get? b = some o := fun e n => ziK e n;have noA : ∀ {b : Addr} {o : Obj} {es : Array DictEntry} {ep : Nat}, s₁.heap.get? b = some o -> o.data = .dict es ep -> H b = none := fun {b o es ep} e d => by
   cases q : H b with
   | none => rfl
   | some u =>
    have e' : b = a := hA b (by rw [q]; simp);subst e';rw [ha] at e; cases e;have d' : Data.seq vs.toArray _ = Data.dict es ep := d;cases d'
  have nsK : ∀ {b : Addr} {m : Str -> Option Value}, s₁.heap.Ns b m -> (hidT s₁.heap H).Ns b m := fun {b m} ⟨o, es, ep, e, d, r⟩ => ⟨o, es, ep, base_of e (noA e d), d, r⟩
  have hKb : K.In (hidT s₁.heap H) := fun b o e => base_of (KX b o e) (by
   cases q : H b with
   | none => rfl
   | some u =>
    have e' : b = a := hA b (by rw [q]; simp);subst e';rw [hK (by rw [q]; simp)] at e; cases e)
  have hM : Mod K mg (hidT s₁.heap H) := ⟨hKb, nsK hns, ⟨mb, nsK hb, hbb⟩, let ⟨mc, h1, h2⟩ := hlim; ⟨mc, nsK h1, h2⟩⟩
  have e0 : Env0 P w K mg (hidT s₁.heap H) callerA [] s₁ H := ⟨rfl, hM, fun b o e => zkx e, Nat.le_of_eq (zhn _ _), trivial, fun b hb => absurd (show b ∈ ([] : List Addr) from hb) (by simp), hok, .of_eq hg⟩
  refine codeAny_mono ((F _ hKb (nsK hns)).run callerA [] s₁ H ⟨[.ref a], []⟩ [.ref a] [.ref a] _ _ hr e0 (hbind s₁ (.ref a)) (.cons rfl .nil) (hsp H hO hS)) fun r s' h => ?_;cases r with
  | error e => exact (hCX H e s' h).elim
  | ok fl =>
   cases fl with
   | next => exact False.elim h
   | brk => exact False.elim h
   | cont => exact False.elim h
   | ret u =>
    obtain ⟨v, H', os, bare, un, hok', r', q⟩ := h;have q' : v = .bl true := q;subst q';obtain rfl : u = Value.bool true := r';refine ⟨rfl, OldK.of_keep fun b o e => ?_, os, bare⟩;cases q : H b with
    | none => exact un.keep b o e q (by intro z; exact absurd (show b ∈ ([] : List Addr) from z) (by simp)) (by simp)
    | some u =>
     rcases hO b with z | ⟨ob, xs, z⟩
     ·rw [q] at z; cases z
     ·have z2 := un.frzs b ob _ z;obtain ⟨e1, _⟩ := hok b _ z;obtain ⟨e2, _⟩ := hok' b _ z2;rw [e] at e1; cases e1;exact e2
 cases hk : K.lookup a with
 | some o =>
  have e := KX a o hk;rw [ha] at e;cases e;refine core (fun _ => none) (fun _ => .inl rfl) (.inr ⟨_, vs.toArray, _, hk, rfl, rfl, rfl, by rw [yad, lenV]; exact hl, by simpa using rv⟩) (fun b u z => by have z' : (none : Option HO) = some u := z; cases z') (fun b z => absurd rfl z) fun z => absurd rfl z
 | none =>
  refine core (fun b => if b = a then some (.frz { cls := .type "list", data := .seq vs.toArray } (.lst (ns.map V.int))) else none) (fun b => ?_) (.inl (.inr ⟨{ cls := .type "list", data := .seq vs.toArray }, if_pos rfl⟩)) (fun b u z => ?_) (fun b z => ?_) fun _ => hk
  ·by_cases hb : b = a
   ·exact .inr ⟨_, _, if_pos hb⟩
   ·exact .inl (if_neg hb)
  ·by_cases hb : b = a
   ·have z' := (if_pos hb).symm.trans z;cases z';subst hb;exact ⟨ha, by rw [yaf]; exact hl, vs, _, rv, ha⟩
   ·have z' := (if_neg hb).symm.trans z;cases z'
  ·by_cases hb : b = a
   ·exact hb
   ·exact absurd (if_neg hb) z
theorem walk_of {l : W.OpenLaw} {n k : Nat} {q : Program} {loose : List Str} {XP : (Str -> Option Value) -> Heap -> Prop} {YP : World -> Heap -> Prop} {d : DefRec} {K : Params -> W.Frag} {CX : World -> CXT} {sp : World -> Sp} {x : Str}
  (hn : l.most = some n) (hn2 : n <= sizeLine) (hdf : d.params.defaults = []) (hr : Room k callerA)
  (hY : ∀ (w : World) (h : Heap), YP w h -> (K w.params).In h)
  (F : ∀ (w : World) (mg : Str -> Option Value) (fa : Addr) (h : Heap), (K w.params).In h -> h.Ns mainGlobals mg -> mg d.name = some (.ref fa) ->
   ∃ fd : FuncData, (∀ (s : Shared) (u : Value), BindsTo s fd ⟨[u], []⟩ [(x, u)]) /\
    ∀ base : Heap, (K w.params).In base -> base.Ns mainGlobals mg -> FnOk l.prog w (K w.params) mg base (CX w) k fa fd [x] (sp w))
  (hsp : ∀ (w : World) (H : Hp) (a : Addr) (ns : List Int), ns.length <= n -> Only H -> SqL (K w.params) H a (ns.map V.int) -> sp w [.ref a] H (fun v _ => v = .bl true) fun _ _ _ => False)
  (hCX : ∀ (w : World) (H : Hp) (s : Shared) (e : Value) (s' : Shared), CX w [] H s (fun _ _ _ => False) e s' -> False) :
  W.WalkO q loose XP YP l.row.toRowW d [] (fun f vs => PySem.call f vs) := by
 refine Att.attach_call hn hdf fun w s₀ s₁ mg mb fa o pm cd doc a vs ns G Y ho hd hcd hmg hobj hints Qe hg => ?_;have KX := hY w _ Y;obtain ⟨fd, hb, hF⟩ := F w mg fa _ KX G.T.g hmg;exact ziV KX G.T.g G.T.b G.T.builtins G.T.nolimit hg hobj hints (yat Qe hn2) hr hF hb (fun H hO hS => hsp w H a ns Qe hO hS) fun H e s' => hCX w H s₁ e s'
def zfC (s : Stmt) (j : Nat) : Stmt := match s with
 | .ClassDef _ _ _ body _ _ _ _ _ _ _ => body.getD j (.Pass ⟨0, 0, 0, 0⟩)
 | _ => .Pass ⟨0, 0, 0, 0⟩
def zak (s : Stmt) : Arguments := match s with
 | .FunctionDef _ a _ _ _ _ _ _ _ _ => a
 | _ => { posonlyargs := [], args := [], vararg := none, kwonlyargs := [], kw_defaults := [], kwarg := none, defaults := [] }
def zaj (s : Stmt) : List Stmt := match s with
 | .FunctionDef _ _ b _ _ _ _ _ _ _ => b
 | _ => []
def zah (s : Stmt) : Scope := match s with
 | .FunctionDef _ _ _ _ _ _ sc _ _ _ => sc
 | _ => { kind := .function, names := [], isGenerator := false, isCoroutine := false }
abbrev CX0 : CXT := fun _ _ _ _ _ _ => False
abbrev E0 : XK := fun _ _ _ => False
theorem za0 {X : Cx} : zdk CX0 X E0 := fun _ _ _ _ _ _ _ h => h.elim
structure Fun (K : W.Frag) (x qual : Str) (st : Stmt) (f : Addr) (fd : FuncData) : Prop where
 ex : ∃ (oc : Value) (od : Option Addr) (kV doc pm : Value) (an : Option Addr) (cdv ct : Value) (osl : Array (Option Value)),
  fd = W.fnOf x qual (zak st) (zaj st) (zah st) .none kV doc pm an cdv ct /\ K.lookup f = some ⟨oc, od, .func fd, osl⟩ /\ W.codeIn K cdv qual = true
 kp : W.keepIn K (.ref f) = true
section
variable {P : Program} {w : World} {K : W.Frag} {mg : Str -> Option Value} {base : Heap}
theorem Fun.ok {x qual : Str} {st : Stmt} {f : Addr} {fd : FuncData} {N ps : List Str} {k : Nat} {sp : Sp} (F : Fun K x qual st f fd) (S : zaz N ps (zah st)) (len : ∀ vs H Q E, sp vs H Q E -> vs.length = ps.length)
  (hbody : ∀ (cdv : Value) (A : Around) (outer : List Env) (s : Shared) (H : Hp) (vs : List V) (Q : VK) (E : XK), Room k (A.deeper (envOfC qual (zah st) s.heap.objs.size f cdv)) -> sp vs H Q E ->
   ∃ t, PSs (cxOf CX0 P w K mg base N qual (zah st) f cdv A outer s H E).nox (zaj st) t /\ t { nx := fun _ H' => Q .non H', rt := Q } (start N vs) H) : FnOk P w K mg base CX0 (k + 1) f fd ps sp := by
 obtain ⟨oc, od, kV, doc, pm, an, cdv, ct, osl, rfl, lk, hcd⟩ := F.ex;refine zn6 lk hcd S len fun A outer s H vs Q E hr hsp => ?_;obtain ⟨t, h, q⟩ := hbody cdv A outer s H vs Q E hr hsp;exact ⟨t, h.nox, q⟩
theorem Fun.binds {x qual : Str} {st : Stmt} {f : Addr} {fd : FuncData} {ps : List Str} (F : Fun K x qual st f fd)
  (h : ∀ (kV doc pm : Value) (an : Option Addr) (cdv ct : Value) (us : List Value), us.length = ps.length -> bindArgs (W.fnOf x qual (zak st) (zaj st) (zah st) .none kV doc pm an cdv ct) ⟨us, []⟩ = pure (ps.zip us)) : Binds K fd ps [] := by
 obtain ⟨oc, od, kV, doc, pm, an, cdv, ct, osl, rfl, lk, hcd⟩ := F.ex;exact .all (h kV doc pm an cdv ct)
theorem za5 {x qual : Str} {st : Stmt} {f : Addr} {oc : Value} {od an : Option Addr} {osl : Array (Option Value)} {kV doc pm cdv ct : Value} (l : K.lookup f = some ⟨oc, od, .func (W.fnOf x qual (zak st) (zaj st) (zah st) .none kV doc pm an cdv ct), osl⟩)
  (c : W.codeIn K cdv qual = true) (k : W.keepIn K (.ref f) = true) : Fun K x qual st f (W.fnOf x qual (zak st) (zaj st) (zah st) .none kV doc pm an cdv ct) := ⟨⟨oc, od, kV, doc, pm, an, cdv, ct, osl, rfl, l, c⟩, k⟩
end
section
variable {X : Cx}
theorem pv (i : Nat) {x : Str} {pos : Pos} (hN : X.N[i]? = some x := by rfl) (hv : Vis X.env.scope x := by first | exact Or.inl rfl | exact Or.inr (Or.inl rfl) | exact Or.inr (Or.inr rfl)) (hd : (x == ("__debug__" : Str)) = false := by decide)
  (hcd : (x == ("__classdict__" : Str)) = false := by decide) : PE X (.Name x pos) (tVar i) := zlB hN hv hd hcd
end
theorem iteF {A B : Prop} (h : B) : if false = true then A else B := by
 rw [if_neg yam];exact h
theorem iteT {A B : Prop} (h : A) : if true = true then A else B := by
 rw [if_pos rfl];exact h
theorem ite2 {c A B : Prop} [Decidable c] (h1 : c -> A) (h2 : ¬ c -> B) : if c then A else B := by
 by_cases h : c
 ·rw [if_pos h];exact h1 h
 ·rw [if_neg h];exact h2 h
def Same (H H' : Hp) : Prop := ∀ b o, H b = some o -> H' b = some o
theorem Same.refl (H : Hp) : Same H H := fun _ _ h => h
theorem Same.trans {H H1 H2 : Hp} (a : Same H H1) (b : Same H1 H2) : Same H H2 := fun c o h => b c o (a c o h)
theorem Same.seq {K : W.Frag} {H H' : Hp} {a : Addr} {xs : List V} (e : Same H H') (h : SqL K H a xs) : SqL K H' a xs := by
 rcases h with (h | ⟨o, h⟩) | h
 ·exact .inl (.inl (e _ _ h))
 ·exact .inl (.inr ⟨o, e _ _ h⟩)
 ·exact .inr h
theorem zhJ {v : Value} {o : Option Int} (p : IsPart v o) : ∃ q : Option (Int × Tok), v = partValue q /\ q.map (·.1) = o := by
 cases p with
 | none => exact ⟨none, rfl, rfl⟩
 | int i t => exact ⟨some (i, t), rfl, rfl⟩
def rSlS : V -> Option Int -> Option Int -> Hp -> VK -> Prop := fun x lo hi H Q => ∃ z, x = .str z /\ z.length <= sizeLine /\ Q (.str (Txt.slice z lo hi)) H
theorem zke {X : Cx} : SlR X rSlS := by
 intro Qa s σ H x v vl vu lo hi sl Q I rx hs pl pu h;obtain ⟨z, rfl, hz, q⟩ := h;obtain ⟨t, rfl⟩ := rx;obtain ⟨ql, rfl, rfl⟩ := zhJ pl;obtain ⟨qu, rfl, rfl⟩ := zhJ pu;refine ⟨"str", _, F.slot_str_getitem.lookup, typeIs_str _ _ _, ?_⟩;refine wpAny_getItem_str_slice (l := ql) (u := qu) (st := none) hs rfl ?_;exact post_val_or_str ⟨yat (Txt.slice_le z _ _) hz, fun t' k => ⟨.str _, H, I.tok _, ⟨t', rfl⟩, q⟩⟩
def Its (x : Str) : It := ⟨fun i _ => i < x.cps.size, fun i H v H' => H' = H /\ ∃ c, x.cps[i]? = some c /\ v = .str ⟨#[c]⟩, fun i _ => x.cps.size <= i⟩
theorem zgm {P : Program} {w : World} {K : W.Frag} {tg : Expr} (x : Str) (t : Tok) (it : Addr) (ty : String) (hty : ty = "str_ascii_iterator" \/ ty = "str_iterator") :
  Turn P w K tg (Its x) [it] it (fun i h => h.IsStrIter it ty x t i) where
 mem := by simp
 obj := fun i h st b hb => by
  have e : b = it := by simpa using hb
  subst e;obtain ⟨o, e, c, d⟩ := st;exact ⟨o, e, fun v z => by rw [d] at z; cases z⟩
 keep := fun i h h' st k => by
  obtain ⟨o, e, r⟩ := st;exact ⟨o, k it (by simp) o e, r⟩
 item := by
  intro X hP hw hK hc i Qa s σ H E I hf st hg;subst hP hw hK;obtain ⟨f0, f1, f2, f3, f4, f5⟩ := hf it (by simp);have hg' : i < x.cps.size := hg;have hx : x.cps[i]? = some x.cps[i] := by simp [hg']
  rcases hty with rfl | rfl
  ·refine wpAny_pyNext_ascii_item st hx fun h' st' sb => ?_;have I1 : Inv X Qa σ H { s with heap := h', toks := s.toks + 1 } := I.turned (fun b o hb e => (sb.2 b hb).trans e) f0 f1 f3 f4 f5;obtain ⟨o, e, c, d⟩ := id st';exact ⟨_, rfl, zhr (s := { s with heap := h', toks := s.toks + 1 }) e c d (by decide) ⟨.str ⟨#[x.cps[i]]⟩, H, I1, ⟨_, rfl⟩, ⟨rfl, _, hx, rfl⟩, st', fun b hb => (hf b hb).1⟩⟩
  ·refine wpAny_pyNext_wide_item st hx fun h' st' sb => ?_;have I1 : Inv X Qa σ H { s with heap := h', toks := s.toks + 1 } := I.turned (fun b o hb e => (sb.2 b hb).trans e) f0 f1 f3 f4 f5;obtain ⟨o, e, c, d⟩ := id st';exact ⟨_, rfl, zhr (s := { s with heap := h', toks := s.toks + 1 }) e c d (by decide) ⟨.str ⟨#[x.cps[i]]⟩, H, I1, ⟨_, rfl⟩, ⟨rfl, _, hx, rfl⟩, st', fun b hb => (hf b hb).1⟩⟩
 done := by
  intro X hP hw hK hc i Qa s σ H E I hf st hg;subst hP hw hK;obtain ⟨f0, f1, f2, f3, f4, f5⟩ := hf it (by simp);have hx : x.cps[i]? = none := by
   have : x.cps.size <= i := hg;simp [this]
  rcases hty with rfl | rfl
  ·exact wpAny_pyNext_ascii_end (I.ok.hd hc) st hx fun h' eb => ⟨rfl, I.turned (t' := s.toks) (fun b o hb e => eb b o hb e) f0 f1 f3 f4 f5⟩
  ·exact wpAny_pyNext_wide_end (I.ok.hd hc) st hx fun h' eb => ⟨rfl, I.turned (t' := s.toks) (fun b o hb e => eb b o hb e) f0 f1 f3 f4 f5⟩
 self := fun _ _ _ _ _ st h => by
  rcases hty with rfl | rfl
  ·exact wpAny_pyIter_striter_ascii st h
  ·exact wpAny_pyIter_striter_wide st h
theorem zhK {X : Cx} {tg : Expr} {Qa : List (Addr × Obj)} {σ : St} {H1 : Hp} {s1 : Shared} {R : It -> Hp -> Prop} {z : Str} {v : Value} {E : Value -> Shared -> Prop} (I1 : Inv X Qa σ H1 s1) (r1 : RelV (.str z) v) (q : R (Its z) H1) :
  wpAny (model X.prog X.w) X.A (pyIter v) (PIE X Qa σ tg R) E s1 := by
 obtain ⟨t, rfl⟩ := r1;have fp : ∀ (b : Addr), b ∈ [s1.heap.objs.size] -> FpOk X Qa H1 b := fun b hb => by
  have e : b = s1.heap.objs.size := by simpa using hb
  subst e;exact I1.fpOk (yai _) (I1.hok.fresh (yai _))
 cases ha : z.cps.all (· < 128)
 ·refine wpAny_pyIter_wide ha ?_;exact ⟨s1.heap.objs.size, [s1.heap.objs.size], _, _, H1, rfl, I1.kept (t' := s1.toks) fun b o e => yac _ e, zgm z t _ "str_iterator" (.inr rfl), ⟨_, yaj _ rfl, rfl, rfl⟩, fp, q⟩
 ·refine wpAny_pyIter_ascii ha ?_;exact ⟨s1.heap.objs.size, [s1.heap.objs.size], _, _, H1, rfl, I1.kept (t' := s1.toks) fun b o e => yac _ e, zgm z t _ "str_ascii_iterator" (.inl rfl), ⟨_, yaj _ rfl, rfl, rfl⟩, fp, q⟩
def clos (cells : List (Str × Addr)) : List (Str × NameKind) -> List (Str × Addr) -> List (Str × Addr)
 | [], acc => acc
 | (n, k) :: r, acc => if k == .free then clos cells r ((n, (cells.lookup n).getD 0) :: acc) else clos cells r acc
theorem zdA {scope : Scope} {env : Env} (h : ∀ y ∈ scope.names, y.2 = .free -> ∃ c, env.cells.lookup y.1 = some c) : closureFor scope env = pure (clos env.cells scope.names []) := by
 have go : ∀ (names : List (Str × NameKind)) (acc : List (Str × Addr)), (∀ y ∈ names, y.2 = .free -> ∃ c, env.cells.lookup y.1 = some c) ->
   (forIn names acc fun (x : Str × NameKind) (r : List (Str × Addr)) => (if x.2 == NameKind.free then do let a <- cellOf env x.1; pure (ForInStep.yield ((x.1, a) :: r)) else pure (ForInStep.yield r) : Sem (ForInStep (List (Str × Addr))))) = pure (clos env.cells names acc) := by
  intro names
  induction names with
  | nil => intro acc _; rfl
  | cons x r ih =>
   intro acc hx;obtain ⟨n, k⟩ := x;rw [List.forIn_cons];have hr : ∀ y ∈ r, y.2 = .free -> ∃ c, env.cells.lookup y.1 = some c := fun y hy => hx y (List.mem_cons_of_mem _ hy)
   by_cases hk : k = .free
   ·subst hk;obtain ⟨c, hc⟩ := hx (n, .free) List.mem_cons_self rfl;have hc' : env.cells.lookup n = some c := hc;have e : cellOf env n = pure c := by unfold cellOf; rw [hc']
    simp only [beq_self_eq_true, if_true, e, pure_bind];rw [ih _ hr];simp only [clos, beq_self_eq_true, if_true, hc', Option.getD_some]
   ·have hb : (k == NameKind.free) = false := by simpa using hk
    simp only [hb, Bool.false_eq_true, if_false, pure_bind];rw [ih _ hr];simp only [clos, hb, Bool.false_eq_true, if_false]
 have := go scope.names [] h;unfold closureFor
 first
  | (rw [this]; rfl)
  | (simp only [this, pure_bind]; rfl)
  | simpa using this
theorem zcf {cells : List (Str × Addr)} : ∀ (names : List (Str × NameKind)) (acc : List (Str × Addr)) (y : Str) (c : Addr),
  (∀ z ∈ names, z.2 = .free -> ∃ c, cells.lookup z.1 = some c) -> (∀ d, acc.lookup y = some d -> cells.lookup y = some d) -> (clos cells names acc).lookup y = some c -> cells.lookup y = some c
 | [], acc, y, c, _, ha, h => ha c h
 | (n, k) :: r, acc, y, c, hx, ha, h => by
  have hr : ∀ z ∈ r, z.2 = .free -> ∃ c, cells.lookup z.1 = some c := fun z hz => hx z (List.mem_cons_of_mem _ hz)
  by_cases hk : k = .free
  ·subst hk;simp only [clos, beq_self_eq_true, if_true] at h;refine zcf r _ y c hr (fun d hd => ?_) h
   by_cases hy : y = n
   ·subst hy;obtain ⟨e, he⟩ := hx (y, .free) List.mem_cons_self rfl;have he' : cells.lookup y = some e := he;simp only [List.lookup_cons, beq_self_eq_true, he', Option.getD_some] at hd;rw [he', hd]
   ·have hb : (y == n) = false := by simpa using hy
    simp only [List.lookup_cons, hb] at hd;exact ha d hd
  ·have hb : (k == NameKind.free) = false := by simpa using hk
   simp only [clos, hb, Bool.false_eq_true, if_false] at h;exact zcf r acc y c hr ha h
theorem zdB {cells : List (Str × Addr)} : ∀ (names : List (Str × NameKind)) (acc : List (Str × Addr)) (y : Str), (∃ c, acc.lookup y = some c) -> ∃ c, (clos cells names acc).lookup y = some c
 | [], _, _, h => h
 | (n, k) :: r, acc, y, h => by
  by_cases hk : k = .free
  ·subst hk;simp only [clos, beq_self_eq_true, if_true];refine zdB r _ y ?_
   by_cases hy : y = n
   ·subst hy; exact ⟨(cells.lookup y).getD 0, by simp only [List.lookup_cons, beq_self_eq_true]⟩
   ·have hb : (y == n) = false := by simpa using hy
    simp only [List.lookup_cons, hb]; exact h
  ·have hb : (k == NameKind.free) = false := by simpa using hk
   simp only [clos, hb, Bool.false_eq_true, if_false];exact zdB r acc y h
theorem zex {cells : List (Str × Addr)} : ∀ (names : List (Str × NameKind)) (acc : List (Str × Addr)) (y : Str), (y, NameKind.free) ∈ names -> ∃ c, (clos cells names acc).lookup y = some c
 | [], _, _, h => by simp at h
 | (n, k) :: r, acc, y, h => by
  rcases yau.mp h with e | h
  ·injection e with e1 e2
   subst e1 e2;simp only [clos, beq_self_eq_true, if_true];exact zdB r _ y ⟨(cells.lookup y).getD 0, by simp only [List.lookup_cons, beq_self_eq_true]⟩
  ·by_cases hk : k = .free
   ·rw [hk];simp only [clos, beq_self_eq_true, if_true];exact zex r _ y h
   ·have hb : (k == NameKind.free) = false := by simpa using hk
    simp only [clos, hb, Bool.false_eq_true, if_false];exact zex r _ y h
theorem relabel_kind {env : Env} : ∀ {names : List (Str × NameKind)} {x : Str} {k : NameKind}, (names.map fun (n, k) => if (k == NameKind.free && env.scope.kind == .function && env.kindOf n == some .cell) then (n, NameKind.cell) else (n, k)).lookup x = some k ->
  names.lookup x = some k \/ (k = .cell /\ names.lookup x = some .free)
 | [], _, _, h => by simp at h
 | (n, j) :: r, x, k, h => by
  have ih := @relabel_kind env r x k;have h' : List.lookup x ((if (j == NameKind.free && env.scope.kind == .function && env.kindOf n == some .cell) = true then (n, NameKind.cell) else (n, j)) ::
   (r.map fun (n, k) => if (k == NameKind.free && env.scope.kind == .function && env.kindOf n == some .cell) then (n, NameKind.cell) else (n, k))) = some k := h
  cases hx : x == n with
  | true =>
   by_cases hc : (j == NameKind.free && env.scope.kind == .function && env.kindOf n == some .cell) = true
   ·rw [if_pos hc] at h';simp only [List.lookup_cons, hx] at h' ⊢;have hj : j = .free := by
     have : (j == NameKind.free) = true := by
      cases q : (j == NameKind.free) with
      | true => rfl
      | false => rw [q] at hc; simp at hc
     simpa using this
    subst hj;exact .inr ⟨(Option.some.inj h').symm, rfl⟩
   ·rw [if_neg hc] at h';simp only [List.lookup_cons, hx] at h' ⊢;exact .inl h'
  | false =>
   have h2 : List.lookup x (r.map fun (n, k) => if (k == NameKind.free && env.scope.kind == .function && env.kindOf n == some .cell) then (n, NameKind.cell) else (n, k)) = some k := by
    by_cases hc : (j == NameKind.free && env.scope.kind == .function && env.kindOf n == some .cell) = true
    ·rw [if_pos hc] at h'; simpa only [List.lookup_cons, hx] using h'
    ·rw [if_neg hc] at h'; simpa only [List.lookup_cons, hx] using h'
   rcases ih h2 with q | ⟨q1, q2⟩
   ·exact .inl (by simpa only [List.lookup_cons, hx] using q)
   ·exact .inr ⟨q1, by simpa only [List.lookup_cons, hx] using q2⟩
abbrev cxC (X : Cx) (NC : List Str) (scope : Scope) (C : Addr) (s : Shared) (H : Hp) (ex : List Addr) : Cx :=
 { X with N := NC, s₀ := s, H₀ := H, env := compEnvC scope (clos X.env.cells scope.names []) C X.env, outer := X.stack, stack := X.stack, ex := ex, fn := fun _ => false, pn := [], xe := fun _ _ => False }
def zaI (nt : Nat) (is : List Nat) (σ : St) : St := List.replicate nt none ++ is.map fun i => (σ[i]?).join
theorem zem (nt : Nat) (is : List Nat) (σ : St) : (zaI nt is σ).length = nt + is.length := by simp [zaI]
def PIf (X : Cx) (ifs : List Expr) (t : TT) : Prop :=
 ∀ (Qa : List (Addr × Obj)) (s : Shared) (σ : St) (H : Hp) (Q : Bool -> Hp -> Prop), Inv X Qa σ H s -> t σ H Q ->
  wpAny (model X.prog X.w) X.A (forIn ifs true fun c r => if r = true then do let ok <- isTrue c X.env (eval c X.env); pure (ForInStep.yield ok) else pure (ForInStep.yield r)) (TP X Qa σ Q) X.xe s
def zma : TT := fun _ H Q => Q true H
theorem zbZ {X : Cx} : PIf X [] zma := fun _ _ _ H _ I h => wpAny_tests_nil ⟨H, I, h⟩
theorem zdC {X : Cx} {c : Expr} {t : TT} (h : PT X c t) : PIf X [c] t := fun Qa s σ H Q I hw => wpAny_tests_one (h Qa s σ H Q I hw)
section
variable {prog : Program} {w : World} {A : Around} {R : Result -> Shared -> Prop} {s : Shared}
theorem zfe {elt target iter : Expr} {ifs : List Expr} {scope : Scope} {pos : Pos} {it acc : Value} {env : Env} (I : Nat -> Shared -> Prop)
  (turn : ∀ n s, I n s -> wpAny (model prog w) A (pyNext it) (fun r s₁ => match r with
   | none => R (.ok .next) s₁
   | some v => wpAny (model prog w) A (letOwnedTupleGo target it v) (fun _ s₁' => wpAny (model prog w) A (assign target env v) (fun _ s₂ =>
     wpAny (model prog w) A (forIn ifs true fun c r => if r = true then do let ok <- isTrue c env (eval c env); pure (ForInStep.yield ok) else pure (ForInStep.yield r)) (fun ok s₃ =>
      if ok = true then wpAny (model prog w) A (eval elt env) (fun x s₄ =>
       wpAny (model prog w) A (call (.builtin "list.append") [acc, x]) (fun _ s₅ => ∃ m, m < n /\ I m s₅) (fun _ _ => False) s₄) (fun _ _ => False) s₃
      else ∃ m, m < n /\ I m s₃) (fun _ _ => False) s₂) (fun _ _ => False) s₁') (fun _ _ => False) s₁) (fun _ _ => False) s)
  (n : Nat) (h : I n s) :
  codeAny (model prog w) A (.compLoop (.ListComp elt [⟨target, iter, ifs, 0⟩] scope pos) 0 it acc env) R s := by
 refine codeAny_loop rfl I (fun n s hI => ?_) n h;show wpAny _ A ((compTurn (.ListComp elt [⟨target, iter, ifs, 0⟩] scope pos) 0 it acc env).onRaise (fun x => do noteFrame x env; theTreesLotGoes x)) _ _ s;refine wpAny_noted ?_;rw [compTurn_list];refine yaa (wpAny_standAt (yaa (wpAny_mono (turn n s hI) (fun r s₁ h₁ => ?_) fun _ _ h' => h'.elim)));cases r with
 | none => exact yab h₁
 | some v =>
  refine yaa (wpAny_mono h₁ (fun _ s₁' h₁' => ?_) fun _ _ h' => h'.elim);refine yaa (wpAny_mono h₁' (fun _ s₂ h₂ => yaa (wpAny_mono h₂ (fun ok s₃ h₃ => ?_) fun _ _ h' => h'.elim)) fun _ _ h' => h'.elim);cases ok with
  | false => exact yab ⟨rfl, h₃⟩
  | true =>
   exact yaa (yaa (wpAny_mono h₃ (fun x s₄ h₄ => yaa (wpAny_mono h₄ (fun _ s₅ h₅ => yab (yab ⟨rfl, h₅⟩)) fun _ _ h' => h'.elim)) fun _ _ h' => h'.elim))
end
def ziW (wi : TI) (nt : Nat) (is : List Nat) (g : TG) (tt : TT) (te : TE) : TE := fun σ H Q => wi σ H fun J H1 => ∃ W : Nat -> Nat -> List V -> Hp -> Prop, (∃ m, W 0 m [] H1) /\ ∀ i m acc H, W i m acc H ->
 (J.stop i H /\ ∀ p, H p = none -> Q (.ref p) (upd H p (.lst acc))) \/
 (J.go i H /\ acc.length < sizeLine /\ ∃ N : List V -> Hp -> Prop, (∀ acc' H', N acc' H' -> ∃ m', m' < m /\ W (i + 1) m' acc' H') /\ ∀ x H', J.yld i H x H' -> g x (zaI nt is σ) H' fun σ2 H2 => tt σ2 H2 fun b H3 =>
  if b = true then te σ2 H3 fun y H4 => N (acc ++ [y]) H4 else N acc H3)
structure CompSc (X : Cx) (NC : List Str) (nt : Nat) (is : List Nat) (csc : Scope) : Prop where
 kind : csc.kind = .function
 nocell : (csc.names.all fun y => y.2 != .cell) = true
 locs : (csc.names.all fun y => y.2 != .local || csc.names.lookup y.1 == some .local) = true
 frees : (csc.names.all fun y => y.2 != .free || (X.env.kindOf y.1 == some .cell || X.env.kindOf y.1 == some .free)) = true
 len : NC.length = nt + is.length
 slots : (NC.drop nt).map some = is.map fun i => X.N[i]?
 isfree : ((NC.drop nt).all fun y => csc.names.lookup y == some .free) = true
section
variable {X : Cx} {Qa : List (Addr × Obj)} {σ : St} {H : Hp} {s : Shared} {NC : List Str} {nt : Nat} {is : List Nat} {csc : Scope}
theorem CompSc.free_kind (S : CompSc X NC nt is csc) {y : Str} (h : (y, NameKind.free) ∈ csc.names) : X.env.kindOf y = some .cell \/ X.env.kindOf y = some .free := by
 have q := List.all_eq_true.mp S.frees _ h;simpa using q
theorem CompSc.no_cell (S : CompSc X NC nt is csc) {y : Str} (h : (y, NameKind.cell) ∈ csc.names) : False := by
 have q := List.all_eq_true.mp S.nocell _ h;simp at q
theorem CompSc.has_cells (S : CompSc X NC nt is csc) (I : Inv X Qa σ H s) : ∀ y ∈ csc.names, y.2 = .free -> ∃ c, X.env.cells.lookup y.1 = some c := fun y hy e => by
 obtain ⟨n, k⟩ := y;have e' : k = .free := e;subst e';exact I.ok.has n (S.free_kind hy)
theorem zmb {fp : List Addr} (ho : ∀ b ∈ fp, ∃ o, s.heap.get? b = some o) : ∀ b ∈ fp, b < s.heap.objs.size := fun b hb => let ⟨_, e⟩ := ho b hb; yan e
theorem zhL (S : CompSc X NC nt is csc) (I : Inv X Qa σ H s) {fp : List Addr} (hf : ∀ b ∈ fp, FpOk X Qa H b) (ho : ∀ b ∈ fp, ∃ o, s.heap.get? b = some o) {h' : Heap} {C : Addr} {m : Str -> Option Value} {t' : Nat}
  (hC : s.heap.objs.size <= C) (k : ∀ b o, s.heap.get? b = some o -> h'.get? b = some o) (hn : h'.Ns C m) : Inv (cxC X NC csc C s H fp) [] (zaI nt is σ) H { s with heap := h', toks := t' } := by
 have hcells := S.has_cells I;have hlook : ∀ y c, (clos X.env.cells csc.names []).lookup y = some c -> X.env.cells.lookup y = some c := fun y c h => zcf csc.names [] y c hcells (by intro d hd; simp at hd) h;have hlt := zmb ho;have hfree : ∀ y, csc.names.lookup y = some .free -> ∃ c, (clos X.env.cells csc.names []).lookup y = some c := fun y h => zex csc.names [] y (PySem.mem_of_lookup h);refine ⟨⟨I.ok.mod, S.kind, I.ok.glob, I.ok.blt, hC, fun x y c h1 h2 => I.ok.inj x y c (hlook x c h1) (hlook y c h2), fun x hx => ?_, fun x c h _ => (yam h).elim, I.ok.hd, I.ok.frames, .inl rfl,
  fun b hb => ⟨Nat.ne_of_lt (Nat.lt_of_lt_of_le (hlt b hb) hC), fun x c h => (hf b hb).2.2.2.2.1 x c (hlook x c h)⟩, I.bs, yat I.ok.bsz I.sz, fun b o e hb => ?_, fun b hb hs => ?_, I.stack, I.stkFree⟩,
  rfl, I.bare, Un.kept k, ⟨m, hn, fun i x v e1 e2 e3 => ?_⟩, fun x c h => ?_, I.hok.fresh hC, fun x c h => I.freeC x c (hlook x c h), fun p hp => absurd (show p ∈ ([] : List (Addr × Obj)) from hp) (by simp), I.hok.kept k, ?_⟩
 ·have hx' : (relabel csc X.env).names.lookup x = some .cell \/ (relabel csc X.env).names.lookup x = some .free := hx;rcases hx' with h | h
  ·rcases relabel_kind h with q | ⟨_, q⟩
   ·exact (S.no_cell (PySem.mem_of_lookup q)).elim
   ·exact hfree x q
  ·rcases relabel_kind h with q | ⟨q, _⟩
   ·exact hfree x q
   ·cases q
 ·rcases (hf b hb).2.2.2.1 with z | z
  ·exact I.ok.noex b o e z
  ·exact absurd (Nat.lt_of_lt_of_le (yan e) (yat I.ok.bsz z)) (Nat.lt_irrefl _)
 ·rcases yau.mp (I.stkSub b hs) with e | e
  ·exact (hf b hb).2.1 e
  ·exact (hf b hb).2.2.1 e
 ·have hi : nt <= i := by
   by_cases hi : nt <= i
   ·exact hi
   ·have : (zaI nt is σ)[i]? = some none := by
     unfold zaI;rw [ya5 (by simpa using hi), List.getElem?_replicate, if_pos (by omega)]
    rw [this] at e2; cases e2
  obtain ⟨j, rfl⟩ : ∃ j, i = nt + j := ⟨i - nt, by omega⟩
  have e2' : (is.map fun i => (σ[i]?).join)[j]? = some (some v) := by
   unfold zaI at e2;rw [List.getElem?_append_right (by simp)] at e2;simpa using e2
  rw [yav] at e2';cases ej : is[j]? with
  | none => rw [ej] at e2'; cases e2'
  | some i' =>
   rw [ej] at e2';have e3' : (σ[i']?).join = some v := Option.some.inj e2';have e4 : σ[i']? = some (some v) := by
    cases q : σ[i']? with
    | none => rw [q] at e3'; cases e3'
    | some o => rw [q] at e3'; exact congrArg some e3'
   have e5 : X.N[i']? = some x := by
    have q := congrArg (fun l => l[j]?) S.slots;simp only [List.getElem?_map, ej, Option.map_some] at q;have q2 : (NC.drop nt)[j]? = some x := by rw [List.getElem?_drop]; exact e1
    rw [q2] at q;simpa using q.symm
   have hxfree : csc.names.lookup x = some .free := by
    have q2 : (NC.drop nt)[j]? = some x := by rw [List.getElem?_drop]; exact e1
    have q := List.all_eq_true.mp S.isfree x (ya1 q2);simpa using q
   have hk := S.free_kind (PySem.mem_of_lookup hxfree);obtain ⟨m0, _, hl⟩ := I.loc;obtain ⟨u, r, l⟩ := hl i' x v e5 e4 (hk.elim (fun z => .inr (.inl z)) fun z => .inr (.inr z));refine ⟨u, r, ?_⟩;rcases l with ⟨z, _⟩ | ⟨_, c, hc, hcell⟩
   ·rw [z] at hk; rcases hk with q | q <;> cases q
   ·obtain ⟨c', hc'⟩ := hfree x hxfree;have e6 := hlook x c' hc';rw [hc] at e6; cases e6;refine .inr ⟨?_, c, hc', ?_⟩
    ·have e3'' : (relabel csc X.env).names.lookup x = some .local \/ (relabel csc X.env).names.lookup x = some .cell \/ (relabel csc X.env).names.lookup x = some .free := e3;rcases e3'' with z | z | z
     ·rcases relabel_kind z with q | ⟨q, _⟩
      ·rw [hxfree] at q; cases q
      ·cases q
     ·exact .inl z
     ·exact .inr z
    ·obtain ⟨o, ho, hd⟩ := hcell;exact ⟨o, k c o ho, hd⟩
 ·obtain ⟨v, o, ho, hd⟩ := I.cell x c (hlook x c h);exact ⟨v, o, k c o ho, hd⟩
 ·rw [zem]; exact S.len.symm
theorem zgP (I : Inv X Qa σ H s) {fp : List Addr} (hf : ∀ b ∈ fp, FpOk X Qa H b) {σ' : St} {H' : Hp} {s' : Shared} {C D : Addr} {pins' : List (Addr × Obj)} {acc : List V} {its : List Value} {n : Nat}
  (J : Inv (cxC X NC csc C s H fp) pins' σ' H' s') (hC : s.heap.objs.size <= C) (hD : s.heap.objs.size <= D) (hDo : s'.heap.get? D = some { cls := .type "list", data := .seq its.toArray n }) (hDn : H' D = none) (hv : Vals acc its)
  (hz : acc.length <= sizeLine) : Inv X Qa σ (upd H' D (.lst acc)) s' := by
 have hne : ∀ b o, s.heap.get? b = some o -> b ≠ D := fun b o e z => absurd (Nat.lt_of_lt_of_le (yan e) (z ▸ hD)) (Nat.lt_irrefl _);have hu : Un (frs X.stack) fp H H' s.heap s'.heap := J.base;refine I.call' (ch := fp) J.os ⟨hu.keep, hu.slot, fun b o e n hx => by rw [za7 (hne b o e)]; exact hu.free b o e n hx, hu.there, fun b xs e => ?_, fun b o u e => ?_, fun b ps e => ?_⟩ (fun b u q => ?_) J.bare fun b hb => ?_
 ·have q := hu.tups b xs e;rw [za7 (za8 q hDn)]; exact q
 ·have q := hu.frzs b o u e;rw [za7 (za8 q hDn)]; exact q
 ·obtain ⟨more, q⟩ := hu.tbls b ps e;exact ⟨more, by rw [za7 (za8 q hDn)]; exact q⟩
 ·by_cases hb : b = D
  ·subst hb;rw [zad] at q; cases q;exact ⟨hz, its, n, hv, hDo⟩
  ·rw [za7 hb] at q;exact (J.hok b u q).stay (fun _ _ _ e => e) (fun c r => by rw [za7 (za8 r hDn)]; exact r) fun c xs r => by rw [za7 (za8 r hDn)]; exact r
 ·obtain ⟨_, f1, f2, f3, f4, f5⟩ := hf b hb;exact ⟨f3, f1, f4, f5⟩
theorem zgn {elt tg iter : Expr} {ifs : List Expr} {pos : Pos} {wi : TI} {g : TG} {tt : TT} {te : TE} {Q : VK} {use : Option (Value -> Sem Unit)} {QQ : Value -> Shared -> Prop} {epos : Pos}
  (S : CompSc X NC nt is csc) (hc : X.calm = true) (hi : PI X tg iter wi)
  (hg : ∀ C s H ex, PG (cxC X NC csc C s H ex) tg g) (ht : ∀ C s H ex, PIf (cxC X NC csc C s H ex) ifs tt) (he : ∀ C s H ex, PE (cxC X NC csc C s H ex) elt te)
  (hgk : ∀ x (σ : St) H Q, g x σ H Q -> g x σ H fun σ2 H2 => σ2.drop nt = σ.drop nt /\ Q σ2 H2)
  (I : Inv X Qa σ H s) (h : ziW wi nt is g tt te σ H Q)
  (fin : ∀ (s' : Shared) (C D : Addr) (H' : Hp) (m : Str -> Option Value), Inv X Qa σ H' s' -> Q (.ref D) H' -> s'.heap.Ns C m -> H' C = none -> C ≠ X.env.locals -> X.s₀.heap.objs.size <= C -> (∀ x c, X.env.cells.lookup x = some c -> c ≠ C) -> (∀ p ∈ X.pn ++ Qa, p.1 ≠ C) ->
   compPost (model X.prog X.w) X.A X.xe use QQ (.ref D) C (.ok .next) s')
  (hs : ∀ x, foldedSetIterable iter X.env x = pure x) :
  wpAny (model X.prog X.w) X.A (comprehension (.ListComp elt [⟨tg, iter, ifs, 0⟩] csc pos) csc X.env epos (newList []) false (eval iter X.env) use) QQ X.xe s := by
 have hcells := S.has_cells I;have hnames : ∀ x ∈ csc.names, x.2 = .local -> csc.names.lookup x.1 = some .local := fun x hx hl => by
  have q := List.all_eq_true.mp S.locs x hx;simpa [hl] using q
 have hcell : ∀ y ∈ csc.names, y.2 ≠ .cell := fun y hy e => by
  obtain ⟨n, k⟩ := y;have e' : k = .cell := e;subst e';exact S.no_cell hy
 refine wpAny_comprehension_free (g := ⟨tg, iter, ifs, 0⟩) (gs := []) (cl := clos X.env.cells csc.names []) rfl hs (zdA hcells) S.kind hnames ?_;refine thn (hi Qa s σ H _ I h) fun v s1 h1 => thn h1 fun itv s2 h2 => ?_;obtain ⟨it, fp, tn, J, H2, rfl, I2, T, st2, f2, W, ⟨m0, w0⟩, turn⟩ := h2;have fo : ∀ b ∈ fp, ∃ o, s2.heap.get? b = some o := fun b hb => let ⟨o, e, _⟩ := T.obj 0 _ st2 b hb; ⟨o, e⟩;have flt := zmb fo;refine wpAny_newObj_type (wpAny_newFunctionEnv hcell (by intro y hy; simp at hy) (fun h₁ hns₁ hsb₁ => ?_) S.kind);dsimp only at hns₁ hsb₁ ⊢;generalize hH2 : s2.heap.push { cls := .type "list", dict := none, data := .seq ([] : List Value).toArray } = P2 at hns₁ hsb₁ ⊢;have hCs : P2.objs.size = s2.heap.objs.size + 1 := by rw [<- hH2, Heap.size_push]
 generalize hCC : P2.objs.size = C at hns₁ hsb₁ hCs ⊢;generalize hDD : s2.heap.objs.size = D at hCs ⊢;have hD : s2.heap.objs.size <= D := Nat.le_of_eq hDD;have hC : s2.heap.objs.size <= C := by omega
 have hDC : D ≠ C := by omega
 have old : ∀ b o, s2.heap.get? b = some o -> h₁.get? b = some o := fun b o e => hsb₁.extBut b o (Nat.ne_of_lt (Nat.lt_of_lt_of_le (yan e) hC)) (yac _ (hH2 ▸ yac _ e));have accO : h₁.get? D = some { cls := .type "list", data := .seq ([] : List Value).toArray 0 } := by
  refine hsb₁.extBut _ _ hDC (yac _ ?_);rw [<- hH2, <- hDD];exact yaj _ rfl
 have Istart : Inv (cxC X NC csc C s2 H2 fp) [] (zaI nt is σ) H2 { s2 with heap := h₁, toks := s2.toks + ([] : List (Str × Value)).length } := zhL S I2 f2 fo hC old hns₁;have HD0 : H2 D = none := I2.hok.fresh hD;have HC0 : H2 C = none := I2.hok.fresh hC;have fpY : ∀ {H' : Hp} {pl : List (Addr × Obj)}, (∀ b ∈ fp, H' b = none) -> (∀ p ∈ pl, p.1 ∉ fp) -> ∀ b ∈ fp, FpOk (cxC X NC csc C s2 H2 fp) pl H' b := fun {H' pl} hn hp b hb => by
  obtain ⟨_, g1, g2, g3, g4, g5⟩ := f2 b hb;refine ⟨hn b hb, Nat.ne_of_lt (Nat.lt_of_lt_of_le (flt b hb) hC), fun z => ?_, .inl hb, fun x c e => g4 x c (zcf csc.names [] x c hcells (by intro d hd; simp at hd) e), fun p hpp z => ?_⟩
  ·rcases yau.mp (I2.stkSub b z) with e | e
   ·exact g1 e
   ·exact g2 e
  ·exact hp p (by simpa using hpp) (z ▸ hb)
 have dne : D ∉ fp := fun hb => absurd (flt D hb) (Nat.not_lt.mpr hD);have cellD : ∀ {σ' : St} {H' : Hp} {s' : Shared} {pl : List (Addr × Obj)} {its : List Value} {n : Nat}, Inv (cxC X NC csc C s2 H2 fp) pl σ' H' s' -> s'.heap.get? D = some { cls := .type "list", data := .seq its.toArray n } ->
   ∀ x c, (cxC X NC csc C s2 H2 fp).env.cells.lookup x = some c -> c ≠ D := fun {σ' H' s' pl its n} K e x c hx z => by
  obtain ⟨v, o, ho, hd⟩ := K.cell x c hx;rw [z, e] at ho; cases ho; cases hd
 have loop : ∀ s₃ : Shared, s₃ = { s2 with heap := h₁, toks := s2.toks + ([] : List (Str × Value)).length } ->
   codeAny (model X.prog X.w) X.A (.compLoop (.ListComp elt [⟨tg, iter, ifs, 0⟩] csc pos) 0 (.ref it) (.ref D) (compEnvC csc (clos X.env.cells csc.names []) C X.env)) (compPost (model X.prog X.w) X.A X.xe use QQ (.ref D) C) s₃ := by
  rintro s₃ rfl
  refine zfe (fun n s' => ∃ i H' acc its k, Inv (cxC X NC csc C s2 H2 fp) [] (zaI nt is σ) H' s' /\ tn i s'.heap /\ (∀ b ∈ fp, H' b = none) /\ s'.heap.get? D = some { cls := .type "list", data := .seq its.toArray k } /\ H' D = none /\
   Vals acc its /\ acc.length <= sizeLine /\ W i n acc H') ?_ m0 ⟨0, H2, [], [], 0, Istart, T.keep _ _ _ st2 (fun b hb o e => old b o e), fun b hb => (f2 b hb).1, accO, HD0, .nil, yaq _, w0⟩
  rintro n s3 ⟨i, H3, acc, its, k, I3, st3, fr3, o3, n3, v3, z3, w3⟩
  have pinD : Inv (cxC X NC csc C s2 H2 fp) [(D, { cls := .type "list", data := .seq its.toArray k })] (zaI nt is σ) H3 s3 := I3.pins_of fun p hp => by
   have e : p = (D, { cls := .type "list", data := .seq its.toArray k }) := by simpa using hp
   subst e;refine ⟨o3, n3, hDC, fun z => ?_, fun v z => by cases z⟩;rcases yau.mp (I2.stkSub D z) with e | e
   ·exact absurd I2.lt (Nat.not_lt.mpr (by rw [<- e]; exact hD))
   ·exact I2.nofs hD e
  have fpD : ∀ p ∈ [((D, { cls := .type "list", data := .seq its.toArray k }) : Addr × Obj)], p.1 ∉ fp := fun p hp => by
   have e : p = (D, { cls := .type "list", data := .seq its.toArray k }) := by simpa using hp
   subst e; exact dne
  rcases turn i n acc H3 w3 with ⟨stop, qn⟩ | ⟨go, Qe, N, hN, step⟩
  ·refine thn (T.done (cxC X NC csc C s2 H2 fp) rfl rfl rfl hc i _ s3 _ H3 (fun _ _ => False) pinD (fpY fr3 fpD) st3 stop) fun r s4 ⟨hr, I4⟩ => ?_;subst hr;obtain ⟨e4, n4, _⟩ := I4.pin (D, { cls := .type "list", data := .seq its.toArray k }) (List.mem_append_right _ (yah.mpr rfl));have J := zgP (NC := NC) (csc := csc) I2 f2 I4 hC hD e4 n4 v3 z3;obtain ⟨m4, hm4, _⟩ := I4.loc;have nC : H3 C = none := I4.free;refine fin s4 C D _ m4 J (qn D n4) hm4 (by rw [za7 (Ne.symm hDC)]; exact nC) (fun z => absurd I2.lt (Nat.not_lt.mpr (by rw [<- z]; exact hC))) (yat I2.sz hC) (fun x c e z => ?_) fun p hp z => ?_
   ·obtain ⟨v, o, ho, _⟩ := I2.cell x c e;exact absurd (yan ho) (Nat.not_lt.mpr (by rw [z]; exact hC))
   ·exact absurd (yan (I2.pin p hp).1) (Nat.not_lt.mpr (by rw [z]; exact hC))
  ·refine thn (T.item (cxC X NC csc C s2 H2 fp) rfl rfl rfl hc i _ s3 _ H3 (fun _ _ => False) pinD (fpY fr3 fpD) st3 go) fun r s4 ⟨u, hr, h4⟩ => ?_;subst hr;refine thn h4 fun _ s5 ⟨x, H5, I5, r5, y5, st5, fr5⟩ => ?_;have I5' := I5.pinned (fpY fr5 fpD) (T.obj _ _ st5);refine thn (hg C s2 H2 fp _ s5 _ H5 x u _ I5' r5 (hgk _ _ _ _ (step x H5 y5))) fun _ s6 ⟨σ6, H6, I6, d6, q6⟩ => ?_;refine thn (ht C s2 H2 fp _ s6 σ6 H6 _ I6 q6) fun ok s7 ⟨H7, I7, q7⟩ => ?_;have tnk : ∀ {σ' : St} {H' : Hp} {s' : Shared}, Inv (cxC X NC csc C s2 H2 fp) ([(D, { cls := .type "list", data := .seq its.toArray k })] ++ zeS fp s5.heap) σ' H' s' ->
     tn (i + 1) s'.heap /\ (∀ b ∈ fp, H' b = none) /\ s'.heap.get? D = some { cls := .type "list", data := .seq its.toArray k } /\ H' D = none := fun {σ' H' s'} K => by
    refine ⟨T.keep _ _ _ st5 fun b hb o e => (K.pin (b, o) (List.mem_append_right _ (List.mem_append_right _ (zc5 hb e)))).1, fun b hb => ?_, ?_, ?_⟩
    ·obtain ⟨o, e, d⟩ := T.obj _ _ st5 b hb;exact (K.pin (b, o) (List.mem_append_right _ (List.mem_append_right _ (zc5 hb e)))).2.1
    ·exact (K.pin (D, { cls := .type "list", data := .seq its.toArray k }) (List.mem_append_right _ (List.mem_append_left _ (yah.mpr rfl)))).1
    ·exact (K.pin (D, { cls := .type "list", data := .seq its.toArray k }) (List.mem_append_right _ (List.mem_append_left _ (yah.mpr rfl)))).2.1
   have reset : ∀ {σ' : St} {H' : Hp} {s' : Shared} {pl : List (Addr × Obj)}, σ'.drop nt = (zaI nt is σ).drop nt -> Inv (cxC X NC csc C s2 H2 fp) pl σ' H' s' -> Inv (cxC X NC csc C s2 H2 fp) [] (zaI nt is σ) H' s' := fun {σ' H' s' pl} hd K => by
    have K0 : Inv (cxC X NC csc C s2 H2 fp) [] σ' H' s' := K.pins_of fun p hp => absurd hp (by simp);refine K0.weak ?_ fun j v hj => ?_
    ·rw [zem, K.len]; exact S.len.symm
    ·by_cases hjn : j < nt
     ·exfalso
      unfold zaI at hj;rw [ya5 (by simpa using hjn), List.getElem?_replicate, if_pos hjn] at hj;cases hj
     ·have q := congrArg (fun l => l[j - nt]?) hd;simp only [List.getElem?_drop] at q;rw [show nt + (j - nt) = j by omega] at q;rw [q]; exact hj
   cases ok with
   | false =>
    obtain ⟨m', lt, w7⟩ : ∃ m', m' < n /\ W (i + 1) m' acc H7 := hN _ _ q7;obtain ⟨t7, f7, e7, n7⟩ := tnk I7;exact ⟨m', lt, i + 1, H7, acc, its, k, reset d6 I7, t7, f7, e7, n7, v3, z3, w7⟩
   | true =>
    have q7' : te σ6 H7 fun y H4 => N (acc ++ [y]) H4 := q7;refine thn (he C s2 H2 fp _ s7 σ6 H7 _ I7 q7') fun u8 s8 ⟨y, H8, I8, r8, qN⟩ => ?_;obtain ⟨m', lt, w8⟩ := hN _ _ qN;obtain ⟨t8, f8, e8, n8⟩ := tnk I8;have I8r := reset d6 I8;have hl := v3.length;refine call_meets F.slot_list_append ⟨_, e8, rfl⟩ F.entry_list_append (F.args_list_append_2 _ _) (PySem.list_append D its.toArray k u8 (by rw [yad]; omega)) ⟨e8, ?_⟩;have q := PySem.IsL.update e8 (fun a => a.push u8);have hq : (its.toArray.push u8) = (its ++ [u8]).toArray := by simp
    rw [hq] at q;have kk : ∀ b o, b ≠ D -> s8.heap.get? b = some o -> (s8.heap.update D (Obj.mapSeq fun a => a.push u8)).get? b = some o := fun b o hb e => (Heap.get?_update_other s8.heap _ (Ne.symm hb)).trans e;refine ⟨m', lt, i + 1, H8, acc ++ [y], its ++ [u8], _, I8r.turned (t' := s8.toks) kk n8 hDC (.inr hD) (cellD I8r e8) (fun p hp => absurd (show p ∈ ([] : List (Addr × Obj)) from hp) (by simp)), T.keep _ _ _ t8 (fun b hb o e => kk b o (fun z => dne (z ▸ hb)) e), f8, q, n8, v3.append (.cons r8 .nil), ?_, w8⟩;rw [yae, yas];omega
 exact codeAny_compStart_list (loop _ rfl) (T.self X.A 0 _ _ _ (T.keep _ _ _ st2 (fun b hb o e => old b o e)) (loop _ rfl))
theorem zaO {i nt : Nat} (hi : i < nt) : ∀ x (σ : St) (H : Hp) Q, zdV i x σ H Q -> zdV i x σ H fun σ2 H2 => σ2.drop nt = σ.drop nt /\ Q σ2 H2 := fun x σ H Q h => ⟨List.drop_set_of_lt hi, h⟩
theorem zca {elt tg iter : Expr} {ifs : List Expr} {pos : Pos} {wi : TI} {g : TG} {tt : TT} {te : TE} (nt : Nat) (is : List Nat) (NC : List Str)
  (S : CompSc X NC nt is csc) (hc : X.calm = true) (hi : PI X tg iter wi)
  (hg : ∀ C s H ex, PG (cxC X NC csc C s H ex) tg g) (hgk : ∀ x (σ : St) H Q, g x σ H Q -> g x σ H fun σ2 H2 => σ2.drop nt = σ.drop nt /\ Q σ2 H2)
  (ht : ∀ C s H ex, PIf (cxC X NC csc C s H ex) ifs tt) (he : ∀ C s H ex, PE (cxC X NC csc C s H ex) elt te)
  (hs : ∀ x, foldedSetIterable iter X.env x = pure x := by intro _; rfl) : PE X (.ListComp elt [⟨tg, iter, ifs, 0⟩] csc pos) (ziW wi nt is g tt te) := by
 intro Qa s σ H Q I h;rw [eval_ListComp];refine zgn S hc hi hg ht he hgk I h (fun s' C D H' m J q hm hC hL hz hcl hp => ⟨m, hm, fun h' hsb => ?_⟩) hs;exact ⟨.ref D, H', J.turned (t' := s'.toks) (fun b o hb e => hsb.extBut b o hb e) hC hL (.inr hz) hcl hp, rfl, q⟩
theorem zce {i : Nat} {y : Str} {elt tg iter : Expr} {ifs : List Expr} {pos spos py : Pos} {wi : TI} {g : TG} {tt : TT} {te : TE} (nt : Nat) (is : List Nat) (NC : List Str) (hN : X.N.Nodup) (hy : X.N[i]? = some y) (hyl : X.env.scope.names.lookup y = some .local)
  (S : CompSc X NC nt is csc) (hc : X.calm = true) (hi : PI X tg iter wi)
  (hg : ∀ C s H ex, PG (cxC X NC csc C s H ex) tg g) (hgk : ∀ x (σ : St) H Q, g x σ H Q -> g x σ H fun σ2 H2 => σ2.drop nt = σ.drop nt /\ Q σ2 H2)
  (ht : ∀ C s H ex, PIf (cxC X NC csc C s H ex) ifs tt) (he : ∀ C s H ex, PE (cxC X NC csc C s H ex) elt te)
  (hsw : swapsWith (.ListComp elt [⟨tg, iter, ifs, 0⟩] csc pos) (some (.Name y py)) spos.line X.env = pure true := by rfl)
  (hs : ∀ x, foldedSetIterable iter X.env x = pure x := by intro _; rfl) : PS X (.Assign [.Name y py] (.ListComp elt [⟨tg, iter, ifs, 0⟩] csc pos) spos) (tAsg (ziW wi nt is g tt te) (zdV i)) := by
 intro Qa s σ H D I h;rw [exec_Assign_Name_used _ _ _ _ hsw];refine yaa (wpAny_standAt (yaa ?_));show wpAny _ X.A (do let _ <- comprehension (.ListComp elt [⟨tg, iter, ifs, 0⟩] csc pos) csc X.env _ (newList []) false (eval iter X.env) (some (assign (.Name y py) X.env))) _ _ s;refine yaa (thn (zgn (QQ := fun _ s' => SP X Qa D .next s') S hc hi hg ht he hgk I h (fun s' C Da H' m J q hm hC hL hz hcl hp => ?_) hs) fun _ s' hq => yab (yab hq));show wpAny _ X.A (assign (.Name y py) X.env (.ref Da)) _ _ _;refine wpAny_assign_Name (zeR J hN hy (.inl hyl) (v := .ref Da) rfl (fun s'' J' ⟨a, hsb, ha⟩ => ⟨m, hm.sameBut hsb (fun z => ?_), fun h3 hs3 => ?_⟩) (.inr hyl))
 ·rcases ha with e | e
  ·exact hL (z.trans e)
  ·exact hcl y a e z.symm
 ·exact ⟨_, H', J'.turned (t' := s''.toks) (fun b o hb e => hs3.extBut b o hb e) hC hL (.inr hz) hcl hp, q⟩
end
section
variable {K : W.Frag} {nt : Nat} {is : List Nat} {g : TG} {tt : TT} {te : TE} {σ : St} {H : Hp} {Q : VK}
def zfD (J : It) (nt : Nat) (is : List Nat) (g : TG) (tt : TT) (te : TE) (σ : St) (H : Hp) (Q : VK) : Prop := ∃ W : Nat -> Nat -> List V -> Hp -> Prop, (∃ m, W 0 m [] H) /\ ∀ i m acc H, W i m acc H ->
 (J.stop i H /\ ∀ p, H p = none -> Q (.ref p) (upd H p (.lst acc))) \/
 (J.go i H /\ acc.length < sizeLine /\ ∃ N : List V -> Hp -> Prop, (∀ acc' H', N acc' H' -> ∃ m', m' < m /\ W (i + 1) m' acc' H') /\ ∀ x H', J.yld i H x H' -> g x (zaI nt is σ) H' fun σ2 H2 => tt σ2 H2 fun b H3 =>
  if b = true then te σ2 H3 fun y H4 => N (acc ++ [y]) H4 else N acc H3)
theorem ziX {wi : TI} : ziW wi nt is g tt te σ H Q = wi σ H fun J H1 => zfD J nt is g tt te σ H1 Q := rfl
theorem zcK {J : It} {n : Nat} (Pv : Nat -> List V -> Hp -> Prop) (h0 : Pv 0 [] H)
  (hgo : ∀ i acc H, i < n -> Pv i acc H -> J.go i H /\ acc.length < sizeLine /\ ∀ x H', J.yld i H x H' -> g x (zaI nt is σ) H' fun σ2 H2 => tt σ2 H2 fun b H3 => if b = true then te σ2 H3 fun y H4 => Pv (i + 1) (acc ++ [y]) H4 else Pv (i + 1) acc H3)
  (hst : ∀ acc H, Pv n acc H -> J.stop n H /\ ∀ p, H p = none -> Q (.ref p) (upd H p (.lst acc))) : zfD J nt is g tt te σ H Q := by
 refine ⟨fun i m acc H => m = n - i /\ i <= n /\ Pv i acc H, ⟨n, by simp, yaq _, h0⟩, ?_⟩
 rintro i m acc H ⟨rfl, hi, p⟩
 by_cases hlt : i < n
 ·obtain ⟨h1, h2, h3⟩ := hgo i acc H hlt p;exact .inr ⟨h1, h2, Pv (i + 1), fun acc' H' q => ⟨n - (i + 1), by omega, rfl, hlt, q⟩, h3⟩
 ·have e : i = n := by omega
  subst e;exact .inl (hst acc H p)
theorem zcW {lo : Int} {n : Nat} (Pv : Nat -> List V -> Hp -> Prop) (h0 : Pv 0 [] H)
  (hs : ∀ i acc H, i < n -> Pv i acc H -> acc.length < sizeLine /\ g (.int (lo + i)) (zaI nt is σ) H fun σ2 H2 => tt σ2 H2 fun b H3 => if b = true then te σ2 H3 fun y H4 => Pv (i + 1) (acc ++ [y]) H4 else Pv (i + 1) acc H3)
  (hd : ∀ acc H, Pv n acc H -> ∀ p, H p = none -> Q (.ref p) (upd H p (.lst acc))) : zfD (Itr lo n) nt is g tt te σ H Q := by
 refine zcK (n := n) Pv h0 (fun i acc H hi p => ?_) fun acc H p => ⟨yai _, hd acc H p⟩
 obtain ⟨h1, h2⟩ := hs i acc H hi p;refine ⟨hi, h1, fun x H' y => ?_⟩;obtain ⟨rfl, rfl⟩ := y;exact h2
theorem zgo {z : Str} (Pv : Nat -> List V -> Hp -> Prop) (h0 : Pv 0 [] H)
  (hs : ∀ i c acc H, z.cps.toList[i]? = some c -> Pv i acc H -> acc.length < sizeLine /\ g (.str ⟨#[c]⟩) (zaI nt is σ) H fun σ2 H2 => tt σ2 H2 fun b H3 => if b = true then te σ2 H3 fun y H4 => Pv (i + 1) (acc ++ [y]) H4 else Pv (i + 1) acc H3)
  (hd : ∀ acc H, Pv z.cps.toList.length acc H -> ∀ p, H p = none -> Q (.ref p) (upd H p (.lst acc))) : zfD (Its z) nt is g tt te σ H Q := by
 have hl : z.cps.toList.length = z.cps.size := by simp
 refine zcK (n := z.cps.toList.length) Pv h0 (fun i acc H hi p => ?_) fun acc H p => ⟨Nat.le_of_eq hl.symm, hd acc H p⟩
 have hx : z.cps.toList[i]? = some z.cps.toList[i] := by simp [hi]
 obtain ⟨h1, h2⟩ := hs i _ acc H hx p;refine ⟨(by show i < z.cps.size; omega), h1, fun x H' y => ?_⟩;obtain ⟨rfl, c, hc, rfl⟩ := y;rw [<- Array.getElem?_toList, hx] at hc;cases hc;exact h2
theorem zcL {a : Addr} {xs : List V} (Pv : Nat -> List V -> Hp -> Prop) (h0 : Pv 0 [] H) (hl : ∀ i acc H, i <= xs.length -> Pv i acc H -> SqL K H a xs)
  (hs : ∀ i x acc H, xs[i]? = some x -> Pv i acc H -> acc.length < sizeLine /\ g x (zaI nt is σ) H fun σ2 H2 => tt σ2 H2 fun b H3 => if b = true then te σ2 H3 fun y H4 => Pv (i + 1) (acc ++ [y]) H4 else Pv (i + 1) acc H3)
  (hd : ∀ acc H, Pv xs.length acc H -> ∀ p, H p = none -> Q (.ref p) (upd H p (.lst acc))) : zfD (Itl K a) nt is g tt te σ H Q := by
 refine zcK (n := xs.length) Pv h0 (fun i acc H hi p => ?_) fun acc H p => ⟨⟨xs, hl _ _ _ (yai _) p, yai _⟩, hd acc H p⟩
 have hx : xs[i]? = some xs[i] := by simp [hi]
 have q := hl i acc H (Nat.le_of_lt hi) p;obtain ⟨h1, h2⟩ := hs i _ acc H hx p;refine ⟨⟨xs, _, q, hx⟩, h1, fun x H' y => ?_⟩;obtain ⟨rfl, y⟩ := y;have e := y xs q;rw [hx] at e;cases e;exact h2
theorem zbG {a : Addr} {xs : List V} (Pv : Nat -> List V -> Hp -> Prop) (h0 : Pv 0 [] H) (hl : ∀ i acc H, i <= xs.length -> Pv i acc H -> SqT K H a xs)
  (hs : ∀ i x acc H, xs[i]? = some x -> Pv i acc H -> acc.length < sizeLine /\ g x (zaI nt is σ) H fun σ2 H2 => tt σ2 H2 fun b H3 => if b = true then te σ2 H3 fun y H4 => Pv (i + 1) (acc ++ [y]) H4 else Pv (i + 1) acc H3)
  (hd : ∀ acc H, Pv xs.length acc H -> ∀ p, H p = none -> Q (.ref p) (upd H p (.lst acc))) : zfD (Itt K a) nt is g tt te σ H Q := by
 refine zcK (n := xs.length) Pv h0 (fun i acc H hi p => ?_) fun acc H p => ⟨⟨xs, hl _ _ _ (yai _) p, yai _⟩, hd acc H p⟩
 have hx : xs[i]? = some xs[i] := by simp [hi]
 have q := hl i acc H (Nat.le_of_lt hi) p;obtain ⟨h1, h2⟩ := hs i _ acc H hx p;refine ⟨⟨xs, _, q, hx⟩, h1, fun x H' y => ?_⟩;obtain ⟨rfl, y⟩ := y;have e := y xs q;rw [hx] at e;cases e;exact h2
end
section
variable {X : Cx}
theorem call_all (hc : X.calm = true) : zbE X (.builtin "all") (fun xs H Q => ∃ (p : Addr) (bs : List Bool), xs = [.ref p] /\ SqL X.K H p (bs.map V.bl) /\ Q (.bl (bs.all id)) H) := by
 intro Qa s σ H xs us Q I r h;obtain ⟨p, bs, rfl, hq, q⟩ := h;obtain ⟨u, rfl, rx⟩ := zeT r;cases rx;obtain ⟨its, rv, pl, hz⟩ := I.list hq;have Qe : bs.length = its.length := by have := rv.length; simpa using this
 refine call_all_walk (wpAny_pyIter_list pl.isList ?_);have hne : p ≠ s.heap.objs.size := by
  obtain ⟨o, _, e, _⟩ := pl;exact Nat.ne_of_lt (yan e)
 refine ⟨s.heap.objs.size, _, _, _, _, _, fun i => bs.getD i false, rfl, Walks.list (A := X.A.in1) (show X.A.in1.handled = none from I.ok.hd hc) _ p hne its.toArray, ⟨⟨_, yaj _ rfl, rfl, rfl⟩, pl.isList.push _⟩, ?_, fun h' tk hk => ?_⟩
 ·intro i v s' Q' E' hP hQ';have hv : its[i]? = some v := by simpa using hP
  have hi : i < bs.length := by rw [Qe]; exact (yag.mp hv).1
  obtain ⟨v', hv', rv'⟩ := rv.get (i := i) (x := V.bl bs[i]) (by simp [hi]);rw [hv] at hv'; cases hv';cases (show v = Value.bool bs[i] from rv');have e : bs.getD i false = bs[i] := by simp [hi]
  have hQ2 : Q' (bs.getD i false) s' := hQ';rw [e] at hQ2;exact wpAny_truthy_bool hQ2
 ·have e : ((List.range its.toArray.size).all fun i => bs.getD i false) = bs.all id := by
   rw [yad, <- Qe];rw [Bool.eq_iff_iff, List.all_eq_true, List.all_eq_true]
   constructor
   ·intro h x hx;obtain ⟨i, hi, rfl⟩ := List.mem_iff_getElem.mp hx;have := h i (List.mem_range.mpr hi);simpa [hi] using this
   ·intro h i hi;have hi' := List.mem_range.mp hi;have := h bs[i] (List.getElem_mem hi');simpa [hi'] using this
  rw [e];refine ⟨.bl (bs.all id), H, ?_, rfl, q⟩;exact I.kept (t' := tk) fun b o e => hk b o (fun z => absurd (yan e) (Nat.not_lt.mpr (Nat.le_of_eq (yah.mp z).symm))) (yac _ e)
theorem zcX : ∀ {ys : List Str} {us : List Value}, Vals (ys.map V.str) us -> StrsAre us ys
 | [], _, r => by rw [List.map_nil] at r; cases r; exact .nil
 | y :: ys, _, r => by
  rw [List.map_cons] at r;cases r with
  | cons r1 r2 =>
   obtain ⟨t, rfl⟩ := r1;exact .cons y t (zcX r2)
def zn8 (K : W.Frag) : V -> List V -> Hp -> VK -> Prop := fun x vs H Q => ∃ (sep : Str) (p : Addr) (ys : List Str), x = .str sep /\ vs = [.ref p] /\ SqL K H p (ys.map V.str) /\ (ys.map (·.length)).sum + ys.length * sep.length <= 16777216 /\ Q (.str (Txt.join sep ys)) H
def zkB (K : W.Frag) (T : String) : List V -> Hp -> VK -> Prop := fun vs H Q => ∃ x t b, vs = [x, .ty T] /\ TyOf K H x t /\ W.kitOne K t (.type T) = some b /\ Q (.bl b) H
theorem zhM {T : String} : zbE X (.builtin "isinstance") (zkB X.K T) := by
 intro Qa s σ H xs us Q I r h;obtain ⟨x, t, b, rfl, ty, e, q⟩ := h;obtain ⟨u, u2, rfl, rx, r2⟩ := zh2 r;cases (show u2 = Value.type T from r2);exact zh6 I rx ty e fun tk => ⟨.bl b, H, I.tok tk, rfl, q⟩
end
section
variable {X : Cx} {tg l : Expr} {tl : TE} {a : Expr} {pos : Pos} {tA : TT}
theorem zax : OpR X (binaryOp .Mod) (rI (fun _ j => 0 < j) fun i j => .int (i % j)) := zlM
theorem za1 : OpR X (binaryOp .FloorDiv) (rI CDiv fun i j => .int (i / j)) := zk0
def zmc : R2 := fun x y H Q => ∃ i j, x = .str i /\ y = .str j /\ i.length + j.length <= sizeLine /\ Q (.str (i ++ j)) H
def zgQ (K : W.Frag) : R2 := fun x y H Q => rI0 (fun i j => .int (i + j)) x y H Q \/ (zmc x y H Q \/ (rCat x y H Q \/ zlV K x y H Q))
theorem zhN (K : W.Frag) (hK : X.K = K := by rfl) : OpR X (binaryOp .Add) (zgQ K) := hK ▸ (OpR.or zjW (OpR.or zeh (OpR.or zkd zhB)) : OpR X (binaryOp .Add) (zgQ X.K))
def ziY : R2 := fun x y H Q => rI CMul (fun i j => .int (i * j)) x y H Q \/ rRep x y H Q
theorem zcb : OpR X (binaryOp .Mult) ziY := OpR.or zlL zlZ
theorem zhO (hu : X.A.units + 64 < cLine) : OpR X (compareOp .NotEq) rNe := zlO
def rLtS : R2 := fun x y H Q => ∃ i j, x = .str i /\ y = .str j /\ Q (.bl (decide (i.cps.toList < j.cps.toList))) H
def rLtA : R2 := fun x y H Q => rI0 (fun i j => .bl (decide (i < j))) x y H Q \/ rLtS x y H Q
theorem zct : OpR X (compareOp .Lt) rLtA := OpR.or zn5 zh0
def inS (i j : Str) : Bool := !(Builtin.Str.occurrences j i 0 j.length 1).isEmpty
def rInS (neg : Bool) : R2 := fun x y H Q => ∃ i j, x = .str i /\ y = .str j /\ Q (.bl (if neg then !inS i j else inS i j)) H
def rInA (K : W.Frag) (neg : Bool) : R2 := fun x y H Q => rInS neg x y H Q \/ rIn K neg x y H Q
theorem zcy (K : W.Frag) (hK : X.K = K := by rfl) : OpR X (compareOp .In) (rInA K false) := hK ▸ (OpR.or zh1 zhE : OpR X (compareOp .In) (rInA X.K false))
theorem zbV (K : W.Frag) (hK : X.K = K := by rfl) : OpR X (compareOp .NotIn) (rInA K true) := hK ▸ (OpR.or zfb zfa : OpR X (compareOp .NotIn) (rInA X.K true))
def rSlA (K : W.Frag) : V -> Option Int -> Option Int -> Hp -> VK -> Prop := fun x lo hi H Q => rSlS x lo hi H Q \/ (rSlL K x lo hi H Q \/ rSlT K x lo hi H Q)
theorem slA (K : W.Frag) (hK : X.K = K := by rfl) : SlR X (rSlA K) := hK ▸ (SlR.or zke (SlR.or zhD zka) : SlR X (rSlA X.K))
theorem ixA (K : W.Frag) (hK : X.K = K := by rfl) : IxR X (rIx K) := hK ▸ (ix_seq : IxR X (rIx X.K))
def ziZ (K : W.Frag) (x : V) (H : Hp) (R : It -> Hp -> Prop) : Prop := (∃ z, x = .str z /\ R (Its z) H) \/ (∃ a, x = .ref a /\ (∃ xs, SqL K H a xs) /\ R (Itl K a) H) \/ (∃ a, x = .ref a /\ (∃ xs, SqT K H a xs) /\ R (Itt K a) H)
def iAny (K : W.Frag) (tl : TE) : TI := fun σ H R => tl σ H fun x H1 => ziZ K x H1 R
theorem zbF (K : W.Frag) (hl : PE X l tl) (hK : X.K = K := by rfl) : PI X tg l (iAny K tl) := by
 subst hK;intro Qa s σ H R I h;refine thn (hl Qa s σ H _ I h) fun v s1 ⟨x, H1, I1, r1, q1⟩ => ?_;rcases q1 with ⟨z, rfl, q⟩ | ⟨a, rfl, hq, q⟩ | ⟨a, rfl, hq, q⟩
 ·exact zhK I1 r1 q
 ·obtain ⟨xs, hq⟩ := hq;cases r1;obtain ⟨its, rv, p, hz⟩ := I1.list hq;refine wpAny_pyIter_list p.isList ?_;refine ⟨s1.heap.objs.size, [s1.heap.objs.size], _, _, H1, rfl, I1.kept (t' := s1.toks) fun b o e => yac _ e, zhs a _, ⟨_, yaj _ rfl, rfl, rfl⟩, fun b hb => ?_, q⟩;have e : b = s1.heap.objs.size := by simpa using hb
  subst e;exact I1.fpOk (yai _) (I1.hok.fresh (yai _))
 ·obtain ⟨xs, hq⟩ := hq;cases r1;obtain ⟨its, rv, p, hz⟩ := I1.tuple hq;refine wpAny_pyIter_tuple (show s1.heap.IsTuple a its.toArray from p) ?_;refine ⟨s1.heap.objs.size, [s1.heap.objs.size], _, _, H1, rfl, I1.kept (t' := s1.toks) fun b o e => yac _ e, zgH a _, ⟨_, yaj _ rfl, rfl, rfl⟩, fun b hb => ?_, q⟩;have e : b = s1.heap.objs.size := by simpa using hb
  subst e;exact I1.fpOk (yai _) (I1.hok.fresh (yai _))
end
section
variable {X : Cx} {o e : Expr} {es : List Expr} {to : TE} {t : TA} {name : Str} {apos cpos : Pos} {T iid : String} {r : V -> List V -> Hp -> VK -> Prop}
def rLen (K : W.Frag) : List V -> Hp -> VK -> Prop := fun xs H Q => ∃ x n, xs = [x] /\ LenV K x H n /\ Q (.int n) H
theorem zay (K : W.Frag) (hK : X.K = K := by rfl) : zbE X (.builtin "len") (rLen K) := hK ▸ (call_len : zbE X (.builtin "len") (rLen X.K))
def rAll (K : W.Frag) : List V -> Hp -> VK -> Prop := fun xs H Q => ∃ (p : Addr) (bs : List Bool), xs = [.ref p] /\ SqL K H p (bs.map V.bl) /\ Q (.bl (bs.all id)) H
theorem zdD (K : W.Frag) (hc : X.calm = true) (hK : X.K = K := by rfl) : zbE X (.builtin "all") (rAll K) := hK ▸ (call_all hc : zbE X (.builtin "all") (rAll X.K))
def zey (K : W.Frag) : List V -> Hp -> VK -> Prop := fun xs H Q => ∃ p ys, xs = [.ref p] /\ ((SqL K H p ys /\ ∀ l, H l = none -> Q (.ref l) (upd H l (.tup ys))) \/ (SqT K H p ys /\ Q (.ref p) H))
theorem zaX (K : W.Frag) (hK : X.K = K := by rfl) : zbE X (.type "tuple") (zey K) := hK ▸ (call_tuple_of : zbE X (.type "tuple") (zey X.K))
def zfE (K : W.Frag) : List V -> Hp -> VK -> Prop := fun xs H Q => ∃ p ys, xs = [.ref p] /\ (SqL K H p ys \/ SqT K H p ys) /\ ∀ l, H l = none -> Q (.ref l) (upd H l (.lst ys))
theorem zcY (K : W.Frag) (hK : X.K = K := by rfl) : zbE X (.type "list") (zfE K) := hK ▸ (call_list_of : zbE X (.type "list") (zfE X.K))
def zhP : List V -> Hp -> VK -> Prop := fun xs H Q => (∃ i, xs = [.int i] /\ Q (.int i) H) \/ ∃ k, xs = [.bl k] /\ Q (.int (if k then 1 else 0)) H
theorem zcM : zbE X (.type "int") zhP := zh3
theorem zb1 (K : W.Frag) (pa : PlainAttrs T) (slot : Slot T name iid) (hty : typeOf (.builtin iid) = pure (.type "method_descriptor")) (hm : MtR X iid r) (ho : PE X o to) (ha : PA X (e :: es) t) (hK : X.K = K := by rfl)
  (hbase : attributeBase o name X.env (eval o X.env) = eval o X.env := by rfl)
  (hfew : ((backTo cpos (starEach (e :: es) X.env)).all (fun x => !x.1) && (backToKw cpos (keywordEach [] X.env)).all (fun x => x.1.isSome)
   && decide ((e :: es).length + ([] : List Keyword).length + (if ([] : List Keyword).isEmpty then 0 else 1) < 30)) = true := by rfl)
  (hline : (apos.endLine == cpos.line) = true := by rfl) (hs : starEach (e :: es) X.env = (false, eval e X.env) :: starEach es X.env := by rfl) (hplain : (backTo cpos (starEach es X.env)).any (·.1) = false := by rfl) :
  PE X (.Call (.Attribute o name apos) (e :: es) [] cpos) (tBM K T r to t) := hK ▸ zn7 pa slot hty hm ho ha hbase hfew hline hs hplain
end
section
variable {K : W.Frag} {g : TG} {tb : TS} {D : Ends} {σ : St} {H : Hp}
def ForW (J : It) (g : TG) (tb : TS) (D : Ends) (σ : St) (H : Hp) : Prop := ∃ W : Nat -> Nat -> St -> Hp -> Prop, (∃ m, W 0 m σ H) /\ ∀ i m σ H, W i m σ H ->
 (J.stop i H /\ D.nx σ H) \/ (J.go i H /\ ∃ N : St -> Hp -> Prop, (∀ σ' H', N σ' H' -> ∃ m', m' < m /\ W (i + 1) m' σ' H') /\ ∀ x H', J.yld i H x H' -> g x σ H' fun σ2 H2 => tb { D with nx := N, ct := N, bk := D.nx } σ2 H2)
theorem zkC {wi : TI} : tFor wi g tb D σ H = wi σ H fun J H1 => ForW J g tb D σ H1 := rfl
theorem zff {a : Addr} {xs : List V} (Pv : Nat -> St -> Hp -> Prop) (h0 : Pv 0 σ H) (hl : ∀ i σ H, i <= xs.length -> Pv i σ H -> SqL K H a xs)
  (hs : ∀ i x σ H, xs[i]? = some x -> Pv i σ H -> g x σ H fun σ2 H2 => tb { D with nx := Pv (i + 1), ct := Pv (i + 1), bk := D.nx } σ2 H2) (hd : ∀ σ H, Pv xs.length σ H -> D.nx σ H) : ForW (Itl K a) g tb D σ H := ziN Pv h0 hl hs hd
theorem zez {a : Addr} {xs : List V} (Pv : Nat -> St -> Hp -> Prop) (h0 : Pv 0 σ H) (hl : ∀ i σ H, i <= xs.length -> Pv i σ H -> SqT K H a xs)
  (hs : ∀ i x σ H, xs[i]? = some x -> Pv i σ H -> g x σ H fun σ2 H2 => tb { D with nx := Pv (i + 1), ct := Pv (i + 1), bk := D.nx } σ2 H2) (hd : ∀ σ H, Pv xs.length σ H -> D.nx σ H) : ForW (Itt K a) g tb D σ H := zky Pv h0 hl hs hd
theorem zbw {lo : Int} {n : Nat} (Pv : Nat -> St -> Hp -> Prop) (h0 : Pv 0 σ H)
  (hs : ∀ i σ H, i < n -> Pv i σ H -> g (.int (lo + i)) σ H fun σ2 H2 => tb { D with nx := Pv (i + 1), ct := Pv (i + 1), bk := D.nx } σ2 H2) (hd : ∀ σ H, Pv n σ H -> D.nx σ H) : ForW (Itr lo n) g tb D σ H := zhv Pv h0 hs hd
end
theorem zar {n : Nat} (h : n <= 100000) : n <= sizeLine := yat h (by rw [sizeLine_eq]; decide)
theorem zaQ {n : Nat} (h : n <= 100000) : n < sizeLine := Nat.lt_of_le_of_lt h (by rw [sizeLine_eq]; decide)
theorem zac {H : Hp} {p : Addr} (h : H p = none) (o : HO) : Same H (upd H p o) := fun b u q => by rw [za7 (za8 q h)]; exact q
theorem Same.seqT {K : W.Frag} {H H' : Hp} {a : Addr} {xs : List V} (e : Same H H') (h : SqT K H a xs) : SqT K H' a xs := by
 rcases h with (h | ⟨o, h⟩) | h
 ·exact .inl (.inl (e _ _ h))
 ·exact .inl (.inr ⟨o, e _ _ h⟩)
 ·exact .inr h
theorem zja {α : Type} {xs : List α} {i : Int} (h0 : 0 <= i) (h1 : i < xs.length) : ∃ v, v ∈ xs /\ atI xs i = some v := by
 have hk : i.toNat < xs.length := by omega
 have e : i = ((i.toNat : Nat) : Int) := by omega
 refine ⟨xs[i.toNat], List.getElem_mem hk, ?_⟩;have q : atI xs ((i.toNat : Nat) : Int) = some xs[i.toNat] := zag (by simp [hk]);rw [<- e] at q;exact q
theorem zgp {α : Type} {xs : List α} {i : Int} {d : α} (h0 : 0 <= i) (h1 : i < xs.length) : atI xs i = some (xs.getD i.toNat d) := by
 have hk : i.toNat < xs.length := by omega
 have e : i = ((i.toNat : Nat) : Int) := by omega
 have q : atI xs ((i.toNat : Nat) : Int) = some xs[i.toNat] := zag (by simp [hk]);rw [<- e] at q;rw [q]; simp [hk]
def zhQ (K : W.Frag) : Sp := fun vs H Q _ => ∃ (a : Addr) (ns : List Int), vs = [.ref a] /\ SqL K H a (ns.map V.int) /\ ns.length <= 63 /\ ∀ H', Q (.bl true) H'
section
variable {K : W.Frag} {H : Hp} {Q : VK} {σ : St} {D : Ends} {ta tb tc te : TE} {tt tA tB' : TT} {t u : TS} {g : TG} {r : R2} {tl : TA} {v0 v1 v2 v3 v4 v5 v6 v7 v8 v9 v10 v11 : V}
 {o0 o1 o2 o3 o4 o5 o6 o7 o8 o9 o10 o11 : Option V} {rr : St}
theorem w_v0 : tVar 0 (some v0 :: rr) H Q = Q v0 H := by simp [tVar]
theorem w_v1 : tVar 1 (o0 :: some v1 :: rr) H Q = Q v1 H := by simp [tVar]
theorem w_v2 : tVar 2 (o0 :: o1 :: some v2 :: rr) H Q = Q v2 H := by simp [tVar]
theorem w_v3 : tVar 3 (o0 :: o1 :: o2 :: some v3 :: rr) H Q = Q v3 H := by simp [tVar]
theorem w_v4 : tVar 4 (o0 :: o1 :: o2 :: o3 :: some v4 :: rr) H Q = Q v4 H := by simp [tVar]
theorem w_v5 : tVar 5 (o0 :: o1 :: o2 :: o3 :: o4 :: some v5 :: rr) H Q = Q v5 H := by simp [tVar]
theorem w_v6 : tVar 6 (o0 :: o1 :: o2 :: o3 :: o4 :: o5 :: some v6 :: rr) H Q = Q v6 H := by simp [tVar]
theorem w_v7 : tVar 7 (o0 :: o1 :: o2 :: o3 :: o4 :: o5 :: o6 :: some v7 :: rr) H Q = Q v7 H := by simp [tVar]
theorem w_v8 : tVar 8 (o0 :: o1 :: o2 :: o3 :: o4 :: o5 :: o6 :: o7 :: some v8 :: rr) H Q = Q v8 H := by simp [tVar]
theorem w_v9 : tVar 9 (o0 :: o1 :: o2 :: o3 :: o4 :: o5 :: o6 :: o7 :: o8 :: some v9 :: rr) H Q = Q v9 H := by simp [tVar]
theorem zn9 : tVar 10 (o0 :: o1 :: o2 :: o3 :: o4 :: o5 :: o6 :: o7 :: o8 :: o9 :: some v10 :: rr) H Q = Q v10 H := by simp [tVar]
theorem znA : tVar 11 (o0 :: o1 :: o2 :: o3 :: o4 :: o5 :: o6 :: o7 :: o8 :: o9 :: o10 :: some v11 :: rr) H Q = Q v11 H := by simp [tVar]
theorem w_c {v : V} : tC v σ H Q = Q v H := rfl
theorem ze0 : tSeq t u D σ H = t { D with nx := u D } σ H := rfl
theorem znB : tIfS tt t u D σ H = tt σ H fun b H1 => if b = true then t D σ H1 else u D σ H1 := rfl
theorem zmd : ziL D σ H = D.nx σ H := rfl
theorem znC : tRet te D σ H = te σ H D.rt := rfl
theorem zme : zlF te D σ H = te σ H fun _ H1 => D.nx σ H1 := rfl
theorem ze1 : tAsg te g D σ H = te σ H fun x H1 => g x σ H1 D.nx := rfl
theorem zcg {i : Nat} {x : V} {Qs : St -> Hp -> Prop} : zdV i x σ H Qs = Qs (σ.set i (some x)) H := rfl
theorem w_op : tOp r ta tb σ H Q = ta σ H fun x H1 => tb σ H1 fun y H2 => r x y H2 Q := rfl
theorem w_un {f : V -> Hp -> VK -> Prop} : tUn f ta σ H Q = ta σ H fun x H1 => f x H1 Q := rfl
variable {Qb : Bool -> Hp -> Prop} {Qs : List V -> Hp -> Prop}
theorem zmf : zk2 te σ H Qb = te σ H fun x H' => ∃ k, x = .bl k /\ Qb k H' := rfl
theorem w_B : tB te σ H Qb = te σ H fun x H' => ∃ k, x = .bl k /\ Qb k H' := rfl
theorem w_bl {b : Bool} {P : Bool -> Prop} : (∃ k, V.bl b = .bl k /\ P k) = P b := by
 refine propext ⟨fun ⟨k, e, h⟩ => ?_, fun h => ⟨b, rfl, h⟩⟩;cases e; exact h
theorem zo1 {b : Bool} {P : Bool -> Prop} {P2 : Bool -> Prop} : (∃ k, V.bl b = .bl k /\ if k = true then P k else P2 k) = if b = true then P b else P2 b := w_bl
theorem znD : tAnd tA tB' σ H Qb = tA σ H fun c H1 => if c = true then tB' σ H1 Qb else Qb false H1 := rfl
theorem w_or : tOr tA tB' σ H Qb = tA σ H fun c H1 => if c = true then Qb true H1 else tB' σ H1 Qb := rfl
theorem w_not : tNot tA σ H Qb = tA σ H fun c H1 => Qb (!c) H1 := rfl
theorem zmg : zlD ta tb σ H Q = ta σ H fun x H1 => ∃ c, x = .bl c /\ if c = true then tb σ H1 Q else Q (.bl false) H1 := rfl
theorem zmh : zlE ta σ H Q = ta σ H fun x H1 => ∃ c, x = .bl c /\ Q (.bl (!c)) H1 := rfl
theorem w_if : tIf tt ta tb σ H Q = tt σ H fun c H1 => if c = true then ta σ H1 Q else tb σ H1 Q := rfl
theorem zmi : zma σ H Qb = Qb true H := rfl
theorem znE : tNil σ H Qs = Qs [] H := rfl
theorem zmj : zlQ ta tl σ H Qs = ta σ H fun x H1 => tl σ H1 fun xs H2 => Qs (x :: xs) H2 := rfl
theorem znF : tTup tl σ H Q = tl σ H fun xs H1 => xs.length <= sizeLine /\ ∀ p, H1 p = none -> Q (.ref p) (upd H1 p (.tup xs)) := rfl
theorem znG : tLst tl σ H Q = tl σ H fun xs H1 => xs.length <= sizeLine /\ ∀ p, H1 p = none -> Q (.ref p) (upd H1 p (.lst xs)) := rfl
theorem zmk {sp : Sp} {dvs : List V} {E : XK} : zlR sp dvs E tl σ H Q = tl σ H fun vs H1 => sp (vs ++ dvs) H1 Q E := rfl
theorem w_CB {f : List V -> Hp -> VK -> Prop} : tCB f tl σ H Q = tl σ H fun vs H1 => f vs H1 Q := rfl
theorem w_BM {T : String} {f : V -> List V -> Hp -> VK -> Prop} : tBM K T f te tl σ H Q = te σ H fun x H1 => tyV K T x H1 /\ tl σ H1 fun xs H2 => f x xs H2 Q := rfl
theorem zjb {T : String} {x : Str} : tyV K T (.str x) H = (T = "str") := rfl
theorem zhR {T : String} {p : Addr} (h : T = "list") : tyV K T (.ref p) H = ∃ xs, SqL K H p xs := by
 subst h;refine propext ⟨fun h => ?_, fun h => .inl ⟨rfl, h⟩⟩;rcases h with ⟨_, h⟩ | ⟨h, _⟩ | ⟨h, _⟩ | ⟨h, _⟩
 ·exact h
 ·exact absurd h (by decide)
 ·exact absurd h (by decide)
 ·exact absurd h (by decide)
variable {tlo thi : TO} {Qo : Option Int -> Hp -> Prop}
theorem w_sl {f : V -> Option Int -> Option Int -> Hp -> VK -> Prop} : tSl f te tlo thi σ H Q = te σ H fun x H1 => tlo σ H1 fun l H2 => thi σ H2 fun u H3 => f x l u H3 Q := rfl
theorem zjc : zhA σ H Qo = Qo none H := rfl
theorem zml : zlU te σ H Qo = te σ H fun x H1 => ∃ i, x = .int i /\ Qo (some i) H1 := rfl
theorem znH {i : Int} {P : Int -> Prop} : (∃ k, V.int i = .int k /\ P k) = P i := by
 refine propext ⟨fun ⟨k, e, h⟩ => ?_, fun h => ⟨i, rfl, h⟩⟩;cases e; exact h
variable {i j : Int} {x y : Str} {b c : Bool} {p q : Addr} {gi : Int -> Int -> V} {C : Int -> Int -> Prop}
theorem zkD : rI0 gi (.int i) (.int j) H Q = Q (gi i j) H := by
 refine propext ⟨fun ⟨_, _, e1, e2, h⟩ => ?_, fun h => ⟨i, j, rfl, rfl, h⟩⟩;cases e1; cases e2; exact h
theorem w_rI : rI C gi (.int i) (.int j) H Q = (C i j /\ Q (gi i j) H) := by
 refine propext ⟨fun ⟨_, _, e1, e2, h⟩ => ?_, fun h => ⟨i, j, rfl, rfl, h⟩⟩;cases e1; cases e2; exact h
theorem zgq : zgQ K (.int i) (.int j) H Q = Q (.int (i + j)) H := by
 unfold zgQ;rw [zkD];refine propext ⟨fun h => ?_, .inl⟩;rcases h with h | ⟨_, _, e, _⟩ | ⟨_, _, _, _, e, _⟩ | ⟨_, _, _, _, e, _⟩
 ·exact h
 all_goals cases e
theorem zmm : zgQ K (.str x) (.str y) H Q = (x.length + y.length <= sizeLine /\ Q (.str (x ++ y)) H) := by
 refine propext ⟨fun h => ?_, fun h => .inr (.inl ⟨x, y, rfl, rfl, h⟩)⟩;rcases h with ⟨_, _, e, _⟩ | ⟨_, _, e1, e2, h⟩ | ⟨_, _, _, _, e, _⟩ | ⟨_, _, _, _, e, _⟩
 ·cases e
 ·cases e1; cases e2; exact h
 all_goals cases e
theorem zgr : ziY (.int i) (.int j) H Q = (CMul i j /\ Q (.int (i * j)) H) := by
 unfold ziY;rw [w_rI];refine propext ⟨fun h => ?_, .inl⟩;rcases h with h | ⟨_, _, _, e, _⟩
 ·exact h
 ·cases e
theorem znI : rNe (.int i) (.int j) H Q = Q (.bl (!decide (i = j))) H := by
 refine propext ⟨fun ⟨_, h⟩ => by simpa using h, fun h => ⟨rfl, by simpa using h⟩⟩
theorem znJ : rNe (.str x) (.str y) H Q = Q (.bl (!decide (x = y))) H := by
 refine propext ⟨fun ⟨_, h⟩ => by simpa using h, fun h => ⟨rfl, by simpa using h⟩⟩
theorem znK : rLtA (.int i) (.int j) H Q = Q (.bl (decide (i < j))) H := by
 unfold rLtA;rw [zkD];refine propext ⟨fun h => ?_, .inl⟩;rcases h with h | ⟨_, _, e, _⟩
 ·exact h
 ·cases e
theorem znL : rInA K false (.str x) (.str y) H Q = Q (.bl (inS x y)) H := by
 refine propext ⟨fun h => ?_, fun h => .inl ⟨x, y, rfl, rfl, h⟩⟩;rcases h with ⟨_, _, e1, e2, h⟩ | ⟨_, _, e, _⟩
 ·cases e1; cases e2; exact h
 ·cases e
theorem zjd : rInA K true (.str x) (.str y) H Q = Q (.bl (!inS x y)) H := by
 refine propext ⟨fun h => ?_, fun h => .inl ⟨x, y, rfl, rfl, h⟩⟩;rcases h with ⟨_, _, e1, e2, h⟩ | ⟨_, _, e, _⟩
 ·cases e1; cases e2; exact h
 ·cases e
theorem znM {v : V} : rInA K false v (.ref p) H Q = ∃ xs, (SqL K H p xs \/ SqT K H p xs) /\ zbC v = true /\ xs.all zbC = true /\ Q (.bl (inV v xs)) H := by
 refine propext ⟨fun h => ?_, fun ⟨xs, h⟩ => .inr ⟨p, xs, rfl, h⟩⟩;rcases h with ⟨_, _, _, e2, _⟩ | ⟨_, xs, e, h⟩
 ·cases e2
 ·cases e; exact ⟨xs, h⟩
theorem zje {v : V} : rInA K true v (.ref p) H Q = ∃ xs, (SqL K H p xs \/ SqT K H p xs) /\ zbC v = true /\ xs.all zbC = true /\ Q (.bl (!inV v xs)) H := by
 refine propext ⟨fun h => ?_, fun ⟨xs, h⟩ => .inr ⟨p, xs, rfl, h⟩⟩;rcases h with ⟨_, _, _, e2, _⟩ | ⟨_, xs, e, h⟩
 ·cases e2
 ·cases e; exact ⟨xs, h⟩
theorem znN : rIx K (.str x) (.int i) H Q = (x.length <= sizeLine /\ ∃ c, atI x.cps.toList i = some c /\ Q (.str ⟨#[c]⟩) H) := by
 refine propext ⟨fun h => ?_, fun ⟨h1, c, h2, h3⟩ => .inr (.inr ⟨x, i, c, rfl, rfl, h1, h2, h3⟩)⟩;rcases h with ⟨_, _, _, _, e, _⟩ | ⟨_, _, _, _, e, _⟩ | ⟨_, _, c, e1, e2, h1, h2, h3⟩
 ·cases e
 ·cases e
 ·cases e1; cases e2; exact ⟨h1, c, h2, h3⟩
theorem zdt : rIx K (.ref p) (.int i) H Q = ∃ xs, (SqL K H p xs \/ SqT K H p xs) /\ ∃ v, atI xs i = some v /\ Q v H := by
 refine propext ⟨fun h => ?_, fun ⟨xs, h, v, e, q⟩ => ?_⟩
 ·rcases h with ⟨_, xs, _, v, e1, e2, h1, h2, h3⟩ | ⟨_, xs, _, v, e1, e2, h1, h2, h3⟩ | ⟨_, _, _, e, _⟩
  ·cases e1; cases e2; exact ⟨xs, .inl h1, v, h2, h3⟩
  ·cases e1; cases e2; exact ⟨xs, .inr h1, v, h2, h3⟩
  ·cases e
 ·rcases h with h | h
  ·exact .inl ⟨p, xs, i, v, rfl, rfl, h, e, q⟩
  ·exact .inr (.inl ⟨p, xs, i, v, rfl, rfl, h, e, q⟩)
theorem zmn : rLen K [.str x] H Q = (x.length <= sizeLine /\ Q (.int x.length) H) := by
 refine propext ⟨fun ⟨_, n, e, h, q⟩ => ?_, fun ⟨h, q⟩ => ⟨_, _, rfl, ⟨h, rfl⟩, q⟩⟩;cases e;obtain ⟨h1, rfl⟩ := h;exact ⟨h1, q⟩
theorem zmo : rLen K [.ref p] H Q = ∃ xs, (SqL K H p xs \/ SqT K H p xs) /\ Q (.int (xs.length : Nat)) H := by
 refine propext ⟨fun ⟨_, n, e, h, q⟩ => ?_, fun ⟨xs, h, q⟩ => ?_⟩
 ·cases e;rcases h with ⟨xs, h, rfl⟩ | ⟨xs, h, rfl⟩
  ·exact ⟨xs, .inl h, q⟩
  ·exact ⟨xs, .inr h, q⟩
 ·rcases h with h | h
  ·exact ⟨_, _, rfl, .inl ⟨xs, h, rfl⟩, q⟩
  ·exact ⟨_, _, rfl, .inr ⟨xs, h, rfl⟩, q⟩
theorem znO {lo hi : Option Int} : rSlA K (.str x) lo hi H Q = (x.length <= sizeLine /\ Q (.str (Txt.slice x lo hi)) H) := by
 refine propext ⟨fun h => ?_, fun h => .inl ⟨x, rfl, h⟩⟩;rcases h with ⟨_, e, h⟩ | ⟨_, _, e, _⟩ | ⟨_, _, e, _⟩
 ·cases e; exact h
 ·cases e
 ·cases e
theorem znP : rAll K [.ref p] H Q = ∃ bs : List Bool, SqL K H p (bs.map V.bl) /\ Q (.bl (bs.all id)) H := by
 refine propext ⟨fun ⟨_, bs, e, h⟩ => ?_, fun ⟨bs, h⟩ => ⟨p, bs, rfl, h⟩⟩;cases e; exact ⟨bs, h⟩
theorem zmp {sep : Str} : zn8 K (.str sep) [.ref p] H Q = ∃ ys : List Str, SqL K H p (ys.map V.str) /\ (ys.map (·.length)).sum + ys.length * sep.length <= 16777216 /\ Q (.str (Txt.join sep ys)) H := by
 refine propext ⟨fun ⟨_, _, ys, e1, e2, h⟩ => ?_, fun ⟨ys, h⟩ => ⟨sep, p, ys, rfl, rfl, h⟩⟩;cases e1; cases e2; exact ⟨ys, h⟩
theorem zmq {b : Bool} : zhP [.bl b] H Q = Q (.int (if b then 1 else 0)) H := by
 refine propext ⟨fun h => ?_, fun h => .inr ⟨b, rfl, h⟩⟩;rcases h with ⟨_, e, _⟩ | ⟨_, e, h⟩
 ·cases e
 ·cases e; exact h
theorem zmr : zhP [.int i] H Q = Q (.int i) H := by
 refine propext ⟨fun h => ?_, fun h => .inl ⟨i, rfl, h⟩⟩;rcases h with ⟨_, e, h⟩ | ⟨_, e, _⟩
 ·cases e; exact h
 ·cases e
variable {R : It -> Hp -> Prop}
theorem znQ : ziZ K (.str x) H R = R (Its x) H := by
 refine propext ⟨fun h => ?_, fun h => .inl ⟨x, rfl, h⟩⟩;rcases h with ⟨_, e, h⟩ | ⟨_, e, _⟩ | ⟨_, e, _⟩
 ·cases e; exact h
 ·cases e
 ·cases e
theorem znR : ziZ K (.ref p) H R = (((∃ xs, SqL K H p xs) /\ R (Itl K p) H) \/ ((∃ xs, SqT K H p xs) /\ R (Itt K p) H)) := by
 refine propext ⟨fun h => ?_, fun h => ?_⟩
 ·rcases h with ⟨_, e, _⟩ | ⟨_, e, h⟩ | ⟨_, e, h⟩
  ·cases e
  ·cases e; exact .inl h
  ·cases e; exact .inr h
 ·rcases h with h | h
  ·exact .inr (.inl ⟨p, rfl, h⟩)
  ·exact .inr (.inr ⟨p, rfl, h⟩)
theorem zms : iAny K te σ H R = te σ H fun x H1 => ziZ K x H1 R := rfl
theorem zmt : zlJ tl σ H R = tl σ H fun vs H1 => ∃ j : Int, vs = [.int j] /\ -(2 ^ 62) <= j /\ j < 2 ^ 62 /\ R (Itr 0 j.toNat) H1 := rfl
theorem zmu {P : Int -> Prop} : (∃ j : Int, [V.int i] = [.int j] /\ P j) = P i := by
 refine propext ⟨fun ⟨_, e, h⟩ => ?_, fun h => ⟨i, rfl, h⟩⟩;cases e; exact h
end
section
variable {K : W.Frag} {H : Hp} {Q : VK} {σ : St} {D : Ends} {ta tb tc te ti to : TE} {i j : Int} {x y : Str} {p q : Addr} {v : V} {T : String} {lo hi : Option Int}
theorem zkE {P : Int -> Int -> Prop} : (∃ i' j', [V.int i, V.int j] = [V.int i', V.int j'] /\ P i' j') = P i j := by
 refine propext ⟨fun ⟨_, _, e, h⟩ => ?_, fun h => ⟨i, j, rfl, h⟩⟩;cases e; exact h
theorem zhS : zey K [.ref p] H Q = ∃ ys, (SqL K H p ys /\ ∀ l, H l = none -> Q (.ref l) (upd H l (.tup ys))) \/ (SqT K H p ys /\ Q (.ref p) H) := by
 refine propext ⟨fun ⟨_, ys, e, h⟩ => ?_, fun ⟨ys, h⟩ => ⟨p, ys, rfl, h⟩⟩;cases e; exact ⟨ys, h⟩
theorem zjf : zfE K [.ref p] H Q = ∃ ys, (SqL K H p ys \/ SqT K H p ys) /\ ∀ l, H l = none -> Q (.ref l) (upd H l (.lst ys)) := by
 refine propext ⟨fun ⟨_, ys, e, h⟩ => ?_, fun ⟨ys, h⟩ => ⟨p, ys, rfl, h⟩⟩;cases e; exact ⟨ys, h⟩
theorem zjg : zfA (.ref p) [v] H Q = ∃ xs, H p = some (.lst xs) /\ xs.length < sizeLine /\ Q .non (upd H p (.lst (xs ++ [v]))) := by
 refine propext ⟨fun ⟨_, xs, _, e1, e2, h⟩ => ?_, fun ⟨xs, h⟩ => ⟨p, xs, v, rfl, rfl, h⟩⟩;cases e1; cases e2; exact ⟨xs, h⟩
theorem zjh : zfB (.ref p) [.ref q] H Q = ∃ xs zs, H p = some (.lst xs) /\ H q = some (.lst zs) /\ xs.length + zs.length <= sizeLine /\ Q .non (upd H p (.lst (xs ++ zs))) := by
 refine propext ⟨fun ⟨_, _, xs, zs, e1, e2, h⟩ => ?_, fun ⟨xs, zs, h⟩ => ⟨p, q, xs, zs, rfl, rfl, h⟩⟩;cases e1; cases e2; exact ⟨xs, zs, h⟩
theorem zmv {Qh : Hp -> Prop} : zlX (.ref p) (.int i) v H Qh = ∃ xs j, H p = some (.lst xs) /\ ixN xs.length i = some j /\ Qh (upd H p (.lst (xs.set j v))) := by
 refine propext ⟨fun ⟨_, xs, _, j, e1, e2, h⟩ => ?_, fun ⟨xs, j, h⟩ => ⟨p, xs, i, j, rfl, rfl, h⟩⟩;cases e1; cases e2; exact ⟨xs, j, h⟩
theorem zmw {t : TSet} {Qs : St -> Hp -> Prop} : gSub to ti t v σ H Qs = to σ H fun o H1 => ti σ H1 fun i H2 => t o i v H2 fun H3 => Qs σ H3 := rfl
theorem zhT : zkB K T [.int i, .ty T] H Q = ∃ b, W.kitOne K (.type "int") (.type T) = some b /\ Q (.bl b) H := by
 refine propext ⟨fun ⟨_, _, b, e, t, h⟩ => ?_, fun ⟨b, h⟩ => ⟨_, _, b, rfl, .int i, h⟩⟩;cases e; cases t; exact ⟨b, h⟩
theorem zhU : zkB K T [.str x, .ty T] H Q = ∃ b, W.kitOne K (.type "str") (.type T) = some b /\ Q (.bl b) H := by
 refine propext ⟨fun ⟨_, _, b, e, t, h⟩ => ?_, fun ⟨b, h⟩ => ⟨_, _, b, rfl, .str x, h⟩⟩;cases e; cases t; exact ⟨b, h⟩
theorem znS : rSlA K (.ref p) lo hi H Q = ∃ xs, (SqL K H p xs /\ ∀ q, H q = none -> Q (.ref q) (upd H q (.lst (cutV xs lo hi)))) \/
  (SqT K H p xs /\ ¬ (HT.sIx xs.length 0 lo = 0 /\ HT.sIx xs.length xs.length hi = xs.length) /\ ∀ q, H q = none -> Q (.ref q) (upd H q (.tup (cutV xs lo hi)))) := by
 refine propext ⟨fun h => ?_, fun ⟨xs, h⟩ => ?_⟩
 ·rcases h with ⟨_, e, _⟩ | ⟨_, xs, e, h⟩ | ⟨_, xs, e, h⟩
  ·cases e
  ·cases e; exact ⟨xs, .inl h⟩
  ·cases e; exact ⟨xs, .inr h⟩
 ·rcases h with h | h
  ·exact .inr (.inl ⟨p, xs, rfl, h⟩)
  ·exact .inr (.inr ⟨p, xs, rfl, h⟩)
theorem zmx : zgQ K (.ref p) (.ref q) H Q = ∃ xs zs, (H p = some (.lst xs) /\ H q = some (.lst zs) /\ xs.length + zs.length <= sizeLine /\ ∀ r, H r = none -> Q (.ref r) (upd H r (.lst (xs ++ zs)))) \/
  (SqT K H p xs /\ SqT K H q zs /\ xs ≠ [] /\ xs.length + zs.length <= sizeLine /\ (zs = [] -> Q (.ref p) H) /\ (zs ≠ [] -> ∀ r, H r = none -> Q (.ref r) (upd H r (.tup (xs ++ zs))))) := by
 refine propext ⟨fun h => ?_, fun ⟨xs, zs, h⟩ => ?_⟩
 ·rcases h with ⟨_, _, e, _⟩ | ⟨_, _, e, _⟩ | ⟨_, _, xs, zs, e1, e2, h⟩ | ⟨_, _, xs, zs, e1, e2, h⟩
  ·cases e
  ·cases e
  ·cases e1; cases e2; exact ⟨xs, zs, .inl h⟩
  ·cases e1; cases e2; exact ⟨xs, zs, .inr h⟩
 ·rcases h with h | h
  ·exact .inr (.inr (.inl ⟨p, q, xs, zs, rfl, rfl, h⟩))
  ·exact .inr (.inr (.inr ⟨p, q, xs, zs, rfl, rfl, h⟩))
end
theorem zaP {X : Cx} : MtR X "list.append" zfA := zhF
theorem zen {X : Cx} : MtR X "list.extend" zfB := zhG
theorem Same.upd {H0 H : Hp} {p : Addr} {o : HO} (s : Same H0 H) (h : H0 p = none) : Same H0 (upd H p o) := fun b u q => by rw [za7 (za8 q h)]; exact s b u q
theorem zbv {H : Hp} {p a : Addr} {o u : HO} (hn : H p = none) (h : H a = some u) : upd H p o a = some u := by rw [za7 (za8 h hn)]; exact h
inductive Bi where | and | or | thn
 deriving DecidableEq
def Bi.txt : Bi -> Str | .and => "and" | .or => "or" | .thn => "then"
def qtx : Bool -> Str | true => "all" | false => "some"
inductive Stm where
 | is (w : Str) (ts : List Str) | fls | neg (A : Stm) | bi (o : Bi) (A B : Stm) | qu (q : Bool) (X : Str) (A : Stm)
 deriving DecidableEq
namespace Stm
def deep : Stm -> Nat
 | .is _ _ => 1 | .fls => 1 | .neg A => A.deep + 1 | .bi _ A B => max A.deep B.deep + 1 | .qu _ _ A => A.deep + 1
def parts : Stm -> List Stm
 | .is _ _ => [] | .fls => [] | .neg A => [A] | .bi _ A B => [A, B] | .qu _ _ A => [A]
def tag : Stm -> Str
 | .is _ _ => "is" | .fls => "false" | .neg _ => "not" | .bi o _ _ => o.txt | .qu q _ _ => qtx q
theorem deep_pos (S : Stm) : 1 <= S.deep := by cases S <;> simp [deep]
end Stm
def smallS : Str := "abcdefghijklmnopqrstuvwxyz"
def greatS : Str := "ABCDEFGHIJKLMNOPQRSTUVWXYZ"
def sofS : Str := "abcdefghijklmnopqrstuvwxyz0123456789"
def keptW : List Str := ["not", "and", "or", "then", "all", "some", "false"]
def Nm (f x : Str) : Prop := ∃ c r, x.cps.toList = c :: r /\ c ∈ f.cps.toList /\ (∀ d ∈ r, d ∈ sofS.cps.toList) /\ r.length <= 7 /\ x ∉ keptW
def Stm.Ok : Stm -> Prop
 | .is w ts => Nm smallS w /\ ts.length <= 3 /\ ∀ t ∈ ts, Nm smallS t \/ Nm greatS t
 | .fls => True
 | .neg A => A.Ok
 | .bi _ A B => A.Ok /\ B.Ok
 | .qu _ X A => Nm greatS X /\ A.Ok
theorem Nm.len {f x : Str} (h : Nm f x) : x.length <= 8 /\ 1 <= x.length := by
 obtain ⟨c, r, e, _, _, h, _⟩ := h;have : x.length = x.cps.toList.length := by simp [Str.length]
 rw [this, e, List.length_cons];omega
def RepS (K : W.Frag) (H : Hp) : Stm -> V -> Prop
 | .is w ts, v => ∃ a b, v = .ref a /\ SqT K H a [.str "is", .str w, .ref b] /\ SqT K H b (ts.map V.str)
 | .fls, v => ∃ a, v = .ref a /\ SqT K H a [.str "false"]
 | .neg A, v => ∃ a u, v = .ref a /\ SqT K H a [.str "not", u] /\ RepS K H A u
 | .bi o A B, v => ∃ a u u', v = .ref a /\ SqT K H a [.str o.txt, u, u'] /\ RepS K H A u /\ RepS K H B u'
 | .qu q X A, v => ∃ a u, v = .ref a /\ SqT K H a [.str (qtx q), .str X, u] /\ RepS K H A u
theorem RepS.same {K : W.Frag} {H H' : Hp} (e : Same H H') : ∀ {S : Stm} {v : V}, RepS K H S v -> RepS K H' S v
 | .is _ _, _, ⟨a, b, h1, h2, h3⟩ => ⟨a, b, h1, e.seqT h2, e.seqT h3⟩
 | .fls, _, ⟨a, h1, h2⟩ => ⟨a, h1, e.seqT h2⟩
 | .neg _, _, ⟨a, u, h1, h2, h3⟩ => ⟨a, u, h1, e.seqT h2, RepS.same e h3⟩
 | .bi _ _ _, _, ⟨a, u, u', h1, h2, h3, h4⟩ => ⟨a, u, u', h1, e.seqT h2, RepS.same e h3, RepS.same e h4⟩
 | .qu _ _ _, _, ⟨a, u, h1, h2, h3⟩ => ⟨a, u, h1, e.seqT h2, RepS.same e h3⟩
theorem RepS.tag {K : W.Frag} {H : Hp} {S : Stm} {v : V} (h : RepS K H S v) : ∃ a xs, v = .ref a /\ SqT K H a (.str S.tag :: xs) := by
 cases S with
 | is w ts => obtain ⟨a, b, h1, h2, _⟩ := h; exact ⟨a, _, h1, h2⟩
 | fls => obtain ⟨a, h1, h2⟩ := h; exact ⟨a, _, h1, h2⟩
 | neg A => obtain ⟨a, u, h1, h2, _⟩ := h; exact ⟨a, _, h1, h2⟩
 | bi o A B => obtain ⟨a, u, u', h1, h2, _⟩ := h; exact ⟨a, _, h1, h2⟩
 | qu q X A => obtain ⟨a, u, h1, h2, _⟩ := h; exact ⟨a, _, h1, h2⟩
abbrev RepL (K : W.Frag) (H : Hp) : List Stm -> List V -> Prop := Paired (RepS K H)
theorem RepL.same {K : W.Frag} {H H' : Hp} (e : Same H H') {Ss : List Stm} {vs : List V} (h : RepL K H Ss vs) : RepL K H' Ss vs := Paired.mapP h fun _ _ => RepS.same e
theorem RepL.get {K : W.Frag} {H : Hp} : ∀ {Ss : List Stm} {vs : List V} {i : Nat} {v : V}, RepL K H Ss vs -> vs[i]? = some v -> ∃ S, Ss[i]? = some S /\ RepS K H S v
 | _, _, _, _, .nil, e => by simp at e
 | _, _, 0, _, .cons r _, e => by simp at e; subst e; exact ⟨_, rfl, r⟩
 | _, _, i + 1, x, .cons _ t, e => by
  obtain ⟨u, h1, h2⟩ := RepL.get (i := i) (v := x) t (by simpa using e);exact ⟨u, by simpa using h1, h2⟩
theorem zbW (x y : Str) : (x ++ y).cps.toList = x.cps.toList ++ y.cps.toList := by
 rw [Str.cps_append]; simp
theorem zch (x : Str) : x.cps.toList.length = x.length := by simp [Str.length]
theorem zji (p q : Int) (a b : Nat) (hp : p = a) (hq : q = b) : sliceRange p q 1 = (List.range (b - a)).map fun k => a + k := by
 subst hp hq;unfold sliceRange;simp only [show (1 : Int) > 0 by decide, if_true]
 by_cases hab : a < b
 ·rw [if_pos (by omega)];have e : (((b : Int) - a + 1 - 1) / 1).toNat = b - a := by omega
  rw [e];refine List.map_congr_left fun k _ => ?_;omega
 ·rw [if_neg (by omega), show b - a = 0 by omega]
  rfl
theorem zjj (lo hi : Option Int) (n : Nat) : Builtin.Str.strSliceIndices lo hi 1 n = (List.range (HT.sIx n n hi - HT.sIx n 0 lo)).map fun k => HT.sIx n 0 lo + k := by
 have cl : ∀ (v : Int) (d : Nat), max 0 (min (if v < 0 then v + (n : Int) else v) (n : Int)) = ((HT.sIx n d (some v) : Nat) : Int) := fun v d => by
  rw [<- HT.clip_eq]; split <;> omega
 refine zji _ _ _ _ ?_ ?_
 ·cases lo with
  | none => rfl
  | some v => exact cl v 0
 ·cases hi with
  | none => rfl
  | some v => exact cl v n
theorem zhV (x : Str) (lo hi : Option Int) : (Txt.slice x lo hi).cps.toList = (x.cps.toList.drop (HT.sIx x.length 0 lo)).take (HT.sIx x.length x.length hi - HT.sIx x.length 0 lo) := by
 have hl := zch x;have ha : HT.sIx x.length 0 lo <= x.length := HT.sIx_le _ 0 (yaq _) lo;have hb : HT.sIx x.length x.length hi <= x.length := HT.sIx_le _ _ (yai _) hi;unfold Txt.slice;rw [zjj];generalize HT.sIx x.length 0 lo = a at *;generalize HT.sIx x.length x.length hi = b at *
 split
 ·rename_i h
  simp at h;have : a = 0 /\ b = x.length \/ x.length = 0 := by omega
  rcases this with ⟨rfl, rfl⟩ | h0
  ·rw [List.drop_zero, Nat.sub_zero, List.take_of_length_le (by omega)]
  ·have : x.cps.toList = [] := List.eq_nil_of_length_eq_zero (by omega);rw [this]; simp
 ·by_cases hab : a <= b
  ·have h := StrLaws.picks x.cps.toList (b - a) a (by rw [hl]; omega);rw [<- h];simp only [List.toList_toArray]
   congr 1
   funext k
   simp
  ·rw [show b - a = 0 by omega]; simp
theorem zgR (x : Str) (n : Nat) : (Txt.slice x (some (n : Int)) none).cps.toList = x.cps.toList.drop n := by
 have hl := zch x;rw [zhV, HT.sIx_nat, HT.sIx_none];rw [List.take_of_length_le (by rw [List.length_drop]; omega)]
 by_cases h : n <= x.length
 ·rw [Nat.min_eq_left h]
 ·rw [List.drop_eq_nil_of_le (by omega), List.drop_eq_nil_of_le (by omega)]
theorem zkF {x : Str} {i : Int} {P : Nat -> Prop} (h : 0 < x.length) (k : ∀ c ∈ x.cps.toList, P c) : ∃ c, atI x.cps.toList (i % (x.length : Int)) = some c /\ P c := by
 have e := zch x;obtain ⟨c, hc', hc⟩ := zja (xs := x.cps.toList) (i := i % (x.length : Int)) (yao _ (by omega)) (by rw [e]; exact yak _ (by omega));exact ⟨c, hc, k c hc'⟩
theorem cdiv {i j : Int} (h : 0 < j := by decide) (h2 : j < 1073741824 := by decide) : CDiv i j := ⟨h, h2⟩
theorem ze2 {i j : Int} (h : -(2 ^ 64) < i /\ i < 2 ^ 64 := by decide) : CMul i j := .inl h
theorem zkG {i j : Int} (h : -(2 ^ 64) < j /\ j < 2 ^ 64 := by decide) : CMul i j := .inr h
theorem zjk {ns : List Int} {i : Int} (h0 : 0 <= i) (h1 : i < (ns.length : Int)) : atI (ns.map V.int) i = some (.int (ns.getD i.toNat 0)) := by
 have hk : i.toNat < ns.length := by omega
 rw [zgp (d := .int 0) h0 (by simpa using h1)];simp [hk]
theorem zjl {ts : List Str} {i : Int} (h0 : 0 <= i) (h1 : i < (ts.length : Int)) : ∃ z, z ∈ ts /\ atI (ts.map V.str) i = some (.str z) := by
 have hk : i.toNat < ts.length := by omega
 refine ⟨ts[i.toNat], List.getElem_mem hk, ?_⟩;rw [zgp (d := .non) h0 (by simpa using h1)];simp [hk]
theorem zmy {n : Nat} {i : Int} (h0 : 0 <= i) (h1 : i < n) : ixN n i = some i.toNat := by
 unfold ixN; rw [if_pos h0, if_pos h1]
theorem zkH (c : Nat) (x : Str) : inS ⟨#[c]⟩ x = decide (c ∈ x.cps.toList) := StrLaws.found_one x c
theorem zdy (x : Str) : ∀ ts : List Str, inV (.str x) (ts.map V.str) = decide (x ∈ ts)
 | [] => by simp [inV]
 | t :: ts => by
  have ih := zdy x ts;unfold inV at ih ⊢;rw [List.map_cons, List.any_cons, ih];have e : eqV (V.str t) (V.str x) = decide (x = t) := by
   show (t == x) = decide (x = t)
   by_cases h : x = t
   ·subst h; simp
   ·have h' : ¬ t = x := fun e => h e.symm;simp [h, h']
  rw [e];simp
theorem zfg (ts : List Str) : (ts.map V.str).all zbC = true := by
 rw [List.all_map, List.all_eq_true]; intro t _; rfl
def zfh (f : Str) (cs : List Nat) : Prop := ∃ c r, cs = c :: r /\ c ∈ f.cps.toList /\ (∀ d ∈ r, d ∈ sofS.cps.toList) /\ r.length <= 7
theorem zhW : ∀ c ∈ smallS.cps.toList, c ∈ sofS.cps.toList := by decide +kernel
theorem zgS : ∀ z ∈ keptW, 1 <= z.length /\ z.length <= 5 /\ ∀ c ∈ z.cps.toList, c ∈ smallS.cps.toList := by decide +kernel
theorem zhX : ∀ y ∈ keptW, y.cps.toList.getLast? ≠ some 48 := by decide +kernel
theorem zgs {f x : Str} {cs : List Nat} (g : zfh f cs) (e : x.cps.toList = cs) (h : x ∉ keptW) : Nm f x := by
 obtain ⟨c, r, rfl, h1, h2, h3⟩ := g;exact ⟨c, r, e, h1, h2, h3, h⟩
theorem zfi {f x y : Str} {cs : List Nat} (g : zfh f cs) (e : x.cps.toList = cs) (h : x ∈ keptW) (ey : y = x ++ "0") : Nm f y := by
 obtain ⟨c, r, rfl, h1, h2, h3⟩ := g;have hl := (zgS x h).2.1;rw [<- zch, e, List.length_cons] at hl;have e2 : y.cps.toList = c :: (r ++ [48]) := by
  rw [ey, zbW, e]; rfl
 refine ⟨c, r ++ [48], e2, h1, fun d hd => ?_, by rw [yae, yas]; omega, fun hy => ?_⟩
 ·rcases yay.mp hd with q | q
  ·exact h2 d q
  ·rw [yah.mp q]; decide +kernel
 ·refine zhX y hy ?_;rw [e2, <- List.cons_append, List.getLast?_concat]
def zkI (K : W.Frag) : Sp := fun vs H Q _ => ∃ v S, vs = [v] /\ RepS K H S v /\ ∀ p us H', Same H H' -> SqT K H' p us -> RepL K H' S.parts us -> Q (.ref p) H'
theorem zci (o : Bi) : inV (.str o.txt) [V.str "all", V.str "some"] = false := by cases o <;> decide +kernel
theorem zdz (q : Bool) : inV (.str (qtx q)) [V.str "all", V.str "some"] = true := by cases q <;> decide +kernel
theorem zgT (o : Bi) : ¬ o.txt = "is" := by cases o <;> decide +kernel
theorem zkJ (o : Bi) : ¬ o.txt = "some" := by cases o <;> decide +kernel
theorem zgU (q : Bool) : ¬ qtx q = "is" := by cases q <;> decide +kernel
section
variable {X : Cx} {K : W.Frag} {H : Hp} {Q : VK} {p q : Addr}
def zmz (K : W.Frag) : V -> List V -> Hp -> VK -> Prop := fun x vs H Q => ∃ (sep : Str) (p : Addr) (ys : List Str), x = .str sep /\ vs = [.ref p] /\ (SqL K H p (ys.map V.str) \/ SqT K H p (ys.map V.str)) /\ (ys.map (·.length)).sum + ys.length * sep.length <= 16777216 /\ Q (.str (Txt.join sep ys)) H
theorem zkK {sep : Str} : zmz K (.str sep) [.ref p] H Q = ∃ ys : List Str, (SqL K H p (ys.map V.str) \/ SqT K H p (ys.map V.str)) /\ (ys.map (·.length)).sum + ys.length * sep.length <= 16777216 /\ Q (.str (Txt.join sep ys)) H := by
 refine propext ⟨fun ⟨_, _, ys, e1, e2, h⟩ => ?_, fun ⟨ys, h⟩ => ⟨sep, p, ys, rfl, rfl, h⟩⟩;cases e1; cases e2; exact ⟨ys, h⟩
end
inductive EqD (K : W.Frag) (H : Hp) : Nat -> V -> V -> Bool -> Prop
 | flat {n : Nat} {x y : V} (hx : zbC x = true) (hy : zbC y = true) : EqD K H n x y (eqV x y)
 | tups {n : Nat} {a b : Addr} {xs ys : List V} (e : Nat -> Bool) (ha : SqT K H a xs) (hb : SqT K H b ys) (he : ∀ (j : Nat) x y, xs[j]? = some x -> ys[j]? = some y -> EqD K H n x y (e j)) :
   EqD K H (n + 1) (.ref a) (.ref b) ((List.range (min xs.length ys.length)).all e && xs.length == ys.length)
 | lsts {n : Nat} {a b : Addr} {xs ys : List V} (e : Nat -> Bool) (ha : SqL K H a xs) (hb : SqL K H b ys) (hl : xs.length = ys.length) (he : ∀ (j : Nat) x y, xs[j]? = some x -> ys[j]? = some y -> EqD K H n x y (e j)) :
   EqD K H (n + 1) (.ref a) (.ref b) ((List.range xs.length).all e)
 | lstsN {n : Nat} {a b : Addr} {xs ys : List V} (ha : SqL K H a xs) (hb : SqL K H b ys) (hl : xs.length ≠ ys.length) : EqD K H (n + 1) (.ref a) (.ref b) false
 | strTup {n : Nat} {a : Addr} {x : Str} {xs : List V} (ha : SqT K H a xs) : EqD K H (n + 1) (.str x) (.ref a) false
 | tupStr {n : Nat} {a : Addr} {x : Str} {xs : List V} (ha : SqT K H a xs) : EqD K H (n + 1) (.ref a) (.str x) false
 | nonTup {n : Nat} {a : Addr} {xs : List V} (ha : SqT K H a xs) : EqD K H (n + 1) .non (.ref a) false
 | tupNon {n : Nat} {a : Addr} {xs : List V} (ha : SqT K H a xs) : EqD K H (n + 1) (.ref a) .non false
section
variable {X : Cx} {Qa : List (Addr × Obj)} {σ : St} {H : Hp} {s : Shared}
theorem zjm {x : V} (h : zbC x = true) : eqV x x = true := by
 cases x <;> simp_all [zbC, eqV]
theorem EqD.self (I : Inv X Qa σ H s) {n : Nat} {x y : V} {b : Bool} (h : EqD X.K H n x y b) : x = y -> b = true := by
 induction h with
 | flat hx hy => rintro rfl; exact zjm hx
 | @tups n a b xs ys e ha hb he ih =>
  intro q;cases q;have := I.tuple_inj ha hb;subst this;rw [Bool.and_eq_true];refine ⟨List.all_eq_true.mpr fun j hj => ?_, by simp⟩;have hj' : j < xs.length := by simpa using hj
  exact ih j xs[j] xs[j] (by simp [hj']) (by simp [hj']) rfl
 | @lsts n a b xs ys e ha hb hl he ih =>
  intro q;cases q;have := I.list_inj ha hb;subst this;refine List.all_eq_true.mpr fun j hj => ?_;have hj' : j < xs.length := by simpa using hj
  exact ih j xs[j] xs[j] (by simp [hj']) (by simp [hj']) rfl
 | lstsN ha hb hl =>
  intro q;cases q;exact absurd (congrArg List.length (I.list_inj ha hb)) hl
 | strTup => intro q; cases q
 | tupStr => intro q; cases q
 | nonTup => intro q; cases q
 | tupNon => intro q; cases q
theorem getD_some {xs : List V} {its : List Value} (r : Vals xs its) {j : Nat} (h : j < its.toArray.size) : ∃ x, xs[j]? = some x /\ RelV x its.toArray[j] := by
 have h' : j < its.length := by simpa using h
 have hx : j < xs.length := by rw [r.length]; exact h'
 obtain ⟨u, e, ru⟩ := r.get (i := j) (x := xs[j]) (by simp [hx]);have : its[j]? = some its[j] := by simp [h']
 rw [this] at e;cases e;exact ⟨xs[j], by simp [hx], by simpa using ru⟩
theorem EqD.at (I : Inv X Qa σ H s) {n : Nat} {x y : V} {b : Bool} (h : EqD X.K H n x y b) : ∀ {A : Around} {u v : Value}, A.units + n < cLine -> RelV x u -> RelV y v ->
  SeqAt.EqAt A s u v b /\ ((zbC x = false \/ zbC y = false) -> SeqAt.RcAt A s u v b) := by
 induction h with
 | flat hx hy =>
  intro A u v _ ru rv;exact ⟨zkb ru rv hx hy, fun e => by rw [hx, hy] at e; simp at e⟩
 | @tups n a b xs ys e ha hb he ih =>
  intro A u v hu ru rv;cases ru; cases rv;obtain ⟨its, r1, p1, _⟩ := I.tuple ha;obtain ⟨its2, r2, p2, _⟩ := I.tuple hb;have l1 : its.toArray.size = xs.length := by rw [yad]; exact r1.length.symm
  have l2 : its2.toArray.size = ys.length := by rw [yad]; exact r2.length.symm
  have rc : SeqAt.RcAt A s (.ref a) (.ref b) ((List.range (min xs.length ys.length)).all e && xs.length == ys.length) := by
   have := SeqAt.RcAt.tuples (A := A) (e := e) p1 p2 (by omega) (fun j h1 h2 => by
    obtain ⟨x, ex, rx⟩ := getD_some r1 h1;obtain ⟨y, ey, ry⟩ := getD_some r2 h2;exact (ih j x y ex ey (A := A.in1) (by show A.units + 1 + n < cLine; omega) rx ry).1)
   rw [l1, l2] at this;exact this
  refine ⟨?_, fun _ => rc⟩
  by_cases hab : a = b
  ·subst hab;have := EqD.self I (.tups e ha hb he) rfl;rw [this];exact SeqAt.EqAt.same _
  ·exact SeqAt.EqAt.of_refs hab rc
 | @lsts n a b xs ys e ha hb hl he ih =>
  intro A u v hu ru rv;cases ru; cases rv;obtain ⟨its, r1, p1, _⟩ := I.list ha;obtain ⟨its2, r2, p2, _⟩ := I.list hb;have l1 : its.toArray.size = xs.length := by rw [yad]; exact r1.length.symm
  have l2 : its2.toArray.size = ys.length := by rw [yad]; exact r2.length.symm
  have rc : SeqAt.RcAt A s (.ref a) (.ref b) ((List.range xs.length).all e) := by
   have := SeqAt.RcAt.lists (A := A) (e := e) p1.isList p2.isList (by omega) (by omega) (fun j h1 h2 => by
    obtain ⟨x, ex, rx⟩ := getD_some r1 h1;obtain ⟨y, ey, ry⟩ := getD_some r2 h2;exact (ih j x y ex ey (A := A.in1) (by show A.units + 1 + n < cLine; omega) rx ry).1)
   rw [l1] at this;exact this
  refine ⟨?_, fun _ => rc⟩
  by_cases hab : a = b
  ·subst hab;have := EqD.self I (.lsts e ha hb hl he) rfl;rw [this];exact SeqAt.EqAt.same _
  ·exact SeqAt.EqAt.of_refs hab rc
 | @lstsN n a b xs ys ha hb hl =>
  intro A u v hu ru rv;cases ru; cases rv;obtain ⟨its, r1, p1, _⟩ := I.list ha;obtain ⟨its2, r2, p2, _⟩ := I.list hb;have l1 : its.toArray.size = xs.length := by rw [yad]; exact r1.length.symm
  have l2 : its2.toArray.size = ys.length := by rw [yad]; exact r2.length.symm
  have rc := SeqAt.RcAt.lists_lengths (A := A) p1.isList p2.isList (by rw [l1, l2]; simpa using hl) (by omega);refine ⟨?_, fun _ => rc⟩
  by_cases hab : a = b
  ·subst hab;exact absurd (congrArg List.length (I.list_inj ha hb)) hl
  ·exact SeqAt.EqAt.of_refs hab rc
 | strTup ha =>
  intro A u v hu ru rv;cases rv; obtain ⟨t, rfl⟩ := ru;obtain ⟨its, r1, p1, _⟩ := I.tuple ha;exact ⟨SeqAt.EqAt.str_tuple _ _ p1 (by omega), fun _ => SeqAt.RcAt.str_tuple _ _ p1 (by omega)⟩
 | tupStr ha =>
  intro A u v hu ru rv;cases ru; obtain ⟨t, rfl⟩ := rv;obtain ⟨its, r1, p1, _⟩ := I.tuple ha;exact ⟨SeqAt.EqAt.tuple_str _ _ p1 (by omega), fun _ => SeqAt.RcAt.tuple_str _ _ p1 (by omega)⟩
 | nonTup ha =>
  intro A u v hu ru rv;cases rv; cases ru;obtain ⟨its, r1, p1, _⟩ := I.tuple ha;exact ⟨SeqAt.EqAt.none_tuple p1 (by omega), fun _ => SeqAt.RcAt.none_tuple p1 (by omega)⟩
 | tupNon ha =>
  intro A u v hu ru rv;cases ru; cases rv;obtain ⟨its, r1, p1, _⟩ := I.tuple ha;exact ⟨SeqAt.EqAt.tuple_none p1 (by omega), fun _ => SeqAt.RcAt.tuple_none p1 (by omega)⟩
end
section
variable {X : Cx} {K : W.Frag} {H : Hp} {Q : VK} {p q : Addr} {i j : Int} {x y : Str}
def rEqD (K : W.Frag) : R2 := fun x y H Q => ∃ d b, d <= 60 /\ (zbC x = false \/ zbC y = false) /\ EqD K H d x y b /\ Q (.bl b) H
theorem zkf (hu : X.A.units + 64 < cLine) : OpR X (compareOp .Eq) (rEqD X.K) := by
 intro Qa s σ H x y v u Q I rx ry h;obtain ⟨d, b, hd, e, h, k⟩ := h;exact (h.at I (A := X.A) (by omega) rx ry).2 e X.prog X.w X.xe _ ⟨.bl b, H, I, rfl, k⟩
def rEqB (K : W.Frag) : R2 := fun x y H Q => rEq x y H Q \/ rEqD K x y H Q
theorem za9 (K : W.Frag) (hu : X.A.units + 64 < cLine) (hK : X.K = K := by rfl) : OpR X (compareOp .Eq) (rEqB K) := hK ▸ (OpR.or zlN (zkf hu) : OpR X (compareOp .Eq) (rEqB X.K))
theorem zm0 : rEqB K (.int i) (.int j) H Q = Q (.bl (decide (i = j))) H := by
 refine propext ⟨fun h => ?_, fun h => .inl ⟨rfl, by simpa using h⟩⟩;rcases h with ⟨_, h⟩ | ⟨_, _, _, e, _⟩
 ·simpa using h
 ·rcases e with e | e <;> cases e
theorem zhY : rEqB K (.str x) (.str y) H Q = Q (.bl (decide (x = y))) H := by
 refine propext ⟨fun h => ?_, fun h => .inl ⟨rfl, by simpa using h⟩⟩;rcases h with ⟨_, h⟩ | ⟨_, _, _, e, _⟩
 ·simpa using h
 ·rcases e with e | e <;> cases e
theorem zm1 {u : V} : rEqB K (.ref p) u H Q = ∃ d b, d <= 60 /\ EqD K H d (.ref p) u b /\ Q (.bl b) H := by
 refine propext ⟨fun h => ?_, fun ⟨d, b, hd, h, k⟩ => .inr ⟨d, b, hd, .inl rfl, h, k⟩⟩;rcases h with ⟨e, _⟩ | ⟨d, b, hd, _, h, k⟩
 ·cases u <;> cases e
 ·exact ⟨d, b, hd, h, k⟩
theorem zm2 {u : V} : rEqB K u (.ref p) H Q = ∃ d b, d <= 60 /\ EqD K H d u (.ref p) b /\ Q (.bl b) H := by
 refine propext ⟨fun h => ?_, fun ⟨d, b, hd, h, k⟩ => .inr ⟨d, b, hd, .inr rfl, h, k⟩⟩;rcases h with ⟨e, _⟩ | ⟨d, b, hd, _, h, k⟩
 ·cases u <;> cases e
 ·exact ⟨d, b, hd, h, k⟩
inductive TyB (K : W.Frag) (H : Hp) : V -> Value -> Prop where
 | of {x : V} {t : Value} (h : TyOf K H x t) : TyB K H x t
 | tup {a : Addr} {xs : List V} (h : SqT K H a xs) : TyB K H (.ref a) (.type "tuple")
 | lst {a : Addr} {xs : List V} (h : SqL K H a xs) : TyB K H (.ref a) (.type "list")
def zdl (K : W.Frag) (T : String) : List V -> Hp -> VK -> Prop := fun vs H Q => ∃ x t b, vs = [x, .ty T] /\ TyB K H x t /\ W.kitOne K t (.type T) = some b /\ Q (.bl b) H
theorem call_instB {T : String} : zbE X (.builtin "isinstance") (zdl X.K T) := by
 intro Qa s σ H xs us Q I r h;obtain ⟨x, t, b, rfl, ty, e, q⟩ := h;cases ty with
 | of ty => exact zhM Qa s σ H _ us Q I r ⟨x, t, b, rfl, ty, e, q⟩
 | tup hq =>
  obtain ⟨u, u2, rfl, rx, r2⟩ := zh2 r;cases (show u2 = Value.type T from r2);cases rx;obtain ⟨its, _, ⟨o, h1, h2, _⟩, _⟩ := I.tuple hq;exact W.kia_one W.kitx_tuple I.kIn ⟨o, h1, h2⟩ e (fun z => nomatch z) fun tk => ⟨.bl b, H, I.tok tk, rfl, q⟩
 | lst hq =>
  obtain ⟨u, u2, rfl, rx, r2⟩ := zh2 r;cases (show u2 = Value.type T from r2);cases rx;obtain ⟨its, _, pl, _⟩ := I.list hq;obtain ⟨o, h1, h2, _⟩ := pl.isList;exact W.kia_one W.kitx_list I.kIn ⟨o, h1, h2⟩ e (fun z => nomatch z) fun tk => ⟨.bl b, H, I.tok tk, rfl, q⟩
theorem zbb (K : W.Frag) (T : String) (hK : X.K = K := by rfl) : zbE X (.builtin "isinstance") (zdl K T) := hK ▸ (call_instB : zbE X (.builtin "isinstance") (zdl X.K T))
theorem zgV {T : String} : zdl K T [.int i, .ty T] H Q = ∃ b, W.kitOne K (.type "int") (.type T) = some b /\ Q (.bl b) H := by
 refine propext ⟨fun ⟨_, _, b, e, t, h⟩ => ?_, fun ⟨b, h⟩ => ⟨_, _, b, rfl, .of (.int i), h⟩⟩;cases e;rcases t with t | t | t
 cases t; exact ⟨b, h⟩
theorem zgW {T : String} : zdl K T [.str x, .ty T] H Q = ∃ b, W.kitOne K (.type "str") (.type T) = some b /\ Q (.bl b) H := by
 refine propext ⟨fun ⟨_, _, b, e, t, h⟩ => ?_, fun ⟨b, h⟩ => ⟨_, _, b, rfl, .of (.str x), h⟩⟩;cases e;rcases t with t | t | t
 cases t; exact ⟨b, h⟩
theorem zjn {T : String} : zdl K T [.ref p, .ty T] H Q = ∃ t b, TyB K H (.ref p) t /\ W.kitOne K t (.type T) = some b /\ Q (.bl b) H := by
 refine propext ⟨fun ⟨_, t, b, e, ty, h⟩ => ?_, fun ⟨t, b, ty, h⟩ => ⟨_, t, b, rfl, ty, h⟩⟩;cases e; exact ⟨t, b, ty, h⟩
end
def Stm.txt : Stm -> Str
 | .is w ts => if ts.length = 0 then w else w ++ "(" ++ Txt.join ", " ts ++ ")"
 | .fls => "false"
 | .neg A => "not " ++ A.txt
 | .bi o A B => "(" ++ A.txt ++ " " ++ o.txt ++ " " ++ B.txt ++ ")"
 | .qu q X A => qtx q ++ " " ++ X ++ " " ++ A.txt
def Stm.put (x n : Str) : Stm -> Stm
 | .is w ts => .is w (ts.map fun t => if t = x then n else t)
 | .fls => .fls
 | .neg A => .neg (A.put x n)
 | .bi o A B => .bi o (A.put x n) (B.put x n)
 | .qu q X A => if X = x then .qu q X A else .qu q X (A.put x n)
def zm3 (K : W.Frag) (d : Nat) : Sp := fun vs H Q _ => ∃ v S x n, vs = [v, .str x, .str n] /\ RepS K H S v /\ S.deep <= d /\ S.Ok /\ ∀ u H', Same H H' -> RepS K H' (S.put x n) u -> Q u H'
theorem Stm.put_deep (x n : Str) : ∀ S : Stm, (S.put x n).deep = S.deep
 | .is w ts => rfl
 | .fls => rfl
 | .neg A => by simp only [Stm.put, Stm.deep, Stm.put_deep x n A]
 | .bi o A B => by simp only [Stm.put, Stm.deep, Stm.put_deep x n A, Stm.put_deep x n B]
 | .qu q X A => by
  simp only [Stm.put]
  split
  ·rfl
  ·simp only [Stm.deep, Stm.put_deep x n A]
section
variable {t : SetTable} {es : Array (Int × Value)} {h : Int} {x : Value} {n : Nat}
theorem ze3 : (t.orStandIn n).led = t.led := by unfold SetTable.orStandIn; split <;> rfl
theorem zdE (p : t.plain = false) : (t.orStandIn n).plain = false := by unfold SetTable.orStandIn; split; exact p; rfl
theorem zgX : (layNew t es h x).2.1.led = t.led := by
 unfold layNew
 split
 ·exact ze3
 ·rfl
theorem zfj (p : t.plain = false) : (layNew t es h x).2.1.plain = false := by
 unfold layNew
 split
 ·exact zdE p
 ·rfl
theorem zdm {hs : Array Int} {wanted : Nat} {t' : SetTable} {order : Array Nat} (e : t.relaid hs wanted = some (t', order)) : t'.led = t.led /\ t'.plain = t.plain := by
 unfold SetTable.relaid SetTable.laid at e;cases q : SetTable.layClean (SetTable.sizeAbove wanted - 1) hs with
 | none => rw [q] at e; cases e
 | some owner => rw [q] at e; cases e; exact ⟨rfl, rfl⟩
theorem zfk {wanted : Nat} : (relayAll t es wanted).2.1.led = t.led := by
 unfold relayAll
 split
 ·rename_i t' order e
  dsimp only
  split
  ·exact (zdm e).1
  ·rfl
 ·rfl
theorem zdW {wanted : Nat} (p : t.plain = false) : (relayAll t es wanted).2.1.plain = false := by
 unfold relayAll
 split
 ·rename_i t' order e
  dsimp only
  split
  ·exact (zdm e).2.trans p
  ·rfl
 ·rfl
end
def svT : Value -> Str
 | .str x _ => x
 | _ => ""
def zbH (es : Array (Int × Value)) : List Str := es.toList.map fun e => svT e.2
def zdn (w : World) : Bool := w.params.followText "set-order"
def SetS (prog : Program) (w : World) (h : Heap) (a : Addr) (us : List Str) : Prop :=
 ∃ o es ep tb, h.get? a = some o /\ o.ExactSet /\ o.data = .set es ep tb /\ ElemsOf (PySem.strKind prog w) es.toList /\ zbH es = us /\ us.Nodup /\ es.size < scanBound /\ tb.fits es.size = true /\ tb.led = !zdn w /\ (us ≠ [] -> tb.plain = false)
theorem zkg {prog : Program} {w : World} {x : Str} {v : Value} (e : (PySem.strKind prog w).is x v = true) : svT v = x := by
 obtain ⟨t, rfl⟩ := Value.isStrOf_shape e
 rfl
theorem zkh {prog : Program} {w : World} (x : Str) (t : Tok) : (PySem.strKind prog w).is x (.str x t) = true := zeQ x t
theorem SetS.at {prog : Program} {w : World} {h h' : Heap} {a : Addr} {us : List Str} (s : SetS prog w h a us) (k : ∀ o, h.get? a = some o -> h'.get? a = some o) : SetS prog w h' a us := by
 obtain ⟨o, es, ep, tb, ho, r⟩ := s;exact ⟨o, es, ep, tb, k o ho, r⟩
theorem zcN {prog : Program} {w : World} {x : Str} : ∀ {l : List (Int × Value)}, ElemsOf (PySem.strKind prog w) l -> ((∃ e ∈ l, (PySem.strKind prog w).is x e.2 = true) ↔ x ∈ l.map fun e => svT e.2) := by
 intro l hl
 constructor
 ·rintro ⟨e, he, q⟩
  rw [ya6];exact ⟨e, he, zkg q⟩
 ·intro hx;obtain ⟨e, he, q⟩ := ya6.mp hx;obtain ⟨⟨k, hk, _⟩, _⟩ := hl e he;have := zkg hk;rw [q] at this;subst this;exact ⟨e, he, hk⟩
section
variable {prog : Program} {w : World} {A : Around} {E : Value -> Shared -> Prop} {s : Shared}
theorem SetS.stored {hp : Heap} {a : Addr} {o : Obj} {es es1 : Array (Int × Value)} {ep : Nat} {t t1 : SetTable} (ho : hp.get? a = some o) (hx : o.ExactSet) (hd : o.data = .set es ep t)
  (hel : ElemsOf (PySem.strKind prog w) es1.toList) (nd : (zbH es1).Nodup) (hb : es1.size < scanBound) (hf : t1.fits es1.size = true) (hl : t1.led = !zdn w) (hp1 : t1.plain = false) :
  SetS prog w (hp.update a (Obj.putSet es1 t1)) a (zbH es1) /\ (hp.update a (Obj.putSet es1 t1)).get? a = some { o with data := .set es1 (ep + 1) t1 } := by
 have g := (SetOf_store (knd := PySem.strKind prog w) (S' := fun k => decide (∃ e ∈ es1.toList, (PySem.strKind prog w).is k e.2 = true)) ho hx hd hel (fun k => by rw [decide_eq_true_eq]) hb hf).1;exact ⟨⟨_, es1, ep + 1, t1, g, hx, rfl, hel, rfl, nd, hb, hf, hl, fun _ => hp1⟩, g⟩
theorem zgY {es es1 : Array (Int × Value)} (p : List.Perm es1.toList es.toList) : List.Perm (zbH es1) (zbH es) := p.map _
theorem zfF {a : Addr} {us : List Str} {x : Str} {tk : Tok} {Q : Bool -> Shared -> Prop} (hS : SetS prog w s.heap a us) (hroom : us.length + 1 < scanBound)
  (yes : x ∈ us -> Q false s) (no : x ∉ us -> ∀ hp us', Heap.SameBut a s.heap hp -> List.Perm us' (us ++ [x]) -> SetS prog w hp a us' -> Q true { s with heap := hp }) :
  wpAny (model prog w) A (setAddHashed a (.str x tk) ((PySem.strKind prog w).hash x)) Q E s := by
 obtain ⟨o, es, ep, tb, ho, hex, hd, hel, hus, nd, hb, hf, hl, hpl⟩ := hS;have hkey : (PySem.strKind prog w).is x (.str x tk) = true := zkh x tk;have hsc : (Value.str x tk).scannable = true := rfl;have Qe : us.length = es.size := by rw [<- hus]; simp [zbH]
 unfold setAddHashed setAddHashedIn;refine wpAny_holding (yaa (wpAny_setState_of ho hd hf ?_));dsimp only;rw [byScan_of hsc hb hel, if_pos rfl];unfold setAddByScan;refine yaa (yaa (wpAny_rule (yaa (wpAny_setScan_of hkey ho hd hf hel ?_))));cases hr : List.findIdx? (fun e => (PySem.strKind prog w).is x e.2) es.toList with
 | some j =>
  dsimp only;obtain ⟨hj, q, _⟩ := List.findIdx?_eq_some_iff_getElem.mp hr;have hm : x ∈ us := by rw [<- hus]; exact (zcN hel).mp ⟨_, List.getElem_mem hj, q⟩
  exact yab (yab (yes hm))
 | none =>
  dsimp only;have hm : x ∉ us := fun hm => by
   rw [<- hus] at hm;obtain ⟨e, he, q⟩ := (zcN hel).mpr hm;have z := List.findIdx?_eq_none_iff.mp hr e he;rw [q] at z;cases z
  have gw : ∀ (b : Bool) {s₁ : Shared} {Q' : Unit -> Shared -> Prop}, Q' () s₁ -> wpAny (model prog w) A (match b with | true => rule "set.scan.the-table-gave-way" | false => pure ()) Q' E s₁ := fun b s₁ Q' hq => by
   cases b
   ·exact yab hq
   ·exact wpAny_rule hq
  have p1 := layNew_perm tb es ((PySem.strKind prog w).hash x) (.str x tk);have f1 := layNew_fits tb es ((PySem.strKind prog w).hash x) (.str x tk);have l1' := zgX (t := tb) (es := es) (h := (PySem.strKind prog w).hash x) (x := .str x tk);have g1 := zfj (t := tb) (es := es) (h := (PySem.strKind prog w).hash x) (x := .str x tk);generalize layNew tb es ((PySem.strKind prog w).hash x) (.str x tk) = L at p1 f1 l1' g1 ⊢;obtain ⟨es1, t1, wd, gave⟩ := L;dsimp only at p1 f1 l1' g1 ⊢;rw [Array.toList_push] at p1;have el1 : ElemsOf (PySem.strKind prog w) es1.toList := (hel.push hkey hsc).perm p1;have pu : List.Perm (zbH es1) (us ++ [x]) := by
   have := p1.map fun e => svT e.2;rw [ya0, List.map_singleton] at this;rw [<- hus];exact this
  have nd1 : (zbH es1).Nodup := pu.nodup_iff.mpr (List.nodup_append.mpr ⟨nd, by simp, fun y hy z hz => by
   rw [yah] at hz;subst hz;exact fun e => hm (e ▸ hy)⟩)
  have sz1 : es1.size = es.size + 1 := by rw [<- Array.length_toList, p1.length_eq, yae, Array.length_toList]; rfl
  have b1 : es1.size < scanBound := by omega
  refine yaa (gw _ ?_);have go : ∀ t2 : SetTable, t2.fits es1.size = true -> t2.led = !zdn w -> t2.plain = false -> wpAny (model prog w) A (do
    storeSet a es1 t2
    if (!wd && t2.tooFull) = true then do
      (match (relayAll t2 es1 (SetTable.grown es1.size)).2.2 with | true => rule "set.scan.the-table-gave-way" | false => pure ())
      storeSet a (relayAll t2 es1 (SetTable.grown es1.size)).1 (relayAll t2 es1 (SetTable.grown es1.size)).2.1
      pure (some true)
     else pure (some true)) (fun r s' => r = some true /\ Q true s') E s := fun t2 f2 l2' g2 => by
   refine yaa (wpAny_storeSet_of ho hd ?_ (fits_of_scanBound b1));obtain ⟨S1, o1⟩ := SetS.stored (prog := prog) (w := w) ho hex hd el1 nd1 b1 f2 l2' g2;have sb1 := Heap.SameBut.update s.heap a (Obj.putSet es1 t2)
   split
   ·have p3 := relayAll_perm t2 es1 (SetTable.grown es1.size);have f3 := relayAll_fits t2 es1 (SetTable.grown es1.size);have l3 := zfk (t := t2) (es := es1) (wanted := SetTable.grown es1.size);have g3 := zdW (t := t2) (es := es1) (wanted := SetTable.grown es1.size) g2;generalize relayAll t2 es1 (SetTable.grown es1.size) = R3 at p3 f3 l3 g3 ⊢;obtain ⟨es2, t3, gave2⟩ := R3;dsimp only at p3 f3 l3 g3 ⊢;have sz2 : es2.size = es1.size := by rw [<- Array.length_toList, p3.length_eq, Array.length_toList]
    have p4 := zgY p3;refine yaa (gw _ (yaa (wpAny_storeSet_of o1 rfl ?_ (fits_of_scanBound (by omega)))));obtain ⟨S2, _⟩ := SetS.stored (prog := prog) (w := w) o1 hex rfl (el1.perm p3) (p4.nodup_iff.mpr nd1) (by omega) f3 (l3.trans l2') g3;exact yab ⟨rfl, no hm _ _ (sb1.trans (Heap.SameBut.update _ a _)) (p4.trans pu) S2⟩
   ·exact yab ⟨rfl, no hm _ _ sb1 pu S1⟩
  split
  ·refine yaa ?_;rw [hashByValue_scannable 8 hsc];refine yab (wpAny_mono (go _ (SetTable.fits_plain_off f1) (l1'.trans hl) rfl) (fun r s' h => ?_) fun _ _ h => h);obtain ⟨rfl, h⟩ := h;exact yab h
  ·rename_i hq
   refine yaa (yab ?_);rw [if_pos rfl];refine wpAny_mono (go _ f1 (l1'.trans hl) (by simpa using hq)) (fun r s' h => ?_) fun _ _ h => h;obtain ⟨rfl, h⟩ := h;exact yab h
end
section
variable {prog : Program} {w : World} {A : Around} {E : Value -> Shared -> Prop} {s : Shared}
abbrev zb2 (w : World) : Obj := { cls := .type "set", dict := none, data := .set #[] 0 (.fresh 0 0 (!zdn w)) }
theorem zfG {hp : Heap} {a : Addr} (e : hp.get? a = some (zb2 w)) : SetS prog w hp a [] :=
 ⟨_, #[], 0, _, e, ⟨rfl, rfl, rfl⟩, rfl, fun x hx => by simp at hx, rfl, List.nodup_nil, by decide, by rfl, rfl, fun z => absurd rfl z⟩
theorem zfH (x : Value) {Q : Value -> Shared -> Prop} (h : Q (.ref s.heap.objs.size) { s with heap := s.heap.push (zb2 w) }) :
  codeAny (model prog w) A (.call (.builtin "set.__new__") ⟨[.type "set", x], []⟩) (wants Q E) s := by
 apply codeAny_of_tree;show wpAny _ A.in1 (checkBuiltinCall "set.__new__" ⟨[.type "set", x], []⟩ >>= fun _ => again (.builtin "set.__new__" ⟨[.type "set", x], []⟩)) _ _ s;apply yaa;apply wpAny_of_eq (PySem.F.newCall_set_1 x);refine yab ⟨plainId_quiet PySem.F.plain_set_new _, codeAny_builtin PySem.F.entry_set_new ?_⟩;rw [show A.under (.builtin "set.__new__" ⟨[.type "set", x], []⟩) = A.in1 from Around.under_plainId PySem.F.plain_set_new _];unfold Builtin.«set.__new__»; unfold Builtin.Frozenset.newClass;have sub := PySem.F.called_set.sub;obtain ⟨hp, g, d, tk, os⟩ := s;dsimp only; wp_walk;apply wpAny_askSetting; apply yab;dsimp only; simp only [newObj];exact yaa (wpAny_alloc (yab (yab h)))
end
section
variable {prog : Program} {w : World} {A : Around} {R : Result -> Shared -> Prop} {I : Addr} {fp wr : List Addr} {G : Array GenState -> Array GenState -> Prop} {n : Nat} {P : Nat -> Value -> Prop} {St : Nat -> Shared -> Prop}
theorem zjo (W : WalksS prog w A.in1 I fp wr G n P St) {S : Addr} (hSf : S ∉ fp) (val : Nat -> Str) (hval : ∀ i v, P i v -> ∃ t, v = .str (val i) t) (hb : n + 1 < scanBound) :
  ∀ (k i : Nat) (s : Shared) (us : List Str), n - i = k -> i <= n -> St i s -> SetS prog w s.heap S us -> us.length <= i -> (∀ x, x ∈ us ↔ ∃ j, j < i /\ val j = x) ->
   (∀ s' us', Moved (S :: wr) G s s' -> SetS prog w s'.heap S us' -> us'.length <= n -> (∀ x, x ∈ us' ↔ ∃ j, j < n /\ val j = x) -> R (.ok (.ret .none)) s') ->
   codeAny (model prog w) A (.builtin "set.update.loop" ⟨[.ref S, .ref I], []⟩) R s := by
 have hSw : S ∉ wr := fun q => hSf (W.sub _ q);have sub : ∀ b ∈ wr, b ∈ S :: wr := fun b q => List.mem_cons_of_mem _ q;intro k
 induction k with
 | zero =>
  intro i s us hk hi st hS Qe hmem hR;obtain rfl : i = n := by omega
  apply codeAny_builtin PyProof.Rows.F.entry_set_update_loop;rw [Around.under_plainId PyProof.Rows.F.plain_set_update_loop _];show wpAny _ A.in1 (pyNext (.ref I) >>= _) _ _ s;apply yaa;refine W.done s _ _ st fun s' hm => ?_;show wpAny _ A.in1 (ret Value.none) _ _ s';exact yab (hR s' us (hm.mono sub) (hS.at fun o ho => hm.heap S o hSw ho) Qe hmem)
 | succ k ih =>
  intro i s us hk hi st hS Qe hmem hR;have hlt : i < n := by omega
  apply codeAny_builtin PyProof.Rows.F.entry_set_update_loop;rw [Around.under_plainId PyProof.Rows.F.plain_set_update_loop _];show wpAny _ A.in1 (pyNext (.ref I) >>= _) _ _ s;apply yaa;refine W.item i s _ _ hlt st fun v s' hP st' hm => ?_;obtain ⟨t, rfl⟩ := hval i v hP;have hS' : SetS prog w s'.heap S us := hS.at fun o ho => hm.heap S o hSw ho;show wpAny _ A.in1 (holding [Value.str (val i) t] (setAdd S (.str (val i) t)) >>= _) _ _ s';apply yaa; apply wpAny_holding;unfold setAdd;apply wpAny_holding; apply yaa;refine (PySem.strKind prog w).pyHash (k := val i) (zkh _ _) ?_;have step : ∀ (hp : Heap) (us' : List Str), Heap.SameBut S s'.heap hp -> SetS prog w hp S us' -> us'.length <= i + 1 -> (∀ x, x ∈ us' ↔ ∃ j, j < i + 1 /\ val j = x) ->
    wpAny (model prog w) A.in1 (again (.builtin "set.update.loop" ⟨[.ref S, .ref I], []⟩)) (fun fin s₂ => match fin with | .done f => R (.ok f) s₂ | .again c => c.quiet = true /\ codeAny (model prog w) A c R s₂) (fun e s₂ => R (.error e) s₂) { s' with heap := hp, toks := s'.toks + 1 } := fun hp us' sb S2 l2 m2 => by
   refine yab ⟨plainId_quiet PyProof.Rows.F.plain_set_update_loop _, ih (i + 1) _ us' (by omega) hlt (W.frame _ s' _ _ st' (Nat.le_succ _) fun b q o e => ?_) S2 l2 m2 fun s'' us2 hm2 S3 l3 m3 => ?_⟩
   ·exact (sb.2 b fun z : b = S => hSf (z ▸ q)).trans e
   ·exact hR s'' us2 (Moved.trans W.gtrans ((hm.mono sub).then_heap (Nat.le_succ _) fun b o q e => (sb.2 b fun z : b = S => q (z ▸ List.mem_cons_self)).trans e) hm2) S3 l3 m3
  refine zfF (s := { s' with toks := s'.toks + 1 }) hS' (by omega) (fun hx => ?_) fun hx hp us' sb pu S2 => ?_
  ·exact step s'.heap us (Heap.SameBut.refl S s'.heap) hS' (by omega) fun x => by
    rw [hmem]
    constructor
    ·rintro ⟨j, hj, e⟩; exact ⟨j, by omega, e⟩
    ·rintro ⟨j, hj, e⟩
     by_cases q : j = i
     ·subst q; exact (hmem x).mp (e ▸ hx)
     ·exact ⟨j, by omega, e⟩
  ·refine step hp us' sb S2 (by rw [pu.length_eq, yae]; simp; omega) fun x => ?_;rw [pu.mem_iff, yay, hmem, yah]
   constructor
   ·rintro (⟨j, hj, e⟩ | rfl)
    ·exact ⟨j, by omega, e⟩
    ·exact ⟨i, by omega, rfl⟩
   ·rintro ⟨j, hj, e⟩
    by_cases q : j = i
    ·subst q; exact .inr e.symm
    ·exact .inl ⟨j, by omega, e⟩
end
section
variable {prog : Program} {w : World} {A : Around} {E : Value -> Shared -> Prop} {s : Shared}
theorem zhZ : ∀ {vs : List Value} {ts : List Str}, StrsAre vs ts -> ∀ (i : Nat) (v : Value), vs[i]? = some v -> ∃ t, v = .str (ts.getD i "") t
 | _, _, .nil, i, v, h => by simp at h
 | _, _, .cons x t r, 0, v, h => by simp at h; exact ⟨t, h ▸ rfl⟩
 | _, _, .cons x t r, i + 1, v, h => by
  obtain ⟨t', e⟩ := zhZ r i v (by simpa using h);exact ⟨t', by rw [e]; rfl⟩
def zia (prog : Program) (w : World) (s : Shared) (ts : List Str) (s' : Shared) : Prop :=
 ∃ hp tk us, s' = { s with heap := hp, toks := tk } /\ SetS prog w hp s.heap.objs.size us /\ us.length <= ts.length /\ (∀ x, x ∈ us ↔ x ∈ ts) /\ ∀ b o, b < s.heap.objs.size -> s.heap.get? b = some o -> hp.get? b = some o
theorem zjp {ts : List Str} {x : Str} : (∃ j, j < ts.length /\ ts.getD j "" = x) ↔ x ∈ ts := by
 constructor
 ·rintro ⟨j, hj, e⟩
  rw [<- e, List.getD_eq_getElem?_getD, yal hj];exact List.getElem_mem hj
 ·intro hx;obtain ⟨j, hj, e⟩ := List.mem_iff_getElem.mp hx;exact ⟨j, hj, by rw [List.getD_eq_getElem?_getD, yal hj]; exact e⟩
set_option maxHeartbeats 8000000 in
theorem ze4 {l : Addr} {items : Array Value} {ts : List Str} {Q : Value -> Shared -> Prop} (hh : A.handled = none) (hl : s.heap.IsList l items) (hi : StrsAre items.toList ts) (hb : items.size + 1 < scanBound)
  (h : ∀ s', zia prog w s ts s' -> Q (.ref s.heap.objs.size) s') : wpAny (model prog w) A (call (.type "set") [.ref l]) Q E s := by
 have Qe : ts.length = items.size := by have := hi.length; simpa using this.symm
 obtain ⟨c, tl, hmro⟩ := PySem.F.called_set.mro;have made := PySem.F.called_set.made;have sub := PySem.F.called_set.sub;apply wpAny_call; apply codeAny_of_tree;show wpAny _ _ (callAny (.type "set") _) _ _ _;apply yab; refine ⟨Code.quiet_builtin _ (by decide +kernel), codeAny_builtin PySem.F.entry_type_call ?_⟩;rw [show A.under (.builtin "type.__call__" ⟨.type "set" :: [.ref l], []⟩) = A.in1 from Around.under_plain (weight_type_call_type "set" [.ref l] []) rfl];have q1 := PySem.F.called_set.notType;have q2 := PySem.F.called_set.canCreate;have q3 := PySem.F.typeCall_set_1 (.ref l)
 repeat (any_goals (first | assumption | wp_step))
 refine codeAny_mono (zfH (.ref l) (E := E) (Q := fun obj s₁ => obj = .ref s.heap.objs.size /\ s₁ = { s with heap := s.heap.push (zb2 w) }) ⟨rfl, rfl⟩) fun r s₁ hr => ?_;cases r with
 | error e => exact hr
 | ok fl =>
  cases fl with
  | ret obj =>
   obtain ⟨rfl, rfl⟩ := hr;have hS : (s.heap.push (zb2 w)).get? s.heap.objs.size = some (zb2 w) := yaj _ rfl;have hT : Shared.TypeIs { s with heap := s.heap.push (zb2 w) } (.ref s.heap.objs.size) "set" := ⟨_, hS, rfl⟩
   have li := PySem.F.called_set.init.lookup;have bi := PySem.F.called_set.init.bind (.ref s.heap.objs.size)
   repeat (any_goals (first | assumption | wp_step))
   refine codeAny_mono (codeAny_call_builtin (R := wants (fun r s₂ => r = .none /\ zia prog w s ts s₂) E) PySem.F.called_set.init.plain PySem.F.entry_set_init (check_set_init_1 hT ?_)) fun r₂ s₂ hr₂ => ?_
   ·obtain ⟨⟨oc, od, odt, osl⟩, hol, hcl, nl, hdl⟩ := hl;simp only at hcl hdl;subst hcl; subst hdl;have hol' : (s.heap.push (zb2 w)).get? l = some { cls := .type "list", dict := od, data := .seq items nl, slots := osl } := yac _ hol;have z1 := PySem.F.sub_list_set;have z2 := PySem.F.sub_list_frozenset;have z3 : (Value.type "list" == Value.type "dict") = false := by decide
    have isl : (s.heap.push (zb2 w)).IsList l items := ⟨_, hol', rfl, nl, rfl⟩
    unfold Builtin.«set.__init__» noKeywords Builtin.Frozenset.updateFrom;generalize hPI : pyIter = PI
    wp_walk
    subst hPI;refine wpAny_pyIter_list isl (yaa (wpAny_runValue ?_));have hlS : l < s.heap.objs.size := yan hol;have a3 : A.in1.in1.in1.handled = none := by simp [hh]
    have sz : (s.heap.push (zb2 w)).objs.size = s.heap.objs.size + 1 := Heap.size_push ..;have nI : l ≠ (s.heap.push (zb2 w)).objs.size := Nat.ne_of_lt (by rw [sz]; exact Nat.lt_succ_of_lt hlS);have nf : s.heap.objs.size ∉ [(s.heap.push (zb2 w)).objs.size, l] := by
     simp only [List.mem_cons, List.not_mem_nil, or_false, not_or];exact ⟨Nat.ne_of_lt (by rw [sz]; exact Nat.lt_succ_self _), Nat.ne_of_gt hlS⟩
    have hv : ∀ (i : Nat) (v : Value), items[i]? = some v -> ∃ t, v = .str ((fun i => ts.getD i "") i) t := fun i v e => zhZ hi i v (by rw [Array.getElem?_toList]; exact e);refine zjo ((Walks.list a3 _ l nI items).toS) nf (fun i => ts.getD i "") hv hb (items.size - 0) 0 _ [] (by omega) (yaq _)
     ⟨⟨_, yaj _ rfl, rfl, rfl⟩, isl.push _⟩ (zfG (yac _ hS)) (yaq _) (fun x => by simp) fun s' us' hm S' l' m' => ?_
    obtain ⟨hp, g', d', tk', os'⟩ := s';obtain rfl : g' = s.gens := hm.gens;obtain rfl : d' = s.drawn := hm.drawn;obtain rfl : os' = s.os := hm.os;show wpAny _ _ _ _ _ _;apply yab;show wpAny _ _ (ret Value.none) _ _ _;refine yab ⟨rfl, hp, tk', us', rfl, S', by omega, fun x => (m' x).trans ?_, fun b o hb' e => ?_⟩
    ·rw [<- Qe]; exact zjp
    ·refine hm.heap b o ?_ (yac _ (yac _ e));simp only [List.mem_cons, List.not_mem_nil, or_false, not_or];exact ⟨Nat.ne_of_lt hb', Nat.ne_of_lt (by rw [sz]; exact Nat.lt_succ_of_lt hb')⟩
   ·cases r₂ with
    | error e => exact hr₂
    | ok fl₂ =>
     cases fl₂ with
     | ret r =>
      obtain ⟨rfl, hm⟩ := hr₂;obtain ⟨hp, tk, us, rfl, S', r1, r2, r3⟩ := id hm
      repeat (any_goals (first | assumption | wp_step))
      exact h _ hm
     | _ => exact hr₂.elim
  | _ => exact hr.elim
end
theorem zdX : entryFor table "set.__iter__" = some Builtin.«frozenset.__iter__» := entryFor_alias (id' := "frozenset.__iter__") (by kernel_rfl) rfl (by decide +kernel) (by kernel_rfl)
theorem ze5 : entryFor table "set_iterator.__next__" = some Builtin.«set_iterator.__next__» := by first | exact entryFor_of_tree (by kernel_rfl) | exact entryFor_of_fast (by kernel_rfl)
theorem slot_si_next : Slot "set_iterator" "__next__" "set_iterator.__next__" :=
 .of (owner := "set_iterator") (n := "__next__") (by rw [typeLookup_type, builtinLookup_eq_fast]; kernel_rfl) (by decide +kernel) (by decide +kernel) (by decide +kernel) (by first | exact .inl (by decide +kernel) | exact .inr (by decide +kernel)) (by rw [isSubtype_type]; kernel_rfl)
theorem zfl (a : Value) : argsOk "set_iterator.__next__" ⟨[a], []⟩ := by unfold argsOk; kernel_rfl
theorem ze6 : entryFor table "set_iterator.__iter__" = some Builtin.«dict_keyiterator.__iter__» := entryFor_alias (id' := "dict_keyiterator.__iter__") (by kernel_rfl) rfl (by decide +kernel) (by kernel_rfl)
theorem zdo : Slot "set_iterator" "__iter__" "set_iterator.__iter__" :=
 .of (owner := "set_iterator") (n := "__iter__") (by rw [typeLookup_type, builtinLookup_eq_fast]; kernel_rfl) (by decide +kernel) (by decide +kernel) (by decide +kernel) (by first | exact .inl (by decide +kernel) | exact .inr (by decide +kernel)) (by rw [isSubtype_type]; kernel_rfl)
theorem zfm (a : Value) : argsOk "set_iterator.__iter__" ⟨[a], []⟩ := by unfold argsOk; kernel_rfl
theorem zdY : typeLookup (.type "set") "__len__" = pure (some (.builtin "set.__len__")) := by rw [typeLookup_type, builtinLookup_eq_fast]; kernel_rfl
abbrev zcZ (first : Value) (i : Nat) (S : Addr) (n ep : Nat) : Obj := { cls := .type "set_iterator", data := .fields #[first, rawInt i, .ref S, rawInt n, rawInt ep] }
section
variable {prog : Program} {w : World} {A : Around} {E : Value -> Shared -> Prop} {s : Shared}
theorem zib {M : Model} {a : Addr} {o : Obj} {vs : Array Value} {Q : Array Value -> Shared -> Prop} (ho : s.heap.get? a = some o) (hd : o.data = .fields vs) (h : Q vs s) : wpAny M A (fieldsOf (.ref a)) Q E s := by
 unfold fieldsOf;apply yaa; apply wpAny_load ho;rw [hd]; exact yab h
theorem zdF {α : Type} {Q : α -> Shared -> Prop} {E' : Value -> Shared -> Prop} (hh : A.handled = none)
  (h : ∀ hp, (∀ b o, s.heap.get? b = some o -> hp.get? b = some o) -> ∀ a ob, hp.get? a = some ob -> ob.cls = .type "StopIteration" -> E' (.ref a) { s with heap := hp }) :
  wpAny (model prog w) A (newExc (Value.type "StopIteration") [] >>= fun e => (raiseNew e : Sem α)) Q E' s := by
 apply yaa;simp only [newExc, newTuple];apply yaa;refine wpAny_newObj_type ?_ (by size_fits);apply yaa (m := firstArgMember _ _);refine wpAny_of_eq (a := Value.none) (by first | rfl | (simp only [firstArgMember]; rfl)) ?_;refine wpAny_newObj_type ?_ (by size_fits);simp only [raiseNew];apply yaa;refine wpAny_handled ?_;rw [hh];refine yaa (yab (wpAny_throw (h _ (fun b o e => yac _ (yac _ e)) _ _ (yaj _ rfl) rfl)))
theorem zgt {hp : Heap} {I S : Addr} {first : Value} {i n ep : Nat} (hI : hp.get? I = some (zcZ first i S n ep)) (k : Nat) (v : Value) (vs : Array Value)
  (e : (#[first, rawInt i, Value.ref S, rawInt n, rawInt ep] : Array Value).setIfInBounds k v = vs) :
  (hp.update I (Obj.mapFields (·.setIfInBounds k v))).get? I = some { cls := .type "set_iterator", data := .fields vs } := by
 subst e;exact Heap.get?_update_self _ hI (Obj.isFreed_of_fields (Obj.data_mapFields rfl _))
variable {I S T : Addr} {first : Value} {i n ep slot : Nat} {o : Obj} {es : Array (Int × Value)} {tb : SetTable} {Q : Option Value -> Shared -> Prop}
theorem ze7 (hI : s.heap.get? I = some (zcZ first i S n ep)) (ho : s.heap.get? S = some o) (hd : o.data = .set es ep tb) (hf : tb.fits es.size = true) (hn : es.size = n)
  (h : wpAny (model prog w) A.in1 (match first with
    | Value.int slot tok => do
     match <- setNext S slot.toNat i ep with
      | some (x, next) => do
       setField (Value.ref I) 0 (rawInt (next : Nat))
       setField (Value.ref I) 1 (rawInt ((i : Int) + 1))
       ret x
      | none => do
       setField (Value.ref I) 2 Value.none
       raiseNew (<- newExc (Value.type "StopIteration") [])
    | x => do
     match <- seqItems? first with
      | some places =>
       match places[i]? with
       | some (Value.int place tok) => do
        let x <- setNextDrawn S place.toNat ep
        setField (Value.ref I) 1 (rawInt ((i : Int) + 1))
        ret x
       | some val => unsupported "internal:set_iterator"
       | none => do
        setField (Value.ref I) 0 (rawInt 0)
        setField (Value.ref I) 2 Value.none
        raiseNew (<- newExc (Value.type "StopIteration") [])
      | x => unsupported "internal:set_iterator")
   (fun fin s' => ∃ x, fin = .done (.ret x) /\ Q (some x) s') (fun e s' => s'.TypeIs e "StopIteration" /\ Q none s') s) : wpAny (model prog w) A (pyNext (.ref I)) Q E s := by
 have ty : s.TypeIs (.ref I) "set_iterator" := ⟨_, hI, rfl⟩
 unfold pyNext;apply yaa; apply wpAny_attempt;refine wpAny_callSpecial?_slot (name := Str.ofString "__next__") ty slot_si_next (wpAny_call_entry slot_si_next ty ze5 ?_ (zfl _));unfold Builtin.«set_iterator.__next__»;apply yaa;refine yab ?_;dsimp only;refine yaa (zib hI rfl ?_);dsimp only [rawInt];refine yaa (wpAny_setEntries_of ho hd hf ?_);rw [hn, if_neg (by simp)];refine wpAny_mono h (fun fin s' hq => ?_) fun e s' hq => ?_
 ·obtain ⟨x, rfl, hq⟩ := hq;exact ⟨x, rfl, yab hq⟩
 ·obtain ⟨ty, hq⟩ := hq;exact yaa (wpAny_isInstance (T := "StopIteration") (b := true) ty isSubtype_stop (yab hq))
theorem zic {slot nx : Nat} {x : Value} (hI : s.heap.get? I = some (zcZ (rawInt slot) i S n ep)) (ho : s.heap.get? S = some o) (hd : o.data = .set es ep tb) (hf : tb.fits es.size = true) (hn : es.size = n)
  (hx : ∀ (E' : Value -> Shared -> Prop) (Q' : Option (Value × Nat) -> Shared -> Prop), Q' (some (x, nx)) s -> wpAny (model prog w) A.in1 (setNext S slot i ep) Q' E' s)
  (h : ∀ hp, hp.get? I = some (zcZ (rawInt nx) (i + 1) S n ep) -> Heap.SameBut I s.heap hp -> Q (some x) { s with heap := hp }) : wpAny (model prog w) A (pyNext (.ref I)) Q E s := by
 refine ze7 hI ho hd hf hn ?_;show wpAny _ _ (setNext S ((slot : Nat) : Int).toNat i ep >>= _) _ _ s;rw [ya4];apply yaa; apply hx;dsimp only;have h1 := zgt hI 0 (rawInt (nx : Nat)) #[rawInt nx, rawInt i, .ref S, rawInt n, rawInt ep] rfl;refine yaa (wpAny_setField hI rfl (by simp) ?_);refine yaa (wpAny_setField h1 rfl (by simp) (yab ⟨x, rfl, ?_⟩));exact h _ (zgt h1 1 (rawInt ((i : Int) + 1)) _ rfl) ((Heap.SameBut.update ..).trans (Heap.SameBut.update ..))
theorem zki {slot : Nat} (hh : A.handled = none) (hI : s.heap.get? I = some (zcZ (rawInt slot) i S n ep)) (ho : s.heap.get? S = some o) (hd : o.data = .set es ep tb) (hf : tb.fits es.size = true) (hn : es.size = n)
  (hx : ∀ (E' : Value -> Shared -> Prop) (Q' : Option (Value × Nat) -> Shared -> Prop), Q' none s -> wpAny (model prog w) A.in1 (setNext S slot i ep) Q' E' s)
  (h : ∀ hp, (∀ b o, b ≠ I -> s.heap.get? b = some o -> hp.get? b = some o) -> Q none { s with heap := hp }) : wpAny (model prog w) A (pyNext (.ref I)) Q E s := by
 refine ze7 hI ho hd hf hn ?_;show wpAny _ _ (setNext S ((slot : Nat) : Int).toNat i ep >>= _) _ _ s;rw [ya4];apply yaa; apply hx;dsimp only;refine yaa (wpAny_setField hI rfl (by simp) ?_);refine zdF hh fun hp hk a ob ha hc => ⟨⟨ob, ha, hc⟩, h hp fun b o hb e => hk b o ?_⟩
 exact (Heap.get?_update_other _ _ (Ne.symm hb)).trans e
theorem zkL {places : Array Value} {c p : Nat} {hsh : Int} {x : Value} (hI : s.heap.get? I = some (zcZ (.ref T) i S n ep)) (hT : s.heap.get? T = some { cls := .type "tuple", data := .seq places c })
  (ho : s.heap.get? S = some o) (hd : o.data = .set es ep tb) (hf : tb.fits es.size = true) (hn : es.size = n) (hp : places[i]? = some (rawInt p)) (hx : es[p]? = some (hsh, x))
  (h : ∀ hp, hp.get? I = some (zcZ (.ref T) (i + 1) S n ep) -> Heap.SameBut I s.heap hp -> Q (some x) { s with heap := hp }) : wpAny (model prog w) A (pyNext (.ref I)) Q E s := by
 refine ze7 hI ho hd hf hn ?_;show wpAny _ _ (seqItems? (.ref T) >>= _) _ _ s;refine yaa (wpAny_seqItems hT rfl ?_);dsimp only;rw [hp];dsimp only [rawInt];unfold setNextDrawn;refine yaa (yaa (wpAny_setState_of ho hd hf ?_));dsimp only;rw [if_neg (by simp), ya4, hx];refine yab (yaa (wpAny_setField hI rfl (by simp) (yab ⟨x, rfl, ?_⟩)));exact h _ (zgt hI 1 (rawInt ((i : Int) + 1)) _ rfl) (Heap.SameBut.update ..)
theorem zm4 {places : Array Value} {c : Nat} (hh : A.handled = none) (hI : s.heap.get? I = some (zcZ (.ref T) i S n ep)) (hT : s.heap.get? T = some { cls := .type "tuple", data := .seq places c })
  (ho : s.heap.get? S = some o) (hd : o.data = .set es ep tb) (hf : tb.fits es.size = true) (hn : es.size = n) (hp : places[i]? = none)
  (h : ∀ hp, (∀ b o, b ≠ I -> s.heap.get? b = some o -> hp.get? b = some o) -> Q none { s with heap := hp }) : wpAny (model prog w) A (pyNext (.ref I)) Q E s := by
 refine ze7 hI ho hd hf hn ?_;show wpAny _ _ (seqItems? (.ref T) >>= _) _ _ s;refine yaa (wpAny_seqItems hT rfl ?_);dsimp only;rw [hp];dsimp only;have h1 := zgt hI 0 (rawInt (0 : Nat)) #[rawInt (0 : Nat), rawInt i, .ref S, rawInt n, rawInt ep] rfl;refine yaa (wpAny_setField hI rfl (by simp) (yaa (wpAny_setField h1 rfl (by simp) ?_)));refine zdF hh fun hp hk a ob ha hc => ⟨⟨ob, ha, hc⟩, h hp fun b o hb e => hk b o ?_⟩
 exact (Heap.get?_update_other _ _ (Ne.symm hb)).trans ((Heap.get?_update_other _ _ (Ne.symm hb)).trans e)
end
theorem zda {α : Type} {x : α} : ∀ {l : List α} {i : Nat}, l[i]? = some x -> List.Perm (x :: l.eraseIdx i) l
 | [], _, h => by simp at h
 | y :: r, 0, h => by simp at h; subst h; simp
 | y :: r, i + 1, h => by
  have ih := zda (l := r) (i := i) (by simpa using h);rw [List.eraseIdx_cons_succ];exact (List.Perm.swap y x _).trans (ih.cons y)
theorem zid {α : Type} (f : Nat -> Nat) : ∀ (fuel k : Nat) (left : List α) (out : Array α), left.length <= fuel -> List.Perm (pickOrder.go f fuel k left out).toList (out.toList ++ left)
 | 0, k, left, out, h => by
  have : left = [] := List.eq_nil_of_length_eq_zero (by omega);subst this;simp [pickOrder.go]
 | fuel + 1, k, left, out, h => by
  unfold pickOrder.go;cases e : left[f k % left.length]? with
  | none =>
   have : left = [] := by
    cases left with
    | nil => rfl
    | cons y r =>
     have := List.getElem?_eq_none_iff.mp e;have := Nat.mod_lt (f k) (show 0 < (y :: r).length by simp);omega
   subst this;simp
  | some x =>
   dsimp only;have hi := (yag.mp e).1;have ih := zid f fuel (k + 1) (left.eraseIdx (f k % left.length)) (out.push x) (by rw [List.length_eraseIdx_of_lt hi]; omega);refine ih.trans ?_;rw [Array.toList_push, List.append_assoc];refine List.Perm.append_left _ ?_;exact zda e
theorem zie {α : Type} (f : Nat -> Nat) (xs : Array α) : List.Perm (pickOrder f xs).toList xs.toList := by
 have := zid f xs.size 0 xs.toList #[] (by simp);simpa [pickOrder] using this
section
variable {prog : Program} {w : World} {A : Around} {E : Value -> Shared -> Prop} {s : Shared} {S : Addr} {i n ep slot : Nat} {o : Obj} {es : Array (Int × Value)} {tb : SetTable}
theorem zfn {α : Type} {Q : List α -> Shared -> Prop} : ∀ (k : Nat) (xs : List α) (s : Shared), xs.length = k -> (∀ ys d, List.Perm ys xs -> Q ys { s with drawn := d }) -> wpAny (model prog w) A (drawOrder k xs) Q E s
 | 0, xs, s, h, q => by
  have : xs = [] := List.eq_nil_of_length_eq_zero h;subst this;exact yab (q [] s.drawn .nil)
 | k + 1, xs, s, h, q => by
  cases xs with
  | nil => simp at h
  | cons y r =>
   unfold drawOrder;apply yaa;refine fun Γ p hΓ => ⟨by simp, ?_⟩
   have hlt : (model prog w).w.draws .order (s.drawn.get .order) % (y :: r).length < (y :: r).length := Nat.mod_lt _ (by simp);generalize (model prog w).w.draws .order (s.drawn.get .order) % (y :: r).length = j at hlt;have e : (y :: r)[j]? = some (y :: r)[j] := by simp [hlt]
   generalize (y :: r)[j] = z at e;refine (?_ : wpAny (model prog w) A _ _ _ _) Γ p hΓ;refine yab ?_;rw [e];dsimp only;apply yaa;refine zfn k ((y :: r).eraseIdx j) _ (by rw [List.length_eraseIdx_of_lt hlt]; omega) fun ys d hp => yab ?_;exact q (z :: ys) d ((hp.cons z).trans (zda e))
theorem zfo {Q : Option (Value × Nat) -> Shared -> Prop} (hb : zdn w = true) (ho : s.heap.get? S = some o) (hd : o.data = .set es ep tb) (hf : tb.fits es.size = true)
  (h : Q (((pickOrder (w.params.setOrder S ep) es)[i]?).map fun e => (e.2, slot)) s) : wpAny (model prog w) A (setNext S slot i ep) Q E s := by
 unfold setNext;refine yaa (wpAny_setState_of ho hd hf ?_);dsimp only;unfold setsByText;refine yaa (yaa (wpAny_askSetting (yab ?_)));refine wpAny_ite_split (fun _ => ?_) fun z => absurd hb z;rw [if_neg (by simp)];unfold setWalk;refine yaa (yaa (wpAny_setState_of ho hd hf ?_));dsimp only;unfold setsByText;refine yaa (yaa (wpAny_askSetting (yab ?_)));refine wpAny_ite_split (fun _ => ?_) fun z => absurd hb z;refine yaa (wpAny_askSetting (yab (yab ?_)));exact h
theorem zeo {Q : Option (Value × Nat) -> Shared -> Prop} (hb : zdn w = false) (ho : s.heap.get? S = some o) (hd : o.data = .set es ep tb) (hf : tb.fits es.size = true) (hs : es.size <= 1) (hl : tb.led = true)
  (h : Q (match es[SetTable.below tb.place slot]?, tb.place[SetTable.below tb.place slot]? with | some (_, x), some j => some (x, j + 1) | _, _ => none) s) : wpAny (model prog w) A (setNext S slot i ep) Q E s := by
 unfold setNext;refine yaa (wpAny_setState_of ho hd hf ?_);dsimp only;unfold setsByText;refine yaa (yaa (wpAny_askSetting (yab ?_)));refine wpAny_ite_split (fun z => absurd (z.symm.trans (show _ = false from hb)) (by decide)) fun _ => ?_;have hz : (!tb.plain && decide (es.size > 1)) = false := by rw [ya8 (by omega), Bool.and_false]
 show wpAny _ _ (if (!tb.plain && decide (es.size > 1)) = true then _ else _) _ _ s;rw [hz, if_neg (by decide)];show wpAny _ _ ((if (!tb.led && !es.isEmpty) = true then unsupported "set:maker-not-led" else pure ()) >>= _) _ _ s;rw [hl];refine yaa (yab (yab ?_));exact h
end
section
variable {prog : Program} {w : World} {A : Around} {E : Value -> Shared -> Prop} {s : Shared}
theorem zfI {I S : Addr} {first : Value} {i n ep : Nat} {Q : Value -> Shared -> Prop} (hI : s.heap.get? I = some (zcZ first i S n ep)) (h : Q (.ref I) s) : wpAny (model prog w) A (pyIter (.ref I)) Q E s := by
 have ty : s.TypeIs (.ref I) "set_iterator" := ⟨_, hI, rfl⟩
 refine wpAny_pyIter_slot ty zdo (wpAny_call_entry zdo ty ze6 ?_ (zfm _));show wpAny _ _ (ret (.ref I)) _ _ s;exact yab ⟨_, rfl, "set_iterator", _, ty, slot_si_next.lookup, h⟩
theorem zif {I : Addr} {hp : Heap} (h : ∀ b o, b ≠ I -> s.heap.get? b = some o -> hp.get? b = some o) : Moved [I] Eq s { s with heap := hp } :=
 ⟨fun b o hb e => h b o (fun z => hb (by simp [z])) e, rfl, rfl, rfl, yai _⟩
theorem ze8 {I : Addr} {fp : List Addr} {vs : List Value} {St : Nat -> Heap -> Prop} (hI : I ∈ fp) (frame : ∀ i h h', St i h -> (∀ b ∈ fp, ∀ o, h.get? b = some o -> h'.get? b = some o) -> St i h')
  (item : ∀ i v (s : Shared) (Q : Option Value -> Shared -> Prop) (E : Value -> Shared -> Prop), vs[i]? = some v -> St i s.heap -> (∀ hp, St (i + 1) hp -> (∀ b o, b ≠ I -> s.heap.get? b = some o -> hp.get? b = some o) -> Q (some v) { s with heap := hp }) -> wpAny (model prog w) A (pyNext (.ref I)) Q E s)
  (done : ∀ (s : Shared) (Q : Option Value -> Shared -> Prop) (E : Value -> Shared -> Prop), St vs.length s.heap -> (∀ hp, (∀ b o, b ≠ I -> s.heap.get? b = some o -> hp.get? b = some o) -> Q none { s with heap := hp }) -> wpAny (model prog w) A (pyNext (.ref I)) Q E s)
  (self : ∀ i (s : Shared) (Q : Value -> Shared -> Prop) (E : Value -> Shared -> Prop), St i s.heap -> Q (.ref I) s -> wpAny (model prog w) A (pyIter (.ref I)) Q E s) :
  WalksS prog w A I fp [I] Eq vs.length (fun i v => vs[i]? = some v) (fun i s => St i s.heap) where
 sub := fun b hb => by rw [yah.mp hb]; exact hI
 grefl := fun _ => rfl
 gtrans := fun _ _ _ => Eq.trans
 frame := fun i s h' tk st _ k => frame i _ _ st k
 item := fun i s Q E hi st q => by
  refine item i vs[i] s Q E (by simp [hi]) st fun hp st' k => ?_;exact q _ _ (by simp [hi]) st' (zif k)
 done := fun s Q E st q => done s Q E st fun hp k => q _ (zif k)
 self := self
end
structure zm5 (prog : Program) (w : World) (s : Shared) (S : Addr) (us : List Str) (I : Addr) (s' : Shared) (vs : List Value) (fp : List Addr) (St : Nat -> Heap -> Prop) : Prop where
 heap : ∀ b o, s.heap.get? b = some o -> s'.heap.get? b = some o
 rest : ∃ d, s' = { s with heap := s'.heap, drawn := d }
 new : s.heap.objs.size <= I
 fps : ∀ b ∈ fp, b = S \/ s.heap.objs.size <= b
 lt : ∀ b ∈ fp, b < s'.heap.objs.size
 mem : I ∈ fp
 txts : ∃ us', StrsAre vs us' /\ us'.Perm us
 st : St 0 s'.heap
 walk : ∀ A : Around, A.handled = none -> WalksS prog w A I fp [I] Eq vs.length (fun i v => vs[i]? = some v) (fun i s => St i s.heap)
def StT (o : Obj) (S I : Addr) (n ep : Nat) : Nat -> Heap -> Prop := fun i h => h.get? S = some o /\ h.get? I = some (zcZ (rawInt (0 : Nat)) i S n ep)
def StP (o : Obj) (S I : Addr) (n ep j : Nat) : Nat -> Heap -> Prop := fun i h => h.get? S = some o /\ h.get? I = some (zcZ (rawInt ((if i = 0 then 0 else j + 1 : Nat))) i S n ep)
def StD (o : Obj) (S I T : Addr) (n ep : Nat) (places : Array Value) : Nat -> Heap -> Prop := fun i h => h.get? S = some o /\ h.get? I = some (zcZ (.ref T) i S n ep) /\ h.get? T = some { cls := .type "tuple", data := .seq places 0 }
theorem zbI {prog : Program} {w : World} : ∀ {l : List (Int × Value)}, ElemsOf (PySem.strKind prog w) l -> StrsAre (l.map (·.2)) (l.map fun e => svT e.2)
 | [], _ => .nil
 | e :: r, h => by
  obtain ⟨⟨k, hk, _⟩, _⟩ := h.head;obtain ⟨t, q⟩ := Value.isStrOf_shape hk;rw [List.map_cons, List.map_cons, q];exact .cons _ t (zbI h.tail)
theorem zfp (j k : Nat) : SetTable.below #[j] k = if j < k then 1 else 0 := by
 unfold SetTable.below;show SetTable.below.go _ _ 1 0 1 = _;unfold SetTable.below.go;rw [if_pos (by decide)];show (if (#[j] : Array Nat).getD 0 k < k then SetTable.below.go _ _ 0 1 1 else SetTable.below.go _ _ 0 0 0) = _;have e : (#[j] : Array Nat).getD 0 k = j := rfl;rw [e]
 split <;> rfl
section
variable {prog : Program} {w : World} {A : Around} {E : Value -> Shared -> Prop} {s : Shared}
theorem zbc {h : Heap} {ob : Obj} : ∀ b o, h.get? b = some o -> (h.push ob).get? b = some o := fun b o e => yac _ e
theorem zjq {S : Addr} {us : List Str} {Q : Value -> Shared -> Prop} (hS : SetS prog w s.heap S us) (h : ∀ I s' vs fp St, zm5 prog w s S us I s' vs fp St -> Q (.ref I) s') : wpAny (model prog w) A (pyIter (.ref S)) Q E s := by
  obtain ⟨o, es, ep, tb, ho, hex, hd, hel, hus, nd, hb, hf, hl, hpl⟩ := hS;have ty : s.TypeIs (.ref S) "set" := ⟨o, ho, hex.1⟩
  have hlt : S < s.heap.objs.size := yan ho;refine wpAny_pyIter_slot ty PySem.F.slot_set_iter (wpAny_call_entry PySem.F.slot_set_iter ty zdX ?_ (PySem.F.args_set_iter_1 _));unfold Builtin.«frozenset.__iter__»;apply yaa;refine yab ?_;unfold Builtin.Frozenset.sizeOf;refine yaa (yaa (wpAny_setEntries_of ho hd hf (yab ?_)));unfold setDrawn;refine yaa (yaa (wpAny_setState_of ho hd hf ?_));dsimp only;unfold setsByText;refine yaa (yaa (wpAny_askSetting (yab (yab ?_))));show wpAny _ _ (if (!zdn w && (!tb.plain && decide (es.size > 1))) = true then _ else _) _ _ s;have lens : us.length = es.size := by rw [<- hus]; simp [zbH]
  have psz : tb.place.size = es.size := by
    have := hf;simp only [SetTable.fits, Bool.and_eq_true, beq_iff_eq, decide_eq_true_eq] at this;exact this.1
  have lay : ∀ (hp : Heap) (d : Drawn) (first : Value) (vs : List Value) (fp : List Addr) (St : Nat -> Heap -> Prop), (∀ b o, s.heap.get? b = some o -> hp.get? b = some o) -> zm5 prog w s S us hp.objs.size { s with heap := hp.push (zcZ first 0 S es.size ep), drawn := d } vs fp St ->
      wpAny (model prog w) A.in1 (do ret (<- newFields "set_iterator" [first, rawInt 0, .ref S, rawInt es.size, rawInt (<- setEpoch S)])) (fun fin s' => ∃ it, fin = .done (.ret it) /\ ∃ T' r, s'.TypeIs it T' /\ typeLookup (.type T') "__next__" = pure (some r) /\ Q it s') E { s with heap := hp, drawn := d } := fun hp d first vs fp St k R => by
    refine yaa (wpAny_setEpoch_of (k _ _ ho) hd hf ?_);unfold newFields;refine yaa (wpAny_newObj_type ?_ (by size_fits));refine yab ⟨_, rfl, "set_iterator", _, ⟨_, yaj _ rfl, rfl⟩, slot_si_next.lookup, ?_⟩;exact h _ _ _ _ _ R
  cases hbt : zdn w with
  | true =>
    rw [if_neg (by simp)];refine yaa (yab ?_);have pp := zie (w.params.setOrder S ep) es;refine lay s.heap s.drawn (rawInt (0 : Nat)) ((pickOrder (w.params.setOrder S ep) es).toList.map (·.2)) [s.heap.objs.size, S] (StT o S s.heap.objs.size es.size ep) (fun _ _ e => e)
      ⟨zbc, ⟨s.drawn, rfl⟩, yai _, fun b hb' => ?_, fun b hb' => ?_, List.mem_cons_self, ⟨_, zbI (hel.perm pp), ?_⟩, ⟨zbc _ _ ho, yaj _ rfl⟩, fun A' hh => ?_⟩
    · rcases yau.mp hb' with rfl | q
      · exact .inr (yai _)
      · exact .inl (yah.mp q)
    · show b < (s.heap.push _).objs.size;rw [Heap.size_push];rcases yau.mp hb' with rfl | q
      · exact Nat.lt_succ_self _
      · rw [yah.mp q]; exact Nat.lt_succ_of_lt hlt
    · rw [<- hus]; exact pp.map _
    · refine ze8 (St := StT o S s.heap.objs.size es.size ep) List.mem_cons_self (fun i h h' st k => ⟨k _ (by simp) _ st.1, k _ (by simp) _ st.2⟩) (fun i v s1 Q1 E1 hv st q => ?_) (fun s1 Q1 E1 st q => ?_) fun i s1 Q1 E1 st q => zfI st.2 q
      · have ne : S ≠ s.heap.objs.size := Nat.ne_of_lt hlt;rw [yav] at hv;cases e : (pickOrder (w.params.setOrder S ep) es).toList[i]? with
        | none => rw [e] at hv; cases hv
        | some z =>
          rw [e] at hv;cases hv;refine zic (nx := 0) st.2 st.1 hd hf rfl (fun E' Q' hq => zfo hbt st.1 hd hf ?_) fun hp h1 sb => q hp ⟨(sb.2 S ne).trans st.1, h1⟩ fun b o' hb' e' => (sb.2 b hb').trans e';rw [Array.getElem?_toList] at e;rw [e];exact hq
      · refine zki hh st.2 st.1 hd hf rfl (fun E' Q' hq => zfo hbt st.1 hd hf ?_) fun hp k => q hp k;have : (pickOrder (w.params.setOrder S ep) es)[((pickOrder (w.params.setOrder S ep) es).toList.map (·.2)).length]? = none := by simp
        rw [this];exact hq
  | false =>
    have led : tb.led = true := by rw [hl, hbt]; rfl
    by_cases h2 : es.size <= 1
    · rw [if_neg (by rw [ya8 (show ¬ es.size > 1 by omega)]; simp)];refine yaa (yab ?_);refine lay s.heap s.drawn (rawInt (0 : Nat)) (es.toList.map (·.2)) [s.heap.objs.size, S] (StP o S s.heap.objs.size es.size ep (tb.place.getD 0 0)) (fun _ _ e => e)
        ⟨zbc, ⟨s.drawn, rfl⟩, yai _, fun b hb' => ?_, fun b hb' => ?_, List.mem_cons_self, ⟨_, zbI hel, ?_⟩, ⟨zbc _ _ ho, yaj _ rfl⟩, fun A' hh => ?_⟩
      · rcases yau.mp hb' with rfl | q
        · exact .inr (yai _)
        · exact .inl (yah.mp q)
      · show b < (s.heap.push _).objs.size;rw [Heap.size_push];rcases yau.mp hb' with rfl | q
        · exact Nat.lt_succ_self _
        · rw [yah.mp q]; exact Nat.lt_succ_of_lt hlt
      · rw [<- hus]; exact .rfl
      · have ne : S ≠ s.heap.objs.size := Nat.ne_of_lt hlt;refine ze8 (St := StP o S s.heap.objs.size es.size ep (tb.place.getD 0 0)) List.mem_cons_self (fun i h h' st k => ⟨k _ (by simp) _ st.1, k _ (by simp) _ st.2⟩) (fun i v s1 Q1 E1 hv st q => ?_) (fun s1 Q1 E1 st q => ?_) fun i s1 Q1 E1 st q => zfI st.2 q
        · have hi : i < es.size := by have := (yag.mp hv).1; simpa using this
          obtain rfl : i = 0 := by omega
          obtain ⟨j, hj⟩ : ∃ j, tb.place = #[j] := by
            have z : tb.place.size = 1 := by omega
            exact ⟨tb.place[0], by apply Array.ext; · simp [z]
                                   · intro k h1 h2; have : k = 0 := by omega
                                     subst this; rfl⟩
          rw [yav] at hv;cases e : es.toList[0]? with
          | none => rw [e] at hv; cases hv
          | some z =>
            rw [e] at hv;cases hv;rw [Array.getElem?_toList] at e;refine zic (slot := 0) (nx := j + 1) st.2 st.1 hd hf rfl (fun E' Q' hq => zeo hbt st.1 hd hf h2 led ?_) fun hp h1 sb => q hp ⟨(sb.2 S ne).trans st.1, ?_⟩ fun b o' hb' e' => (sb.2 b hb').trans e'
            · rw [hj, zfp, if_neg (by omega), e];exact hq
            · rw [h1, hj]; rfl
        · have Qe : (es.toList.map (·.2)).length = es.size := by simp
          rw [Qe] at st;refine zki hh st.2 st.1 hd hf rfl (fun E' Q' hq => zeo hbt st.1 hd hf h2 led ?_) fun hp k => q hp k
          by_cases h0 : es.size = 0
          · have z : ∀ k : Nat, es[k]? = none := fun k => Array.getElem?_eq_none (by omega);rw [z];exact hq
          · obtain ⟨j, hj⟩ : ∃ j, tb.place = #[j] := by
              have z : tb.place.size = 1 := by omega
              exact ⟨tb.place[0], by apply Array.ext; · simp [z]
                                     · intro k h1 h2; have : k = 0 := by omega
                                       subst this; rfl⟩
            have z : SetTable.below tb.place (if es.size = 0 then 0 else tb.place.getD 0 0 + 1) = 1 := by
              rw [if_neg h0, hj, zfp];exact if_pos (by show j < j + 1; omega)
            rw [z];have z1 : es[1]? = none := Array.getElem?_eq_none (by omega);rw [z1];exact hq
    · have plain : tb.plain = false := hpl (fun z => by rw [z] at lens; simp at lens; omega);rw [if_pos (by rw [plain, ya9 (show es.size > 1 by omega)]; rfl)];refine yaa (zfn es.size (List.range es.size) s (by simp) fun ys d hp => ?_);unfold newTuple; apply yaa;have hyl : ys.length = es.size := by rw [hp.length_eq]; simp
      refine wpAny_newObj_type ?_ (by show ((ys.map fun (i : Nat) => rawInt i).toArray).size <= sizeLine; rw [yad, yaf, hyl]; exact fits_of_scanBound hb);have hin : ∀ j ∈ ys, j < es.size := fun j hj => by have := hp.mem_iff.mp hj; simpa using this
      have perm : List.Perm (ys.map fun j => es.toList.getD j (0, .none)) es.toList := by
        have z := hp.map fun j => es.toList.getD j (0, .none);refine z.trans (List.Perm.of_eq ?_);apply List.ext_getElem?;intro k;rw [yav]
        by_cases hk : k < es.size
        · simp [hk]
        · simp [hk]
      refine lay (s.heap.push { cls := .type "tuple", data := .seq (ys.map fun (i : Nat) => rawInt i).toArray }) d (.ref s.heap.objs.size) ((ys.map fun j => es.toList.getD j (0, .none)).map (·.2)) [(s.heap.push { cls := .type "tuple", data := .seq (ys.map fun (i : Nat) => rawInt i).toArray }).objs.size, S, s.heap.objs.size]
        (StD o S (s.heap.push { cls := .type "tuple", data := .seq (ys.map fun (i : Nat) => rawInt i).toArray }).objs.size s.heap.objs.size es.size ep (ys.map fun (i : Nat) => rawInt i).toArray) zbc
        ⟨fun b o' e => zbc _ _ (zbc _ _ e), ⟨d, rfl⟩, by rw [Heap.size_push]; exact Nat.le_succ _, fun b hb' => ?_, fun b hb' => ?_, List.mem_cons_self, ⟨_, zbI (hel.perm perm), ?_⟩, ⟨zbc _ _ (zbc _ _ ho), yaj _ rfl, zbc _ _ (yaj _ rfl)⟩, fun A' hh => ?_⟩
      · rcases yau.mp hb' with rfl | q
        · exact .inr (by rw [Heap.size_push]; exact Nat.le_succ _)
        · rcases yau.mp q with rfl | q
          · exact .inl rfl
          · exact .inr (Nat.le_of_eq (yah.mp q).symm)
      · show b < ((s.heap.push _).push _).objs.size;rw [Heap.size_push, Heap.size_push];rcases yau.mp hb' with rfl | q
        · rw [Heap.size_push]; exact Nat.lt_succ_self _
        · rcases yau.mp q with rfl | q
          · exact Nat.lt_succ_of_lt (Nat.lt_succ_of_lt hlt)
          · rw [yah.mp q]; exact Nat.lt_succ_of_lt (Nat.lt_succ_self _)
      · rw [<- hus]; exact perm.map _
      · have ne : S ≠ (s.heap.push { cls := .type "tuple", data := .seq (ys.map fun (i : Nat) => rawInt i).toArray }).objs.size := Nat.ne_of_lt (by rw [Heap.size_push]; exact Nat.lt_succ_of_lt hlt);have ne2 : s.heap.objs.size ≠ (s.heap.push { cls := .type "tuple", data := .seq (ys.map fun (i : Nat) => rawInt i).toArray }).objs.size := Nat.ne_of_lt (by rw [Heap.size_push]; exact Nat.lt_succ_self _);generalize (s.heap.push { cls := .type "tuple", data := .seq (ys.map fun (i : Nat) => rawInt i).toArray }).objs.size = I at ne ne2;refine ze8 (St := StD o S I s.heap.objs.size es.size ep (ys.map fun (i : Nat) => rawInt i).toArray) List.mem_cons_self (fun i h h' st k => ⟨k _ (by simp) _ st.1, k _ (by simp) _ st.2.1, k _ (by simp) _ st.2.2⟩) (fun i v s1 Q1 E1 hv st q => ?_) (fun s1 Q1 E1 st q => ?_) fun i s1 Q1 E1 st q => zfI st.2.1 q
        · rw [List.map_map, yav] at hv;cases e : ys[i]? with
          | none => rw [e] at hv; cases hv
          | some p =>
            rw [e] at hv;cases hv;have hp' : p < es.size := hin p (ya1 e);refine zkL (p := p) (hsh := (es.toList.getD p (0, .none)).1) st.2.1 st.2.2 st.1 hd hf rfl (by simp [e]) (by simp [hp']) fun hp1 h1 sb => q hp1 ⟨(sb.2 S ne).trans st.1, h1, (sb.2 _ ne2).trans st.2.2⟩ fun b o' hb' e' => (sb.2 b hb').trans e'
        · exact zm4 hh st.2.1 st.2.2 st.1 hd hf rfl (by simp) fun hp1 k => q hp1 k
end
section
variable {prog : Program} {w : World} {A : Around} {E : Value -> Shared -> Prop} {s : Shared}
theorem zjr {S : Addr} {Q : Bool -> Shared -> Prop} (ty : s.TypeIs (.ref S) "set") (h : Q false s) : wpAny (model prog w) A (Builtin.List.listLengthHint (.ref S)) Q E s := by
 unfold Builtin.List.listLengthHint;refine yaa (wpAny_specialOf ty zdY ?_);generalize hid : ("set.__len__" : String) = lid
 wp_delta
 rw [show splitId lid = some ("set", "__len__") from by subst hid; decide +kernel];subst hid;refine yaa (wpAny_isInstance (b := true) ty PySem.F.called_set.sub ?_);rw [if_neg (by decide)];dsimp only;refine wpAny_ite_split (fun _ => ?_) fun z => absurd (by decide +kernel) z;refine yaa (wpAny_typeOf ty ?_);exact yab h
theorem zfJ {S : Addr} {us : List Str} {Q : List Value -> Shared -> Prop} (hh : A.handled = none) (hS : SetS prog w s.heap S us) (hn : us.length <= sizeLine)
  (h : ∀ hp tk d vs us', (∀ b o, s.heap.get? b = some o -> hp.get? b = some o) -> s.heap.objs.size <= hp.objs.size -> StrsAre vs us' -> us'.Perm us -> Q vs { s with heap := hp, toks := tk, drawn := d }) : wpAny (model prog w) A (collect (.ref S)) Q E s := by
 have hlt : S < s.heap.objs.size := by obtain ⟨o, _, _, _, ho, _⟩ := hS; exact yan ho
 unfold collect;apply yaa; apply wpAny_runValue; apply codeAny_builtin PySem.F.entry_proto_collect;rw [Around.under_plainId PySem.F.plain_proto_collect _];show wpAny _ A.in1 (newList [] >>= fun l => again (.builtin "list.__iadd__" ⟨[l, .ref S], []⟩)) _ _ s;apply yaa;refine wpAny_newObj_type (yab ⟨plainId_quiet PySem.F.plain_list_iadd _, codeAny_builtin PySem.F.entry_list_iadd ?_⟩);rw [Around.under_plainId PySem.F.plain_list_iadd _];show wpAny _ A.in1 (Builtin.List.listExtendWith (.ref s.heap.objs.size) (.ref S) (.ref s.heap.objs.size)) _ _ _;generalize hL : s.heap.objs.size = L;have hLo : (s.heap.push { cls := .type "list", data := .seq ([] : List Value).toArray }).get? L = some { cls := .type "list", data := .seq #[] } := by rw [<- hL]; exact yaj _ rfl
 have sz : (s.heap.push { cls := .type "list", data := .seq ([] : List Value).toArray }).objs.size = L + 1 := by rw [Heap.size_push, hL]
 have keep1' : ∀ b o, s.heap.get? b = some o -> (s.heap.push { cls := .type "list", data := .seq ([] : List Value).toArray }).get? b = some o := zbc;have new1 : ∀ b o, s.heap.get? b = some o -> b ≠ L := fun b o e => by rw [<- hL]; exact Nat.ne_of_lt (yan e)
 have hS1 := hS.at (h' := s.heap.push { cls := .type "list", data := .seq ([] : List Value).toArray }) fun o e => zbc _ _ e;have hSL : S ≠ L := by rw [<- hL]; exact Nat.ne_of_lt hlt
 generalize s.heap.push { cls := .type "list", data := .seq ([] : List Value).toArray } = h1 at hLo sz keep1' hS1;have ty1 : Shared.TypeIs { s with heap := h1 } (.ref S) "set" := by obtain ⟨o, _, _, _, ho, hx, _⟩ := hS1; exact ⟨o, ho, hx.1⟩
 unfold Builtin.List.listExtendWith;refine yaa (wpAny_typeOf ty1 ?_);have e1 : Builtin.List.listSameRef (.ref L) (.ref S) = false := by
  unfold Builtin.List.listSameRef;simpa using fun z : L = S => hSL z.symm
 rw [e1];rw [if_neg (by decide)];refine yaa (zjq (s := { s with heap := h1 }) hS1 fun I s2 vs fp St R => ?_);obtain ⟨d, e2⟩ := R.rest;obtain ⟨us', hvs, hpu⟩ := R.txts;have ty2 : Shared.TypeIs s2 (.ref S) "set" := by obtain ⟨o, ho, hc⟩ := ty1; exact ⟨o, R.heap _ _ ho, hc⟩
 have lf : L ∉ fp := fun m => by
  rcases R.fps L m with z | z
  ·exact hSL z.symm
  ·have z' : h1.objs.size <= L := z;omega
 have hvl : vs.length <= sizeLine := by
  have a1 := hvs.length;have a2 := hpu.length_eq;omega
 refine yaa (wpAny_holding (zjr ty2 ?_));have loop : ∀ (hp : Heap) (c : Nat), St 0 hp -> (∀ b o, b ≠ L -> s2.heap.get? b = some o -> hp.get? b = some o) -> hp.get? L = some { cls := .type "list", dict := none, data := .seq #[] c, slots := #[] } ->
   codeAny (model prog w) A (.builtin "list.extend.loop" ⟨[.ref L, .ref I, .ref L], []⟩) (fun r s' => ∃ f, r = .ok (.ret f) /\ wpAny (model prog w) A (match f with
    | .ref a => do
     match (<- load a).data with
     | .seq xs _ => pure xs.toList
     | _ => unsupported "internal:collect"
    | _ => unsupported "internal:collect") Q E s') { s2 with heap := hp } := fun hp c st k hl => by
  refine codeAny_extend_loopS (R.walk A.in1 hh) hvl L lf (.ref L) vs.length 0 { s2 with heap := hp } #[] c rfl (yaq _) st hl (ItemsOf.nil _) fun s3 acc c' hm hL3 hacc => ⟨_, rfl, ?_⟩
  show wpAny _ A (load L >>= _) _ _ _;refine yaa (wpAny_load hL3 (yab ?_));have ea : acc.toList = vs := by
   apply List.ext_getElem?;intro j
   by_cases hj : j < acc.size
   ·have : acc[j]? = some acc[j] := by simp [hj]
    have q := hacc.2 j _ this;rw [Array.getElem?_toList, this, q]
   ·rw [Array.getElem?_toList, Array.getElem?_eq_none (by omega)];have := hacc.1;exact (List.getElem?_eq_none (by omega)).symm
  rw [ea];obtain ⟨hp3, g3, d3, tk3, os3⟩ := s3;obtain rfl : s2.gens = g3 := hm.gens;obtain rfl : d3 = s2.drawn := hm.drawn;obtain rfl : os3 = s2.os := hm.os;have := h hp3 tk3 d vs us' (fun b o e => hm.heap b o (fun z => ?_) (k b o (new1 b o e) (R.heap b o (keep1' b o e)))) (by rw [hL]; exact Nat.le_of_lt (yan hL3)) hvs hpu
  ·rw [e2]; exact this
  ·rcases yau.mp z with z | z
   ·exact new1 b o e z
   ·have n1 := R.new;have n2 := yan (keep1' b o e);rw [yah.mp z] at n2;have n1' : h1.objs.size <= I := n1;exact absurd n2 (Nat.not_lt.mpr n1')
 have hL2 : s2.heap.get? L = some { cls := .type "list", dict := none, data := .seq #[] 0, slots := #[] } := R.heap L _ hLo;have conv : ∀ (r : Result) (s' : Shared), (∃ f, r = .ok (.ret f) /\ wpAny (model prog w) A (match f with
    | .ref a => do
     match (<- load a).data with
     | .seq xs _ => pure xs.toList
     | _ => unsupported "internal:collect"
    | _ => unsupported "internal:collect") Q E s') -> (match r with
    | Except.ok (Flow.ret v) => wpAny (model prog w) A (match v with
      | .ref a => do
       match (<- load a).data with
       | .seq xs _ => pure xs.toList
       | _ => unsupported "internal:collect"
      | _ => unsupported "internal:collect") Q E s'
    | Except.ok a => False
    | Except.error e => E e s') := fun r s' ⟨f, e, q⟩ => by subst e; exact q
 refine wpAny_ite_split (fun _ => ?_) fun _ => yab ⟨plainId_quiet PySem.F.plain_extend_loop _, codeAny_mono (loop s2.heap 0 R.st (fun b o _ e => e) hL2) conv⟩;apply yaa; apply wpAny_rule; apply yaa;show wpAny _ _ (updateSeq L (·.push .none) >>= fun _ => updateSeq L (·.pop)) _ _ _;refine yaa (wpAny_updateSeq hL2 rfl ?_);have hL3 := Heap.get?_update_self (Obj.mapSeq (·.push Value.none)) hL2 rfl;refine wpAny_updateSeq (hz := by seq_fits) hL3 rfl ?_;have hL4 := Heap.get?_update_self (Obj.mapSeq (·.pop)) hL3 rfl;have kp : ∀ b o, b ≠ L -> s2.heap.get? b = some o -> ((s2.heap.update L (Obj.mapSeq (·.push Value.none))).update L (Obj.mapSeq (·.pop))).get? b = some o := fun b o z e => by
  rw [Heap.get?_update_other _ _ (Ne.symm z), Heap.get?_update_other _ _ (Ne.symm z)]; exact e
 refine yab ⟨plainId_quiet PySem.F.plain_extend_loop _, codeAny_mono (loop _ _ ?_ kp hL4) conv⟩;exact (R.walk A.in1 hh).frame 0 s2 _ s2.toks R.st (yai _) fun b m o e => kp b o (fun z => lf (z ▸ m)) e
theorem zfK {x : Value} {n : Nat} {Q : Value -> Shared -> Prop} (hx : wpAny (model prog w) A.in1 (collect x) (fun vs s1 => ∃ ts, StrsAre vs ts /\ ts.length < 64 /\
   ∀ l hp (us : List Str) (out : List Value), (∀ b o, s1.heap.get? b = some o -> hp.get? b = some o) -> s1.heap.objs.size <= l -> (∃ c, hp.get? l = some { cls := .type "list", data := .seq out.toArray c }) -> StrsAre out us -> us.Perm ts -> sortedS us = true -> Q (.ref l) { s1 with heap := hp }) E s) :
  wpAny (model prog w) A (call (.builtin "sorted") [x]) Q E s := by
 refine Calls.call_function_entry kind_sorted plain_sorted entry_sorted (args_sorted1 _) ?_;unfold Builtin.«sorted»;apply yaa (m := checkCount "sorted" 1 1 _);refine yab (yaa (wpAny_mono hx (fun vs s1 q => ?_) fun _ _ z => z));obtain ⟨ts, hvs, h64, k⟩ := q;have hl : vs.length = ts.length := hvs.length;refine yaa (wpAny_newList ?_ (by rw [hl]; exact zar (by omega)));have ho : (s1.heap.push (seqObj "list" vs.toArray 0)).get? s1.heap.objs.size = some (seqObj "list" vs.toArray 0) := yaj _ rfl;have sz : (s1.heap.push (seqObj "list" vs.toArray 0)).objs.size = s1.heap.objs.size + 1 := Heap.size_push ..;have k1 : ∀ b o, s1.heap.get? b = some o -> (s1.heap.push (seqObj "list" vs.toArray 0)).get? b = some o := zbc;show wpAny _ _ _ _ _ { s1 with heap := s1.heap.push (seqObj "list" vs.toArray 0) };refine yaa (wpAny_holding (wpAny_call_entry slot_list_sort ⟨_, ho, rfl⟩ entry_list_sort (list_sort_treeK strKind_oneLt ho hvs.keysOf (fun v₁ v₂ rest e => keyKind_strs (by rw [<- e]; exact hvs)) (by omega) fun st' a1 a2 => ⟨_, rfl, ?_⟩) (args_list_sort _)));obtain ⟨us, b1, b2, b3⟩ := sorted_out_str hvs a1 a2;obtain ⟨c, hc⟩ := sortedHeap_at (vs := vs) (out := (arrOf st').map (·.2)) ho;refine yab ⟨_, rfl, k _ _ us ((arrOf st').map (·.2)).toList (fun b o e => ?_) (yai _) ⟨c, ?_⟩ b1 b2 b3⟩
 ·have hlt := yan e;rw [sortedHeap_old (Nat.ne_of_lt hlt) (by rw [sz]; exact Nat.lt_succ_of_lt hlt)];exact k1 b o e
 ·rw [hc]
end
def SetO (prog : Program) (w : World) (S : Addr) (us : List Str) : HO := .ext fun h => SetS prog w h S us
section
variable {X : Cx} {Qa : List (Addr × Obj)} {σ : St} {H : Hp} {s : Shared}
theorem Inv.draw (I : Inv X Qa σ H s) (d : Drawn) : Inv X Qa σ H { s with drawn := d } := ⟨I.ok, I.os, I.bare, I.base, I.loc, I.cell, I.free, I.freeC, I.pin, I.hok, I.len⟩
def zig (P : Program) (w : World) (K : W.Frag) : List V -> Hp -> VK -> Prop := fun xs H Q => ∃ (a : Addr) (ts : List Str), xs = [.ref a] /\ SqL K H a (ts.map V.str) /\ ts.length < 4000 /\
 ∀ S us, H S = none -> us.Nodup -> us.length <= ts.length -> (∀ x, x ∈ us ↔ x ∈ ts) -> Q (.ref S) (upd H S (SetO P w S us))
theorem zgZ (hc : X.calm = true) : zbE X (.type "set") (zig X.prog X.w X.K) := by
 intro Qa s σ H xs us Q I r h;obtain ⟨a, ts, rfl, hq, hl, k⟩ := h;obtain ⟨u, rfl, ru⟩ := zeT r;cases ru;obtain ⟨its, rv, pl, _⟩ := I.list hq;have Qe : its.length = ts.length := by have := rv.length; simpa using this.symm
 refine ze4 (I.ok.hd hc) pl.isList (by simpa using zcX rv) (by rw [yad, Qe]; show ts.length + 1 < 4096; omega) fun s' hm => ?_;obtain ⟨hp, tk, us', rfl, S, l1, m1, kp⟩ := hm;obtain ⟨o, es, ep, tb, ho, hex, hd, hel, hus, nd, rest⟩ := id S;refine ⟨.ref s.heap.objs.size, _, I.laid (t' := tk) (o := SetO X.prog X.w s.heap.objs.size us') (fun b o e => kp b o (yan e) e) (yai _) ⟨S, ⟨o, ho⟩, fun h1 h2 s1 k1 => s1.at k1⟩, rfl, k _ us' (I.hok.fresh (yai _)) nd l1 m1⟩
def zfL (P : Program) (w : World) (K : W.Frag) : List V -> Hp -> VK -> Prop := fun xs H Q => ∃ (a : Addr) (us : List Str), xs = [.ref a] /\ (H a = some (SetO P w a us) \/ SqL K H a (us.map V.str)) /\ us.length < 64 /\
 ∀ l vs, H l = none -> sortedS vs = true -> vs.Perm us -> Q (.ref l) (upd H l (.lst (vs.map V.str)))
theorem zdG : ∀ {us : List Value} {ys : List Str}, StrsAre us ys -> Vals (ys.map V.str) us
 | _, _, .nil => .nil
 | _, _, .cons x t r => .cons ⟨t, rfl⟩ (zdG r)
theorem zfq (hc : X.calm = true) : zbE X (.builtin "sorted") (zfL X.prog X.w X.K) := by
 intro Qa s σ H xs us Q I r h;obtain ⟨a, ts, rfl, hq, hl, k⟩ := h;obtain ⟨u, rfl, ru⟩ := zeT r;cases ru;have fin : ∀ (hp : Heap) (tk : Nat) (d : Drawn), (∀ b o, s.heap.get? b = some o -> hp.get? b = some o) -> s.heap.objs.size <= hp.objs.size -> ∀ us' : List Str, us'.Perm ts -> ∀ (l : Addr) (hp2 : Heap) (vs : List Str) (out : List Value), (∀ b o, hp.get? b = some o -> hp2.get? b = some o) -> hp.objs.size <= l ->
   (∃ c, hp2.get? l = some { cls := .type "list", data := .seq out.toArray c }) -> StrsAre out vs -> vs.Perm us' -> sortedS vs = true -> EP X Qa σ Q (.ref l) { s with heap := hp2, toks := tk, drawn := d } := fun hp tk d k1 z1 us' p1 l hp2 vs out k2 hn ⟨c, hc'⟩ ho pv hs => by
  have hsz : s.heap.objs.size <= l := yat z1 hn;refine ⟨.ref l, _, (I.laid (t' := tk) (o := .lst (vs.map V.str)) (fun b o e => k2 b o (k1 b o e)) hsz ⟨?_, out, c, zdG ho, hc'⟩).draw d, rfl, k l vs (I.hok.fresh hsz) hs (pv.trans p1)⟩;rw [yaf, (pv.trans p1).length_eq];exact zar (by omega)
 rcases hq with hq | hq
 ·have S : SetS X.prog X.w s.heap a ts := (I.hok a _ hq).1;refine zfK (n := 0) (zfJ (I.ok.hd hc) S (zar (by omega)) fun hp tk d vs us' k1 z1 hv hp' => ⟨us', hv, by rw [hp'.length_eq]; exact hl, fun l hp2 vs2 out k2 hn hl2 ho pv hs => fin hp tk d k1 z1 us' hp' l hp2 vs2 out k2 hn hl2 ho pv hs⟩)
 ·obtain ⟨its, rv, pl, _⟩ := I.list hq;have Qe : its.length = ts.length := by have := rv.length; simpa using this.symm
  refine sorted_strs pl.isList (zcX rv) (by omega) fun out vs ho pv hs => ?_;obtain ⟨c, hc'⟩ := sortedAll_at s.heap its out;have z : ({ s with heap := sortedAll s.heap its out } : Shared) = { s with heap := sortedAll s.heap its out, toks := s.toks, drawn := s.drawn } := rfl;rw [z];refine ⟨.ref (s.heap.objs.size + 1), _, (I.laid (t' := s.toks) (o := .lst (vs.map V.str)) (fun b o e => sortedAll_old e) (Nat.le_succ _) ⟨?_, out.toList, c, zdG ho, by rw [hc']⟩).draw s.drawn, rfl, k _ vs (I.hok.fresh (Nat.le_succ _)) hs pv⟩;rw [yaf, pv.length_eq];exact zar (by omega)
variable {P : Program} {w : World} {K : W.Frag} {Q : VK} {p : Addr}
theorem zfr (P : Program) (w : World) (K : W.Frag) (hc : X.calm = true) (hK : X.K = K := by rfl) (hP : X.prog = P := by rfl) (hw : X.w = w := by rfl) : zbE X (.type "set") (zig P w K) := by
 subst hK hP hw; exact zgZ hc
theorem zdp (P : Program) (w : World) (K : W.Frag) (hc : X.calm = true) (hK : X.K = K := by rfl) (hP : X.prog = P := by rfl) (hw : X.w = w := by rfl) : zbE X (.builtin "sorted") (zfL P w K) := by
 subst hK hP hw; exact zfq hc
theorem zkM : zig P w K [.ref p] H Q = ∃ ts : List Str, SqL K H p (ts.map V.str) /\ ts.length < 4000 /\ ∀ S us, H S = none -> us.Nodup -> us.length <= ts.length -> (∀ x, x ∈ us ↔ x ∈ ts) -> Q (.ref S) (upd H S (SetO P w S us)) := by
 refine propext ⟨fun ⟨_, ts, e, h⟩ => ?_, fun ⟨ts, h⟩ => ⟨p, ts, rfl, h⟩⟩;cases e; exact ⟨ts, h⟩
theorem zjs : zfL P w K [.ref p] H Q = ∃ us : List Str, (H p = some (SetO P w p us) \/ SqL K H p (us.map V.str)) /\ us.length < 64 /\ ∀ l vs, H l = none -> sortedS vs = true -> vs.Perm us -> Q (.ref l) (upd H l (.lst (vs.map V.str))) := by
 refine propext ⟨fun ⟨_, us, e, h⟩ => ?_, fun ⟨us, h⟩ => ⟨p, us, rfl, h⟩⟩;cases e; exact ⟨us, h⟩
end
structure Fnc (X : Cx) : Prop where
 stk : X.stack = X.env :: X.outer
 fr : X.env.frame = some X.env.locals
 ex : X.ex = []
section
variable {X : Cx} {σ : St} {H : Hp} {s : Shared} {l : List Addr} {e C : Addr} {fl : Option Value}
end
section
variable {X : Cx} {G : Addr -> St -> Hp -> Prop} {u : Value} {s : Shared}
end
def xnames : List Str := ["__init__", "__getattribute__", "__getattr__", "__class__"]
inductive zjt (h : Heap) (bmB : List Value) : List Value -> Prop
 | base : zjt h bmB bmB
 | own {A : Addr} {c0 : Value} {dd : Option Addr} {cd : ClassData} {sl : Array (Option Value)} {mA : Str -> Option Value} {tl : List Value} :
   h.get? A = some { cls := c0, dict := dd, data := .cls cd, slots := sl } -> h.Ns cd.ns mA -> (∀ n ∈ xnames, mA n = none) -> zjt h bmB tl -> zjt h bmB (.ref A :: tl)
def XCls (K : W.Frag) (mg : Str -> Option Value) (x : Str) (C : Addr) (ch : List Addr) (bm : List Value) (newId : String) : Prop := mg x = some (.ref C) /\ ∀ h : Heap, K.In h ->
 ∃ N nm q bs hdct sn sub ab col dd k0 k1 k2 k3 k5 mN, h.get? C = some (excClassObj nm q C N bs (ch.map Value.ref ++ bm) hdct sn sub ab col dd k0 k1 k2 k3 k5 newId) /\ h.Ns N mN /\ (∀ n ∈ xnames, mN n = none) /\ zjt h bm (ch.map Value.ref ++ bm)
section
variable {X : Cx} {G : Addr -> St -> Hp -> Prop}
end
section
variable {X : Cx} {G : Addr -> St -> Hp -> Prop} {k : Nat} {f : Addr} {fd : FuncData} {ps : List Str} {sp : Sp} {dvs : List V} {ds : List Value} {x : Str} {p pos : Pos} {e : Expr} {es : List Expr} {t : TA}
end
section
variable {X : Cx} {Qa : List (Addr × Obj)} {σ : St} {H : Hp} {s : Shared} {E : Value -> Shared -> Prop} {e : Addr}
end
section
variable {X : Cx}
end
section
variable {prog : Program} {w : World} {A : Around} {E : Value -> Shared -> Prop} {h : Heap} {g : Array GenState} {d : Drawn} {t : Nat} {os : OsState} {a : Addr} {o : Obj} {vs : Array Value}
 {nm q : Str} {C N : Addr} {bs bm bmB : List Value} {hdct : Bool} {sn : List Str} {sub : List Value} {ab : Bool} {col : Option Bool} {dd : Option Addr} {k0 k1 k2 k3 k5 : Option Value} {B newId : String} {mN : Str -> Option Value}
structure zo2 (B : String) (bmB : List Value) : Prop extends ExcAttrBase B bmB where
 lkC : typeLookup (.type B) "__class__" = pure (some (.builtin "object.__class__"))
 hasObj : bmB.contains (.type "object") = true
end
structure znT (k : Nat) (A : Around) : Prop where
 dp : A.depth + 3 * k + 5 < recursionLimit
 un : A.units + 16 * k + 200 < cLine
structure zo3 (P : Program) (w : World) (K : W.Frag) (mg : Str -> Option Value) (base : Heap) (k : Nat) (f : Addr) (fd : FuncData) (ps : List Str) (sp : Sp) : Prop where
 len : ∀ vs H Q E, sp vs H Q E -> vs.length = ps.length
 run : ∀ (A : Around) (outer : List Env) (s : Shared) (H : Hp) (args : Args) (us : List Value) (vs : List V) (Q : VK), znT k A -> Env0 P w K mg base A outer s H -> BindsTo s fd args (ps.zip us) -> Vals vs us -> sp vs H Q E0 ->
  codeAny (model P w) A (.call (.ref f) args) (CR CX0 outer P w H s Q E0) s
section
variable {X : Cx} {k : Nat} {f : Addr} {fd : FuncData} {ps : List Str} {sp : Sp} {dvs : List V} {ds : List Value} {x : Str} {p pos : Pos} {e : Expr} {es : List Expr} {t : TA}
end
structure CNs (K : W.Frag) (N : Addr) : Prop where
 ok : ∃ oc od es ep sl, K.lookup N = some ⟨oc, od, .dict (List.toArray es) ep, sl⟩ /\ (es.all fun e => match e.key with | .str _ _ => true | _ => false) = true
 n1 : W.nsIn K N "__init__" = some none
 n2 : W.nsIn K N "__getattribute__" = some none
 n3 : W.nsIn K N "__getattr__" = some none
 n4 : W.nsIn K N "__class__" = some none
theorem CNs.quiet {K : W.Frag} {h : Heap} {N : Addr} (c : CNs K N) (X : K.In h) : h.Ns N (h.nsMap N) /\ ∀ n ∈ xnames, h.nsMap N n = none := by
 have ok : W.nsOkIn K N = true := by
  obtain ⟨oc, od, es, ep, sl, e, q⟩ := c.ok;unfold W.nsOkIn;rw [e];exact (List.all_toArray (l := es)).trans q
 refine ⟨.of_isNs (W.isNs_of_in X ok), fun n hn => W.nsMap_none_of_in X ok ?_⟩;simp only [xnames, List.mem_cons, List.not_mem_nil, or_false] at hn;rcases hn with rfl | rfl | rfl | rfl
 ·exact c.n1
 ·exact c.n2
 ·exact c.n3
 ·exact c.n4
section
variable {K : W.Frag} {mg : Str -> Option Value} {x nm q nm' q' : Str} {C D N N' : Addr} {bm bs bs' bm' : List Value} {hdct hdct' : Bool} {sn sn' : List Str} {sub sub' : List Value} {ab ab' : Bool} {col col' : Option Bool} {dd dd' : Option Addr} {k0 k1 k2 k3 k5 k0' k1' k2' k3' k5' : Option Value} {newId newId' : String} {b : Bool}
theorem znU (m : mg x = some (.ref C)) (l : K.lookup C = some (excClassObj nm q C N bs bm hdct sn sub ab col dd k0 k1 k2 k3 k5 newId)) (c : CNs K N) : XCls K mg x C [] bm newId :=
 ⟨m, fun h X => ⟨N, nm, q, bs, hdct, sn, sub, ab, col, dd, k0, k1, k2, k3, k5, _, X _ _ l, (c.quiet X).1, (c.quiet X).2, .base⟩⟩
theorem znV (m : mg x = some (.ref C)) (l : K.lookup C = some (excClassObj nm q C N bs (.ref D :: bm) hdct sn sub ab col dd k0 k1 k2 k3 k5 newId)) (c : CNs K N)
  (l' : K.lookup D = some (excClassObj nm' q' D N' bs' bm hdct' sn' sub' ab' col' dd' k0' k1' k2' k3' k5' newId')) (c' : CNs K N') : XCls K mg x C [D] bm newId :=
 ⟨m, fun h X => ⟨N, nm, q, bs, hdct, sn, sub, ab, col, dd, k0, k1, k2, k3, k5, _, X _ _ l, (c.quiet X).1, (c.quiet X).2, .own (X _ _ l') (c'.quiet X).1 (c'.quiet X).2 .base⟩⟩
end
abbrev TJ := Str -> St -> Hp -> (Str -> Hp -> Prop) -> Prop
section
variable {X : Cx} {e v : Expr} {es : List Expr} {te : TE} {tr : TJ} {pos : Pos}
end
section
variable {σ : St} {H : Hp} {Q : VK} {D : Ends} {te : TE} {tr : TJ} {acc y : Str} {i : Int} {R : Str -> Hp -> Prop} {G : Addr -> St -> Hp -> Prop} {sp : Sp} {dvs : List V} {t : TA}
theorem zkN {p : Str -> Prop} : (∃ y', V.str y = V.str y' /\ p y') = p y := propext ⟨fun ⟨_, e, h⟩ => by cases e; exact h, fun h => ⟨y, rfl, h⟩⟩
theorem zkO {p : Str -> Prop} {q : Int -> Prop} : ((∃ y', V.str y = V.str y' /\ p y') \/ ∃ i, V.str y = V.int i /\ q i) = p y := propext ⟨fun h => by rcases h with ⟨_, e, h⟩ | ⟨_, e, _⟩ <;> cases e; exact h, fun h => .inl ⟨y, rfl, h⟩⟩
theorem zkP {p : Str -> Prop} {q : Int -> Prop} : ((∃ y', V.int i = V.str y' /\ p y') \/ ∃ j, V.int i = V.int j /\ q j) = q i := propext ⟨fun h => by rcases h with ⟨_, e, _⟩ | ⟨_, e, h⟩ <;> cases e; exact h, fun h => .inr ⟨i, rfl, h⟩⟩
end
abbrev TM := St -> Hp -> (Hp -> Prop) -> Prop
section
variable {X : Cx} {e v : Expr} {es : List Expr} {te : TE} {tp tr : TM} {pos : Pos}
end
section
variable {σ : St} {H : Hp} {Q : VK} {te : TE} {tp tr tm : TM} {R : Hp -> Prop} {y : Str} {i : Int}
end
section
variable {X : Cx} {G : Addr -> St -> Hp -> Prop} {k : Nat} {f C : Addr} {fd : FuncData} {ps : List Str} {sp : Sp} {dvs : List V} {ds : List Value} {x m : Str} {p pos apos : Pos} {e o : Expr} {es : List Expr} {ta : TE} {t : TA}
end
section
variable {K : W.Frag} {σ : St} {H : Hp} {Q : VK} {D : Ends} {ta tv : TE} {t : TA} {f m : Str} {p C : Addr} {sp : Sp} {dvs : List V} {E : XK} {G : Addr -> St -> Hp -> Prop} {rd : V -> V -> Hp -> VK -> Prop}
theorem znW : tFld K ta f σ H Q = ta σ H fun x H1 => ∃ a C dx fs v, x = .ref a /\ H1 a = some (.ins C dx fs) /\ Cls K C /\ NoAttr K C f /\ fs.lookup f = some v /\ Q v H1 := rfl
theorem zm6 : sFld K ta tv f D σ H = tv σ H fun y H1 => ta σ H1 fun x H2 => ∃ a C dx fs, x = .ref a /\ H2 a = some (.ins C dx fs) /\ Cls K C /\ NoAttr K C f /\ fs.length < 1000 /\ D.nx σ (upd H2 a (.ins C dx (putF f y fs))) := rfl
theorem zm7 : zlS C m sp dvs E ta t σ H Q = ta σ H fun x H1 => ∃ a dx fs, x = .ref a /\ H1 a = some (.ins C dx fs) /\ fs.lookup m = none /\ t σ H1 fun vs H2 => sp (x :: (vs ++ dvs)) H2 Q E := rfl
theorem zm8 : zlT C sp dvs E t σ H Q = t σ H fun vs H1 => ∀ x dx, H1 x = none -> H1 dx = none -> dx ≠ x -> sp (.ref x :: (vs ++ dvs)) (upd (upd H1 dx (.own x)) x (.ins C dx [])) (fun v H2 => v = .non /\ Q (.ref x) H2) E := rfl
end
inductive Dt where
 | int (i : Int) | str (x : Str) | non | tup (l : List Dt) | lst (l : List Dt)
mutual
def Dt.beq : Dt -> Dt -> Bool
 | .int i, .int j => i == j
 | .str x, .str y => decide (x = y)
 | .non, .non => true
 | .tup l, .tup m => Dt.beqs l m
 | .lst l, .lst m => Dt.beqs l m
 | _, _ => false
def Dt.beqs : List Dt -> List Dt -> Bool
 | [], [] => true
 | a :: l, b :: m => Dt.beq a b && Dt.beqs l m
 | _, _ => false
end
mutual
theorem Dt.beq_iff : ∀ a b : Dt, Dt.beq a b = true ↔ a = b
 | .int i, b => by cases b <;> simp [Dt.beq]
 | .str x, b => by cases b <;> simp [Dt.beq]
 | .non, b => by cases b <;> simp [Dt.beq]
 | .tup l, b => by cases b with
  | tup m => simp only [Dt.beq, Dt.tup.injEq]; exact Dt.beqs_iff l m
  | _ => simp [Dt.beq]
 | .lst l, b => by cases b with
  | lst m => simp only [Dt.beq, Dt.lst.injEq]; exact Dt.beqs_iff l m
  | _ => simp [Dt.beq]
theorem Dt.beqs_iff : ∀ l m : List Dt, Dt.beqs l m = true ↔ l = m
 | [], m => by cases m <;> simp [Dt.beqs]
 | a :: l, m => by cases m with
  | nil => simp [Dt.beqs]
  | cons b m => simp only [Dt.beqs, Bool.and_eq_true, List.cons.injEq]; rw [Dt.beq_iff a b, Dt.beqs_iff l m]
end
instance : DecidableEq Dt := fun a b => if h : Dt.beq a b = true then isTrue ((Dt.beq_iff a b).mp h) else isFalse fun e => h ((Dt.beq_iff a b).mpr e)
theorem Dt.beq_dec (a b : Dt) : Dt.beq a b = decide (a = b) := by
 by_cases h : a = b
 ·rw [ya9 h]; exact (Dt.beq_iff a b).mpr h
 ·rw [ya8 h]; exact Bool.eq_false_iff.mpr fun e => h ((Dt.beq_iff a b).mp e)
theorem Dt.beqs_all : ∀ (l m : List Dt) (e : Nat -> Bool), (∀ (j : Nat) a b, l[j]? = some a -> m[j]? = some b -> e j = Dt.beq a b) -> ((List.range (min l.length m.length)).all e && l.length == m.length) = Dt.beqs l m
 | [], [], e, _ => by simp [Dt.beqs]
 | [], b :: m, e, _ => by simp [Dt.beqs]
 | a :: l, [], e, _ => by simp [Dt.beqs]
 | a :: l, b :: m, e, h => by
  have ih := Dt.beqs_all l m (fun j => e (j + 1)) fun j x y h1 h2 => h (j + 1) x y (by simpa using h1) (by simpa using h2);have h0 := h 0 a b rfl rfl;simp only [Dt.beqs];rw [<- ih, <- h0];simp only [List.length_cons];rw [show min (l.length + 1) (m.length + 1) = min l.length m.length + 1 by omega, List.range_succ_eq_map];simp only [List.all_cons, List.all_map];have : ((l.length + 1 == m.length + 1) : Bool) = (l.length == m.length) := by simp
  rw [this, Bool.and_assoc]
  rfl
mutual
def Dt.dep : Dt -> Nat
 | .tup l => Dt.deps l + 1
 | .lst l => Dt.deps l + 1
 | _ => 0
def Dt.deps : List Dt -> Nat
 | [] => 0
 | a :: l => max (Dt.dep a) (Dt.deps l)
end
theorem Dt.dep_mem : ∀ {l : List Dt} {j : Nat} {a : Dt}, l[j]? = some a -> Dt.dep a <= Dt.deps l
 | [], j, a, h => by simp at h
 | b :: l, 0, a, h => by simp at h; subst h; simp only [Dt.deps]; omega
 | b :: l, j + 1, a, h => by have := Dt.dep_mem (l := l) (j := j) (a := a) (by simpa using h); simp only [Dt.deps]; omega
inductive RepD (K : W.Frag) (H : Hp) : Dt -> V -> Prop
 | int (i : Int) : RepD K H (.int i) (.int i)
 | str (x : Str) : RepD K H (.str x) (.str x)
 | non : RepD K H .non .non
 | tup {a : Addr} {xs : List V} {l : List Dt} (h : SqT K H a xs) (hl : l.length = xs.length) (hr : ∀ (j : Nat) d x, l[j]? = some d -> xs[j]? = some x -> RepD K H d x) : RepD K H (.tup l) (.ref a)
 | lst {a : Addr} {xs : List V} {l : List Dt} (h : SqL K H a xs) (hl : l.length = xs.length) (hr : ∀ (j : Nat) d x, l[j]? = some d -> xs[j]? = some x -> RepD K H d x) : RepD K H (.lst l) (.ref a)
theorem isL {X : Cx} {Qa : List (Addr × Obj)} {σ : St} {H : Hp} {s : Shared} {a : Addr} {xs : List V} (I : Inv X Qa σ H s) (h : SqL X.K H a xs) : ∃ its : List Value, Vals xs its /\ s.heap.IsList a its.toArray := by
 obtain ⟨its, r, p, _⟩ := I.list h;exact ⟨its, r, p.isList⟩
theorem isT {X : Cx} {Qa : List (Addr × Obj)} {σ : St} {H : Hp} {s : Shared} {a : Addr} {xs : List V} (I : Inv X Qa σ H s) (h : SqT X.K H a xs) : ∃ its : List Value, Vals xs its /\ s.heap.IsTuple a its.toArray := by
 obtain ⟨its, r, p, _⟩ := I.tuple h;exact ⟨its, r, p⟩
section
variable {X : Cx} {Qa : List (Addr × Obj)} {σ : St} {H : Hp} {s : Shared}
theorem RepD.inj (I : Inv X Qa σ H s) {d : Dt} {x : V} (h : RepD X.K H d x) : ∀ {d' : Dt}, RepD X.K H d' x -> d = d' := by
 induction h with
 | int i => intro d' h; cases h; rfl
 | str x => intro d' h; cases h; rfl
 | non => intro d' h; cases h; rfl
 | @tup a xs l h hl hr ih =>
  intro d' h';cases h' with
  | @tup _ xs' l' h' hl' hr' =>
   obtain rfl := I.tuple_inj h h'
   congr 1
   apply List.ext_getElem?;intro j
   by_cases hj : j < l.length
   ·have e1 : l[j]? = some l[j] := by simp [hj]
    have e2 : xs[j]? = some xs[j] := by simp
    have hj' : j < l'.length := by omega
    have e3 : l'[j]? = some l'[j] := by simp [hj']
    rw [e1, e3, ih j _ _ e1 e2 (hr' j _ _ e3 e2)]
   ·rw [List.getElem?_eq_none (by omega), List.getElem?_eq_none (by omega)]
  | @lst _ xs' l' h' hl' hr' =>
   obtain ⟨_, _, p⟩ := isT I h;obtain ⟨_, _, q⟩ := isL I h';exact absurd rfl (SeqAt.ne_of_list_tuple q p)
 | @lst a xs l h hl hr ih =>
  intro d' h';cases h' with
  | @lst _ xs' l' h' hl' hr' =>
   obtain rfl := I.list_inj h h'
   congr 1
   apply List.ext_getElem?;intro j
   by_cases hj : j < l.length
   ·have e1 : l[j]? = some l[j] := by simp [hj]
    have e2 : xs[j]? = some xs[j] := by simp
    have hj' : j < l'.length := by omega
    have e3 : l'[j]? = some l'[j] := by simp [hj']
    rw [e1, e3, ih j _ _ e1 e2 (hr' j _ _ e3 e2)]
   ·rw [List.getElem?_eq_none (by omega), List.getElem?_eq_none (by omega)]
  | @tup _ xs' l' h' hl' hr' =>
   obtain ⟨_, _, p⟩ := isL I h;obtain ⟨_, _, q⟩ := isT I h';exact absurd rfl (SeqAt.ne_of_list_tuple p q)
theorem RepD.at (I : Inv X Qa σ H s) {d : Dt} {x : V} (h : RepD X.K H d x) : ∀ {d' : Dt} {y : V}, RepD X.K H d' y -> ∀ {A : Around} {u v : Value}, A.units + Dt.dep d < cLine -> RelV x u -> RelV y v ->
  SeqAt.RcAt A s u v (Dt.beq d d') /\ SeqAt.EqAt A s u v (Dt.beq d d') := by
 induction h with
 | int i =>
  intro d' y h' A u v hu ru rv;obtain ⟨t, rfl⟩ := ru;cases h' with
  | int j => obtain ⟨t', rfl⟩ := rv; exact ⟨SeqAt.RcAt.int_int _ _ _ _, SeqAt.EqAt.int_int _ _ _ _⟩
  | str z => obtain ⟨t', rfl⟩ := rv; exact ⟨SeqAt.RcAt.int_str _ _ _ _, SeqAt.EqAt.int_str _ _ _ _⟩
  | non => cases rv; exact ⟨SeqAt.RcAt.int_none _ _, SeqAt.EqAt.int_none _ _⟩
  | tup h => cases rv; obtain ⟨_, _, p⟩ := isT I h; exact ⟨SeqAt.RcAt.int_tuple _ _ p (by omega), SeqAt.EqAt.int_tuple _ _ p (by omega)⟩
  | lst h => cases rv; obtain ⟨_, _, p⟩ := isL I h; exact ⟨SeqAt.RcAt.int_list _ _ p (by omega), SeqAt.EqAt.int_list _ _ p (by omega)⟩
 | str z =>
  intro d' y h' A u v hu ru rv;obtain ⟨t, rfl⟩ := ru;cases h' with
  | int j => obtain ⟨t', rfl⟩ := rv; exact ⟨SeqAt.RcAt.str_int _ _ _ _, SeqAt.EqAt.str_int _ _ _ _⟩
  | str z' =>
   obtain ⟨t', rfl⟩ := rv;have e : (z == z') = Dt.beq (.str z) (.str z') := by simp only [Dt.beq]; rw [Bool.beq_eq_decide_eq]
   rw [<- e]; exact ⟨SeqAt.RcAt.str_str _ _ _ _, SeqAt.EqAt.str_str _ _ _ _⟩
  | non => cases rv; exact ⟨SeqAt.RcAt.str_none _ _, SeqAt.EqAt.str_none _ _⟩
  | tup h => cases rv; obtain ⟨_, _, p⟩ := isT I h; exact ⟨SeqAt.RcAt.str_tuple _ _ p (by omega), SeqAt.EqAt.str_tuple _ _ p (by omega)⟩
  | lst h => cases rv; obtain ⟨_, _, p⟩ := isL I h; exact ⟨SeqAt.RcAt.str_list _ _ p (by omega), SeqAt.EqAt.str_list _ _ p (by omega)⟩
 | non =>
  intro d' y h' A u v hu ru rv;cases ru;cases h' with
  | int j => obtain ⟨t', rfl⟩ := rv; exact ⟨SeqAt.RcAt.none_int _ _, SeqAt.EqAt.none_int _ _⟩
  | str z' => obtain ⟨t', rfl⟩ := rv; exact ⟨SeqAt.RcAt.none_str _ _, SeqAt.EqAt.none_str _ _⟩
  | non => cases rv; exact ⟨SeqAt.RcAt.none_none, SeqAt.EqAt.same _⟩
  | tup h => cases rv; obtain ⟨_, _, p⟩ := isT I h; exact ⟨SeqAt.RcAt.none_tuple p (by omega), SeqAt.EqAt.none_tuple p (by omega)⟩
  | lst h => cases rv; obtain ⟨_, _, p⟩ := isL I h; exact ⟨SeqAt.RcAt.none_list p (by omega), SeqAt.EqAt.none_list p (by omega)⟩
 | @tup a xs l h hl hr ih =>
  intro d' y h' A u v hu ru rv;have h0 := h';cases ru;obtain ⟨its, r1, p1⟩ := isT I h;cases h' with
  | int j => obtain ⟨t', rfl⟩ := rv; exact ⟨SeqAt.RcAt.tuple_int _ _ p1 (by omega), SeqAt.EqAt.tuple_int _ _ p1 (by omega)⟩
  | str z' => obtain ⟨t', rfl⟩ := rv; exact ⟨SeqAt.RcAt.tuple_str _ _ p1 (by omega), SeqAt.EqAt.tuple_str _ _ p1 (by omega)⟩
  | non => cases rv; exact ⟨SeqAt.RcAt.tuple_none p1 (by omega), SeqAt.EqAt.tuple_none p1 (by omega)⟩
  | lst h2 => cases rv; obtain ⟨_, _, p2⟩ := isL I h2; exact ⟨SeqAt.RcAt.tuple_list p1 p2 (by omega), SeqAt.EqAt.tuple_list p1 p2 (by omega)⟩
  | @tup b ys m h2 hl2 hr2 =>
   cases rv;obtain ⟨its2, r2, p2⟩ := isT I h2;have l1 : its.toArray.size = xs.length := by rw [yad]; exact r1.length.symm
   have l2 : its2.toArray.size = ys.length := by rw [yad]; exact r2.length.symm
   have rc : SeqAt.RcAt A s (.ref a) (.ref b) (Dt.beq (.tup l) (.tup m)) := by
    have hd : Dt.dep (.tup l) = Dt.deps l + 1 := by simp only [Dt.dep]
    rw [hd] at hu;have := SeqAt.RcAt.tuples (A := A) (e := fun j => match l[j]?, m[j]? with | some x, some y => Dt.beq x y | _, _ => true) p1 p2 (by omega) (fun j h1 h2 => by
     obtain ⟨x, ex, rx⟩ := getD_some r1 h1;obtain ⟨y, ey, ry⟩ := getD_some r2 h2;have j1 : j < l.length := by omega
     have j2 : j < m.length := by omega
     have e1 : l[j]? = some l[j] := by simp [j1]
     have e2 : m[j]? = some m[j] := by simp [j2]
     rw [e1, e2];exact (ih j _ _ e1 ex (hr2 j _ _ e2 ey) (A := A.in1) (by show A.units + 1 + _ < cLine; have := Dt.dep_mem e1; omega) rx ry).2)
    rw [l1, l2, <- hl, <- hl2, Dt.beqs_all l m _ (fun j x y h1 h2 => by simp only [h1, h2])] at this;simp only [Dt.beq];exact this
   refine ⟨rc, ?_⟩
   by_cases hab : a = b
   ·subst hab;rw [(Dt.beq_iff _ _).mpr ((RepD.tup h hl hr).inj I h0)];exact SeqAt.EqAt.same _
   ·exact SeqAt.EqAt.of_refs hab rc
 | @lst a xs l h hl hr ih =>
  intro d' y h' A u v hu ru rv;have h0 := h';cases ru;obtain ⟨its, r1, p1⟩ := isL I h;cases h' with
  | int j => obtain ⟨t', rfl⟩ := rv; exact ⟨SeqAt.RcAt.list_int _ _ p1 (by omega), SeqAt.EqAt.list_int _ _ p1 (by omega)⟩
  | str z' => obtain ⟨t', rfl⟩ := rv; exact ⟨SeqAt.RcAt.list_str _ _ p1 (by omega), SeqAt.EqAt.list_str _ _ p1 (by omega)⟩
  | non => cases rv; exact ⟨SeqAt.RcAt.list_none p1 (by omega), SeqAt.EqAt.list_none p1 (by omega)⟩
  | tup h2 => cases rv; obtain ⟨_, _, p2⟩ := isT I h2; exact ⟨SeqAt.RcAt.list_tuple p1 p2 (by omega), SeqAt.EqAt.list_tuple p1 p2 (by omega)⟩
  | @lst b ys m h2 hl2 hr2 =>
   cases rv;obtain ⟨its2, r2, p2⟩ := isL I h2;have l1 : its.toArray.size = xs.length := by rw [yad]; exact r1.length.symm
   have l2 : its2.toArray.size = ys.length := by rw [yad]; exact r2.length.symm
   have rc : SeqAt.RcAt A s (.ref a) (.ref b) (Dt.beq (.lst l) (.lst m)) := by
    have hd : Dt.dep (.lst l) = Dt.deps l + 1 := by simp only [Dt.dep]
    rw [hd] at hu;simp only [Dt.beq]
    by_cases Qe : l.length = m.length
    ·have := SeqAt.RcAt.lists (A := A) (e := fun j => match l[j]?, m[j]? with | some x, some y => Dt.beq x y | _, _ => true) p1 p2 (by omega) (by omega) (fun j h1 h2 => by
      obtain ⟨x, ex, rx⟩ := getD_some r1 h1;obtain ⟨y, ey, ry⟩ := getD_some r2 h2;have j1 : j < l.length := by omega
      have j2 : j < m.length := by omega
      have e1 : l[j]? = some l[j] := by simp [j1]
      have e2 : m[j]? = some m[j] := by simp [j2]
      rw [e1, e2];exact (ih j _ _ e1 ex (hr2 j _ _ e2 ey) (A := A.in1) (by show A.units + 1 + _ < cLine; have := Dt.dep_mem e1; omega) rx ry).2)
     have q := Dt.beqs_all l m (fun j => match l[j]?, m[j]? with | some x, some y => Dt.beq x y | _, _ => true) (fun j x y h1 h2 => by simp only [h1, h2]);rw [<- q];have q1 : (l.length == m.length) = true := by simpa using Qe
     have q2 : min l.length m.length = its.toArray.size := by omega
     rw [q1, Bool.and_true, q2];exact this
    ·have q : Dt.beqs l m = false := Bool.eq_false_iff.mpr fun e => Qe (congrArg List.length ((Dt.beqs_iff l m).mp e));rw [q];exact SeqAt.RcAt.lists_lengths p1 p2 (by rw [l1, l2]; simp; omega) (by omega)
   refine ⟨rc, ?_⟩
   by_cases hab : a = b
   ·subst hab;rw [(Dt.beq_iff _ _).mpr ((RepD.lst h hl hr).inj I h0)];exact SeqAt.EqAt.same _
   ·exact SeqAt.EqAt.of_refs hab rc
theorem RepD.ne (I : Inv X Qa σ H s) {d d' : Dt} {x y : V} (h : RepD X.K H d x) (h' : RepD X.K H d' y) {A : Around} {u v : Value} (hu : A.units + Dt.dep d < cLine) (ru : RelV x u) (rv : RelV y v) :
  SeqAt.RcNeAt A s u v (!Dt.beq d d') := by
 cases h with
 | int i =>
  obtain ⟨t, rfl⟩ := ru;cases h' with
  | int j => obtain ⟨t', rfl⟩ := rv; exact SeqAt.RcNeAt.int_int _ _ _ _
  | str z => obtain ⟨t', rfl⟩ := rv; exact SeqAt.RcNeAt.int_str _ _ _ _
  | non => cases rv; exact SeqAt.RcNeAt.int_none _ _
  | tup h => cases rv; obtain ⟨_, _, p⟩ := isT I h; exact SeqAt.RcNeAt.int_tuple _ _ p (by omega)
  | lst h => cases rv; obtain ⟨_, _, p⟩ := isL I h; exact SeqAt.RcNeAt.int_list _ _ p (by omega)
 | str z =>
  obtain ⟨t, rfl⟩ := ru;cases h' with
  | int j => obtain ⟨t', rfl⟩ := rv; exact SeqAt.RcNeAt.str_int _ _ _ _
  | str z' =>
   obtain ⟨t', rfl⟩ := rv;have e : (z == z') = Dt.beq (.str z) (.str z') := by simp only [Dt.beq]; rw [Bool.beq_eq_decide_eq]
   rw [<- e]; exact SeqAt.RcNeAt.str_str _ _ _ _
  | non => cases rv; exact SeqAt.RcNeAt.str_none _ _
  | tup h => cases rv; obtain ⟨_, _, p⟩ := isT I h; exact SeqAt.RcNeAt.str_tuple _ _ p (by omega)
  | lst h => cases rv; obtain ⟨_, _, p⟩ := isL I h; exact SeqAt.RcNeAt.str_list _ _ p (by omega)
 | non =>
  cases ru;cases h' with
  | int j => obtain ⟨t', rfl⟩ := rv; exact SeqAt.RcNeAt.none_int _ _
  | str z' => obtain ⟨t', rfl⟩ := rv; exact SeqAt.RcNeAt.none_str _ _
  | non => cases rv; exact SeqAt.RcNeAt.none_none
  | tup h => cases rv; obtain ⟨_, _, p⟩ := isT I h; exact SeqAt.RcNeAt.none_tuple p (by omega)
  | lst h => cases rv; obtain ⟨_, _, p⟩ := isL I h; exact SeqAt.RcNeAt.none_list p (by omega)
 | @tup a xs l h hl hr =>
  cases ru;obtain ⟨its, r1, p1⟩ := isT I h;cases h' with
  | int j => obtain ⟨t', rfl⟩ := rv; exact SeqAt.RcNeAt.tuple_int _ _ p1 (by omega)
  | str z' => obtain ⟨t', rfl⟩ := rv; exact SeqAt.RcNeAt.tuple_str _ _ p1 (by omega)
  | non => cases rv; exact SeqAt.RcNeAt.tuple_none p1 (by omega)
  | lst h2 => cases rv; obtain ⟨_, _, p2⟩ := isL I h2; exact SeqAt.RcNeAt.tuple_list p1 p2 (by omega)
  | @tup b ys m h2 hl2 hr2 =>
   cases rv;obtain ⟨its2, r2, p2⟩ := isT I h2;have l1 : its.toArray.size = xs.length := by rw [yad]; exact r1.length.symm
   have l2 : its2.toArray.size = ys.length := by rw [yad]; exact r2.length.symm
   have hd : Dt.dep (.tup l) = Dt.deps l + 1 := by simp only [Dt.dep]
   rw [hd] at hu;have := SeqAt.RcNeAt.tuples (A := A) (e := fun j => match l[j]?, m[j]? with | some x, some y => Dt.beq x y | _, _ => true) p1 p2 (by omega) (fun j h1 h2 => by
    obtain ⟨x, ex, rx⟩ := getD_some r1 h1;obtain ⟨y, ey, ry⟩ := getD_some r2 h2;have j1 : j < l.length := by omega
    have j2 : j < m.length := by omega
    have e1 : l[j]? = some l[j] := by simp [j1]
    have e2 : m[j]? = some m[j] := by simp [j2]
    rw [e1, e2];exact (RepD.at I (hr j _ _ e1 ex) (hr2 j _ _ e2 ey) (A := A.in1) (by show A.units + 1 + _ < cLine; have := Dt.dep_mem e1; omega) rx ry).2)
   rw [l1, l2, <- hl, <- hl2, Dt.beqs_all l m _ (fun j x y h1 h2 => by simp only [h1, h2])] at this;simp only [Dt.beq];exact this
 | @lst a xs l h hl hr =>
  cases ru;obtain ⟨its, r1, p1⟩ := isL I h;cases h' with
  | int j => obtain ⟨t', rfl⟩ := rv; exact SeqAt.RcNeAt.list_int _ _ p1 (by omega)
  | str z' => obtain ⟨t', rfl⟩ := rv; exact SeqAt.RcNeAt.list_str _ _ p1 (by omega)
  | non => cases rv; exact SeqAt.RcNeAt.list_none p1 (by omega)
  | tup h2 => cases rv; obtain ⟨_, _, p2⟩ := isT I h2; exact SeqAt.RcNeAt.list_tuple p1 p2 (by omega)
  | @lst b ys m h2 hl2 hr2 =>
   cases rv;obtain ⟨its2, r2, p2⟩ := isL I h2;have l1 : its.toArray.size = xs.length := by rw [yad]; exact r1.length.symm
   have l2 : its2.toArray.size = ys.length := by rw [yad]; exact r2.length.symm
   have hd : Dt.dep (.lst l) = Dt.deps l + 1 := by simp only [Dt.dep]
   rw [hd] at hu;simp only [Dt.beq]
   by_cases Qe : l.length = m.length
   ·have := SeqAt.RcNeAt.lists (A := A) (e := fun j => match l[j]?, m[j]? with | some x, some y => Dt.beq x y | _, _ => true) p1 p2 (by omega) (by omega) (fun j h1 h2 => by
     obtain ⟨x, ex, rx⟩ := getD_some r1 h1;obtain ⟨y, ey, ry⟩ := getD_some r2 h2;have j1 : j < l.length := by omega
     have j2 : j < m.length := by omega
     have e1 : l[j]? = some l[j] := by simp [j1]
     have e2 : m[j]? = some m[j] := by simp [j2]
     rw [e1, e2];exact (RepD.at I (hr j _ _ e1 ex) (hr2 j _ _ e2 ey) (A := A.in1) (by show A.units + 1 + _ < cLine; have := Dt.dep_mem e1; omega) rx ry).2)
    have q := Dt.beqs_all l m (fun j => match l[j]?, m[j]? with | some x, some y => Dt.beq x y | _, _ => true) (fun j x y h1 h2 => by simp only [h1, h2]);rw [<- q];have q1 : (l.length == m.length) = true := by simpa using Qe
    have q2 : min l.length m.length = its.toArray.size := by omega
    rw [q1, Bool.and_true, q2];exact this
   ·have q : Dt.beqs l m = false := Bool.eq_false_iff.mpr fun e => Qe (congrArg List.length ((Dt.beqs_iff l m).mp e));rw [q];exact SeqAt.RcNeAt.lists_lengths p1 p2 (by rw [l1, l2]; simp; omega) (by omega)
theorem RepD.mem (I : Inv X Qa σ H s) {d : Dt} {x : V} {l : List Dt} {xs : List V} {its : List Value} (hx : RepD X.K H d x) (hl : l.length = xs.length) (hr : ∀ (j : Nat) d x, l[j]? = some d -> xs[j]? = some x -> RepD X.K H d x)
  (r : Vals xs its) {A : Around} {v : Value} (hu : ∀ a ∈ l, A.units + Dt.dep a < cLine) (rv : RelV x v) :
  ∃ e : Value -> Bool, (∀ u ∈ its, SeqAt.EqAt A s u v (e u)) /\ its.any e = decide (d ∈ l) := by
 classical
 have item : ∀ u ∈ its, ∃ (j : Nat) (y : V) (a : Dt), its[j]? = some u /\ xs[j]? = some y /\ l[j]? = some a /\ RelV y u := fun u hm => by
  obtain ⟨j, hj, e⟩ := List.getElem_of_mem hm;have hx' : j < xs.length := by rw [r.length]; exact hj
  have hl' : j < l.length := by omega
  obtain ⟨u', e', ru⟩ := r.get (i := j) (x := xs[j]) (by simp [hx']);have : its[j]? = some u := by simp [hj, e]
  rw [this] at e'; cases e';exact ⟨j, xs[j], l[j], this, by simp [hx'], by simp [hl'], ru⟩
 refine ⟨fun u => decide (∃ y, RelV y u /\ RepD X.K H d y), fun u hm => ?_, ?_⟩
 ·obtain ⟨j, y, a, _, hy, ha, ru⟩ := item u hm;have ry := hr j a y ha hy;have e : decide (∃ y, RelV y u /\ RepD X.K H d y) = Dt.beq a d := by
   rw [Dt.beq_dec]
   congr 1
   refine propext ⟨fun ⟨y', r1, r2⟩ => ?_, fun z => ⟨y, ru, z ▸ ry⟩⟩;obtain rfl := ru.inj r1;exact ry.inj I r2
  show SeqAt.EqAt A s u v (decide (∃ y, RelV y u /\ RepD X.K H d y));rw [e];exact (ry.at I hx (hu a (ya1 ha)) ru rv).2
 ·apply Bool.eq_iff_iff.mpr;simp only [List.any_eq_true, decide_eq_true_eq]
  constructor
  ·rintro ⟨u, hm, y', r1, r2⟩
   obtain ⟨j, y, a, _, hy, ha, ru⟩ := item u hm;obtain rfl := ru.inj r1;have := (hr j a y ha hy).inj I r2;subst this;exact ya1 ha
  ·intro hm;obtain ⟨j, hj, e⟩ := List.getElem_of_mem hm;have hx' : j < xs.length := by omega
   obtain ⟨u, hu', ru⟩ := r.get (i := j) (x := xs[j]) (by simp [hx']);exact ⟨u, ya1 hu', xs[j], ru, e ▸ hr j l[j] xs[j] (by simp [hj]) (by simp [hx'])⟩
end
section
variable {X : Cx} {K : W.Frag} {H : Hp} {Q : VK}
def rEqT (K : W.Frag) : R2 := fun x y H Q => ∃ d d', RepD K H d x /\ RepD K H d' y /\ Dt.dep d <= 60 /\ Q (.bl (decide (d = d'))) H
def rNeT (K : W.Frag) : R2 := fun x y H Q => ∃ d d', RepD K H d x /\ RepD K H d' y /\ Dt.dep d <= 60 /\ Q (.bl (!decide (d = d'))) H
theorem zm9 (hu : X.A.units + 64 < cLine) : OpR X (compareOp .Eq) (rEqT X.K) := by
 intro Qa s σ H x y v u Q I rx ry ⟨d, d', h, h', hd, q⟩;exact (h.at I h' (A := X.A) (by omega) rx ry).1 X.prog X.w X.xe _ ⟨.bl _, H, I, rfl, by rw [Dt.beq_dec]; exact q⟩
theorem zmA (hu : X.A.units + 64 < cLine) : OpR X (compareOp .NotEq) (rNeT X.K) := by
 intro Qa s σ H x y v u Q I rx ry ⟨d, d', h, h', hd, q⟩;exact (h.ne I h' (A := X.A) (by omega) rx ry) X.prog X.w X.xe _ ⟨.bl _, H, I, rfl, by rw [Dt.beq_dec]; exact q⟩
def rInT (K : W.Frag) (neg : Bool) : R2 := fun x y H Q => ∃ d l, RepD K H d x /\ (RepD K H (.tup l) y \/ RepD K H (.lst l) y) /\ Dt.deps l <= 60 /\ Q (.bl (if neg then !decide (d ∈ l) else decide (d ∈ l))) H
theorem Dt.deps_mem {l : List Dt} {a : Dt} (h : a ∈ l) : Dt.dep a <= Dt.deps l := by
 obtain ⟨j, hj, e⟩ := List.getElem_of_mem h;exact Dt.dep_mem (j := j) (by simp [hj, e])
theorem zmB (hu : X.A.units + 64 < cLine) : OpR X (compareOp .In) (rInT X.K false) := by
 intro Qa s σ H x y v u Q I rx ry ⟨d, l, h, h', hd, q⟩;rcases h' with h' | h'
 ·cases h' with
  | @tup a xs _ hq hl hr =>
   cases ry;obtain ⟨its, r, p⟩ := isT I hq;obtain ⟨e, he, ha⟩ := RepD.mem I h hl hr r (A := X.A.in1) (fun a hm => by show X.A.units + 1 + _ < cLine; have := Dt.deps_mem hm; omega) rx;refine SeqAt.in_tupleAt e p (fun w hw => he w (by simpa using hw)) ⟨.bl _, H, I, rfl, ?_⟩;rw [show its.toArray.any e = its.any e by simp, ha];exact q
 ·cases h' with
  | @lst a xs _ hq hl hr =>
   cases ry;obtain ⟨its, r, p⟩ := isL I hq;obtain ⟨e, he, ha⟩ := RepD.mem I h hl hr r (A := X.A.in1) (fun a hm => by show X.A.units + 1 + _ < cLine; have := Dt.deps_mem hm; omega) rx;refine SeqAt.in_listAt e p (fun w hw => he w (by simpa using hw)) ⟨.bl _, H, I, rfl, ?_⟩;rw [show its.toArray.any e = its.any e by simp, ha];exact q
theorem zih (hu : X.A.units + 64 < cLine) : OpR X (compareOp .NotIn) (rInT X.K true) := by
 intro Qa s σ H x y v u Q I rx ry ⟨d, l, h, h', hd, q⟩;rcases h' with h' | h'
 ·cases h' with
  | @tup a xs _ hq hl hr =>
   cases ry;obtain ⟨its, r, p⟩ := isT I hq;obtain ⟨e, he, ha⟩ := RepD.mem I h hl hr r (A := X.A.in1) (fun a hm => by show X.A.units + 1 + _ < cLine; have := Dt.deps_mem hm; omega) rx;refine SeqAt.notIn_tupleAt e p (fun w hw => he w (by simpa using hw)) ⟨.bl _, H, I, rfl, ?_⟩;rw [show its.toArray.any e = its.any e by simp, ha];exact q
 ·cases h' with
  | @lst a xs _ hq hl hr =>
   cases ry;obtain ⟨its, r, p⟩ := isL I hq;obtain ⟨e, he, ha⟩ := RepD.mem I h hl hr r (A := X.A.in1) (fun a hm => by show X.A.units + 1 + _ < cLine; have := Dt.deps_mem hm; omega) rx;refine SeqAt.notIn_listAt e p (fun w hw => he w (by simpa using hw)) ⟨.bl _, H, I, rfl, ?_⟩;rw [show its.toArray.any e = its.any e by simp, ha];exact q
end
theorem RepD.strs {K : W.Frag} {H : Hp} {a : Addr} {ts : List Str} (h : SqT K H a (ts.map V.str)) : RepD K H (.tup (ts.map Dt.str)) (.ref a) :=
 .tup h (by simp) fun j d x h1 h2 => by
  rw [yav] at h1 h2;cases e : ts[j]? with
  | none => rw [e] at h1; cases h1
  | some t => rw [e] at h1 h2; cases h1; cases h2; exact .str t
theorem RepD.t1 {K : W.Frag} {H : Hp} {a : Addr} {x : V} {d : Dt} (h : SqT K H a [x]) (h1 : RepD K H d x) : RepD K H (.tup [d]) (.ref a) :=
 .tup h rfl fun j d' x' e1 e2 => match j, e1, e2 with | 0, e1, e2 => by cases e1; cases e2; exact h1
theorem RepD.t2 {K : W.Frag} {H : Hp} {a : Addr} {x y : V} {d d2 : Dt} (h : SqT K H a [x, y]) (h1 : RepD K H d x) (h2 : RepD K H d2 y) : RepD K H (.tup [d, d2]) (.ref a) :=
 .tup h rfl fun j d' x' e1 e2 => match j, e1, e2 with
  | 0, e1, e2 => by cases e1; cases e2; exact h1
  | 1, e1, e2 => by cases e1; cases e2; exact h2
theorem RepD.t3 {K : W.Frag} {H : Hp} {a : Addr} {x y z : V} {d d2 d3 : Dt} (h : SqT K H a [x, y, z]) (h1 : RepD K H d x) (h2 : RepD K H d2 y) (h3 : RepD K H d3 z) : RepD K H (.tup [d, d2, d3]) (.ref a) :=
 .tup h rfl fun j d' x' e1 e2 => match j, e1, e2 with
  | 0, e1, e2 => by cases e1; cases e2; exact h1
  | 1, e1, e2 => by cases e1; cases e2; exact h2
  | 2, e1, e2 => by cases e1; cases e2; exact h3
theorem RepD.t4 {K : W.Frag} {H : Hp} {a : Addr} {x y z w : V} {d d2 d3 d4 : Dt} (h : SqT K H a [x, y, z, w]) (h1 : RepD K H d x) (h2 : RepD K H d2 y) (h3 : RepD K H d3 z) (h4 : RepD K H d4 w) : RepD K H (.tup [d, d2, d3, d4]) (.ref a) :=
 .tup h rfl fun j d' x' e1 e2 => match j, e1, e2 with
  | 0, e1, e2 => by cases e1; cases e2; exact h1
  | 1, e1, e2 => by cases e1; cases e2; exact h2
  | 2, e1, e2 => by cases e1; cases e2; exact h3
  | 3, e1, e2 => by cases e1; cases e2; exact h4
namespace Stm
def dt : Stm -> Dt
 | .is w ts => .tup [.str "is", .str w, .tup (ts.map .str)]
 | .fls => .tup [.str "false"]
 | .neg A => .tup [.str "not", A.dt]
 | .bi o A B => .tup [.str o.txt, A.dt, B.dt]
 | .qu q X A => .tup [.str (qtx q), .str X, A.dt]
theorem zfs : ∀ ts : List Str, Dt.deps (ts.map Dt.str) = 0
 | [] => rfl
 | t :: r => by simp [Dt.deps, Dt.dep, zfs r]
theorem dep_dt : ∀ S : Stm, Dt.dep S.dt <= S.deep + 1
 | .is w ts => by simp [dt, Dt.dep, Dt.deps, zfs, deep]
 | .fls => by simp [dt, Dt.dep, Dt.deps, deep]
 | .neg A => by have := dep_dt A; simp [dt, Dt.dep, Dt.deps, deep]; omega
 | .bi o A B => by have := dep_dt A; have := dep_dt B; simp [dt, Dt.dep, Dt.deps, deep]; omega
 | .qu q X A => by have := dep_dt A; simp [dt, Dt.dep, Dt.deps, deep]; omega
end Stm
theorem RepS.repD {K : W.Frag} {H : Hp} : ∀ {S : Stm} {v : V}, RepS K H S v -> RepD K H S.dt v
 | .is _ _, _, ⟨a, b, h1, h2, h3⟩ => by subst h1; exact .t3 h2 (.str _) (.str _) (.strs h3)
 | .fls, _, ⟨a, h1, h2⟩ => by subst h1; exact .t1 h2 (.str _)
 | .neg _, _, ⟨a, u, h1, h2, h3⟩ => by subst h1; exact .t2 h2 (.str _) (RepS.repD h3)
 | .bi _ _ _, _, ⟨a, u, u', h1, h2, h3, h4⟩ => by subst h1; exact .t3 h2 (.str _) (RepS.repD h3) (RepS.repD h4)
 | .qu _ _ _, _, ⟨a, u, h1, h2, h3⟩ => by subst h1; exact .t3 h2 (.str _) (.str _) (RepS.repD h3)
theorem Dt.strs_inj : ∀ {l m : List Str}, l.map Dt.str = m.map Dt.str -> l = m
 | [], [], _ => rfl
 | [], _ :: _, h => by simp at h
 | _ :: _, [], h => by simp at h
 | a :: l, b :: m, h => by
  simp only [List.map_cons, List.cons.injEq, Dt.str.injEq] at h;rw [h.1, Dt.strs_inj h.2]
theorem Stm.dt_inj : ∀ {A B : Stm}, A.dt = B.dt -> A = B := by
 have ob : ∀ (o : Bi) , o.txt ≠ "is" /\ o.txt ≠ "all" /\ o.txt ≠ "some" := fun o => by cases o <;> refine ⟨?_, ?_, ?_⟩ <;> decide
 have oi : ∀ (o p : Bi), o.txt = p.txt -> o = p := fun o p => by cases o <;> cases p <;> decide
 have qi : ∀ (q r : Bool), qtx q = qtx r -> q = r := fun q r => by cases q <;> cases r <;> decide
 have qo : ∀ (q : Bool) (o : Bi), qtx q ≠ o.txt := fun q o => by cases q <;> cases o <;> decide
 have qs : ∀ (q : Bool), qtx q ≠ "is" := fun q => by cases q <;> decide
 have nt : (Str.ofString "false") ≠ (Str.ofString "not") := by decide
 intro A
 induction A with
 | is w ts =>
  intro B h;cases B with
  | is w' ts' => simp only [dt, Dt.tup.injEq, List.cons.injEq, Dt.str.injEq] at h; obtain ⟨_, rfl, h, _⟩ := h; rw [Dt.strs_inj h]
  | bi o A B => simp only [dt, Dt.tup.injEq, List.cons.injEq, Dt.str.injEq] at h; exact absurd h.1.symm (ob o).1
  | qu q X A => simp only [dt, Dt.tup.injEq, List.cons.injEq, Dt.str.injEq] at h; exact absurd h.1.symm (qs q)
  | fls => simp [dt] at h
  | neg A => simp [dt] at h
 | fls =>
  intro B h;cases B with
  | fls => rfl
  | _ => simp [dt] at h
 | neg A ih =>
  intro B h;cases B with
  | neg B => simp only [dt, Dt.tup.injEq, List.cons.injEq, Dt.str.injEq] at h; rw [ih h.2.1]
  | _ => simp [dt] at h
 | bi o A B ihA ihB =>
  intro C h;cases C with
  | bi p C D => simp only [dt, Dt.tup.injEq, List.cons.injEq, Dt.str.injEq] at h; rw [oi _ _ h.1, ihA h.2.1, ihB h.2.2.1]
  | is w ts => simp only [dt, Dt.tup.injEq, List.cons.injEq, Dt.str.injEq] at h; exact absurd h.1 (ob o).1
  | qu q X C => simp only [dt, Dt.tup.injEq, List.cons.injEq, Dt.str.injEq] at h; exact absurd h.1.symm (qo q o)
  | fls => simp [dt] at h
  | neg A => simp [dt] at h
 | qu q X A ih =>
  intro B h;cases B with
  | qu r Y B => simp only [dt, Dt.tup.injEq, List.cons.injEq, Dt.str.injEq] at h; rw [qi _ _ h.1, h.2.1, ih h.2.2.1]
  | is w ts => simp only [dt, Dt.tup.injEq, List.cons.injEq, Dt.str.injEq] at h; exact absurd h.1 (qs q)
  | bi o A B => simp only [dt, Dt.tup.injEq, List.cons.injEq, Dt.str.injEq] at h; exact absurd h.1 (qo q o)
  | fls => simp [dt] at h
  | neg A => simp [dt] at h
theorem Stm.dt_dec (A B : Stm) : decide (A.dt = B.dt) = decide (A = B) := by
 by_cases h : A = B
 ·subst h; simp
 ·rw [ya8 h, ya8 fun e => h (Stm.dt_inj e)]
section
variable {X : Cx}
def rEqC (K : W.Frag) : R2 := fun x y H Q => rEq x y H Q \/ rEqT K x y H Q
def rNeC (K : W.Frag) : R2 := fun x y H Q => rNe x y H Q \/ rNeT K x y H Q
def rInC (K : W.Frag) (neg : Bool) : R2 := fun x y H Q => rInA K neg x y H Q \/ rInT K neg x y H Q
theorem zdq (K : W.Frag) (hu : X.A.units + 64 < cLine) (hK : X.K = K := by rfl) : OpR X (compareOp .Eq) (rEqC K) := hK ▸ (OpR.or zlN (zm9 hu) : OpR X (compareOp .Eq) (rEqC X.K))
theorem zcz (K : W.Frag) (hu : X.A.units + 64 < cLine) (hK : X.K = K := by rfl) : OpR X (compareOp .NotEq) (rNeC K) := hK ▸ (OpR.or zlO (zmA hu) : OpR X (compareOp .NotEq) (rNeC X.K))
theorem zep (K : W.Frag) (hu : X.A.units + 64 < cLine) (hK : X.K = K := by rfl) : OpR X (compareOp .In) (rInC K false) := hK ▸ (OpR.or (zcy X.K) (zmB hu) : OpR X (compareOp .In) (rInC X.K false))
theorem zii (K : W.Frag) (hu : X.A.units + 64 < cLine) (hK : X.K = K := by rfl) : OpR X (compareOp .NotIn) (rInC K true) := hK ▸ (OpR.or (zbV X.K) (zih hu) : OpR X (compareOp .NotIn) (rInC X.K true))
end
section
variable {K : W.Frag} {H : Hp} {Q : VK} {i j : Int} {x y : Str} {p q : Addr} {u : V} {neg : Bool}
theorem RepD.of_int {d : Dt} (h : RepD K H d (.int i)) : d = .int i := by cases h; rfl
theorem RepD.of_str {d : Dt} (h : RepD K H d (.str x)) : d = .str x := by cases h; rfl
theorem zmC : rEqC K (.int i) (.int j) H Q = Q (.bl (decide (i = j))) H := by
 refine propext ⟨fun h => ?_, fun h => .inl ⟨rfl, by simpa using h⟩⟩;rcases h with ⟨_, h⟩ | ⟨d, d', h1, h2, _, h⟩
 ·simpa using h
 ·rw [h1.of_int, h2.of_int] at h; simpa using h
theorem zmD : rEqC K (.str x) (.str y) H Q = Q (.bl (decide (x = y))) H := by
 refine propext ⟨fun h => ?_, fun h => .inl ⟨rfl, by simpa using h⟩⟩;rcases h with ⟨_, h⟩ | ⟨d, d', h1, h2, _, h⟩
 ·simpa using h
 ·rw [h1.of_str, h2.of_str] at h; simpa using h
theorem zmE : rNeC K (.int i) (.int j) H Q = Q (.bl (!decide (i = j))) H := by
 refine propext ⟨fun h => ?_, fun h => .inl ⟨rfl, by simpa using h⟩⟩;rcases h with ⟨_, h⟩ | ⟨d, d', h1, h2, _, h⟩
 ·simpa using h
 ·rw [h1.of_int, h2.of_int] at h; simpa using h
theorem zmF : rNeC K (.str x) (.str y) H Q = Q (.bl (!decide (x = y))) H := by
 refine propext ⟨fun h => ?_, fun h => .inl ⟨rfl, by simpa using h⟩⟩;rcases h with ⟨_, h⟩ | ⟨d, d', h1, h2, _, h⟩
 ·simpa using h
 ·rw [h1.of_str, h2.of_str] at h; simpa using h
theorem zmG : rEqC K (.ref p) u H Q = ∃ d d', RepD K H d (.ref p) /\ RepD K H d' u /\ Dt.dep d <= 60 /\ Q (.bl (decide (d = d'))) H := by
 refine propext ⟨fun h => ?_, fun h => .inr h⟩;rcases h with ⟨e, _⟩ | h
 ·cases u <;> cases e
 ·exact h
theorem zmH : rEqC K u (.ref p) H Q = ∃ d d', RepD K H d u /\ RepD K H d' (.ref p) /\ Dt.dep d <= 60 /\ Q (.bl (decide (d = d'))) H := by
 refine propext ⟨fun h => ?_, fun h => .inr h⟩;rcases h with ⟨e, _⟩ | h
 ·cases u <;> cases e
 ·exact h
theorem zmI : rNeC K (.ref p) u H Q = ∃ d d', RepD K H d (.ref p) /\ RepD K H d' u /\ Dt.dep d <= 60 /\ Q (.bl (!decide (d = d'))) H := by
 refine propext ⟨fun h => ?_, fun h => .inr h⟩;rcases h with ⟨e, _⟩ | h
 ·cases u <;> cases e
 ·exact h
theorem zmJ : rNeC K u (.ref p) H Q = ∃ d d', RepD K H d u /\ RepD K H d' (.ref p) /\ Dt.dep d <= 60 /\ Q (.bl (!decide (d = d'))) H := by
 refine propext ⟨fun h => ?_, fun h => .inr h⟩;rcases h with ⟨e, _⟩ | h
 ·cases u <;> cases e
 ·exact h
theorem zmK : rInC K false (.str x) (.str y) H Q = Q (.bl (inS x y)) H := by
 refine propext ⟨fun h => ?_, fun h => .inl (.inl ⟨x, y, rfl, rfl, h⟩)⟩;rcases h with (⟨_, _, e1, e2, h⟩ | ⟨_, _, e, _⟩) | ⟨_, _, _, h, _⟩
 ·cases e1; cases e2; exact h
 ·cases e
 ·rcases h with h | h <;> cases h
theorem zij : rInC K true (.str x) (.str y) H Q = Q (.bl (!inS x y)) H := by
 refine propext ⟨fun h => ?_, fun h => .inl (.inl ⟨x, y, rfl, rfl, h⟩)⟩;rcases h with (⟨_, _, e1, e2, h⟩ | ⟨_, _, e, _⟩) | ⟨_, _, _, h, _⟩
 ·cases e1; cases e2; exact h
 ·cases e
 ·rcases h with h | h <;> cases h
theorem zmL : rInC K neg u (.ref p) H Q = (rIn K neg u (.ref p) H Q \/ rInT K neg u (.ref p) H Q) := by
 refine propext ⟨fun h => ?_, fun h => ?_⟩
 ·rcases h with (⟨_, _, _, e2, _⟩ | h) | h
  ·cases e2
  ·exact .inl h
  ·exact .inr h
 ·rcases h with h | h
  ·exact .inl (.inr h)
  ·exact .inr h
end
open PySem.Builtin PySem.Builtin.Str
section
variable {X : Cx}
def rIs (f : Str -> Bool) : V -> List V -> Hp -> VK -> Prop := fun x vs H Q => ∃ z, x = .str z /\ vs = [] /\ Q (.bl (f z)) H
def rIs2 (f : Str -> Str -> Bool) : V -> List V -> Hp -> VK -> Prop := fun x vs H Q => ∃ z y, x = .str z /\ vs = [.str y] /\ Q (.bl (f z y)) H
def zmM : V -> List V -> Hp -> VK -> Prop := fun x vs H Q => ∃ z, x = .str z /\ vs = [] /\ z.length <= sizeLine /\ Q (.str (Txt.strip z)) H
def zmN : V -> List V -> Hp -> VK -> Prop := fun x vs H Q => ∃ z y, x = .str z /\ vs = [.str y] /\ y ≠ Str.empty /\ z.length <= 1000000 /\ ∀ p, H p = none -> Q (.ref p) (upd H p (.lst ((Txt.split z y).map V.str)))
def zkj (z : Str) (n : Nat) : Str := ⟨(List.replicate n z.cps).foldl (· ++ ·) #[]⟩
def znX : R2 := fun x y H Q => ∃ z n, x = .str z /\ y = .int n /\ n < 1000 /\ -1000 < n /\ z.length <= 1000 /\ Q (.str (zkj z n.toNat)) H
end
section
variable {K : W.Frag} {H : Hp} {Q : VK} {x y : Str} {f : Str -> Bool} {g : Str -> Str -> Bool}
theorem zmO {n : Int} : znX (.str x) (.int n) H Q = (n < 1000 /\ -1000 < n /\ x.length <= 1000 /\ Q (.str (zkj x n.toNat)) H) := propext ⟨fun ⟨_, _, e, e', h⟩ => by cases e; cases e'; exact h, fun h => ⟨x, n, rfl, rfl, h⟩⟩
theorem w_is : rIs f (.str x) [] H Q = Q (.bl (f x)) H := propext ⟨fun ⟨_, e, _, h⟩ => by cases e; exact h, fun h => ⟨x, rfl, rfl, h⟩⟩
theorem znY : rIs2 g (.str x) [.str y] H Q = Q (.bl (g x y)) H := propext ⟨fun ⟨_, _, e, e', h⟩ => by cases e; cases e'; exact h, fun h => ⟨x, y, rfl, rfl, h⟩⟩
theorem zkQ : zmM (.str x) [] H Q = (x.length <= sizeLine /\ Q (.str (Txt.strip x)) H) := propext ⟨fun ⟨_, e, _, h⟩ => by cases e; exact h, fun h => ⟨x, rfl, rfl, h⟩⟩
theorem zkR : zmN (.str x) [.str y] H Q = (y ≠ Str.empty /\ x.length <= 1000000 /\ ∀ p, H p = none -> Q (.ref p) (upd H p (.lst ((Txt.split x y).map V.str)))) := propext ⟨fun ⟨_, _, e, e', h⟩ => by cases e; cases e'; exact h, fun h => ⟨x, y, rfl, rfl, h⟩⟩
end
section
variable {X : Cx} {o : Expr} {name : Str} {to : TE} {T iid : String} {r : V -> List V -> Hp -> VK -> Prop} {apos cpos : Pos}
end
section
variable {X : Cx}
def rAny (K : W.Frag) : List V -> Hp -> VK -> Prop := fun xs H Q => ∃ (p : Addr) (bs : List Bool), xs = [.ref p] /\ SqL K H p (bs.map V.bl) /\ Q (.bl (bs.any id)) H
theorem znZ {K : W.Frag} {p : Addr} {H : Hp} {Q : VK} : rAny K [.ref p] H Q = ∃ bs : List Bool, SqL K H p (bs.map V.bl) /\ Q (.bl (bs.any id)) H := by
 refine propext ⟨fun ⟨_, bs, e, h⟩ => ?_, fun ⟨bs, h⟩ => ⟨p, bs, rfl, h⟩⟩;cases e; exact ⟨bs, h⟩
def rSum (K : W.Frag) : List V -> Hp -> VK -> Prop := fun xs H Q => ∃ (p : Addr) (ns : List Int), xs = [.ref p] /\ SqL K H p (ns.map V.int) /\ Q (.int ns.sum) H
theorem zoa {K : W.Frag} {p : Addr} {H : Hp} {Q : VK} : rSum K [.ref p] H Q = ∃ ns : List Int, SqL K H p (ns.map V.int) /\ Q (.int ns.sum) H := by
 refine propext ⟨fun ⟨_, bs, e, h⟩ => ?_, fun ⟨bs, h⟩ => ⟨p, bs, rfl, h⟩⟩;cases e; exact ⟨bs, h⟩
end
section
variable {K : W.Frag} {σ : St} {H : Hp} {Q : VK} {D : Ends} {ta tb tc te : TE} {r r' : R2} {i n : Nat} {ti : TIp} {g : TG} {gs : TGs} {v : V} {vs : List V} {R : St -> Hp -> Prop} {f : Int -> Int -> Int} {a b : Int}
theorem zkS : zjY r r' ta tb tc σ H Q = ta σ H fun x H1 => tb σ H1 fun y H2 => r x y H2 fun z H3 => ∃ k, z = .bl k /\ (if k = true then tc σ H3 fun w' H4 => r' y w' H4 Q else Q (.bl false) H3) := rfl
theorem zob : ipI f (.int a) (.int b) H Q = Q (.int (f a b)) H := propext ⟨fun ⟨_, _, e, e', h⟩ => by cases e; cases e'; exact h, fun h => ⟨a, b, rfl, rfl, h⟩⟩
theorem zkk {p : Addr} : gTup K n gs (.ref p) σ H R = ∃ xs, SqT K H p xs /\ xs.length = n /\ gs xs σ H R := propext ⟨fun ⟨_, xs, e, h⟩ => by cases e; exact ⟨xs, h⟩, fun ⟨xs, h⟩ => ⟨p, xs, rfl, h⟩⟩
theorem zkT : zgG g gs (v :: vs) σ H R = g v σ H fun σ' H' => gs vs σ' H' R := propext ⟨fun ⟨_, _, e, h⟩ => by cases e; exact h, fun h => ⟨v, vs, rfl, h⟩⟩
theorem zmP : gNil [] σ H R = R σ H := propext ⟨fun h => h.2, fun h => ⟨rfl, h⟩⟩
end
section
variable {X : Cx} {Qa : List (Addr × Obj)} {σ : St} {H : Hp} {s : Shared}
end
section
variable {X : Cx}
end
section
variable {X : Cx} {e : Expr} {es : List Expr} {st : Stmt} {rest : List Stmt} {te : TE} {ta : TA} {t u : TS} {pos : Pos}
end
structure zo4 (P : Program) (w : World) (K : W.Frag) (mg : Str -> Option Value) (base : Heap) (CX : CXT) (k : Nat) (f : Addr) (fd : FuncData) (ps : List Str) (sp : Sp) : Prop where
 len : ∀ vs H Q E, sp vs H Q E -> vs.length = ps.length
 run : ∀ (A : Around) (outer : List Env) (s : Shared) (H : Hp) (args : Args) (us : List Value) (vs : List V) (Q : VK) (E : XK), 1 <= s.toks -> Room k A -> Env0 P w K mg base A outer s H -> BindsTo s fd args (ps.zip us) -> Vals vs us -> sp vs H Q E ->
  codeAny (model P w) A (.call (.ref f) args) (CR CX outer P w H s Q E) s
section
variable {X : Cx} {CX : CXT} {k : Nat} {f C : Addr} {fd : FuncData} {ps : List Str} {sp : Sp} {dvs : List V} {ds : List Value} {E : XK} {x : Str} {p pos : Pos} {e : Expr} {es : List Expr} {t : TA}
end
section
variable {X : Cx} {CX : CXT} {k : Nat} {f C : Addr} {fd : FuncData} {ps : List Str} {sp : Sp} {dvs : List V} {ds : List Value} {E : XK} {x : Str} {p pos : Pos} {e : Expr} {es : List Expr} {te : TE} {t : TA} {tt u : TS} {st : Stmt} {rest : List Stmt}
end
def sgn (c : Nat) : Prop := c = 40 \/ c = 41 \/ c = 44
instance (c : Nat) : Decidable (sgn c) := by unfold sgn; infer_instance
end L2
namespace HT
open PySem PyProof.Rows
section
variable {prog : Program} {w : World} {A : Around} {E : Value -> Shared -> Prop} {s : Shared}
theorem getItem_tuple_whole {t sl : Addr} {items : Array Value} {vl vu : Value} {lo hi : Option Int} {Q : Value -> Shared -> Prop} (ht : IsTup s.heap t items) (hs : s.heap.IsSliceOf sl vl vu .none) (pl : IsPart vl lo) (pu : IsPart vu hi)
  (hw : sIx items.size 0 lo = 0 /\ sIx items.size items.size hi = items.size) (h : Q (.ref t) s) : wpAny (model prog w) A (getItem (.ref t) (.ref sl)) Q E s := by
 obtain ⟨os, hos, hcs, hds⟩ := id hs;have hTs : s.TypeIs (.ref sl) "slice" := ⟨os, hos, hcs⟩
 unfold getItem
 try with_reducible refine wpAny_holding ?_
 first | refine yaa (yab ?_) | skip
 refine yaa (wpAny_sequenceKey ht.typeIs (by decide) ?_);refine yaa (wpAny_callSpecial?_slot (name := Str.ofString "__getitem__") ht.typeIs PyProof.Rows.slot_tuple_getitem
  (wpAny_call_entry PyProof.Rows.slot_tuple_getitem ht.typeIs entry_tuple_getitem ?_ (args_tuple_getitem _ _)))
 show wpAny _ _ (Builtin.Tuple.tupleItemsOf (.ref t) >>= _) _ _ s;refine yaa (tupleItemsOf_ ht ?_);refine yaa (wpAny_typeOf hTs ?_);rw [if_pos (by decide)];refine yaa (zcs hs pl pu ?_);show wpAny _ _ (if (((sIx items.size 0 lo : Nat) : Int) == 0 && (1 : Int) == 1 && (sIx items.size items.size hi - sIx items.size 0 lo) == items.size) = true then _ else _) _ _ s;rw [hw.1, hw.2, if_pos (by simp)];refine yaa (m := Builtin.Tuple.tupleIsExact _) (yaa (wpAny_typeOf ht.typeIs (yab ?_)));rw [if_pos (by decide)];exact yaa (wpAny_rule (yab ⟨_, rfl, yab h⟩))
theorem cat_tup0 {t b : Addr} {vs ws : List Value} {Q : Value -> Shared -> Prop} (ht : IsTup s.heap t vs.toArray) (hb : IsTup s.heap b ws.toArray) (hv : vs = [])
  (h1 : Q (.ref b) s) : wpAny (model prog w) A (binaryOp .Add (.ref t) (.ref b)) Q E s := by
 obtain ⟨⟨cls, dd, data, sl⟩, ho, hc, n, hd⟩ := id ht;obtain ⟨⟨cls2, dd2, data2, sl2⟩, ho2, hc2, n2, hd2⟩ := id hb;simp only at hc hd hc2 hd2;subst hc hd hc2 hd2;exact concat_meets ⟨_, ho, rfl⟩ ⟨_, ho2, rfl⟩ noFill_tuple_add seq_tuple_add PySem.F.slot_tuple_add PySem.F.entry_tuple_add (PySem.F.args_tuple_add_2 _ _)
   (tuple_addW0 t b vs.toArray ws.toArray n n2 dd dd2 sl sl2 (by simp [hv])) ⟨ho, ho2, h1⟩
end
end HT
namespace L2
open PySem PySem.Spec PyProof.Rows
section
variable {X : Cx}
def zmQ (K : W.Frag) : V -> Option Int -> Option Int -> Hp -> VK -> Prop := fun x lo hi H Q => ∃ a xs, x = .ref a /\ SqT K H a xs /\ ∀ q H', Same H H' -> SqT K H' q (cutV xs lo hi) -> Q (.ref q) H'
theorem zkU : SlR X (zmQ X.K) := by
 intro Qa s σ H x v vl vu lo hi sl Q I rx hs pl pu h;obtain ⟨a, xs, rfl, hx, q⟩ := h
 by_cases hw : HT.sIx xs.length 0 lo = 0 /\ HT.sIx xs.length xs.length hi = xs.length
 ·cases rx;obtain ⟨its, r, ht, hz⟩ := I.tuple hx;have Qe : its.toArray.size = xs.length := by rw [yad]; exact r.length.symm
  refine ⟨"tuple", _, PyProof.Rows.slot_tuple_getitem.lookup, ht.typeIs, ?_⟩;refine HT.getItem_tuple_whole ht hs pl pu (by rw [Qe]; exact hw) ⟨.ref a, H, I, rfl, q a H (Same.refl H) ?_⟩;have e : cutV xs lo hi = xs := by unfold cutV; rw [hw.1, hw.2]; simp
  rw [e]; exact hx
 ·exact zka Qa s σ H _ v vl vu lo hi sl Q I rx hs pl pu ⟨a, xs, rfl, hx, hw, fun p hp => q p _ (zac hp _) (SqT.of zad)⟩
def rSlB (K : W.Frag) : V -> Option Int -> Option Int -> Hp -> VK -> Prop := fun x lo hi H Q => rSlS x lo hi H Q \/ (rSlL K x lo hi H Q \/ zmQ K x lo hi H Q)
theorem slB (K : W.Frag) (hK : X.K = K := by rfl) : SlR X (rSlB K) := hK ▸ (SlR.or zke (SlR.or zhD zkU) : SlR X (rSlB X.K))
def zkl (K : W.Frag) : R2 := fun x y H Q => ∃ a b xs ys, x = .ref a /\ y = .ref b /\ SqT K H a xs /\ SqT K H b ys /\ xs.length + ys.length <= sizeLine /\ ∀ q H', Same H H' -> SqT K H' q (xs ++ ys) -> Q (.ref q) H'
theorem zju : OpR X (binaryOp .Add) (zkl X.K) := by
 intro Qa s σ H x y v u Q I rx ry h;obtain ⟨a, b, xs, ys, rfl, rfl, ha, hb, hz, q⟩ := h
 by_cases hx : xs = []
 ·subst hx;cases rx; cases ry;obtain ⟨its, r1, p1, _⟩ := I.tuple ha;obtain ⟨its2, r2, p2, _⟩ := I.tuple hb;exact HT.cat_tup0 p1 p2 (r1.nil_iff.mpr rfl) ⟨.ref b, H, I, rfl, q b H (Same.refl H) hb⟩
 ·exact zhB Qa s σ H _ _ v u Q I rx ry ⟨a, b, xs, ys, rfl, rfl, ha, hb, hx, hz, fun e => q a H (Same.refl H) (by subst e; rw [List.append_nil]; exact ha), fun _ p hp => q p _ (zac hp _) (SqT.of zad)⟩
def zha (K : W.Frag) : R2 := fun x y H Q => rI0 (fun i j => .int (i + j)) x y H Q \/ (zmc x y H Q \/ (rCat x y H Q \/ zkl K x y H Q))
theorem za3 (K : W.Frag) (hK : X.K = K := by rfl) : OpR X (binaryOp .Add) (zha K) := hK ▸ (OpR.or zjW (OpR.or zeh (OpR.or zkd zju)) : OpR X (binaryOp .Add) (zha X.K))
end
section
variable {K : W.Frag} {σ : St} {H : Hp} {Q : VK} {D : Ends} {p q : Addr} {x y : Str} {i j : Int} {lo hi : Option Int} {a b : Bool} {tc : TT} {tb : TS} {ta : TA} {te : TE} {R : It -> Hp -> Prop}
theorem zmR : rSlB K (.str x) lo hi H Q = (x.length <= sizeLine /\ Q (.str (Txt.slice x lo hi)) H) := by
 refine propext ⟨fun h => ?_, fun ⟨h, k⟩ => .inl ⟨x, rfl, h, k⟩⟩;rcases h with ⟨_, e, h⟩ | ⟨_, _, e, _⟩ | ⟨_, _, e, _⟩
 ·cases e; exact h
 ·cases e
 ·cases e
theorem zik : rSlB K (.ref p) lo hi H Q = ∃ xs, (SqL K H p xs /\ ∀ q, H q = none -> Q (.ref q) (upd H q (.lst (cutV xs lo hi)))) \/
  (SqT K H p xs /\ ∀ q H', Same H H' -> SqT K H' q (cutV xs lo hi) -> Q (.ref q) H') := by
 refine propext ⟨fun h => ?_, fun ⟨xs, h⟩ => ?_⟩
 ·rcases h with ⟨_, e, _⟩ | ⟨_, xs, e, h⟩ | ⟨_, xs, e, h⟩
  ·cases e
  ·cases e; exact ⟨xs, .inl h⟩
  ·cases e; exact ⟨xs, .inr h⟩
 ·rcases h with h | h
  ·exact .inr (.inl ⟨p, xs, rfl, h⟩)
  ·exact .inr (.inr ⟨p, xs, rfl, h⟩)
theorem ze9 : zha K (.int i) (.int j) H Q = Q (.int (i + j)) H := by
 refine propext ⟨fun h => ?_, fun h => .inl ⟨i, j, rfl, rfl, h⟩⟩;rcases h with ⟨_, _, e1, e2, h⟩ | ⟨_, _, e, _⟩ | ⟨_, _, _, _, e, _⟩ | ⟨_, _, _, _, e, _⟩
 ·cases e1; cases e2; exact h
 ·cases e
 ·cases e
 ·cases e
theorem zkV : zha K (.str x) (.str y) H Q = (x.length + y.length <= sizeLine /\ Q (.str (x ++ y)) H) := by
 refine propext ⟨fun h => ?_, fun ⟨h, k⟩ => .inr (.inl ⟨x, y, rfl, rfl, h, k⟩)⟩;rcases h with ⟨_, _, e, _⟩ | ⟨_, _, e1, e2, h⟩ | ⟨_, _, _, _, e, _⟩ | ⟨_, _, _, _, e, _⟩
 ·cases e
 ·cases e1; cases e2; exact h
 ·cases e
 ·cases e
theorem zeA : zha K (.ref p) (.ref q) H Q = ∃ xs zs, (H p = some (.lst xs) /\ H q = some (.lst zs) /\ xs.length + zs.length <= sizeLine /\ ∀ r, H r = none -> Q (.ref r) (upd H r (.lst (xs ++ zs)))) \/
  (SqT K H p xs /\ SqT K H q zs /\ xs.length + zs.length <= sizeLine /\ ∀ r H', Same H H' -> SqT K H' r (xs ++ zs) -> Q (.ref r) H') := by
 refine propext ⟨fun h => ?_, fun ⟨xs, zs, h⟩ => ?_⟩
 ·rcases h with ⟨_, _, e, _⟩ | ⟨_, _, e, _⟩ | ⟨_, _, xs, zs, e1, e2, h⟩ | ⟨_, _, xs, zs, e1, e2, h⟩
  ·cases e
  ·cases e
  ·cases e1; cases e2; exact ⟨xs, zs, .inl h⟩
  ·cases e1; cases e2; exact ⟨xs, zs, .inr h⟩
 ·rcases h with h | h
  ·exact .inr (.inr (.inl ⟨p, q, xs, zs, rfl, rfl, h⟩))
  ·exact .inr (.inr (.inr ⟨p, q, xs, zs, rfl, rfl, h⟩))
theorem zil {T : String} : zdl K T [.bl a, .ty T] H Q = ∃ c, W.kitOne K (.type "bool") (.type T) = some c /\ Q (.bl c) H := by
 refine propext ⟨fun ⟨_, _, b, e, t, h⟩ => ?_, fun ⟨b, h⟩ => ⟨_, _, b, rfl, .of (.bl a), h⟩⟩;cases e;rcases t with t | t | t
 cases t; exact ⟨b, h⟩
theorem zgu : rEq (.bl a) (.bl b) H Q = Q (.bl (decide (a = b))) H := by
 refine propext ⟨fun ⟨_, h⟩ => ?_, fun h => ⟨rfl, ?_⟩⟩
 ·rw [zee] at h; exact h
 ·rw [zee]; exact h
theorem zim : rNe (.bl a) (.bl b) H Q = Q (.bl (!decide (a = b))) H := by
 refine propext ⟨fun ⟨_, h⟩ => ?_, fun h => ⟨rfl, ?_⟩⟩
 ·rw [zee] at h; exact h
 ·rw [zee]; exact h
theorem zkW : rEqB K (.bl a) (.bl b) H Q = Q (.bl (decide (a = b))) H := by
 refine propext ⟨fun h => ?_, fun h => .inl (zgu ▸ h)⟩;rcases h with h | ⟨d, b, hd, h, _⟩
 ·rw [zgu] at h; exact h
 ·rcases h with h | h <;> cases h
theorem zkX : rEqC K (.bl a) (.bl b) H Q = Q (.bl (decide (a = b))) H := by
 refine propext ⟨fun h => ?_, fun h => .inl (zgu ▸ h)⟩;rcases h with h | ⟨d, d', h, _⟩
 ·rw [zgu] at h; exact h
 ·cases h
theorem zkY : rNeC K (.bl a) (.bl b) H Q = Q (.bl (!decide (a = b))) H := by
 refine propext ⟨fun h => ?_, fun h => .inl (zim ▸ h)⟩;rcases h with h | ⟨d, d', h, _⟩
 ·rw [zim] at h; exact h
 ·cases h
theorem zkZ : zjT D σ H = D.bk σ H := rfl
theorem zmS : zlK ta σ H R = ta σ H fun vs H1 => ∃ i j : Int, vs = [.int i, .int j] /\ (-(2 ^ 62) <= i /\ i < 2 ^ 62 /\ -(2 ^ 62) <= j /\ j < 2 ^ 62) /\ R (Itr i (j - i).toNat) H1 := rfl
theorem zoc : tIsN te σ H Q = te σ H fun x H1 => Q (.bl (decide (x = .non))) H1 := rfl
theorem zmT : zlC te σ H Q = te σ H fun x H1 => Q (.bl (!decide (x = .non))) H1 := rfl
theorem zla : zjV tc tb D σ H = ∃ W : Nat -> St -> Hp -> Prop, (∃ m, W m σ H) /\ ∀ m σ H, W m σ H ->
 tc σ H fun b H1 => if b = true then ∃ N : St -> Hp -> Prop, (∀ σ' H', N σ' H' -> ∃ m', m' < m /\ W m' σ' H') /\ tb { D with nx := N, ct := N, bk := D.nx } σ H1 else D.nx σ H1 := rfl
theorem zod : rLtA (.str x) (.str y) H Q = Q (.bl (decide (x.cps.toList < y.cps.toList))) H := by
 refine propext ⟨fun h => ?_, fun h => .inr ⟨x, y, rfl, rfl, h⟩⟩;rcases h with ⟨_, _, e, _⟩ | ⟨_, _, e1, e2, h⟩
 ·cases e
 ·cases e1; cases e2; exact h
theorem zcO (xs : List V) (n : Nat) : cutV xs none (some (n : Int)) = xs.take n := by
 unfold cutV;rw [HT.sIx_none, HT.sIx_nat, List.drop_zero, Nat.sub_zero]
 by_cases h : n <= xs.length
 ·rw [Nat.min_eq_left h]
 ·rw [Nat.min_eq_right (by omega), List.take_of_length_le (yai _), List.take_of_length_le (by omega)]
theorem zgv (xs : List V) : cutV xs none (some (-1)) = xs.take (xs.length - 1) := by
 unfold cutV;rw [HT.sIx_none, List.drop_zero, Nat.sub_zero];show List.take ((-1 : Int) + (xs.length : Int)).toNat xs = _
 congr 1
 omega
theorem SqT.keepL {xs ys zs : List V} (h : SqT K H q xs) (hp : H p = some (.lst ys)) : SqT K (upd H p (.lst zs)) q xs := by
 rcases h with (h | ⟨o, h⟩) | h
 ·exact .inl (.inl (by rw [za7]; exact h; rintro rfl; rw [hp] at h; cases h))
 ·exact .inl (.inr ⟨o, by rw [za7]; exact h; rintro rfl; rw [hp] at h; cases h⟩)
 ·exact .inr h
end
def opn (r : Str) : Bool := inV (.str r) [V.str "guess", V.str "new", V.str "case"]
def o1 (r : Str) : Nat := if opn r = true then 1 else 0
def nxt (k : Nat) (r : Str) (l : Nat) (p : List Nat) : List Nat := if opn r = true then p.take (l - 1) ++ [k] else p.take l
def Qc (rs : List Str) (g : Nat -> Nat) : Nat -> List Nat
 | 0 => []
 | i + 1 => nxt i (rs.getD i "") (g i) (Qc rs g i)
theorem zc0 (rs : List Str) (g : Nat -> Nat) : ∀ (i x : Nat), x ∈ Qc rs g i -> x < i
 | 0, x, h => by simp [Qc] at h
 | i + 1, x, h => by
  unfold Qc nxt at h
  split at h
  ·rcases yay.mp h with h | h
   ·have := zc0 rs g i x (List.mem_of_mem_take h); omega
   ·rw [yah.mp h]; omega
  ·have := zc0 rs g i x (List.mem_of_mem_take h); omega
theorem zcP {l : List Nat} (h : l.Pairwise (· < ·)) (n : Nat) : (l.take n).Pairwise (· < ·) := h.sublist (List.take_sublist n l)
theorem zft (rs : List Str) (g : Nat -> Nat) : ∀ i : Nat, (Qc rs g i).Pairwise (· < ·)
 | 0 => by simp [Qc]
 | i + 1 => by
  unfold Qc nxt
  split
  ·rw [List.pairwise_append];refine ⟨zcP (zft rs g i) _, List.pairwise_singleton _ _, fun a ha b hb => ?_⟩;rw [yah.mp hb];exact zc0 rs g i a (List.mem_of_mem_take ha)
  ·exact zcP (zft rs g i) _
theorem zgw (rs : List Str) (g : Nat -> Nat) : ∀ i : Nat, (Qc rs g i).length <= i
 | 0 => by simp [Qc]
 | i + 1 => by
  have ih := zgw rs g i;show (nxt i (rs.getD i "") (g i) (Qc rs g i)).length <= i + 1;unfold nxt
  split
  ·rw [yae, ya3]; simp only [List.length_singleton]; omega
  ·rw [ya3]; omega
theorem zbX (rs : List Str) (g : Nat -> Nat) (i : Nat) : ∀ d : Nat, ∃ m r, Qc rs g (i + d) = (Qc rs g i).take m ++ r /\ ∀ x ∈ r, i <= x
 | 0 => ⟨(Qc rs g i).length, [], by simp, by simp⟩
 | d + 1 => by
  obtain ⟨m, r, e, hr⟩ := zbX rs g i d;have key : ∀ n, ∃ m r, (Qc rs g (i + d)).take n = (Qc rs g i).take m ++ r /\ ∀ x ∈ r, i <= x := fun n => by
   rw [e, List.take_append, List.take_take];exact ⟨_, _, rfl, fun x hx => hr x (List.mem_of_mem_take hx)⟩
  show ∃ m r, nxt (i + d) (rs.getD (i + d) "") (g (i + d)) (Qc rs g (i + d)) = _ /\ _;unfold nxt
  split
  ·obtain ⟨m, r, e, hr⟩ := key (g (i + d) - 1);refine ⟨m, r ++ [i + d], by rw [e, List.append_assoc], fun x hx => ?_⟩;rcases yay.mp hx with h | h
   ·exact hr x h
   ·rw [yah.mp h]; omega
  ·exact key _
theorem zbf (rs : List Str) (g : Nat -> Nat) {b : Nat} (h : opn (rs.getD b "") = true) : Qc rs g (b + 1) = (Qc rs g b).take (g b - 1) ++ [b] := by
 show nxt _ _ _ _ = _;unfold nxt;rw [if_pos h]
theorem zjv (rs : List Str) (g : Nat -> Nat) {b k : Nat} (h : b <= k) (ho : opn (rs.getD b "") = true) :
  (b ∈ Qc rs g (k + 1) ↔ (Qc rs g (k + 1))[(Qc rs g (b + 1)).length - 1]? = some b) /\
  (b ∈ Qc rs g (k + 1) -> ((Qc rs g (k + 1))[(Qc rs g (k + 1)).length - 1]? = some b ↔ (Qc rs g (k + 1)).length = (Qc rs g (b + 1)).length - 1 + 1)) := by
 obtain ⟨m, r, e, hr⟩ := zbX rs g (b + 1) (k - b);rw [show b + 1 + (k - b) = k + 1 from by omega] at e;rw [zbf rs g ho] at e ⊢;have hp : ∀ x ∈ (Qc rs g b).take (g b - 1), x < b := fun x hx => zc0 rs g b x (List.mem_of_mem_take hx);generalize (Qc rs g b).take (g b - 1) = p at e hp;generalize Qc rs g (k + 1) = q at e;have el : (p ++ [b]).length - 1 = p.length := by simp
 rw [el];have key : b ∈ q -> q = p ++ b :: r := fun hb => by
  rw [e] at hb;rcases yay.mp hb with h1 | h1
  ·rw [List.take_append] at h1;rcases yay.mp h1 with h2 | h2
   ·have := hp b (List.mem_of_mem_take h2); omega
   ·have hm : p.length + 1 <= m := by
     rcases Nat.lt_or_ge p.length m with z | z
     ·exact z
     ·rw [show m - p.length = 0 from by omega] at h2; simp at h2
    rw [e, List.take_of_length_le (by simp; omega)]; simp
  ·have := hr b h1; omega
 refine ⟨⟨fun hb => ?_, fun hb => ya1 hb⟩, fun hb => ?_⟩
 ·rw [key hb]; simp
 ·rw [key hb];cases r with
  | nil => simp
  | cons y t =>
   constructor
   ·intro z
    exfalso
    have hz : (p ++ b :: y :: t)[(p ++ b :: y :: t).length - 1]? = (y :: t).getLast? := by
     rw [List.getLast?_eq_getElem?, List.getElem?_append_right (by simp)];simp only [List.length_append, List.length_cons];rw [show p.length + (t.length + 1 + 1) - 1 - p.length = (t.length + 1 - 1) + 1 from by omega, List.getElem?_cons_succ]
    rw [hz] at z;have := hr b (List.mem_of_getLast? z);omega
   ·intro z;simp only [List.length_append, List.length_cons] at z;omega
def zeB (f : Nat -> List Nat) (b pl : Nat) : Nat -> Nat -> Nat -> Nat
 | 0, _, e => e
 | n + 1, k, e => if (f k)[pl]? = some b then zeB f b pl n (k + 1) (if (f k).length = pl + 1 then k else e) else e
theorem zdb (f : Nat -> List Nat) (b pl n k e : Nat) : zeB f b pl (n + 1) k e = if (f k)[pl]? = some b then zeB f b pl n (k + 1) (if (f k).length = pl + 1 then k else e) else e := rfl
def iv (p : List Nat) : List V := p.map fun n : Nat => V.int n
theorem zcu (p : List Nat) : (iv p).length = p.length := by simp [iv]
theorem zcc (p : List Nat) (n : Nat) : (iv p).take n = iv (p.take n) := by simp [iv, List.map_take]
theorem zin (p : List Nat) : (iv p).all zbC = true := by
 induction p with
 | nil => rfl
 | cons a p ih => exact ih
theorem zmU {p : List Nat} {j n : Nat} (h : p[j]? = some n) : (iv p)[j]? = some (V.int n) := by simp [iv, h]
theorem zkm (b : Nat) (p : List Nat) : inV (.int b) (iv p) = decide (b ∈ p) := by
 induction p with
 | nil => rfl
 | cons a p ih =>
  show (eqV (.int a) (.int b) || inV (.int b) (iv p)) = _;rw [ih];show ((a : Int) == (b : Int) || _) = _
  by_cases h : a = b
  ·subst h; simp
  ·have : ((a : Int) == (b : Int)) = false := by rw [beq_eq_false_iff_ne]; omega
   rw [this];simp [Ne.symm h]
def idt (p : List Nat) : Dt := .tup (p.map fun n : Nat => Dt.int n)
theorem zgx : ∀ {p q : List Nat}, (p.map fun n : Nat => Dt.int n) = (q.map fun n : Nat => Dt.int n) -> p = q
 | [], [], _ => rfl
 | [], b :: q, h => by simp at h
 | a :: p, [], h => by simp at h
 | a :: p, b :: q, h => by
  simp only [List.map_cons, List.cons.injEq, Dt.int.injEq] at h;rw [zgx h.2, show a = b from by have := h.1; omega]
theorem zeC {p q : List Nat} (h : idt p = idt q) : p = q := zgx (Dt.tup.inj h)
theorem zlb (p q : List Nat) : decide (idt p = idt q) = decide (p = q) := by
 by_cases h : p = q
 ·subst h; simp
 ·rw [ya8 h, ya8 (fun z => h (zeC z))]
theorem zeD (p : List Nat) : Dt.dep (idt p) <= 60 := by
 have : Dt.deps (p.map fun n : Nat => Dt.int n) = 0 := by
  induction p with
  | nil => rfl
  | cons a p ih => show max (Dt.dep (.int a)) (Dt.deps (p.map fun n : Nat => Dt.int n)) = 0; rw [ih]; rfl
 show Dt.deps (p.map fun n : Nat => Dt.int n) + 1 <= 60;omega
section
variable {K : W.Frag} {H H' : Hp} {a q p : Addr} {us : List V} {f : Nat -> List Nat}
theorem zc1 {l : List Nat} (h : SqT K H a (iv l)) : RepD K H (idt l) (.ref a) :=
 .tup h (by simp [iv]) fun j d x h1 h2 => by
  unfold iv at h2;rw [yav] at h1 h2;cases e : l[j]? with
  | none => rw [e] at h1; cases h1
  | some t => rw [e] at h1 h2; cases h1; cases h2; exact .int t
def RepPs (K : W.Frag) (H : Hp) (f : Nat -> List Nat) (us : List V) : Prop := ∀ i v, us[i]? = some v -> ∃ a, v = .ref a /\ SqT K H a (iv (f i))
theorem RepPs.same (e : Same H H') (h : RepPs K H f us) : RepPs K H' f us := fun i v hv => let ⟨a, e1, h1⟩ := h i v hv; ⟨a, e1, e.seqT h1⟩
theorem RepPs.nil : RepPs K H f [] := fun i v hv => by simp at hv
theorem RepPs.snoc (h : RepPs K H f us) (h1 : SqT K H a (iv (f us.length))) : RepPs K H f (us ++ [.ref a]) := fun i v hv => by
 rw [List.getElem?_append] at hv
 split at hv
 ·exact h i v hv
 ·next hi =>
  have e : i = us.length := by
   have := yag.mp hv;obtain ⟨z, _⟩ := this;simp at z; omega
  subst e;simp at hv;subst hv;exact ⟨a, rfl, h1⟩
theorem RepPs.keepL {ys zs : List V} (h : RepPs K H f us) (hp : H p = some (.lst ys)) : RepPs K (upd H p (.lst zs)) f us := fun i v hv => let ⟨a, e1, h1⟩ := h i v hv; ⟨a, e1, h1.keepL hp⟩
theorem RepPs.at (h : RepPs K H f us) {i : Nat} (hi : i < us.length) : ∃ a, us[i]? = some (.ref a) /\ SqT K H a (iv (f i)) := by
 obtain ⟨a, e, h1⟩ := h i us[i] (by simp [hi]);exact ⟨a, by rw [<- e]; simp [hi], h1⟩
end
def room (g : Nat -> Nat) (j : Nat) : Nat := if j = 0 then 0 else g (j - 1)
def LvOk (rs : List Str) (g : Nat -> Nat) (n : Nat) : Prop := ∀ j, j < n -> o1 (rs.getD j "") <= g j /\ g j <= room g j + o1 (rs.getD j "") /\ g j <= 60
theorem at0 {α : Type} {xs : List α} {i : Nat} {v : α} (h : xs[i]? = some v) : atI xs (0 + (i : Int)) = some v := by rw [Int.zero_add]; exact zag h
theorem zmV (p : List Nat) (k : Nat) : iv p ++ [V.int (0 + (k : Int))] = iv (p ++ [k]) := by simp [iv]
def zjw (K : W.Frag) : Sp := fun vs H Q _ => ∃ (a b : Addr) (p q : List Nat), vs = [.ref a, .ref b] /\ SqT K H a (iv p) /\ SqT K H b (iv q) /\ ∀ H', Same H H' -> Q (.bl (decide (p.take q.length = q))) H'
def zmW (K : W.Frag) : Sp := fun vs H Q _ => ∃ (a : Addr) (us : List V) (f : Nat -> List Nat) (k i : Nat), vs = [.ref a, .int k, .int i] /\ SqT K H a us /\ RepPs K H f us /\ k < us.length /\ i < us.length /\
 ∀ H', Same H H' -> Q (.bl (decide (i < k) && decide ((f k).take (f i).length = f i))) H'
def zio (K : W.Frag) : Sp := fun vs H Q _ => ∃ (a : Addr) (us : List V) (f : Nat -> List Nat) (k b : Nat), vs = [.ref a, .int k, .int b] /\ SqT K H a us /\ RepPs K H f us /\ k < us.length /\ b < us.length /\
 ∀ H', Same H H' -> Q (.bl (decide (b < k) && (decide (b ∉ f k) && decide ((f k).take ((f b).length - 1) = (f b).take ((f b).length - 1))))) H'
def zlc (K : W.Frag) : Sp := fun vs H Q _ => ∃ (a : Addr) (us : List V) (rs : List Str) (g : Nat -> Nat) (b : Nat), vs = [.ref a, .int b] /\ SqT K H a us /\ RepPs K H (fun i => Qc rs g (i + 1)) us /\ b < us.length /\ us.length <= 80 /\ opn (rs.getD b "") = true /\
 Q (.int (zeB (fun i => Qc rs g (i + 1)) b ((Qc rs g (b + 1)).length - 1) (us.length - b) b b)) H
section
variable {X : Cx}
end
section
variable {K : W.Frag} {σ : St} {H H' : Hp} {Q : VK} {ta : TA} {p : Addr} {k : Int}
theorem zmX : ziY (.ref p) (.int k) H Q = ∃ xs, H p = some (.lst xs) /\ -(2 ^ 63) <= k /\ k < 2 ^ 63 /\ xs.length * k.toNat <= sizeLine /\ ∀ q, H q = none -> Q (.ref q) (upd H q (.lst (List.replicate k.toNat xs).flatten)) := by
 refine propext ⟨fun h => ?_, fun ⟨xs, h⟩ => .inr ⟨p, k, xs, rfl, rfl, h⟩⟩;rcases h with ⟨_, _, e, _⟩ | ⟨_, _, xs, e1, e2, h⟩
 ·cases e
 ·cases e1; cases e2; exact ⟨xs, h⟩
theorem zbu {c : Prop} [Decidable c] {tt : TT} {t u : TS} {D : Ends} (ht : ∀ Qb : Bool -> Hp -> Prop, Qb (decide c) H -> tt σ H Qb) (h1 : c -> t { D with nx := u D } σ H) (h2 : ¬ c -> u D σ H) : tSeq (tIfS tt t ziL) u D σ H := by
 show tt σ H fun b H1 => if b = true then t { D with nx := u D } σ H1 else u D σ H1;refine ht _ ?_
 by_cases hc : c
 ·rw [ya9 hc, if_pos rfl]; exact h1 hc
 ·rw [ya8 hc, if_neg (by decide)]; exact h2 hc
theorem RepL.snoc {A : List Stm} {U : List V} {S : Stm} {u : V} (h : RepL K H A U) (hs : RepS K H S u) : RepL K H (A ++ [S]) (U ++ [u]) := by
 induction h with
 | nil => exact .cons hs .nil
 | cons h1 _ ih => exact .cons h1 ih
theorem zeE (x : V) (us : List V) : cutV (x :: us) (some 1) none = us := by
 unfold cutV;rw [HT.sIx_none];show List.take _ (List.drop (min 1 (us.length + 1)) (x :: us)) = us;rw [show min 1 (us.length + 1) = 1 by omega, List.drop_one, List.tail_cons];exact List.take_of_length_le (by show us.length <= (us.length + 1) - min 1 (us.length + 1); omega)
theorem zdH {a : Addr} {ts : List Str} (h : SqL K H a (ts.map V.str)) : RepD K H (.lst (ts.map Dt.str)) (.ref a) :=
 .lst h (by simp) fun j d x h1 h2 => by
  rw [yav] at h1 h2;cases e : ts[j]? with
  | none => rw [e] at h1; cases h1
  | some t => rw [e] at h1 h2; cases h1; cases h2; exact .str t
end
section
variable {X : Cx}
def zkn (X : Cx) (tv : TE) (t : TA) : TE := fun σ H Q => tv σ H fun z H1 => ∃ (f : Addr) (CX : CXT) (k : Nat) (fd : FuncData) (ps : List Str) (sp : Sp) (ds : List Value) (dvs : List V) (E : XK), z = .ref f /\ FnOk X.prog X.w X.K X.mg X.base CX k f fd ps sp /\ Room k X.A /\
 W.keepIn X.K (.ref f) = true /\ Binds X.K fd ps ds /\ Vals dvs ds /\ zdk CX X E /\ t σ H1 fun vs H2 => sp (vs ++ dvs) H2 Q E
theorem zjx {x : Str} {p pos : Pos} {e : Expr} {es : List Expr} {tv : TE} {t : TA} (hv : PE X (.Name x p) tv) (ha : PA X (e :: es) t)
  (he : starEach (e :: es) X.env = (false, eval e X.env) :: starEach es X.env := by rfl) (hpl : (backTo pos (starEach es X.env)).any (·.1) = false := by rfl) : PE X (.Call (.Name x p) (e :: es) [] pos) (zkn X tv t) := by
 intro Qa s σ H Q I h;refine wpAny_Call_Name_kw (thn (hv Qa s σ H _ I h) fun u s1 ⟨z, H1, I1, r, q⟩ => ?_);obtain ⟨f, CX, k, fd, ps, sp, ds, dvs, E, rfl, F, hr, hk, hb, hd, hx, q⟩ := q;cases r;refine W.callWith_K (h₀ := X.base) I1.ok.mod.kin hk (thn (ha pos Qa s1 σ H1 _ I1 q) fun us s2 ⟨vs, H2, I2, r2, q2⟩ => ⟨I2.kIn, ?_⟩) he hpl;exact zh7 F hr hb hd hx I2 r2 q2
theorem zld {tv : TE} {t : TA} {σ : St} {H : Hp} {Q : VK} : zkn X tv t σ H Q = tv σ H fun z H1 => ∃ (f : Addr) (CX : CXT) (k : Nat) (fd : FuncData) (ps : List Str) (sp : Sp) (ds : List Value) (dvs : List V) (E : XK), z = .ref f /\ FnOk X.prog X.w X.K X.mg X.base CX k f fd ps sp /\ Room k X.A /\
 W.keepIn X.K (.ref f) = true /\ Binds X.K fd ps ds /\ Vals dvs ds /\ zdk CX X E /\ t σ H1 fun vs H2 => sp (vs ++ dvs) H2 Q E := rfl
end
end L2
namespace L2
open PySem PySem.Spec PySem.Calls PyProof.V PyProof.Rows PyProof.Rows.KTD
section
variable {X : Cx}
def TabK (K : W.Frag) (a : Addr) (D : List (Str × V)) : Prop :=
 (a == sysModules) = false /\ ∃ (o : Obj) (es : Array DictEntry) (ep : Nat), K.lookup a = some o /\ o.ExactDict /\ o.data = .dict es ep /\ KTD.Rows (fun d v => RelV d v) es.toList D
theorem zdI {prog : Program} {w : World} {A : Around} {E : Value -> Shared -> Prop} {s : Shared} {a : Addr} {o : Obj} {es : Array DictEntry} {ep : Nat} {D : List (Str × V)} {k : Str} {tk : Tok} {Q : Option Value -> Shared -> Prop}
  (ho : s.heap.get? a = some o) (hd : o.data = .dict es ep) (hr : KTD.Rows (fun d v => RelV d v) es.toList D) (hq : Q ((es.toList.find? fun e => e.key.isStr k).map (·.val)) { s with toks := s.toks + 1 }) :
  wpAny (model prog w) A (dictGet a (.str k tk)) Q E s := by
 unfold dictGet
 try with_reducible refine wpAny_holding ?_
 refine yaa (wpAny_pyHash_str (yaa (kt_dictFind_strs (s := { s with toks := s.toks + 1 }) ho hd (by obtain ⟨l⟩ := es; simpa using hr.exact) ?_)));have hf : findBy (fun k v => v.isStr k) es k = (es.toList.find? fun e => e.key.isStr k).map (·.val) := by
  obtain ⟨l⟩ := es;simp [findBy]
 rw [<- hf, findBy_of_findIdx?] at hq;cases hi : es.findIdx? fun e => e.key.isStr k with
 | none => rw [hi] at hq; exact yab hq
 | some i => rw [hi] at hq; exact yaa (wpAny_dictEntries (s := { s with toks := s.toks + 1 }) ho hd (yab hq))
def zgy (K : W.Frag) : R2 := fun x y H Q => ∃ k p D, x = .str k /\ y = .ref p /\ TabK K p D /\ Q (.bl (inKeys k D)) H
theorem op_in_tab : OpR X (compareOp .In) (zgy X.K) := by
 intro Qa s σ H x y v u Q I rx ry h;obtain ⟨k, p, D, rfl, rfl, ⟨hp, o, es, ep, hl, hc, hd, hr⟩, q⟩ := h;obtain ⟨tk, rfl⟩ := rx;cases ry;have ho := I.kIn p o hl;have hT : s.TypeIs (.ref p) "dict" := ⟨o, ho, hc.1⟩
 have fin : EP X Qa σ Q (.bool (inKeys k D)) { s with toks := s.toks + 1 } := ⟨.bl (inKeys k D), H, I.tok _, rfl, q⟩
 show wpAny _ _ (do return Value.bool (<- contains (.ref p) (.str k tk)) : Sem Value) _ _ s;refine yaa ?_;unfold contains
 try with_reducible refine wpAny_holding ?_
 refine yaa (wpAny_specialOf hT slot_dict_contains.lookup ?_);show wpAny _ _ (if (some (Value.builtin "dict.__contains__") == some Value.none) = true then _ else _) _ _ s;rw [if_neg (by rw [beq_builtin_none]; exact yam)];refine yaa (wpAny_callSpecialUnlessNone?_slot (name := Str.ofString "__contains__") hT slot_dict_contains
  (wpAny_call_entry slot_dict_contains hT entry_dict_contains ?_ (args_dict_contains _ _)))
 show wpAny _ _ (dictGet p (.str k tk) >>= _) _ _ s;refine yaa (zdI ho hd hr ?_);cases hat : datumAt k D with
 | some d =>
  obtain ⟨v, hv, hfl⟩ := hr.find_some hat;have hb : inKeys k D = true := by rw [<- isSome_datumAt, hat]; rfl
  rw [hb] at fin;rw [hv];show wpAny _ _ (ret (.bool true)) _ _ _;exact yab ⟨_, rfl, wpAny_truthy_bool (yab fin)⟩
 | none =>
  have hb : inKeys k D = false := by rw [<- isSome_datumAt, hat]; rfl
  rw [hb] at fin;rw [hr.find_none hat];show wpAny _ _ (Builtin.Dict.pendingKey? p (.str k tk) >>= _) _ _ _;exact yaa (wpAny_pendingKey_other hp (yab ⟨_, rfl, wpAny_truthy_bool (yab fin)⟩))
theorem zmY (K : W.Frag) (hK : X.K = K := by rfl) : OpR X (compareOp .In) (zgy K) := hK ▸ (op_in_tab : OpR X (compareOp .In) (zgy X.K))
def zgz (K : W.Frag) : R2 := fun x y H Q => ∃ k p D z, x = .ref p /\ y = .str k /\ TabK K p D /\ datumAt k D = some z /\ Q z H
theorem ix_tab : IxR X (zgz X.K) := by
 intro value slice Qa s σ H x y v u Q I rx ry h hs;obtain ⟨k, p, D, z, rfl, rfl, ⟨hp, o, es, ep, hl, hc, hd, hr⟩, hat, q⟩ := h;cases rx;obtain ⟨tk, rfl⟩ := ry;have ho := I.kIn p o hl;have hT : s.TypeIs (.ref p) "dict" := ⟨o, ho, hc.1⟩
 obtain ⟨w, hw, rw'⟩ := hr.find_some hat;have fin : EP X Qa σ Q w { s with toks := s.toks + 1 } := ⟨z, H, I.tok _, rw', q⟩
 refine subscriptTail_builtinR (x := w) hT slot_dict_getitem.lookup ?_ hs;unfold getItem
 try with_reducible refine wpAny_holding ?_
 refine yaa (wpAny_sequenceKey hT (by decide) ?_);refine yaa (wpAny_callSpecial?_slot (name := Str.ofString "__getitem__") hT slot_dict_getitem
  (wpAny_call_entry slot_dict_getitem hT entry_dict_getitem ?_ (args_dict_getitem _ _)))
 show wpAny _ _ (dictGet p (.str k tk) >>= _) _ _ s;refine yaa (zdI ho hd hr ?_);rw [hw];exact yab ⟨w, rfl, yab ⟨rfl, fin⟩⟩
theorem ixT (K : W.Frag) (hK : X.K = K := by rfl) : IxR X (zgz K) := hK ▸ (ix_tab : IxR X (zgz X.K))
theorem TabK.mk {K : W.Frag} {a : Addr} {D : List (Str × V)} {dd : List DictEntry} {ep : Nat} (h : K.lookup a = some ⟨.type "dict", none, .dict dd.toArray ep, #[]⟩) (ha : (a == sysModules) = false)
  (hr : KTD.Rows (fun d v => RelV d v) dd D) : TabK K a D := ⟨ha, _, _, _, h, ⟨rfl, rfl, rfl⟩, rfl, by simpa using hr⟩
end
open AutoSeq1 (wpAny_loadPart')
section
variable {prog : Program} {w : World} {A : Around} {E : Value -> Shared -> Prop} {s : Shared}
theorem zc6 {j t : Addr} {i : Nat} {us : Array Value} {v : Value} {R : Value -> Shared -> Prop} (hJ : s.heap.IsTupleIter j t i) (hT : s.heap.IsTuple t us) (hv : us[i]? = some v)
  (k : ∀ h1, h1.IsTupleIter j t (i + 1) -> Heap.SameBut j s.heap h1 -> R v { s with heap := h1 }) : wpAny (model prog w) A (Builtin.SmallTypes.nextOf (.ref j)) R E s := by
 obtain ⟨oj, gj, cj, dj⟩ := id hJ;obtain ⟨ot, gt, _, n, dt⟩ := hT;unfold Builtin.SmallTypes.nextOf;refine yaa (wpAny_callSpecial?_slot (name := Str.ofString "__next__") hJ.typeIs PySem.F.slot_tuple_iterator_next (wpAny_call_entry PySem.F.slot_tuple_iterator_next hJ.typeIs PySem.F.entry_tuple_iterator_next ?_ (PySem.F.args_tuple_iterator_next_1 _)));show wpAny _ _ (field (.ref j) 0 >>= _) _ _ s;refine yaa (wpAny_field gj dj (x := .ref t) rfl ?_);show wpAny _ _ (if ((Value.ref t : Value) == Value.none) = true then _ else _) _ _ s;rw [if_neg (by intro z; cases z)];show wpAny _ _ (field (.ref j) 1 >>= _) _ _ s;refine yaa (wpAny_field gj dj (x := .int i 0) rfl ?_);refine yaa (m := seqItems? (.ref t)) (wpAny_seqItems gt dt ?_);simp only [Int.toNat_natCast, hv];refine yaa (wpAny_setField gj dj (by simp) (yab ⟨v, rfl, yab (k _ ?_ (Heap.SameBut.update ..))⟩));refine ⟨_, Heap.get?_update_self _ gj (Obj.isFreed_of_fields (Obj.data_mapFields dj _)), (Obj.cls_mapFields ..).trans cj, ?_⟩;rw [Obj.data_mapFields dj];simp [rawInt]
theorem zdJ {j t : Addr} {i : Nat} {us : Array Value} {R : Value -> Shared -> Prop} (hh : A.handled = none) (hJ : s.heap.IsTupleIter j t i) (hT : s.heap.IsTuple t us) (hv : us[i]? = none)
  (k : ∀ h1 x, Heap.ExtBut j s.heap h1 -> (∃ o, h1.get? x = some o /\ o.cls = .type "StopIteration") -> E (.ref x) { s with heap := h1 }) : wpAny (model prog w) A (Builtin.SmallTypes.nextOf (.ref j)) R E s := by
 obtain ⟨oj, gj, cj, dj⟩ := id hJ;obtain ⟨ot, gt, _, n, dt⟩ := hT;unfold Builtin.SmallTypes.nextOf;refine yaa (wpAny_callSpecial?_slot (name := Str.ofString "__next__") hJ.typeIs PySem.F.slot_tuple_iterator_next (wpAny_call_entry PySem.F.slot_tuple_iterator_next hJ.typeIs PySem.F.entry_tuple_iterator_next ?_ (PySem.F.args_tuple_iterator_next_1 _)));show wpAny _ _ (field (.ref j) 0 >>= _) _ _ s;refine yaa (wpAny_field gj dj (x := .ref t) rfl ?_);show wpAny _ _ (if ((Value.ref t : Value) == Value.none) = true then _ else _) _ _ s;rw [if_neg (by intro z; cases z)];show wpAny _ _ (field (.ref j) 1 >>= _) _ _ s;refine yaa (wpAny_field gj dj (x := .int i 0) rfl ?_);refine yaa (m := seqItems? (.ref t)) (wpAny_seqItems gt dt ?_);simp only [Int.toNat_natCast, hv];refine yaa (wpAny_rule (yaa (wpAny_setField gj dj (by simp) ?_)));show wpAny _ _ ((newExc (.type "StopIteration") []) >>= _) _ _ _;refine yaa ?_;simp only [newExc, newTuple];refine yaa (wpAny_newObj_type (yaa (m := firstArgMember _ _) (wpAny_of_eq (a := Value.none) (by first | rfl | (simp only [firstArgMember]; rfl)) (wpAny_newObj_type ?_ (by size_fits)))) (by size_fits));simp only [raiseNew];refine yaa (wpAny_handled ?_)
 first | rw [show A.in1.handled = none from hh] | rw [hh]
 refine yaa (yab (wpAny_throw ?_));exact k _ _ (((Heap.SameBut.update ..).extBut.push _).push _) ⟨_, yaj _ rfl, rfl⟩
theorem zhb {e j t : Addr} {i : Nat} {us : Array Value} {v old : Value} {R : Option Value -> Shared -> Prop} (hE : IsEnum s.heap e j i old) (hJ : s.heap.IsTupleIter j t i) (hT : s.heap.IsTuple t us) (hv : us[i]? = some v) (hne : e ≠ j)
  (k : ∀ (h3 h' : Heap), (∀ b o, b ≠ e -> b ≠ j -> s.heap.get? b = some o -> h3.get? b = some o) -> h3.objs.size = s.heap.objs.size ->
   Heap.SameBut e (h3.push { cls := .type "tuple", data := .seq #[.int i s.toks, v] }) h' -> IsEnumOut h' e j ((i : Int) + 1) v s.heap.objs.size -> h'.IsTupleIter j t (i + 1) ->
   R (some (.ref s.heap.objs.size)) { s with heap := h', toks := s.toks + 1 }) : wpAny (model prog w) A (pyNext (.ref e)) R E s := by
 have hTy : s.TypeIs (.ref e) "enumerate" := ⟨_, hE, rfl⟩
 unfold pyNext;refine yaa (wpAny_attempt (wpAny_callSpecial?_slot (name := Str.ofString "__next__") hTy PySem.F.slot_enumerate_next (wpAny_call_entry PySem.F.slot_enumerate_next hTy PySem.F.entry_enumerate_next ?_ (PySem.F.args_enumerate_next_1 _))));obtain ⟨hp, g, d, tk, os⟩ := s;show wpAny _ _ (field (.ref e) 2 >>= _) _ _ _;refine yaa (wpAny_field hE rfl (x := .ref j) rfl (yaa (zc6 hJ hT hv fun h1 hJ1 hs1 => ?_)));replace hs1 : Heap.SameBut j hp h1 := hs1;have e1 : IsEnum h1 e j i old := (hs1.2 e hne).trans hE;show wpAny _ _ (field (.ref e) 3 >>= _) _ _ ⟨h1, g, d, tk, os⟩;refine yaa (wpAny_field e1 rfl (x := rawInt i) rfl ?_);show wpAny _ _ (field (.ref e) 4 >>= _) _ _ ⟨h1, g, d, tk, os⟩;refine yaa (wpAny_field e1 rfl (x := .none) rfl ?_);show wpAny _ _ (mkInt i >>= _) _ _ ⟨h1, g, d, tk, os⟩;refine yaa (wpAny_mkInt ?_);show wpAny _ _ (setField (.ref e) 3 (rawInt ((i : Int) + 1)) >>= _) _ _ ⟨h1, g, d, tk + 1, os⟩;refine yaa (wpAny_setField_rec e1 (by simp) fun h2 e2 hs2 => ?_);replace hs2 : Heap.SameBut e h1 h2 := hs2;replace e2 : IsEnum h2 e j ((i : Int) + 1) old := e2;show wpAny _ _ (setField (.ref e) 4 .none >>= _) _ _ ⟨h2, g, d, tk + 1, os⟩;refine yaa (wpAny_setField_rec e2 (by simp) fun h3 e3 hs3 => ?_);replace hs3 : Heap.SameBut e h2 h3 := hs3;replace e3 : IsEnum h3 e j ((i : Int) + 1) old := e3;show wpAny _ _ (newTuple [.int i tk, v] >>= _) _ _ ⟨h3, g, d, tk + 1, os⟩;refine yaa (wpAny_newTuple ?_);have hsz : h3.objs.size = hp.objs.size := by rw [hs3.1, hs2.1, hs1.1]
 have hJ3 : h3.IsTupleIter j t (i + 1) := (hJ1.extBut hs2.extBut (Ne.symm hne)).extBut hs3.extBut (Ne.symm hne);have k3 : ∀ b o, b ≠ e -> b ≠ j -> hp.get? b = some o -> h3.get? b = some o := fun b o he hj hb => hs3.extBut b o he (hs2.extBut b o he (hs1.extBut b o hj hb));have e4 : IsEnum (h3.push { cls := .type "tuple", data := .seq #[.int i tk, v] }) e j ((i : Int) + 1) old := yac _ e3;have hJ4 : (h3.push { cls := .type "tuple", data := .seq #[.int i tk, v] }).IsTupleIter j t (i + 1) := let ⟨o, a, r⟩ := hJ3; ⟨o, yac _ a, r⟩;have k' := k h3;generalize h3.push { cls := .type "tuple", data := .seq #[.int i tk, v] } = h4 at e4 hJ4 k';show wpAny _ _ (Builtin.SmallTypes.ownedTupleIsFree (.ref e) >>= _) _ _ ⟨h4, g, d, tk + 1, os⟩;rw [hsz];refine yaa ?_;unfold Builtin.SmallTypes.ownedTupleIsFree;refine yaa (wpAny_field e4 rfl (x := .none) rfl (yab ?_));simp only [if_true];refine yaa (wpAny_rule (yaa (wpAny_field e4 rfl (x := old) rfl (yaa (wpAny_setField_rec e4 (by simp) fun h5 e5 hs5 => ?_)))));replace hs5 : Heap.SameBut e h4 h5 := hs5;replace e5 : IsEnum h5 e j ((i : Int) + 1) v := e5;show wpAny _ _ (Builtin.SmallTypes.ownedTupleHandOut (.ref e) (.ref hp.objs.size) >>= _) _ _ ⟨h5, g, d, tk + 1, os⟩;refine yaa ?_;unfold Builtin.SmallTypes.ownedTupleHandOut;refine yaa (wpAny_setField_rec e5 (by simp) fun h6 e6 hs6 => ?_);replace hs6 : Heap.SameBut e h5 h6 := hs6;replace e6 : IsEnumOut h6 e j ((i : Int) + 1) v hp.objs.size := e6;refine wpAny_setField_rec e6 (by simp) fun h7 e7 hs7 => ?_;replace hs7 : Heap.SameBut e h6 h7 := hs7;replace e7 : IsEnumOut h7 e j ((i : Int) + 1) v hp.objs.size := e7;have hs : Heap.SameBut e h4 h7 := ⟨by rw [hs7.1, hs6.1, hs5.1], fun b hb => (hs7.2 b hb).trans ((hs6.2 b hb).trans (hs5.2 b hb))⟩
 exact yaa (wpAny_letGo (yab ⟨_, rfl, yab (k' h7 k3 hsz hs e7 (hJ4.extBut hs.extBut (Ne.symm hne)))⟩))
theorem ziq {e j t : Addr} {i : Nat} {us : Array Value} {old : Value} {R : Option Value -> Shared -> Prop} (hh : A.handled = none) (hE : IsEnum s.heap e j i old) (hJ : s.heap.IsTupleIter j t i) (hT : s.heap.IsTuple t us) (hv : us[i]? = none)
  (k : ∀ h1, Heap.ExtBut j s.heap h1 -> R none { s with heap := h1 }) : wpAny (model prog w) A (pyNext (.ref e)) R E s := by
 have hTy : s.TypeIs (.ref e) "enumerate" := ⟨_, hE, rfl⟩
 unfold pyNext;refine yaa (wpAny_attempt (wpAny_callSpecial?_slot (name := Str.ofString "__next__") hTy PySem.F.slot_enumerate_next (wpAny_call_entry PySem.F.slot_enumerate_next hTy PySem.F.entry_enumerate_next ?_ (PySem.F.args_enumerate_next_1 _))));show wpAny _ _ (field (.ref e) 2 >>= _) _ _ _;refine yaa (wpAny_field hE rfl (x := .ref j) rfl (yaa (zdJ hh hJ hT hv fun h1 x hb ⟨o, ho, hc⟩ => ?_)));exact yaa (wpAny_isInstance (T := "StopIteration") (b := true) ⟨o, ho, hc⟩ isSubtype_stop (yab (k _ hb)))
theorem zhc (l : Addr) (us : Array Value) (n : Nat) (dct : Option Addr) (sl : Array (Option Value)) :
  Meets (Builtin.«enumerate.__new__» ⟨[.type "enumerate", .ref l], []⟩) (fun _ R s => s.heap.get? l = some { cls := .type "tuple", dict := dct, data := .seq us n, slots := sl } /\
   R (.ok (.ret (.ref (s.heap.push { cls := .type "tuple_iterator", data := .fields #[.ref l, .int 0 0] }).objs.size)))
    { s with heap := (s.heap.push { cls := .type "tuple_iterator", data := .fields #[.ref l, .int 0 0] }).push { cls := .type "enumerate", data := .fields #[.none, .bool false, .ref s.heap.objs.size, rawInt 0, .none, .none] } }) :=
 .of_wp fun prog w A R s z => by
  obtain ⟨hp, g, d, tk, os⟩ := s; obtain ⟨hl, z⟩ := z;have hsub := sub_enumerate;have hL : Heap.IsTuple (Shared.heap ⟨hp, g, d, tk, os⟩) l us := ⟨_, hl, rfl, n, rfl⟩
  wp_walk using wpAny_loadPart' hl
  refine wpAny_stack_any fun st => yab ?_
  split
  ·rename_i c _ _ _ _ _
   cases (c == Value.type "enumerate") <;> (wp_walk using wpAny_loadPart' hl, wpAny_pyIter_tuple hL; exact ⟨_, rfl, z⟩)
  ·wp_walk using wpAny_loadPart' hl, wpAny_pyIter_tuple hL; exact ⟨_, rfl, z⟩
theorem zir {l : Addr} {us : Array Value} {R : Value -> Shared -> Prop} (hL : s.heap.IsTuple l us)
  (k : ∀ h', IsEnum h' (s.heap.objs.size + 1) s.heap.objs.size 0 .none -> h'.IsTupleIter s.heap.objs.size l 0 -> h'.objs.size = s.heap.objs.size + 2 ->
   (∀ b o, s.heap.get? b = some o -> h'.get? b = some o) -> R (.ref (s.heap.objs.size + 1)) { s with heap := h' }) : wpAny (model prog w) A (call (.type "enumerate") [.ref l]) R E s := by
 obtain ⟨⟨c, dct, dt, sl⟩, hl, hc, n, hd⟩ := hL;replace hc : c = .type "tuple" := hc;replace hd : dt = .seq us n := hd;subst hc hd;have hz : (s.heap.push { cls := .type "tuple_iterator", data := .fields #[.ref l, .int 0 0] }).objs.size = s.heap.objs.size + 1 := Heap.size_push ..;have he := yaj (s.heap.push { cls := .type "tuple_iterator", data := .fields #[.ref l, .int 0 0] }) (o := { cls := .type "enumerate", data := .fields #[.none, .bool false, .ref s.heap.objs.size, rawInt 0, .none, .none] }) rfl;rw [hz] at he;refine callType_new PySem.F.called_enumerate (by decide) (PySem.F.typeCall_enumerate_1 _) (PySem.F.newCall_enumerate_1 _) (fun obj => PySem.F.args_object_init_2 obj _) PySem.F.entry_enumerate_new (zhc l us n dct sl) ⟨hl, ?_⟩;show _ /\ _;rw [hz];exact ⟨⟨_, he, rfl⟩, k _ he ⟨_, yac _ (yaj _ rfl), rfl, rfl⟩ (by rw [Heap.size_push, hz]) fun b o x => yac _ (yac _ x)⟩
end
section
variable {X : Cx} {Qa : List (Addr × Obj)} {σ : St} {H : Hp} {s : Shared} {h' : Heap}
theorem Inv.turned2 {t' : Nat} {e j : Addr} (I : Inv X Qa σ H s) (k : ∀ b o, b ≠ e -> b ≠ j -> s.heap.get? b = some o -> h'.get? b = some o) (fe : FpOk X Qa H e) (fj : FpOk X Qa H j) : Inv X Qa σ H { s with heap := h', toks := t' } := by
 have ne : ∀ b u, H b = some u -> b ≠ e := fun b u q z => by rw [z, fe.1] at q; cases q
 have nj : ∀ b u, H b = some u -> b ≠ j := fun b u q z => by rw [z, fj.1] at q; cases q
 have k2 : ∀ b o, b ∉ [e, j] -> s.heap.get? b = some o -> h'.get? b = some o := fun b o hb q => k b o (fun z => hb (by simp [z])) (fun z => hb (by simp [z])) q;refine I.step (g' := s.gens) (d' := s.drawn) (ch := [e, j]) (fun b hb => ?_) (fun b o _ _ hc q _ => k2 b o hc q) (fun b o _ _ hc q _ => ⟨o.slots, k2 b o hc q⟩) (fun _ _ _ _ n => n)
  (fun b o hc q => ⟨o, k2 b o hc q⟩) (fun _ _ q => q) (fun _ _ _ q => q) (fun b ps q => ⟨#[], by rw [q]; simp⟩) (fun m hm => ?_) (fun b u q => ?_) I.bare
 ·rcases yau.mp hb with rfl | hb
  ·exact ⟨fe.2.2.2.1, fe.2.1, fe.2.2.2.2.1, fe.2.2.2.2.2⟩
  ·rw [yah.mp hb]; exact ⟨fj.2.2.2.1, fj.2.1, fj.2.2.2.2.1, fj.2.2.2.2.2⟩
 ·obtain ⟨o, es, ep, ho, r⟩ := hm;exact ⟨o, es, ep, k _ o (Ne.symm fe.2.1) (Ne.symm fj.2.1) ho, r⟩
 ·refine (I.hok b u q).stay (fun c v hc q2 => ?_) (fun _ q => q) fun _ _ q => q;rcases hc with z | z
  ·rw [z] at q2 ⊢; exact k b v (ne b u q) (nj b u q) q2
  ·exact k c v (ne c _ z) (nj c _ z) q2
end
def Ite (K : W.Frag) (a : Addr) : It :=
 ⟨fun i H => ∃ xs x, SqT K H a xs /\ xs[i]? = some x, fun i H v H' => ∃ t y, v = .ref t /\ H t = none /\ H' = upd H t (.tup [.int i, y]) /\ ∀ xs, SqT K H a xs -> xs[i]? = some y, fun i H => ∃ xs, SqT K H a xs /\ xs.length <= i⟩
theorem zis {P : Program} {w : World} {K : W.Frag} {es : List Expr} {kx : Nat} {pos : Pos} (a e j : Addr) (hne : e ≠ j) : Turn P w K (.Tuple es kx pos) (Ite K a) [e, j] e (fun i h => (∃ old, IsEnum h e j i old) /\ h.IsTupleIter j a i) where
 mem := by simp
 obj := fun i h st b hb => by
  obtain ⟨⟨old, he⟩, hj⟩ := st;rcases yau.mp hb with rfl | hb
  ·exact ⟨_, he, fun v z => by
    have z' : Data.fields _ = Data.cell v := z;cases z'⟩
  ·rw [yah.mp hb];obtain ⟨o, e1, c, d⟩ := hj;exact ⟨o, e1, fun v z => by rw [d] at z; cases z⟩
 keep := fun i h h' st k => let ⟨⟨old, he⟩, hj⟩ := st; ⟨⟨old, k e (by simp) _ he⟩, hj.at fun o q => k j (by simp) o q⟩
 item := by
  intro X hP hw hK hc i Qa s σ H E I hf st hg;subst hP hw hK;obtain ⟨xs, x, hq, hx⟩ := hg;obtain ⟨its, rv, p, hz⟩ := I.tuple hq;obtain ⟨u, hu, ru⟩ := rv.get hx;have fe := hf e (by simp);have fj := hf j (by simp);obtain ⟨⟨old, he⟩, hj⟩ := st;have hlt : e < s.heap.objs.size := yan he;have hltj : j < s.heap.objs.size := let ⟨_, q, _⟩ := hj; yan q;refine zhb he hj (show s.heap.IsTuple a its.toArray from p) (v := u) (by simpa using hu) hne fun h3 h' k3 hsz hs ho hj' => ?_;have I3 : Inv X Qa σ H { s with heap := h3, toks := s.toks + 1 } := I.turned2 k3 fe fj;have I4 : Inv X Qa σ (upd H s.heap.objs.size (.tup [.int i, x])) { s with heap := h3.push { cls := .type "tuple", data := .seq #[.int i s.toks, u] }, toks := s.toks + 1 } := by
   rw [<- hsz];exact I3.laid (t' := s.toks + 1) (fun b o q => yac _ q) (yai _) ⟨zar (by decide : 2 <= 100000), _, .cons ⟨s.toks, rfl⟩ (.cons ru .nil), IsTup.new _ _⟩
  have ne : upd H s.heap.objs.size (.tup [.int i, x]) e = none := by rw [za7 (Nat.ne_of_lt hlt)]; exact fe.1
  have nj : upd H s.heap.objs.size (.tup [.int i, x]) j = none := by rw [za7 (Nat.ne_of_lt hltj)]; exact fj.1
  have I5 := I4.turned (h' := h') (it := e) (t' := s.toks + 1) (fun b o hb q => (hs.2 b hb).trans q) ne fe.2.1 fe.2.2.2.1 fe.2.2.2.2.1 fe.2.2.2.2.2;refine ⟨_, rfl, wpAny_letOwnedTupleGo_enum ho fun h8 he8 hs8 => ?_⟩;have I6 := I5.turned (h' := h8) (it := e) (t' := s.toks + 1) (fun b o hb q => (hs8.2 b hb).trans q) ne fe.2.1 fe.2.2.2.1 fe.2.2.2.2.1 fe.2.2.2.2.2;refine ⟨.ref s.heap.objs.size, _, I6, rfl, ⟨_, x, rfl, I.hok.fresh (yai _), rfl, fun ys hy => by rw [I.tuple_inj hy hq]; exact hx⟩, ⟨⟨_, by simpa using he8⟩, hj'.extBut hs8.extBut (Ne.symm hne)⟩, fun b hb => ?_⟩;rcases yau.mp hb with rfl | hb
  ·exact ne
  ·rw [yah.mp hb]; exact nj
 done := by
  intro X hP hw hK hc i Qa s σ H E I hf st hg;subst hP hw hK;obtain ⟨xs, hq, hx⟩ := hg;obtain ⟨its, rv, p, hz⟩ := I.tuple hq;obtain ⟨f0, f1, f2, f3, f4, f5⟩ := hf j (by simp);obtain ⟨⟨old, he⟩, hj⟩ := st;have hl := rv.length;exact ziq (I.ok.hd hc) he hj (show s.heap.IsTuple a its.toArray from p) (by simp; omega) fun h' eb => ⟨rfl, I.turned (t' := s.toks) (fun b o hb e => eb b o hb e) f0 f1 f3 f4 f5⟩
 self := fun _ _ _ _ _ st h => let ⟨⟨_, he⟩, _⟩ := st; wpAny_pyIter_enum he h
section
variable {X : Cx}
def zmZ (K : W.Frag) (ta : TA) : TI := fun σ H R => ta σ H fun vs H1 => ∃ a, vs = [.ref a] /\ (∃ xs, SqT K H1 a xs) /\ R (Ite K a) H1
theorem zle (K : W.Frag) {es : List Expr} {kx : Nat} {pt p pos : Pos} {a : Expr} {ta : TA} (hg : Gl X "enumerate") (hm : X.mg "enumerate" = none) (ha : PA X [a] ta) (hs : starEach [a] X.env = [(false, eval a X.env)] := by rfl) (hK : X.K = K := by rfl) :
  PI X (.Tuple es kx pt) (.Call (.Name "enumerate" p) [a] [] pos) (zmZ K ta) := by
 subst hK;intro Qa s σ H R I h;refine Call_ (zd3 I hg hm boot_enumerate (PyProof.Rows.callWith_type1 (thn (ha pos Qa s σ H _ I h) fun us s1 ⟨vs, H1, I1, r1, q1⟩ => ?_) hs rfl));obtain ⟨a, e, ⟨xs, hq⟩, q⟩ := q1;subst e;cases r1 with
 | cons r rr =>
  cases rr;cases r;obtain ⟨its, rv, pp, hz⟩ := I1.tuple hq;refine zir (show s1.heap.IsTuple a its.toArray from pp) fun h' he hj hsz kk => wpAny_pyIter_enum he ?_;refine ⟨s1.heap.objs.size + 1, [s1.heap.objs.size + 1, s1.heap.objs.size], _, _, H1, rfl, I1.kept (t' := s1.toks) kk, zis a (s1.heap.objs.size + 1) s1.heap.objs.size (Nat.succ_ne_self _), ⟨⟨_, he⟩, hj⟩, fun b hb => ?_, q⟩;rcases yau.mp hb with rfl | hb
  ·exact I1.fpOk (by omega) (I1.hok.fresh (by omega))
  ·rw [yah.mp hb]; exact I1.fpOk (yai _) (I1.hok.fresh (yai _))
theorem zna {K : W.Frag} {σ : St} {H : Hp} {R : It -> Hp -> Prop} {ta : TA} : zmZ K ta σ H R = ta σ H fun vs H1 => ∃ a, vs = [.ref a] /\ (∃ xs, SqT K H1 a xs) /\ R (Ite K a) H1 := rfl
theorem zit {K : W.Frag} {a : Addr} {xs : List V} {g : TG} {tb : TS} {D : Ends} {σ : St} {H : Hp} (Pv : Nat -> St -> Hp -> Prop) (h0 : Pv 0 σ H) (hl : ∀ i σ H, i <= xs.length -> Pv i σ H -> SqT K H a xs)
  (hs : ∀ i x σ H, xs[i]? = some x -> Pv i σ H -> ∀ t, H t = none -> g (.ref t) σ (upd H t (.tup [.int i, x])) fun σ2 H2 => tb { D with nx := Pv (i + 1), ct := Pv (i + 1), bk := D.nx } σ2 H2) (hd : ∀ σ H, Pv xs.length σ H -> D.nx σ H) : ForW (Ite K a) g tb D σ H := by
 refine ⟨fun i m σ H => m = xs.length - i /\ i <= xs.length /\ Pv i σ H, ⟨xs.length, by simp, yaq _, h0⟩, ?_⟩
 rintro i m σ H ⟨rfl, hi, p⟩
 by_cases hlt : i < xs.length
 ·have hx : xs[i]? = some xs[i] := by simp [hlt]
  refine .inr ⟨⟨xs, _, hl _ _ _ hi p, hx⟩, Pv (i + 1), fun σ' H' q => ⟨xs.length - (i + 1), by omega, rfl, hlt, q⟩, fun x H' y => ?_⟩;obtain ⟨t, z, rfl, hn, rfl, hz⟩ := y;have e := hz xs (hl _ _ _ hi p);rw [hx] at e;cases e;exact hs i _ σ H hx p t hn
 ·have e : i = xs.length := by omega
  subst e;exact .inl ⟨⟨xs, hl _ _ _ hi p, yai _⟩, hd σ H p⟩
end
section
variable {X : Cx}
def znb (K : W.Frag) : V -> List V -> Hp -> VK -> Prop := fun x vs H Q => ∃ p xs k, x = .ref p /\ vs = [k] /\ SqL K H p xs /\ xs.all zbC = true /\ zbC k = true /\ Q (.int ((xs.countP fun y => eqV y k : Nat) : Int)) H
theorem zlf {K : W.Frag} {p : Addr} {k : V} {H : Hp} {Q : VK} : znb K (.ref p) [k] H Q = ∃ xs, SqL K H p xs /\ xs.all zbC = true /\ zbC k = true /\ Q (.int ((xs.countP fun y => eqV y k : Nat) : Int)) H := by
 refine propext ⟨fun ⟨_, xs, _, e1, e2, h⟩ => ?_, fun ⟨xs, h⟩ => ⟨p, xs, k, rfl, rfl, h⟩⟩;cases e1; cases e2; exact ⟨xs, h⟩
end
open AutoSeq1 (wpAny_loadPart')
section
variable {prog : Program} {w : World} {A : Around} {E : Value -> Shared -> Prop} {s : Shared}
theorem zbn {h h' : Heap} {j t : Addr} {us : Array Value} (hT : h.IsTuple t us) (k : Heap.ExtBut j h h') (hn : t ≠ j) : h'.IsTuple t us := let ⟨o, e, r⟩ := hT; ⟨o, k _ _ hn e, r⟩
theorem ziu {z TI TO i1 i2 l1 l2 : Addr} {k1 k2 : Nat} {xs ys : Array Value} {x y a b : Value} {Q : Option Value -> Shared -> Prop} (D : ZipApart z TI TO i1 i2 l1 l2)
  (hz : IsZip s.heap z TI TO .none) (hTI : IsPair s.heap TI (.ref i1) (.ref i2)) (hTO : IsPair s.heap TO a b)
  (h1 : s.heap.IsTupleIter i1 l1 k1) (h2 : s.heap.IsTupleIter i2 l2 k2) (hl1 : s.heap.IsTuple l1 xs) (hl2 : s.heap.IsTuple l2 ys) (hx : xs[k1]? = some x) (hy : ys[k2]? = some y)
  (hQ : ∀ (h5 h' : Heap), (∀ c o, c ≠ z -> c ≠ TO -> c ≠ i1 -> c ≠ i2 -> s.heap.get? c = some o -> h5.get? c = some o) -> h5.objs.size = s.heap.objs.size ->
   Heap.SameBut z (h5.push { cls := .type "tuple", data := .seq #[x, y] }) h' -> IsZip h' z TI TO (rawInt s.heap.objs.size) -> IsPair h' TI (.ref i1) (.ref i2) -> IsPair h' TO x y -> h'.IsTupleIter i1 l1 (k1 + 1) -> h'.IsTupleIter i2 l2 (k2 + 1) ->
   Q (some (.ref s.heap.objs.size)) { s with heap := h' }) :
  wpAny (model prog w) A (pyNext (.ref z)) Q E s := by
 have hT : s.TypeIs (.ref z) "zip" := ⟨_, hz, rfl⟩
 unfold pyNext;refine yaa (wpAny_attempt (wpAny_callSpecial?_slot (name := Str.ofString "__next__") hT PySem.F.slot_zip_next
  (wpAny_call_entry PySem.F.slot_zip_next hT PySem.F.entry_zip_next ?_ (PySem.F.args_zip_next_1 _))))
 show wpAny _ _ (field (.ref z) 2 >>= _) _ _ _;refine yaa (wpAny_field hz rfl (x := .bool false) rfl ?_);show wpAny _ _ (field (.ref z) 3 >>= _) _ _ _;refine yaa (wpAny_field hz rfl (x := .ref TI) rfl ?_);refine yaa (wpAny_seqItems hTI rfl ?_);show wpAny _ _ (Builtin.SmallTypes.ownedTupleIsFree (.ref z) >>= _) _ _ _;refine yaa ?_;unfold Builtin.SmallTypes.ownedTupleIsFree;refine yaa (wpAny_field hz rfl (x := .none) rfl (yab ?_));simp only [if_true];refine yaa (wpAny_rule ?_);refine yaa (wpAny_field hz rfl (x := .ref TO) rfl ?_);refine yaa (wpAny_setField_rec hz (by simp) fun h₁ hz₁ hs₁ => ?_);replace hz₁ : IsZip h₁ z TI TO .ellipsis := hz₁;refine yaa ?_;simp only [List.zipIdx_cons, List.zipIdx_nil, List.forIn_cons, List.forIn_nil];refine yaa (yaa (wpAny_onRaise ?_));show wpAny _ _ (Builtin.SmallTypes.nextOf (.ref i1) >>= _) _ _ _;refine yaa (zc6 (h1.extBut hs₁.extBut D.i1z) (zbn hl1 hs₁.extBut D.l1z) hx fun h₂ h1₂ hs₂ => yab ?_);have hTO₂ : IsPair h₂ TO a b := hs₂.extBut _ _ D.TOi1 (hs₁.extBut _ _ D.TOz hTO);refine yaa (wpAny_seqItems hTO₂ rfl ?_);refine yaa (wpAny_updateSeq_pair hTO₂ fun h₃ hTO₃ hs₃ => ?_);replace hTO₃ : IsPair h₃ TO x b := hTO₃;refine yaa (wpAny_letGo (yab ?_));refine yaa (yaa (wpAny_onRaise ?_));show wpAny _ _ (Builtin.SmallTypes.nextOf (.ref i2) >>= _) _ _ _;refine yaa (zc6 (((h2.extBut hs₁.extBut D.i2z).extBut hs₂.extBut D.i12.symm).extBut hs₃.extBut D.TOi2.symm)
  (zbn (zbn (zbn hl2 hs₁.extBut D.l2z) hs₂.extBut D.l2i1) hs₃.extBut D.l2TO) hy fun h₄ h2₄ hs₄ => yab ?_)
 have hTO₄ : IsPair h₄ TO x b := hs₄.extBut _ _ D.TOi2 hTO₃;refine yaa (wpAny_seqItems hTO₄ rfl ?_);refine yaa (wpAny_updateSeq_pair hTO₄ fun h₅ hTO₅ hs₅ => ?_);replace hTO₅ : IsPair h₅ TO x y := hTO₅;refine yaa (wpAny_letGo (yab (yab ?_)));refine yaa (wpAny_seqItems hTO₅ rfl ?_);refine yaa (wpAny_newTuple ?_);have hsz : h₅.objs.size = s.heap.objs.size := by rw [hs₅.1, hs₄.1, hs₃.1, hs₂.1, hs₁.1]
 have hz₅ : IsZip h₅ z TI TO .ellipsis := hs₅.extBut _ _ D.TOz.symm (hs₄.extBut _ _ D.i2z.symm (hs₃.extBut _ _ D.TOz.symm (hs₂.extBut _ _ D.i1z.symm hz₁)));have hk₅ : ∀ c o, c ≠ z -> c ≠ TO -> c ≠ i1 -> c ≠ i2 -> s.heap.get? c = some o -> h₅.get? c = some o := fun c o c1 c2 c3 c4 e =>
  hs₅.extBut _ _ c2 (hs₄.extBut _ _ c4 (hs₃.extBut _ _ c2 (hs₂.extBut _ _ c3 (hs₁.extBut _ _ c1 e))))
 have h1₅ : h₅.IsTupleIter i1 l1 (k1 + 1) := ((h1₂.extBut hs₃.extBut D.TOi1.symm).extBut hs₄.extBut D.i12).extBut hs₅.extBut D.TOi1.symm;have h2₅ : h₅.IsTupleIter i2 l2 (k2 + 1) := h2₄.extBut hs₅.extBut D.TOi2.symm;show wpAny _ _ (Builtin.SmallTypes.ownedTupleHandOut (.ref z) (.ref h₅.objs.size) >>= _) _ _ _;refine yaa ?_;unfold Builtin.SmallTypes.ownedTupleHandOut;have hz₆ : IsZip (h₅.push { cls := .type "tuple", data := .seq #[x, y] }) z TI TO .ellipsis := yac _ hz₅;refine yaa (wpAny_setField_rec hz₆ (by simp) fun h₇ hz₇ hs₇ => ?_);replace hz₇ : IsZip h₇ z TI TO (rawInt h₅.objs.size) := hz₇;refine wpAny_setField_rec hz₇ (by simp) fun h₈ hz₈ hs₈ => ?_;replace hz₈ : IsZip h₈ z TI TO (rawInt h₅.objs.size) := hz₈;have up : ∀ c o, c ≠ z -> h₅.get? c = some o -> h₈.get? c = some o := fun c o c1 e => hs₈.extBut _ _ c1 (hs₇.extBut _ _ c1 (yac _ e));have hs : Heap.SameBut z (h₅.push { cls := .type "tuple", data := .seq #[x, y] }) h₈ := ⟨by rw [hs₈.1, hs₇.1], fun c hc => (hs₈.2 c hc).trans (hs₇.2 c hc)⟩
 rw [hsz] at hz₈;refine yab ⟨_, rfl, yab ?_⟩;show Q (some (.ref h₅.objs.size)) _;rw [hsz];exact hQ h₅ h₈ hk₅ hsz hs hz₈ (up _ _ D.TIz (hk₅ _ _ D.TIz D.TITO D.TIi1 D.TIi2 hTI)) (up _ _ D.TOz hTO₅) (h1₅.at fun o e => up _ o D.i1z e) (h2₅.at fun o e => up _ o D.i2z e)
theorem zjy {z TI TO i1 i2 l1 l2 : Addr} {k1 k2 : Nat} {xs ys : Array Value} {a b : Value} {Q : Option Value -> Shared -> Prop} (hh : A.handled = none) (D : ZipApart z TI TO i1 i2 l1 l2)
  (hz : IsZip s.heap z TI TO .none) (hTI : IsPair s.heap TI (.ref i1) (.ref i2)) (hTO : IsPair s.heap TO a b)
  (h1 : s.heap.IsTupleIter i1 l1 k1) (h2 : s.heap.IsTupleIter i2 l2 k2) (hl1 : s.heap.IsTuple l1 xs) (hl2 : s.heap.IsTuple l2 ys) (hend : xs[k1]? = none \/ ys[k2]? = none)
  (hQ : ∀ h', (∀ c o, c ≠ z -> c ≠ TO -> c ≠ i1 -> c ≠ i2 -> s.heap.get? c = some o -> h'.get? c = some o) -> Q none { s with heap := h' }) :
  wpAny (model prog w) A (pyNext (.ref z)) Q E s := by
 have hT : s.TypeIs (.ref z) "zip" := ⟨_, hz, rfl⟩
 have hE : ∀ h' e, (∀ c o, c ≠ z -> c ≠ TO -> c ≠ i1 -> c ≠ i2 -> s.heap.get? c = some o -> h'.get? c = some o) -> (∃ o, h'.get? e = some o /\ o.cls = .type "StopIteration") ->
   wpAny (model prog w) A (do let b <- isInstance (.ref e) (.type "StopIteration"); if b = true then pure none else throw (.ref e)) Q E { s with heap := h' } := fun h' e hk he => by
  obtain ⟨o, ho, hc⟩ := he;exact yaa (wpAny_isInstance (T := "StopIteration") (b := true) ⟨o, ho, hc⟩ isSubtype_stop (yab (hQ _ hk)))
 unfold pyNext;refine yaa (wpAny_attempt (wpAny_callSpecial?_slot (name := Str.ofString "__next__") hT PySem.F.slot_zip_next
  (wpAny_call_entry PySem.F.slot_zip_next hT PySem.F.entry_zip_next ?_ (PySem.F.args_zip_next_1 _))))
 show wpAny _ _ (field (.ref z) 2 >>= _) _ _ _;refine yaa (wpAny_field hz rfl (x := .bool false) rfl ?_);show wpAny _ _ (field (.ref z) 3 >>= _) _ _ _;refine yaa (wpAny_field hz rfl (x := .ref TI) rfl ?_);refine yaa (wpAny_seqItems hTI rfl ?_);show wpAny _ _ (Builtin.SmallTypes.ownedTupleIsFree (.ref z) >>= _) _ _ _;refine yaa ?_;unfold Builtin.SmallTypes.ownedTupleIsFree;refine yaa (wpAny_field hz rfl (x := .none) rfl (yab ?_));simp only [if_true];refine yaa (wpAny_rule ?_);refine yaa (wpAny_field hz rfl (x := .ref TO) rfl ?_);refine yaa (wpAny_setField_rec hz (by simp) fun h₁ hz₁ hs₁ => ?_);replace hz₁ : IsZip h₁ z TI TO .ellipsis := hz₁;refine yaa ?_;simp only [List.zipIdx_cons, List.zipIdx_nil, List.forIn_cons, List.forIn_nil];refine yaa (yaa (wpAny_onRaise ?_));show wpAny _ _ (Builtin.SmallTypes.nextOf (.ref i1) >>= _) _ _ _;cases hx : xs[k1]? with
 | none =>
  refine yaa (zdJ hh (h1.extBut hs₁.extBut D.i1z) (zbn hl1 hs₁.extBut D.l1z) hx fun h₂ e hs₂ he => ?_);obtain ⟨oe, hoe, hce⟩ := he;have hz₂ : IsZip h₂ z TI TO .ellipsis := hs₂ _ _ D.i1z.symm hz₁;have hez : e ≠ z := fun x => by subst x; rw [hz₂] at hoe; cases hoe; simp at hce
  exact wpAny_setField_rec hz₂ (by simp) fun h₃ _ hs₃ => hE h₃ e (fun c o c1 _ c3 _ x => hs₃.extBut _ _ c1 (hs₂ _ _ c3 (hs₁.extBut _ _ c1 x))) ⟨oe, hs₃.extBut _ _ hez hoe, hce⟩
 | some x =>
  have hy : ys[k2]? = none := by rcases hend with h | h; rw [hx] at h; cases h; exact h
  refine yaa (zc6 (h1.extBut hs₁.extBut D.i1z) (zbn hl1 hs₁.extBut D.l1z) hx fun h₂ h1₂ hs₂ => yab ?_);have hTO₂ : IsPair h₂ TO a b := hs₂.extBut _ _ D.TOi1 (hs₁.extBut _ _ D.TOz hTO);refine yaa (wpAny_seqItems hTO₂ rfl ?_);refine yaa (wpAny_updateSeq_pair hTO₂ fun h₃ hTO₃ hs₃ => ?_);refine yaa (wpAny_letGo (yab ?_));refine yaa (yaa (wpAny_onRaise ?_));show wpAny _ _ (Builtin.SmallTypes.nextOf (.ref i2) >>= _) _ _ _;refine yaa (zdJ hh (((h2.extBut hs₁.extBut D.i2z).extBut hs₂.extBut D.i12.symm).extBut hs₃.extBut D.TOi2.symm)
   (zbn (zbn (zbn hl2 hs₁.extBut D.l2z) hs₂.extBut D.l2i1) hs₃.extBut D.l2TO) hy fun h₄ e hs₄ he => ?_)
  obtain ⟨oe, hoe, hce⟩ := he;have hz₄ : IsZip h₄ z TI TO .ellipsis := hs₄ _ _ D.i2z.symm (hs₃.extBut _ _ D.TOz.symm (hs₂.extBut _ _ D.i1z.symm hz₁));have hez : e ≠ z := fun x => by subst x; rw [hz₄] at hoe; cases hoe; simp at hce
  exact wpAny_setField_rec hz₄ (by simp) fun h₅ _ hs₅ => hE h₅ e (fun c o c1 c2 c3 c4 x => hs₅.extBut _ _ c1 (hs₄ _ _ c4 (hs₃.extBut _ _ c2 (hs₂.extBut _ _ c3 (hs₁.extBut _ _ c1 x))))) ⟨oe, hs₅.extBut _ _ hez hoe, hce⟩
abbrev zpH1 (h : Heap) (l1 : Addr) : Heap := h.push { cls := .type "tuple_iterator", data := .fields #[.ref l1, .int 0 0] }
abbrev zpH2 (h : Heap) (l1 l2 : Addr) : Heap := (zpH1 h l1).push { cls := .type "tuple_iterator", data := .fields #[.ref l2, .int 0 0] }
abbrev zpH3 (h : Heap) (l1 l2 : Addr) : Heap := (zpH2 h l1 l2).push { cls := .type "tuple", data := .seq #[.ref h.objs.size, .ref (zpH1 h l1).objs.size] }
abbrev zpH4 (h : Heap) (l1 l2 : Addr) : Heap := (zpH3 h l1 l2).push { cls := .type "tuple", data := .seq #[.none, .none] }
abbrev zpH5 (h : Heap) (l1 l2 : Addr) : Heap := (zpH4 h l1 l2).push { cls := .type "zip", data := .fields #[.none, .bool false, .bool false, .ref (zpH2 h l1 l2).objs.size, .ref (zpH3 h l1 l2).objs.size] }
theorem ziv (l1 l2 : Addr) (xs ys : Array Value) :
  Meets (Builtin.«zip.__new__» ⟨[.type "zip", .ref l1, .ref l2], []⟩) (fun _ R s => s.heap.IsTuple l1 xs /\ s.heap.IsTuple l2 ys /\
   R (.ok (.ret (.ref (zpH4 s.heap l1 l2).objs.size))) { s with heap := zpH5 s.heap l1 l2 }) :=
 .of_wp fun prog w A R s h => by
  obtain ⟨hp, g, d, tk, os⟩ := s; obtain ⟨hl1, hl2, h⟩ := h;have hsub := sub_zip;have hL1 : Heap.IsTuple (Shared.heap ⟨hp, g, d, tk, os⟩) l1 xs := hl1;have hL2 : Heap.IsTuple (Shared.heap ⟨hp.push { cls := .type "tuple_iterator", data := .fields #[.ref l1, .int 0 0] }, g, d, tk, os⟩) l2 ys := let ⟨o, e, r⟩ := hl2; ⟨o, yac _ e, r⟩
  wp_walk using wpAny_pyIter_tuple hL1, wpAny_pyIter_tuple hL2
  exact ⟨_, rfl, h⟩
theorem zjz {l1 l2 : Addr} {xs ys : Array Value} {Q : Value -> Shared -> Prop} (hl1 : s.heap.IsTuple l1 xs) (hl2 : s.heap.IsTuple l2 ys)
  (h : ∀ h', IsZip h' (s.heap.objs.size + 4) (s.heap.objs.size + 2) (s.heap.objs.size + 3) .none -> IsPair h' (s.heap.objs.size + 2) (.ref s.heap.objs.size) (.ref (s.heap.objs.size + 1)) ->
   IsPair h' (s.heap.objs.size + 3) .none .none -> h'.IsTupleIter s.heap.objs.size l1 0 -> h'.IsTupleIter (s.heap.objs.size + 1) l2 0 -> h'.objs.size = s.heap.objs.size + 5 ->
   (∀ c o, s.heap.get? c = some o -> h'.get? c = some o) -> Q (.ref (s.heap.objs.size + 4)) { s with heap := h' }) :
  wpAny (model prog w) A (call (.type "zip") [.ref l1, .ref l2]) Q E s := by
 refine callType_new PySem.F.called_zip (by decide) (PySem.F.typeCall_zip_2 _ _) (PySem.F.newCall_zip_2 _ _) (fun obj => PySem.F.args_object_init_3 obj _ _) PySem.F.entry_zip_new
  (ziv l1 l2 xs ys) ⟨hl1, hl2, ?_⟩
 have z1 : (zpH1 s.heap l1).objs.size = s.heap.objs.size + 1 := Heap.size_push ..;have z2 : (zpH2 s.heap l1 l2).objs.size = s.heap.objs.size + 2 := by rw [Heap.size_push, z1]
 have z3 : (zpH3 s.heap l1 l2).objs.size = s.heap.objs.size + 3 := by rw [Heap.size_push, z2]
 have z4 : (zpH4 s.heap l1 l2).objs.size = s.heap.objs.size + 4 := by rw [Heap.size_push, z3]
 have z5 : (zpH5 s.heap l1 l2).objs.size = s.heap.objs.size + 5 := by rw [Heap.size_push, z4]
 have g5 : (zpH5 s.heap l1 l2).get? (zpH4 s.heap l1 l2).objs.size = some _ := yaj _ rfl;have g4 : (zpH5 s.heap l1 l2).get? (zpH3 s.heap l1 l2).objs.size = some _ := yac _ (yaj _ rfl);have g3 : (zpH5 s.heap l1 l2).get? (zpH2 s.heap l1 l2).objs.size = some _ := yac _ (yac _ (yaj _ rfl));have g2 : (zpH5 s.heap l1 l2).get? (zpH1 s.heap l1).objs.size = some _ := yac _ (yac _ (yac _ (yaj _ rfl)));have g1 : (zpH5 s.heap l1 l2).get? s.heap.objs.size = some _ := yac _ (yac _ (yac _ (yac _ (yaj _ rfl))));show _ /\ _;rw [z2, z3, z4] at g5;rw [z1, z2] at g3;rw [z3] at g4;rw [z1] at g2;rw [z4];exact ⟨⟨_, g5, rfl⟩, h _ g5 g3 g4 ⟨_, g1, rfl, rfl⟩ ⟨_, g2, rfl, rfl⟩ z5 fun c o x =>
  yac _ (yac _ (yac _ (yac _ (yac _ x))))⟩
end
section
variable {X : Cx} {Qa : List (Addr × Obj)} {σ : St} {H : Hp} {s : Shared} {h' : Heap}
theorem Inv.turnedL {t' : Nat} {ch : List Addr} (I : Inv X Qa σ H s) (k : ∀ b o, b ∉ ch -> s.heap.get? b = some o -> h'.get? b = some o) (f : ∀ c ∈ ch, FpOk X Qa H c) : Inv X Qa σ H { s with heap := h', toks := t' } := by
 have nb : ∀ b u, H b = some u -> b ∉ ch := fun b u q z => by rw [(f b z).1] at q; cases q
 have nl : X.env.locals ∉ ch := fun z => (f _ z).2.1 rfl;refine I.step (g' := s.gens) (d' := s.drawn) (ch := ch) (fun b hb => ⟨(f b hb).2.2.2.1, (f b hb).2.1, (f b hb).2.2.2.2.1, (f b hb).2.2.2.2.2⟩) (fun b o _ _ hc q _ => k b o hc q) (fun b o _ _ hc q _ => ⟨o.slots, k b o hc q⟩) (fun _ _ _ _ n => n)
  (fun b o hc q => ⟨o, k b o hc q⟩) (fun _ _ q => q) (fun _ _ _ q => q) (fun b ps q => ⟨#[], by rw [q]; simp⟩) (fun m hm => ?_) (fun b u q => ?_) I.bare
 ·obtain ⟨o, es, ep, ho, r⟩ := hm;exact ⟨o, es, ep, k _ o nl ho, r⟩
 ·refine (I.hok b u q).stay (fun c v hc q2 => ?_) (fun _ q => q) fun _ _ q => q;rcases hc with z | z
  ·rw [z] at q2 ⊢; exact k b v (nb b u q) q2
  ·exact k c v (nb c _ z) q2
end
def Itz (K : W.Frag) (a b : Addr) : It :=
  ⟨fun i H => ∃ xs ys x y, SqT K H a xs /\ SqT K H b ys /\ xs[i]? = some x /\ ys[i]? = some y,
   fun i H v H' => ∃ t x y, v = .ref t /\ H t = none /\ H' = upd H t (.tup [x, y]) /\ (∀ xs, SqT K H a xs -> xs[i]? = some x) /\ ∀ ys, SqT K H b ys -> ys[i]? = some y,
   fun i H => ∃ xs ys, SqT K H a xs /\ SqT K H b ys /\ (xs.length <= i \/ ys.length <= i)⟩
theorem zj0 {P : Program} {w : World} {K : W.Frag} {es : List Expr} {kx : Nat} {pos : Pos} (a b z TI TO i1 i2 : Addr) (D : ZipApart z TI TO i1 i2 a b) :
  Turn P w K (.Tuple es kx pos) (Itz K a b) [z, TI, TO, i1, i2] z (fun i h => IsZip h z TI TO .none /\ IsPair h TI (.ref i1) (.ref i2) /\ (∃ x y, IsPair h TO x y) /\ h.IsTupleIter i1 a i /\ h.IsTupleIter i2 b i) where
 mem := by simp
 obj := fun i h st c hc => by
  obtain ⟨hz, hTI, ⟨x, y, hTO⟩, ⟨o1, e1, c1, d1⟩, ⟨o2, e2, c2, d2⟩⟩ := st;simp only [List.mem_cons, List.not_mem_nil, or_false] at hc;rcases hc with rfl | rfl | rfl | rfl | rfl
  ·exact ⟨_, hz, fun v q => by have q' : Data.fields _ = Data.cell v := q; cases q'⟩
  ·exact ⟨_, hTI, fun v q => by have q' : Data.seq _ _ = Data.cell v := q; cases q'⟩
  ·exact ⟨_, hTO, fun v q => by have q' : Data.seq _ _ = Data.cell v := q; cases q'⟩
  ·exact ⟨o1, e1, fun v q => by rw [d1] at q; cases q⟩
  ·exact ⟨o2, e2, fun v q => by rw [d2] at q; cases q⟩
 keep := fun i h h' st k => let ⟨hz, hTI, ⟨x, y, hTO⟩, h1, h2⟩ := st; ⟨k z (by simp) _ hz, k TI (by simp) _ hTI, ⟨x, y, k TO (by simp) _ hTO⟩, h1.at fun o q => k i1 (by simp) o q, h2.at fun o q => k i2 (by simp) o q⟩
 item := by
  intro X hP hw hK hc i Qa s σ H E I hf st hg;subst hP hw hK;obtain ⟨xs, ys, x, y, hqa, hqb, hx, hy⟩ := hg;obtain ⟨its, rv, p, hlz⟩ := I.tuple hqa;obtain ⟨its2, rv2, p2, hlz2⟩ := I.tuple hqb;obtain ⟨u, hu, ru⟩ := rv.get hx;obtain ⟨u2, hu2, ru2⟩ := rv2.get hy;obtain ⟨hz, hTI, ⟨oa, ob, hTO⟩, h1, h2⟩ := st;refine ziu D hz hTI hTO h1 h2 (show s.heap.IsTuple a its.toArray from p) (show s.heap.IsTuple b its2.toArray from p2) (x := u) (y := u2) (by simpa using hu) (by simpa using hu2) fun h5 h' k5 hsz hs hz' hTI' hTO' h1' h2' => ?_;have I3 : Inv X Qa σ H { s with heap := h5, toks := s.toks } := I.turnedL (ch := [z, TO, i1, i2]) (fun c o hc q => k5 c o (fun e => hc (by simp [e])) (fun e => hc (by simp [e])) (fun e => hc (by simp [e])) (fun e => hc (by simp [e])) q)
   fun c hc => hf c (by simp only [List.mem_cons, List.not_mem_nil, or_false] at hc ⊢; rcases hc with h | h | h | h <;> simp [h])
  have I4 : Inv X Qa σ (upd H s.heap.objs.size (.tup [x, y])) { s with heap := h5.push { cls := .type "tuple", data := .seq #[u, u2] }, toks := s.toks } := by
   rw [<- hsz];exact I3.laid (t' := s.toks) (fun b o q => yac _ q) (yai _) ⟨zar (by decide : 2 <= 100000), _, .cons ru (.cons ru2 .nil), IsTup.new _ _⟩
  have lt : ∀ c ∈ [z, TI, TO, i1, i2], c < s.heap.objs.size := fun c hc => by
   simp only [List.mem_cons, List.not_mem_nil, or_false] at hc;rcases hc with rfl | rfl | rfl | rfl | rfl
   ·exact yan hz
   ·exact yan hTI
   ·exact yan hTO
   ·obtain ⟨_, e, _⟩ := h1; exact yan e
   ·obtain ⟨_, e, _⟩ := h2; exact yan e
  have nn : ∀ c ∈ [z, TI, TO, i1, i2], upd H s.heap.objs.size (.tup [x, y]) c = none := fun c hc => by rw [za7 (Nat.ne_of_lt (lt c hc))]; exact (hf c hc).1
  have fz := hf z (by simp);have I5 := I4.turned (h' := h') (it := z) (t' := s.toks) (fun b o hb q => (hs.2 b hb).trans q) (nn z (by simp)) fz.2.1 fz.2.2.2.1 fz.2.2.2.2.1 fz.2.2.2.2.2;refine ⟨_, rfl, wpAny_letOwnedTupleGo_zip hz' fun h8 hz8 hs8 => ?_⟩;have I6 := I5.turned (h' := h8) (it := z) (t' := s.toks) (fun b o hb q => (hs8.2 b hb).trans q) (nn z (by simp)) fz.2.1 fz.2.2.2.1 fz.2.2.2.2.1 fz.2.2.2.2.2;exact ⟨.ref s.heap.objs.size, _, I6, rfl, ⟨_, x, y, rfl, I.hok.fresh (yai _), rfl, (fun zs hq => by rw [I.tuple_inj hq hqa]; exact hx), fun zs hq => by rw [I.tuple_inj hq hqb]; exact hy⟩,
   ⟨hz8, hs8.extBut _ _ D.TIz hTI', ⟨_, _, hs8.extBut _ _ D.TOz hTO'⟩, h1'.extBut hs8.extBut D.i1z, h2'.extBut hs8.extBut D.i2z⟩, nn⟩
 done := by
  intro X hP hw hK hc i Qa s σ H E I hf st hg;subst hP hw hK;obtain ⟨xs, ys, hqa, hqb, hx⟩ := hg;obtain ⟨its, rv, p, hlz⟩ := I.tuple hqa;obtain ⟨its2, rv2, p2, hlz2⟩ := I.tuple hqb;obtain ⟨hz, hTI, ⟨oa, ob, hTO⟩, h1, h2⟩ := st;have hl := rv.length;have hl2 := rv2.length;exact zjy (I.ok.hd hc) D hz hTI hTO h1 h2 (show s.heap.IsTuple a its.toArray from p) (show s.heap.IsTuple b its2.toArray from p2) (hx.imp (fun h => by simp; omega) fun h => by simp; omega) fun h' k5 => ⟨rfl, I.turnedL (t' := s.toks) (ch := [z, TO, i1, i2])
   (fun c o hc q => k5 c o (fun e => hc (by simp [e])) (fun e => hc (by simp [e])) (fun e => hc (by simp [e])) (fun e => hc (by simp [e])) q)
   fun c hc => hf c (by simp only [List.mem_cons, List.not_mem_nil, or_false] at hc ⊢; rcases hc with h | h | h | h <;> simp [h])⟩
 self := fun _ _ _ _ _ st h => wpAny_pyIter_zip st.1 h
section
variable {X : Cx}
def iZip (K : W.Frag) (ta : TA) : TI := fun σ H R => ta σ H fun vs H1 => ∃ a b, vs = [.ref a, .ref b] /\ (∃ xs, SqT K H1 a xs) /\ (∃ ys, SqT K H1 b ys) /\ R (Itz K a b) H1
theorem zoe {K : W.Frag} {σ : St} {H : Hp} {R : It -> Hp -> Prop} {ta : TA} : iZip K ta σ H R = ta σ H fun vs H1 => ∃ a b, vs = [.ref a, .ref b] /\ (∃ xs, SqT K H1 a xs) /\ (∃ ys, SqT K H1 b ys) /\ R (Itz K a b) H1 := rfl
theorem znc (K : W.Frag) {es : List Expr} {kx : Nat} {pt p pos : Pos} {a b : Expr} {ta : TA} (hg : Gl X "zip") (hm : X.mg "zip" = none) (ha : PA X [a, b] ta) (hs : starEach [a, b] X.env = (false, eval a X.env) :: starEach [b] X.env := by rfl) (hpl : (backTo pos (starEach [b] X.env)).any (·.1) = false := by rfl) (hK : X.K = K := by rfl) :
  PI X (.Tuple es kx pt) (.Call (.Name "zip" p) [a, b] [] pos) (iZip K ta) := by
 subst hK;intro Qa s σ H R I h;refine Call_ (zd3 I hg hm boot_zip (PyProof.Rows.callWith_type1 (thn (ha pos Qa s σ H _ I h) fun us s1 ⟨vs, H1, I1, r1, q1⟩ => ?_) hs hpl));obtain ⟨a, b, e, ⟨xs, hqa⟩, ⟨ys, hqb⟩, q⟩ := q1;subst e;cases r1 with
 | cons r rr =>
  cases rr with
  | cons r2 rr =>
   cases rr;cases r;cases r2;obtain ⟨its, rv, pp, hz⟩ := I1.tuple hqa;obtain ⟨its2, rv2, pp2, hz2⟩ := I1.tuple hqb;have ha : a < s1.heap.objs.size := let ⟨_, e, _⟩ := pp; yan e;have hb : b < s1.heap.objs.size := let ⟨_, e, _⟩ := pp2; yan e;refine zjz (show s1.heap.IsTuple a its.toArray from pp) (show s1.heap.IsTuple b its2.toArray from pp2) fun h' hz hTI hTO h1 h2 hsz kk => wpAny_pyIter_zip hz ?_;refine ⟨s1.heap.objs.size + 4, [s1.heap.objs.size + 4, s1.heap.objs.size + 2, s1.heap.objs.size + 3, s1.heap.objs.size, s1.heap.objs.size + 1], _, _, H1, rfl, I1.kept (t' := s1.toks) kk, zj0 a b _ _ _ _ _ (zipApart_new ha hb), ⟨hz, hTI, ⟨_, _, hTO⟩, h1, h2⟩, fun c hc => ?_, q⟩;have hc' : s1.heap.objs.size <= c := by
    simp only [List.mem_cons, List.not_mem_nil, or_false] at hc;rcases hc with rfl | rfl | rfl | rfl | rfl <;> omega
   exact I1.fpOk hc' (I1.hok.fresh hc')
end
section
variable {K : W.Frag} {nt : Nat} {is : List Nat} {g : TG} {tt : TT} {te : TE} {σ : St} {H : Hp} {Q : VK}
theorem zj1 {a b : Addr} {xs ys : List V} (he : ys.length = xs.length) (Pv : Nat -> List V -> Hp -> Prop) (h0 : Pv 0 [] H) (hl : ∀ i acc H, i <= xs.length -> Pv i acc H -> SqT K H a xs /\ SqT K H b ys)
  (hs : ∀ i x y acc H t, xs[i]? = some x -> ys[i]? = some y -> H t = none -> Pv i acc H -> acc.length < sizeLine /\ g (.ref t) (zaI nt is σ) (upd H t (.tup [x, y])) fun σ2 H2 => tt σ2 H2 fun b H3 => if b = true then te σ2 H3 fun y H4 => Pv (i + 1) (acc ++ [y]) H4 else Pv (i + 1) acc H3)
  (hd : ∀ acc H, Pv xs.length acc H -> ∀ p, H p = none -> Q (.ref p) (upd H p (.lst acc))) (hz : ∀ i acc H, i < xs.length -> Pv i acc H -> acc.length < sizeLine) : zfD (Itz K a b) nt is g tt te σ H Q := by
 refine zcK (n := xs.length) Pv h0 (fun i acc H hi p => ?_) fun acc H p => ⟨⟨xs, ys, (hl _ _ _ (yai _) p).1, (hl _ _ _ (yai _) p).2, .inl (yai _)⟩, hd acc H p⟩
 have hx : xs[i]? = some xs[i] := by simp [hi]
 have hi' : i < ys.length := by omega
 have hy : ys[i]? = some ys[i] := by simp [hi']
 have q := hl i acc H (Nat.le_of_lt hi) p;refine ⟨⟨xs, ys, _, _, q.1, q.2, hx, hy⟩, hz i acc H hi p, fun v H' z => ?_⟩;obtain ⟨t, x, y, rfl, hn, rfl, z1, z2⟩ := z;have e1 := z1 xs q.1;have e2 := z2 ys q.2;rw [hx] at e1;rw [hy] at e2;cases e1; cases e2;exact (hs i _ _ acc H t hx hy hn p).2
theorem zhd {n : Nat} (hn : 2 <= n) : ∀ x (σ : St) (H : Hp) R, gTup K 2 (zgG (zdV 0) (zgG (zdV 1) gNil)) x σ H R -> gTup K 2 (zgG (zdV 0) (zgG (zdV 1) gNil)) x σ H fun σ2 H2 => σ2.drop n = σ.drop n /\ R σ2 H2 := by
 rintro x σ H R ⟨a, xs, rfl, hq, hl, v, r, rfl, v2, r2, rfl, rfl, h⟩
 exact ⟨a, _, rfl, hq, hl, v, _, rfl, v2, _, rfl, rfl, by rw [List.drop_set_of_lt (by omega), List.drop_set_of_lt (by omega)], h⟩
end
section
variable {X : Cx}
def znd : TE := fun _ H Q => ∀ p, H p = none -> Q (.ref p) (upd H p (.dK []))
theorem Inv.past {Qa : List (Addr × Obj)} {σ : St} {H : Hp} {s : Shared} (I : Inv X Qa σ H s) : sysModules < s.heap.objs.size := by
 exact Nat.lt_trans (by decide) (I.mod.glob.keeps I.bk).lt
theorem zlg {pos : Pos} : PE X (.Dict [] [] pos) znd := fun Qa s σ H Q I h =>
 wpAny_Dict_empty ⟨.ref s.heap.objs.size, _, I.laid (a := s.heap.objs.size) (o := .dK []) (t' := s.toks) (fun _ _ q => yac _ q) (yai _)
  ⟨yaq _, beq_eq_false_iff_ne.mpr (Ne.symm (Nat.ne_of_lt I.past)), [], .nil, Heap.DictOf.new s.heap⟩, rfl, h _ (I.hok.fresh (yai _))⟩
theorem zne {σ : St} {H : Hp} {Q : VK} : znd σ H Q = ∀ p, H p = none -> Q (.ref p) (upd H p (.dK [])) := rfl
theorem zlh {K : W.Frag} {k : Str} {p : Addr} {H : Hp} {Q : VK} : zgy K (.str k) (.ref p) H Q = ∃ D, TabK K p D /\ Q (.bl (KTD.inKeys k D)) H := by
 refine propext ⟨fun ⟨_, _, D, e1, e2, h⟩ => ?_, fun ⟨D, h⟩ => ⟨k, p, D, rfl, rfl, h⟩⟩;cases e1; cases e2; exact ⟨D, h⟩
theorem zli {K : W.Frag} {k : Str} {p : Addr} {H : Hp} {Q : VK} : zgz K (.ref p) (.str k) H Q = ∃ D z, TabK K p D /\ KTD.datumAt k D = some z /\ Q z H := by
 refine propext ⟨fun ⟨_, _, D, z, e1, e2, h⟩ => ?_, fun ⟨D, z, h⟩ => ⟨k, p, D, z, rfl, rfl, h⟩⟩;cases e1; cases e2; exact ⟨D, z, h⟩
end
def Stm.fts : Stm -> List Str
 | .is _ ts => ts
 | .fls => []
 | .neg A => A.fts
 | .bi _ A B => A.fts ++ B.fts
 | .qu _ X A => A.fts.filter fun t => decide (t ≠ X)
theorem zj2 {x : Str} {i m : Int} {P : Nat -> Prop} (hm : 0 < m) (hx : m <= (x.length : Int)) (k : ∀ c ∈ x.cps.toList.take m.toNat, P c) : ∃ c, atI x.cps.toList (i % m) = some c /\ P c := by
 have e := zch x;have h0 := yao i (show m ≠ 0 by omega);have h1 := yak i hm;generalize i % m = j at h0 h1;obtain ⟨j, rfl⟩ : ∃ n : Nat, j = n := ⟨j.toNat, by omega⟩
 have hj : j < x.cps.toList.length := by omega
 exact ⟨x.cps.toList[j], zag (yal hj), k _ (List.mem_take_iff_getElem.mpr ⟨j, by omega, rfl⟩)⟩
def zko (t : Str) : Prop := Nm smallS t \/ Nm greatS t
def spC3 (K : W.Frag) : Sp := fun vs H Q _ => ∃ (a : Addr) (ns : List Int) (n : Int), vs = [.ref a, .int n] /\ SqL K H a (ns.map V.int) /\ ns.length <= 63 /\ 0 <= n /\ ∀ c : Int, 0 <= c -> c < 2147483647 -> Q (.int c) H
def zof : Sp := fun vs H Q _ => ∃ sh c k : Int, vs = [.int sh, .int c, .int k] /\ 0 <= sh /\ 0 <= c /\ 0 <= k /\ ∀ (x : Str) H', Same H H' -> Nm smallS x -> Q (.str x) H'
def zog : Sp := fun vs H Q _ => ∃ c : Int, vs = [.int c] /\ 0 <= c /\ ∀ (x : Str) H', Same H H' -> Nm greatS x -> Q (.str x) H'
def zkp (K : W.Frag) (d : Nat) : Sp := fun vs H Q _ => ∃ (n : Int) (r : Nat) (tp wp : Addr) (ts ws : List Str), vs = [.int n, .int r, .ref tp, .ref wp] /\ 0 <= n /\ r < d /\ H tp = some (.lst (ts.map V.str)) /\ SqL K H wp (ws.map V.str) /\
 ts ≠ [] /\ ts.length + r <= 100 /\ (∀ t ∈ ts, zko t) /\ ws.length = 3 /\ (∀ t ∈ ws, Nm smallS t) /\
 ∀ (S : Stm) (v : V) H', Same H H' -> RepS K H' S v -> S.Ok -> S.deep <= r + 1 -> (∀ t ∈ S.fts, t ∈ ts) -> Q v H'
section
variable {K : W.Frag} {H : Hp} {p : Addr} {ys zs : List V}
theorem RepS.keepL (hp : H p = some (.lst ys)) : ∀ {S : Stm} {v : V}, RepS K H S v -> RepS K (upd H p (.lst zs)) S v
 | .is _ _, _, ⟨a, b, h1, h2, h3⟩ => ⟨a, b, h1, h2.keepL hp, h3.keepL hp⟩
 | .fls, _, ⟨a, h1, h2⟩ => ⟨a, h1, h2.keepL hp⟩
 | .neg _, _, ⟨a, u, h1, h2, h3⟩ => ⟨a, u, h1, h2.keepL hp, RepS.keepL hp h3⟩
 | .bi _ _ _, _, ⟨a, u, u', h1, h2, h3, h4⟩ => ⟨a, u, u', h1, h2.keepL hp, RepS.keepL hp h3, RepS.keepL hp h4⟩
 | .qu _ _ _, _, ⟨a, u, h1, h2, h3⟩ => ⟨a, u, h1, h2.keepL hp, RepS.keepL hp h3⟩
theorem RepL.keepL {Ss : List Stm} {vs : List V} (hp : H p = some (.lst ys)) (h : RepL K H Ss vs) : RepL K (upd H p (.lst zs)) Ss vs := Paired.mapP h fun _ _ => RepS.keepL hp
end
def StOk (d : Nat) (S : Stm) : Prop := S.Ok /\ S.deep <= d /\ ∀ t ∈ S.fts, Nm smallS t
theorem StOk.mono {d e : Nat} {S : Stm} (h : StOk d S) (hd : d <= e) : StOk e S := ⟨h.1, yat h.2.1 hd, h.2.2⟩
def znf (K : W.Frag) : Sp := fun vs H Q _ => ∃ (a : Addr) (ns : List Int) (n : Int), vs = [.ref a, .int n] /\ SqL K H a (ns.map V.int) /\ ns.length <= 63 /\ 0 <= n /\
 ∀ (p np wp : Addr) (nm wd : List Str) H', Same H H' -> H' p = some (.lst [.ref np, .ref wp]) -> H' np = some (.lst (nm.map V.str)) -> H' wp = some (.lst (wd.map V.str)) -> nm.length = 3 -> wd.length = 3 -> (∀ t ∈ nm, Nm smallS t) -> (∀ t ∈ wd, Nm smallS t) -> Q (.ref p) H'
def zdK (l : Int) (r : Str) : Int := if opn r = true then l - 1 else l
def zbD (k : Nat) (l : Int) (r : Str) (p : List Nat) : Option (List Nat) :=
 if zdK l r < 0 \/ zdK l r > p.length then none else some (if opn r = true then p.take (zdK l r).toNat ++ [k] else p.take (zdK l r).toNat)
def zbJ (f : Nat -> Int × Str) : Nat -> Option (List Nat)
 | 0 => some []
 | i + 1 => (zbJ f i).bind (zbD i (f i).1 (f i).2)
theorem zlj {k l : Nat} {r : Str} {p : List Nat} (h1 : o1 r <= l) (h2 : l <= p.length + o1 r) : (nxt k r l p).length = l := by
 unfold nxt;unfold o1 at h1 h2
 split
 ·next h => rw [if_pos h] at h1 h2; rw [yae, ya3]; simp only [List.length_singleton]; omega
 ·next h => rw [if_neg h] at h1 h2; rw [ya3]; omega
theorem zeq {rs : List Str} {g : Nat -> Nat} {n : Nat} (h : LvOk rs g n) : ∀ i, i <= n -> (Qc rs g i).length = room g i
 | 0, _ => rfl
 | i + 1, hi => by
  obtain ⟨h1, h2, _⟩ := h i (by omega);have ih := zeq h i (by omega);show (nxt i (rs.getD i "") (g i) (Qc rs g i)).length = room g (i + 1);rw [zlj h1 (by omega)];show g i = if i + 1 = 0 then 0 else g (i + 1 - 1);rw [if_neg (by omega)]
  rfl
theorem zfM {k : Nat} {l : Nat} {r : Str} {p : List Nat} (h1 : o1 r <= l) (h2 : l <= p.length + o1 r) : zbD k (l : Int) r p = some (nxt k r l p) := by
 unfold zbD nxt zdK;unfold o1 at h1 h2
 by_cases h : opn r = true
 ·rw [if_pos h] at h1 h2;simp only [h, if_true];rw [if_neg (by omega), show ((l : Int) - 1).toNat = l - 1 by omega]
 ·rw [if_neg h] at h1 h2;simp only [h, if_false, Bool.false_eq_true];rw [if_neg (by omega), ya4]
theorem zg0 {rs : List Str} {g : Nat -> Nat} {n : Nat} (h : LvOk rs g n) {f : Nat -> Int × Str} : ∀ i, i <= n -> (∀ j, j < i -> f j = ((g j : Int), rs.getD j "")) -> zbJ f i = some (Qc rs g i)
 | 0, _, _ => rfl
 | i + 1, hi, hf => by
  have ih := zg0 h (f := f) i (by omega) fun j hj => hf j (by omega);obtain ⟨h1, h2, _⟩ := h i (by omega);have hl := zeq h i (by omega);show (zbJ f i).bind (zbD i (f i).1 (f i).2) = _;rw [ih, hf i (by omega)];exact zfM (k := i) h1 (show g i <= (Qc rs g i).length + o1 (rs.getD i "") by omega)
theorem zg1 {f : Nat -> Int × Str} {i : Nat} (h : zbJ f i = none) : ∀ d, zbJ f (i + d) = none
 | 0 => h
 | d + 1 => by
  show (zbJ f (i + d)).bind _ = none;rw [zg1 h d]
  rfl
theorem ziw {f : Nat -> Int × Str} : ∀ {i : Nat} {p : List Nat}, zbJ f i = some p -> p.length <= i
 | 0, p, h => by cases h; exact yai _
 | i + 1, p, h => by
  have h : (zbJ f i).bind (zbD i (f i).1 (f i).2) = some p := h;cases e : zbJ f i with
  | none => rw [e] at h; cases h
  | some q =>
   have ih := ziw e;rw [e] at h;have h : zbD i (f i).1 (f i).2 q = some p := h;unfold zbD at h
   split at h
   ·cases h
   ·cases h
    split
    ·rw [yae, ya3]; simp only [List.length_singleton]; omega
    ·rw [ya3]; omega
section
variable {K : W.Frag} {H H' : Hp} {us : List V} {f : Nat -> Int × Str}
def zj3 (K : W.Frag) (H : Hp) (f : Nat -> Int × Str) (us : List V) : Prop := ∀ i v, us[i]? = some v -> ∃ a x y, v = .ref a /\ SqT K H a [.int (f i).1, .str (f i).2, x, y]
theorem deps_le {l : List Dt} {n : Nat} (h : ∀ d ∈ l, Dt.dep d <= n) : Dt.deps l <= n := by
 induction l with
 | nil => exact yaq _
 | cons a l ih => exact Nat.max_le.mpr ⟨h a (by simp), ih fun d hd => h d (by simp [hd])⟩
end
def zj4 (K : W.Frag) : Sp := fun vs H Q _ => ∃ (a c : Addr) (k : Nat) (p : List Nat) (l : Int) (r : Str) (x y : V), vs = [.ref a, .ref c, .int k] /\ SqT K H a (iv p) /\ SqT K H c [.int l, .str r, x, y] /\ p.length <= 100 /\
 (zbD k l r p = none -> Q .non H) /\ ∀ q, zbD k l r p = some q -> ∀ b H', Same H H' -> SqT K H' b (iv q) -> Q (.ref b) H'
def zoh (K : W.Frag) : Sp := fun vs H Q _ => ∃ (a : Addr) (us : List V) (f : Nat -> Int × Str), vs = [.ref a] /\ SqT K H a us /\ zj3 K H f us /\ us.length <= 80 /\
 ∀ (q : Addr) ps H', Same H H' -> SqT K H' q ps -> RepPs K H' (fun i => (zbJ f (i + 1)).getD []) ps -> ps.length <= us.length -> (∀ i, i < ps.length -> zbJ f (i + 1) ≠ none) -> (ps.length < us.length -> zbJ f (ps.length + 1) = none) -> Q (.ref q) H'
end L2
namespace L2
open PySem
section
variable {H : Hp} {Q : VK} {o0 o1 o2 o3 o4 o5 o6 o7 o8 o9 o10 o11 o12 o13 o14 o15 o16 : Option V} {v : V} {rr : St}
theorem zoi : tVar 12 (o0 :: o1 :: o2 :: o3 :: o4 :: o5 :: o6 :: o7 :: o8 :: o9 :: o10 :: o11 :: some v :: rr) H Q = Q v H := by simp [tVar]
theorem zoj : tVar 13 (o0 :: o1 :: o2 :: o3 :: o4 :: o5 :: o6 :: o7 :: o8 :: o9 :: o10 :: o11 :: o12 :: some v :: rr) H Q = Q v H := by simp [tVar]
theorem zok : tVar 14 (o0 :: o1 :: o2 :: o3 :: o4 :: o5 :: o6 :: o7 :: o8 :: o9 :: o10 :: o11 :: o12 :: o13 :: some v :: rr) H Q = Q v H := by simp [tVar]
theorem zol : tVar 15 (o0 :: o1 :: o2 :: o3 :: o4 :: o5 :: o6 :: o7 :: o8 :: o9 :: o10 :: o11 :: o12 :: o13 :: o14 :: some v :: rr) H Q = Q v H := by simp [tVar]
theorem zom : tVar 16 (o0 :: o1 :: o2 :: o3 :: o4 :: o5 :: o6 :: o7 :: o8 :: o9 :: o10 :: o11 :: o12 :: o13 :: o14 :: o15 :: some v :: rr) H Q = Q v H := by simp [tVar]
theorem zon : tVar 17 (o0 :: o1 :: o2 :: o3 :: o4 :: o5 :: o6 :: o7 :: o8 :: o9 :: o10 :: o11 :: o12 :: o13 :: o14 :: o15 :: o16 :: some v :: rr) H Q = Q v H := by simp [tVar]
end
open AutoSeq1 (wpAny_loadPart')
section
variable {prog : Program} {w : World} {A : Around} {E : Value -> Shared -> Prop} {s : Shared}
end
section
variable {prog : Program} {w : World} {A : Around} {E : Value -> Shared -> Prop} {s : Shared} {I : Addr} {fp wr : List Addr} {G : Array GenState -> Array GenState -> Prop} {n : Nat} {P : Nat -> Value -> Prop} {St : Nat -> Shared -> Prop}
end
section
variable {X : Cx}
end
open AutoSeq1
theorem zlk (l : Addr) (items : Array Value) (n : Nat) (b : Addr) (items2 : Array Value) (n2 : Nat) (dd : Option Addr) (sl : Array (Option Value)) (hs0 : ¬(!items.isEmpty && Builtin.List.listTooLong (items.size + items2.size)) = true) (hs1 : items.size <= sizeLine) (hs2 : items.size + items2.size <= sizeLine + 1) :
  Meets (Builtin.«list.extend» ⟨[.ref l, .ref b], []⟩) (fun _ R s => s.heap.get? l = some { cls := .type "list", dict := none, data := .seq items n, slots := #[] } /\ s.heap.get? b = some { cls := .type "tuple", dict := dd, data := .seq items2 n2, slots := sl } /\ R (.ok (.ret Value.none)) { s with heap := s.heap.update l (Obj.mapSeq fun x => x ++ items2), toks := s.toks }) :=
 .of_wp fun prog w A R s h => by
  obtain ⟨hp, g, d, tk, os⟩ := s; obtain ⟨hl, hb, h⟩ := h; have f1 := idx_int; have f2 := AutoSeq1.sub_tuple_tuple; have f3 := AutoSeq1.sub_list_list; have f4 := AutoSeq1.sub_tuple_list; have f5 := AutoSeq1.sub_list_tuple;have hz' : (items ++ items2).size <= sizeLine + 1 := by rw [Array.size_append]; exact hs2
  wp_walk using (wpAny_updateSeq hl rfl (hz := hs1) (_hz' := hz')), wpAny_loadPart' hl, wpAny_loadPart' hb; exact ⟨_, rfl, h⟩
section
variable {X : Cx}
def zll (K : W.Frag) : V -> List V -> Hp -> VK -> Prop := fun x vs H Q => ∃ l b xs zs, x = .ref l /\ vs = [.ref b] /\ H l = some (.lst xs) /\ SqT K H b zs /\ xs.length + zs.length <= sizeLine /\ Q .non (upd H l (.lst (xs ++ zs)))
theorem zlm : MtR X "list.extend" (zll X.K) := by
 intro Qa s σ H x vs v us Q I rx rv h;obtain ⟨l, b, xs, zs, rfl, rfl, hH, hB, hz, q⟩ := h;cases rx;obtain ⟨u, rfl, ru⟩ := rv.one;cases ru;obtain ⟨z, its, n, r, hl, e⟩ := I.lstM hH;obtain ⟨its2, r2, ⟨⟨c2, dd, d2, sl⟩, e2, hc2, n2, hd2⟩, z2⟩ := I.tuple hB;replace hc2 : c2 = .type "tuple" := hc2;replace hd2 : d2 = .seq its2.toArray n2 := hd2;subst hc2 hd2;have hl2 := r2.length;have hsz : its.toArray.size + its2.toArray.size <= sizeLine := by rw [yad, yad]; omega
 have hlong : ¬ (!its.toArray.isEmpty && Builtin.List.listTooLong (its.toArray.size + its2.toArray.size)) = true := by
  rw [zew hsz, Bool.and_false];exact yam
 refine call_meets F.slot_list_extend ⟨_, e, rfl⟩ F.entry_list_extend (F.args_list_extend_2 _ _)
  (zlk l its.toArray n b its2.toArray n2 dd sl hlong (by rw [yad]; omega) (by omega)) ⟨e, e2, ?_⟩
 refine ⟨.non, _, I.lset (its' := its ++ its2) hH e (by simp) (r.append r2) ?_, rfl, q⟩;rw [yae];omega
theorem zj5 (K : W.Frag) (hK : X.K = K := by rfl) : MtR X "list.extend" (zll K) := hK ▸ zlm
theorem zng {K : W.Frag} {p b : Addr} {H : Hp} {Q : VK} : zll K (.ref p) [.ref b] H Q = ∃ xs zs, H p = some (.lst xs) /\ SqT K H b zs /\ xs.length + zs.length <= sizeLine /\ Q .non (upd H p (.lst (xs ++ zs))) := by
 refine propext ⟨fun ⟨_, _, xs, zs, e1, e2, h⟩ => ?_, fun ⟨xs, zs, h⟩ => ⟨p, b, xs, zs, rfl, rfl, h⟩⟩;cases e1; cases e2; exact ⟨xs, zs, h⟩
end
section
variable {prog : Program} {w : World} {A : Around} {E : Value -> Shared -> Prop} {s : Shared}
end
section
variable {X : Cx} {tg : Expr}
end
section
variable {X : Cx} {e st : Expr} {te ts : TE} {pos p2 : Pos}
def znh (K : W.Frag) : R2 := fun x y H Q => ∃ p q bs cs, x = .ref p /\ y = .ref q /\ SqL K H p (List.map V.bl bs) /\ SqL K H q (List.map V.bl cs) /\ bs.length = cs.length /\ Q (.bl ((List.range bs.length).all fun i => bs.getD i false == cs.getD i false)) H
def zoo (K : W.Frag) : R2 := fun x y H Q => ∃ p q bs cs, x = .ref p /\ y = .ref q /\ SqL K H p (List.map V.bl bs) /\ SqL K H q (List.map V.bl cs) /\ bs.length = cs.length /\ Q (.bl (!(List.range bs.length).all fun i => bs.getD i false == cs.getD i false)) H
theorem zln {H : Hp} {bs : List Bool} {j : Nat} {x : V} (h : (List.map V.bl bs)[j]? = some x) : x = .bl (bs.getD j false) := by
 rw [yav] at h;rw [List.getD_eq_getElem?_getD];cases e : bs[j]? with
 | none => rw [e] at h; cases h
 | some b => rw [e] at h; cases h; rfl
theorem zlo (hu : X.A.units + 64 < cLine) : OpR X (compareOp .Eq) (znh X.K) := by
 intro Qa s σ H x y v u Q I rx ry ⟨p, q, bs, cs, e1, e2, hp, hq, hl, k⟩;refine zkf hu Qa s σ H x y v u Q I rx ry ⟨1, _, by decide, .inl (by rw [e1]; rfl), ?_, k⟩;rw [e1, e2];have := EqD.lsts (n := 0) (K := X.K) (H := H) (xs := List.map V.bl bs) (ys := List.map V.bl cs) (fun i => bs.getD i false == cs.getD i false) hp hq (by rw [yaf, yaf]; exact hl) fun j x y h1 h2 => by
  rw [zln (H := H) h1, zln (H := H) h2];exact .flat rfl rfl
 rw [yaf] at this;exact this
theorem zop {K : W.Frag} {p q : Addr} {H : Hp} {Q : VK} : zoo K (.ref p) (.ref q) H Q = ∃ bs cs, SqL K H p (List.map V.bl bs) /\ SqL K H q (List.map V.bl cs) /\ bs.length = cs.length /\ Q (.bl (!(List.range bs.length).all fun i => bs.getD i false == cs.getD i false)) H :=
 propext ⟨fun ⟨_, _, bs, cs, e1, e2, h⟩ => by cases e1; cases e2; exact ⟨bs, cs, h⟩, fun ⟨bs, cs, h⟩ => ⟨p, q, bs, cs, rfl, rfl, h⟩⟩
end
section
variable {X : Cx}
end
inductive RdV (K : W.Frag) (H : Hp) : PyData -> V -> Prop
 | non : RdV K H .none .non
 | bl (b : Bool) : RdV K H (.bool b) (.bl b)
 | int (i : Int) : RdV K H (.int i) (.int i)
 | str (z : Str) : RdV K H (.str z) (.str z)
 | tup {a : Addr} {xs : List V} {ds : List PyData} (h : SqT K H a xs) (hl : ds.length = xs.length) (hr : ∀ (j : Nat) (d : PyData) (x : V), ds[j]? = some d -> xs[j]? = some x -> RdV K H d x) : RdV K H (.tuple ds) (.ref a)
section
variable {X : Cx} {Qa : List (Addr × Obj)} {σ : St} {H : Hp} {s : Shared}
end
section
variable {X : Cx}
def zoq (K : W.Frag) : List V -> Hp -> VK -> Prop := fun xs H Q => ∃ a d, xs = [.ref a] /\ RdV K H d (.ref a) /\ d.showable = true /\ d.hasDict = false /\ d.depth <= 60 /\ d.shown.length <= sizeLine /\ Q (.str d.shown) H
theorem zni {K : W.Frag} {p : Addr} {H : Hp} {Q : VK} : zoq K [.ref p] H Q = ∃ d, RdV K H d (.ref p) /\ d.showable = true /\ d.hasDict = false /\ d.depth <= 60 /\ d.shown.length <= sizeLine /\ Q (.str d.shown) H :=
 propext ⟨fun ⟨_, d, e, h⟩ => by cases e; exact ⟨d, h⟩, fun ⟨d, h⟩ => ⟨p, d, rfl, h⟩⟩
theorem zix {K : W.Frag} {H : Hp} {Q : VK} {T : String} : zdl K T [.non, .ty T] H Q = ∃ c, W.kitOne K (.type "NoneType") (.type T) = some c /\ Q (.bl c) H := by
 refine propext ⟨fun ⟨_, _, b, e, t, h⟩ => ?_, fun ⟨b, h⟩ => ⟨_, _, b, rfl, .of .non, h⟩⟩;cases e;rcases t with t | t | t
 cases t; exact ⟨b, h⟩
end
section
variable {prog : Program} {w : World} {A : Around} {E : Value -> Shared -> Prop} {s : Shared}
theorem zlp {Kt : Type} [DecidableEq Kt] {knd : KeyKind prog w Kt} {a : Addr} {rows : List (Kt × Value)} {k : Kt} {y v : Value} {R : Value -> Shared -> Prop} (hy : knd.is k y = true) (D : s.heap.DictOf knd a rows) (few : rows.length <= sizeLine)
  (old : ∀ u, valueAt rows k = some u -> R u { s with toks := s.toks + 1 })
  (new : valueAt rows k = none -> ∀ g, g.DictOf knd a (rows ++ [(k, v)]) -> Heap.SameBut a s.heap g -> R v { s with heap := g, toks := s.toks + 1 }) : wpAny (model prog w) A (dictSetDefault a y v) R E s := by
 obtain ⟨o1, es, e1, g1, c1, b1, k1, p1, n1⟩ := id D;have m1 : valueAt rows k = findBy knd.is es k := by
  obtain ⟨o2, es2, e2, g2, _, b2, _, f2⟩ := D.mapOf;cases g1.symm.trans g2;cases b1.symm.trans b2;exact (f2 k).symm
 rw [findBy_of_findIdx?] at m1;have z1 : es.size <= sizeLine := yat (Nat.le_of_eq (by have := p1.length; simpa using this)) few;unfold dictSetDefault
 first | (with_reducible refine wpAny_holding ?_) | skip
 refine yaa (knd.pyHash hy (yaa (wpAny_dictFind_of (s := { s with toks := s.toks + 1 }) hy g1 b1 k1 ?_)));cases q : es.findIdx? (fun e => knd.is k e.key)
 case none =>
  rw [q] at m1;have far : k ∉ rows.map (·.1) := not_mem_of_findIdx_none (by rw [<- p1.findIdx k, <- q]; obtain ⟨l⟩ := es; simp);have fresh : ((rows ++ [(k, v)]).map (·.1)).Nodup := by
   rw [ya0];refine List.nodup_append.mpr ⟨n1, by simp, fun x hx z hz e => far ?_⟩;have : z = k := by simpa using hz
   rw [<- this, <- e];exact hx
  have laid : Pairs knd (es.push ⟨knd.hash k, y, v⟩).toList (rows ++ [(k, v)]) := by
   have := p1.append hy (knd.hash k) v;obtain ⟨l⟩ := es;simpa using this
  exact yaa (wpAny_rule (yaa (wpAny_updateDictKeys (hz := z1) (s := { s with toks := s.toks + 1 }) g1 b1 (yab (new m1 _
   ⟨_, _, e1 + 1, Heap.get?_update_self _ g1 (Obj.isFreed_of_dict (Obj.data_mapDictKeys b1 _)), c1.mapDictKeys _, Obj.data_mapDictKeys b1 _, k1.push hy _, laid, fresh⟩ (Heap.SameBut.update ..))))))
 case some j =>
  rw [q] at m1;have lj : j < es.size := (Array.findIdx?_eq_some_iff_findIdx_eq.mp q).1;refine yaa (wpAny_dictEntries (s := { s with toks := s.toks + 1 }) g1 b1 ?_);replace m1 : valueAt rows k = (es[j]?).map (·.val) := m1;rw [Array.getElem?_eq_getElem lj] at m1 ⊢;exact yaa (wpAny_rule (yab (old _ m1)))
theorem zj6 {Kt : Type} [DecidableEq Kt] (knd : KeyKind prog w Kt) (a : Addr) {k : Kt} {y : Value} (hy : knd.is k y = true) (ha : (a == sysModules) = false) (v : Value) :
  MeetsIn prog w (Builtin.«dict.setdefault» ⟨[.ref a, y, v], []⟩) (fun _ R s => ∃ rows, s.heap.DictOf knd a rows /\ rows.length <= sizeLine /\ (∀ u, valueAt rows k = some u -> R (.ok (.ret u)) { s with toks := s.toks + 1 }) /\
   (valueAt rows k = none -> ∀ g, g.DictOf knd a (rows ++ [(k, v)]) -> Heap.SameBut a s.heap g -> R (.ok (.ret v)) { s with heap := g, toks := s.toks + 1 })) :=
 .of_wp fun B R s h => by
  obtain ⟨rows, D, few, old, new⟩ := h;unfold Builtin.«dict.setdefault» Builtin.Dict.keyAndDefault;refine yaa (yaa (wpAny_notOrdered_dict D.typeIs (yab ?_)));show wpAny _ _ (if (a == sysModules) = true then _ else (dictSetDefault a y v >>= _)) _ _ s;rw [if_neg (by rw [ha]; decide)];exact yaa (zlp hy D few (fun u e => yab ⟨u, rfl, old u e⟩) fun e g D' sb => yab ⟨v, rfl, new e g D' sb⟩)
end
section
variable {X : Cx}
def dS (l : List (Str × V)) : List (Key × V) := l.map fun p => (Sum.inr p.1, p.2)
def valS (l : List (Str × V)) (k : Str) : Option V := (l.find? fun p => decide (p.1 = k)).map (·.2)
theorem zeF {k : Str} : ∀ {l : List (Str × V)} {vs : List (Key × Value)}, KV (dS l) vs -> (valS l k = none -> valueAt vs (Sum.inr k : Key) = none) /\ ∀ z, valS l k = some z -> ∃ u, valueAt vs (Sum.inr k : Key) = some u /\ RelV z u
 | [], _, .nil => ⟨fun _ => rfl, fun z e => by cases e⟩
 | p :: l, _, .cons (b := q) h1 h2 => by
  obtain ⟨i1, i2⟩ := zeF (k := k) (l := l) h2;obtain ⟨e1, r1⟩ := h1;have e1' : q.1 = (Sum.inr p.1 : Key) := e1.symm
  by_cases c : p.1 = k
  ·have ev : valS (p :: l) k = some p.2 := by simp [valS, List.find?_cons, c]
   have ew : ∀ m, valueAt (q :: m) (Sum.inr k : Key) = some q.2 := fun m => by simp [valueAt, List.find?_cons, e1', c]
   exact ⟨fun z => (by rw [ev] at z; cases z), fun z e => (by rw [ev] at e; cases e; exact ⟨_, ew _, r1⟩)⟩
  ·have ev : valS (p :: l) k = valS l k := by simp [valS, List.find?_cons, c]
   have ew : ∀ m, valueAt (q :: m) (Sum.inr k : Key) = valueAt m (Sum.inr k : Key) := fun m => by simp [valueAt, List.find?_cons, e1', c]
   rw [ev, ew];exact ⟨i1, i2⟩
def znj : V -> List V -> Hp -> VK -> Prop := fun x xs H Q => ∃ a k v l, x = .ref a /\ xs = [.str k, v] /\ H a = some (.dK (dS l)) /\ Q ((valS l k).getD v) H
theorem zlq : MtR X "dict.get" znj := by
 intro Qa s σ H x xs v us Q I rx rs h;obtain ⟨a, k, d, l, rfl, rfl, e, q⟩ := h;obtain ⟨u1, u2, rfl, ⟨t, rfl⟩, r2⟩ := zh2 rs;cases rx;obtain ⟨z, hd, vs, rel, dd⟩ := (show ObjOk X.prog X.w H s.heap a (.dK (dS l)) from I.hok a _ e)
 obtain ⟨i1, i2⟩ := zeF (k := k) rel;refine call_meetsIn PySem.F.slot_dict_get dd.typeIs PySem.F.entry_dict_get (PySem.F.args_dict_get_3 _ _ _) (meets_dict_get_default (mixKind X.prog X.w) a (zd2 X.prog X.w k t) hd u2) ⟨_, dd.mapOf, ⟨_, H, I.tok _, ?_, q⟩⟩;cases ev : valS l k with
 | none => rw [i1 ev]; exact r2
 | some y =>
  obtain ⟨u, eu, ru⟩ := i2 y ev;rw [eu];exact ru
def ziy : V -> List V -> Hp -> VK -> Prop := fun x xs H Q => ∃ a k v l, x = .ref a /\ xs = [.str k, v] /\ H a = some (.dK (dS l)) /\ l.length < 100000 /\ (∀ z, valS l k = some z -> Q z H) /\ (valS l k = none -> Q v (upd H a (.dK (dS (l ++ [(k, v)])))))
theorem ziz : MtR X "dict.setdefault" ziy := by
 intro Qa s σ H x xs v us Q I rx rs h;obtain ⟨a, k, d, l, rfl, rfl, e, hl, q1, q2⟩ := h;obtain ⟨u1, u2, rfl, ⟨t, rfl⟩, r2⟩ := zh2 rs;cases rx;obtain ⟨z, hd, vs, rel, dd⟩ := (show ObjOk X.prog X.w H s.heap a (.dK (dS l)) from I.hok a _ e)
 obtain ⟨i1, i2⟩ := zeF (k := k) rel;have Qe : vs.length <= sizeLine := by have := Paired.length rel; omega
 refine call_meetsIn PySem.F.slot_dict_setdefault dd.typeIs PySem.F.entry_dict_setdefault (PySem.F.args_dict_setdefault_3 _ _ _) (zj6 (mixKind X.prog X.w) a (zd2 X.prog X.w k t) hd u2) ⟨vs, dd, Qe, fun u eu => ?_, fun en g D' sb => ?_⟩
 ·cases ev : valS l k with
  | none => rw [i1 ev] at eu; cases eu
  | some y =>
   obtain ⟨u', eu', ru⟩ := i2 y ev;rw [eu'] at eu;cases eu;exact ⟨_, H, I.tok _, ru, q1 y ev⟩
 ·have ev : valS l k = none := by
   cases ev : valS l k with
   | none => rfl
   | some y =>
    obtain ⟨u', eu', _⟩ := i2 y ev;rw [eu'] at en;cases en
  have rel' : KV (dS (l ++ [(k, d)])) (vs ++ [(Sum.inr k, u2)]) := by
   have : dS (l ++ [(k, d)]) = dS l ++ [(Sum.inr k, d)] := by simp [dS]
   rw [this];clear i1 i2 D' dd e Qe z q1 q2 ev en;generalize dS l = m at rel
   induction rel with
   | nil => exact .cons ⟨rfl, r2⟩ .nil
   | cons h1 _ ih => exact .cons h1 ih
  have hz : (dS (l ++ [(k, d)])).length <= sizeLine := by
   have : (dS (l ++ [(k, d)])).length = l.length + 1 := by simp [dS]
   rw [this];exact zar (by omega)
  have he : ∃ o, g.get? a = some o := let ⟨o, _, _, ho, _⟩ := D'; ⟨o, ho⟩;have new : ObjOk X.prog X.w (upd H a (.dK (dS (l ++ [(k, d)])))) g a (.dK (dS (l ++ [(k, d)]))) := ⟨hz, hd, _, rel', D'⟩
  exact ⟨_, _, I.write (x := a) (e := a) (by rw [e]; exact True.intro) (.inl rfl) (fun b o hb hz => (sb.2 b hb).trans hz) he new, r2, q2 ev⟩
theorem zj7 {p : Addr} {k : Str} {v : V} {H : Hp} {Q : VK} : ziy (.ref p) [.str k, v] H Q = ∃ l, H p = some (.dK (dS l)) /\ l.length < 100000 /\ (∀ z, valS l k = some z -> Q z H) /\ (valS l k = none -> Q v (upd H p (.dK (dS (l ++ [(k, v)]))))) :=
 propext ⟨fun ⟨_, _, _, l, e1, e2, h⟩ => by cases e1; cases e2; exact ⟨l, h⟩, fun ⟨l, h⟩ => ⟨p, k, v, l, rfl, rfl, h⟩⟩
theorem znk {p : Addr} {k : Str} {v : V} {H : Hp} {Q : VK} : znj (.ref p) [.str k, v] H Q = ∃ l, H p = some (.dK (dS l)) /\ Q ((valS l k).getD v) H :=
 propext ⟨fun ⟨_, _, _, l, e1, e2, h⟩ => by cases e1; cases e2; exact ⟨l, h⟩, fun ⟨l, h⟩ => ⟨p, k, v, l, rfl, rfl, h⟩⟩
end
end L2
namespace L2
open PySem
theorem i0 {x : V} {r : List V} : atI (x :: r) 0 = some x := zag (j := 0) rfl
theorem i1 {x y : V} {r : List V} : atI (x :: y :: r) 1 = some y := zag (j := 1) rfl
theorem i2 {x y z : V} {r : List V} : atI (x :: y :: z :: r) 2 = some z := zag (j := 2) rfl
theorem i3 {x y z u : V} {r : List V} : atI (x :: y :: z :: u :: r) 3 = some u := zag (j := 3) rfl
end L2
namespace L2
open PySem PySem.Spec PyProof.Rows
abbrev CB (K : W.Frag) (mg : Str -> Option Value) (n : Str) (a : Addr) (d : FuncData) (ps : List Str) : Prop := mg n = some (.ref a) /\ W.keepIn K (.ref a) = true /\ Binds K d ps []
theorem YC {X : Cx} {k : Nat} {f : Addr} {fd : FuncData} {ps : List Str} {sp : Sp} {x : Str} {p pos : Pos} {e : Expr} {es : List Expr} {t : TA} (F : FnOk X.prog X.w X.K X.mg X.base CX0 k f fd ps sp) (hr : Room k X.A) (hg : Gl X x) (hB : CB X.K X.mg x f fd ps) (ha : PA X (e :: es) t) (hdb : (x == ("__debug__" : Str)) = false := by decide) (he : starEach (e :: es) X.env = (false, eval e X.env) :: starEach es X.env := by rfl) (hpl : (backTo pos (starEach es X.env)).any (·.1) = false := by rfl) : PE X (.Call (.Name x p) (e :: es) [] pos) (zlR sp [] E0 t) := zam F hr hg hB.1 hB.2.1 hB.2.2 .nil za0 ha hdb he hpl
abbrev FU (K : W.Frag) (n : Str) (s : Stmt) (a : Addr) (d : FuncData) : Prop := Fun K n n s a d
end L2
namespace K36
open PySem L2
def top (i : Nat) : Stmt := PySem.Challenge.pw_boxproof_k36_case_and_one.main.body.getD i (.Pass ⟨0, 0, 0, 0⟩)
abbrev zcQ : Stmt := top 1
abbrev zbo : Stmt := top 2
abbrev zaS : Stmt := top 3
abbrev zbK : Stmt := top 4
abbrev zcj : Stmt := top 10
abbrev zck : Stmt := top 11
abbrev zaJ : Stmt := top 12
abbrev zaM : Stmt := top 13
abbrev za2 : Stmt := top 21
abbrev zb3 : Stmt := top 22
abbrev zbg : Stmt := top 23
abbrev zcl : Stmt := top 24
abbrev zbp : Stmt := top 25
abbrev zbq : Stmt := top 26
abbrev zaK : Stmt := top 27
abbrev zb4 : Stmt := top 28
abbrev zeG : Stmt := top 29
abbrev zbL : Stmt := top 47
abbrev zaT : Stmt := top 49
abbrev zbh : Stmt := top 50
abbrev zbr : Stmt := top 51
abbrev zbs : Stmt := top 54
abbrev zb5 : Stmt := top 55
abbrev zaC : Stmt := top 56
abbrev zaL : Stmt := top 57
abbrev zaY : Stmt := top 58
abbrev zaZ : Stmt := top 59
abbrev zaA : Stmt := top 60
abbrev zbt : Stmt := top 61
abbrev zaN : Stmt := top 62
abbrev zbi : Stmt := top 64
abbrev zbj : Stmt := top 65
abbrev zaU : Stmt := top 66
abbrev zbM : Stmt := top 67
abbrev zbN : Stmt := top 68
abbrev zbO : Stmt := top 69
abbrev zb6 : Stmt := top 70
abbrev zbP : Stmt := top 71
abbrev zcm : Stmt := top 72
abbrev zcn : Stmt := top 73
abbrev zbk : Stmt := top 75
abbrev zb7 : Stmt := top 76
abbrev zco : Stmt := top 77
abbrev zcp : Stmt := top 78
abbrev zaV : Stmt := top 79
abbrev zbQ : Stmt := top 80
abbrev zb8 : Stmt := top 81
abbrev zeH : Stmt := top 82
abbrev zba : Stmt := zfC (top 53) 0
abbrev za4 : Stmt := zfC (top 53) 1
abbrev zaD : Stmt := zfC (top 53) 2
set_option genInjectivity false in
set_option genSizeOf false in
structure Defs where
 (a_g3 : Addr) (d_g3 : FuncData)
 (a_d3 : Addr) (d_d3 : FuncData)
 (a_b1 : Addr) (d_b1 : FuncData)
 (a_f3 : Addr) (d_f3 : FuncData)
 (a_f8 : Addr) (d_f8 : FuncData)
 (a_f9 : Addr) (d_f9 : FuncData)
 (a_a5 : Addr) (d_a5 : FuncData)
 (a_a9 : Addr) (d_a9 : FuncData)
 (a_a0 : Addr) (d_a0 : FuncData)
 (a_d9 : Addr) (d_d9 : FuncData)
 (a_c2 : Addr) (d_c2 : FuncData)
 (a_g1 : Addr) (d_g1 : FuncData)
 (a_c6 : Addr) (d_c6 : FuncData)
 (a_d4 : Addr) (d_d4 : FuncData)
 (a_a7 : Addr) (d_a7 : FuncData)
 (a_e2 : Addr) (d_e2 : FuncData)
 (a_g4 : Addr) (d_g4 : FuncData)
 (a_e9 : Addr) (d_e9 : FuncData)
 (a_b3 : Addr) (d_b3 : FuncData)
 (a_c1 : Addr) (d_c1 : FuncData)
 (a_c7 : Addr) (d_c7 : FuncData)
 (a_d0 : Addr) (d_d0 : FuncData)
 (a_d6 : Addr) (d_d6 : FuncData)
 (a_a3 : Addr) (d_a3 : FuncData)
 (a_a6 : Addr) (d_a6 : FuncData)
 (a_b4 : Addr) (d_b4 : FuncData)
 (a_b5 : Addr) (d_b5 : FuncData)
 (a_a2 : Addr) (d_a2 : FuncData)
 (a_d2 : Addr) (d_d2 : FuncData)
 (a_a8 : Addr) (d_a8 : FuncData)
 (a_c3 : Addr) (d_c3 : FuncData)
 (a_b7 : Addr) (d_b7 : FuncData)
 (a_b2 : Addr) (d_b2 : FuncData)
 (a_f4 : Addr) (d_f4 : FuncData)
 (a_f0 : Addr) (d_f0 : FuncData)
 (a_e7 : Addr) (d_e7 : FuncData)
 (a_e3 : Addr) (d_e3 : FuncData)
 (a_f2 : Addr) (d_f2 : FuncData)
 (a_g0 : Addr) (d_g0 : FuncData)
 (a_f7 : Addr) (d_f7 : FuncData)
 (a_c0 : Addr) (d_c0 : FuncData)
 (a_e0 : Addr) (d_e0 : FuncData)
 (a_g2 : Addr) (d_g2 : FuncData)
 (a_f6 : Addr) (d_f6 : FuncData)
 (a_b0 : Addr) (d_b0 : FuncData)
 (a_e8 : Addr) (d_e8 : FuncData)
 (a_e4 : Addr) (d_e4 : FuncData)
 (a_g5 : Addr) (d_g5 : FuncData)
 (a_b6 : Addr) (d_b6 : FuncData)
 (a_a1 : Addr) (d_a1 : FuncData)
 (a_a4 : Addr) (d_a4 : FuncData)
 (a_d1 : Addr)
 (a_e5 : Addr)
 (a_d8 : Addr)
 (a_c8 : Addr)
 (a_b8 : Addr)
 (a_c4 : Addr)
 (a_d7 : Addr)
 (a_f1 : Addr)
 (a_e1 : Addr)
 (a_c5 : Addr)
 (a_b9 : Addr)
 (a_f5 : Addr)
 (a_d5 : Addr)
 (a_c9 : Addr)
 (a_e6 : Addr)
 (k_OPENING_RULES : Addr)
 (k_KEPT_WORDS : Addr)
 (k_QUANTIFIERS : Addr)
 (k_FALSE : Addr)
 (k_RULES : Addr) (r_RULES_0 w_RULES_0 : Addr) (r_RULES_1 w_RULES_1 : Addr) (r_RULES_2 w_RULES_2 : Addr) (r_RULES_3 w_RULES_3 : Addr) (r_RULES_4 w_RULES_4 : Addr) (r_RULES_5 w_RULES_5 : Addr) (r_RULES_6 w_RULES_6 : Addr) (r_RULES_7 w_RULES_7 : Addr) (r_RULES_8 w_RULES_8 : Addr) (r_RULES_9 w_RULES_9 : Addr) (r_RULES_10 w_RULES_10 : Addr) (r_RULES_11 w_RULES_11 : Addr) (r_RULES_12 w_RULES_12 : Addr) (r_RULES_13 w_RULES_13 : Addr) (r_RULES_14 w_RULES_14 : Addr) (r_RULES_15 w_RULES_15 : Addr)
 (x_BoxError : Addr)
 (x_NoBox : Addr)
 (C_Ahead : Addr)
set_option genInjectivity false in
set_option genSizeOf false in
structure Tx (K : W.Frag) (mg : Str -> Option Value) (D : Defs) : Prop where
 F_g3 : FU K "seen" zcQ D.a_g3 D.d_g3
 m_g3 : CB K mg "seen" D.a_g3 D.d_g3 ["paths", "k", "i"]
 F_d3 : FU K "box_seen" zbo D.a_d3 D.d_d3
 m_d3 : CB K mg "box_seen" D.a_d3 D.d_d3 ["paths", "k", "b"]
 F_b1 : FU K "begins_with" zaS D.a_b1 D.d_b1
 m_b1 : CB K mg "begins_with" D.a_b1 D.d_b1 ["path", "beginning"]
 F_f3 : FU K "end_of" zbK D.a_f3 D.d_f3
 m_f3 : CB K mg "end_of" D.a_f3 D.d_f3 ["paths", "b"]
 F_f8 : FU K "opens" zcj D.a_f8 D.d_f8
 m_f8 : CB K mg "opens" D.a_f8 D.d_f8 ["rule"]
 F_f9 : FU K "boxes" zck D.a_f9 D.d_f9
 m_f9 : CB K mg "boxes" D.a_f9 D.d_f9 ["lines"]
 F_a5 : FU K "fitting_boxes" zaJ D.a_a5 D.d_a5
 m_a5 : CB K mg "fitting_boxes" D.a_a5 D.d_a5 ["lines"]
 F_a9 : FU K "boxes_behind" zaM D.a_a9 D.d_a9
 m_a9 : CB K mg "boxes_behind" D.a_a9 D.d_a9 ["path", "line", "k"]
 F_a0 : FU K "begins_and_goes_on" za2 D.a_a0 D.d_a0
 m_a0 : CB K mg "begins_and_goes_on" D.a_a0 D.d_a0 ["text", "first_signs"]
 F_d9 : FU K "is_name" zb3 D.a_d9 D.d_d9
 m_d9 : CB K mg "is_name" D.a_d9 D.d_d9 ["text"]
 F_c2 : FU K "is_letter" zbg D.a_c2 D.d_c2
 m_c2 : CB K mg "is_letter" D.a_c2 D.d_c2 ["text"]
 F_g1 : FU K "parts" zcl D.a_g1 D.d_g1
 m_g1 : CB K mg "parts" D.a_g1 D.d_g1 ["A"]
 F_c6 : FU K "terms_in" zbp D.a_c6 D.d_c6
 m_c6 : CB K mg "terms_in" D.a_c6 D.d_c6 ["A"]
 F_d4 : FU K "names_in" zbq D.a_d4 D.d_d4
 m_d4 : CB K mg "names_in" D.a_d4 D.d_d4 ["A"]
 F_a7 : FU K "free_terms_in" zaK D.a_a7 D.d_a7
 m_a7 : CB K mg "free_terms_in" D.a_a7 D.d_a7 ["A"]
 F_e2 : FU K "free_in" zb4 D.a_e2 D.d_e2
 m_e2 : CB K mg "free_in" D.a_e2 D.d_e2 ["A"]
 F_g4 : FU K "put" zeG D.a_g4 D.d_g4
 m_g4 : CB K mg "put" D.a_g4 D.d_g4 ["A", "letter", "name"]
 F_e9 : FU K "by_one" zbL D.a_e9 D.d_e9
 m_e9 : CB K mg "by_one" D.a_e9 D.d_e9 ["S", "taken"]
 F_b3 : FU K "opened_with" zaT D.a_b3 D.d_b3
 m_b3 : CB K mg "opened_with" D.a_b3 D.d_b3 ["box", "rule"]
 F_c1 : FU K "only_name" zbh D.a_c1 D.d_c1
 m_c1 : CB K mg "only_name" D.a_c1 D.d_c1 ["line"]
 F_c7 : FU K "name_for" zbr D.a_c7 D.d_c7
 m_c7 : CB K mg "name_for" D.a_c7 D.d_c7 ["ref"]
 F_d0 : FU K "names_of" zbs D.a_d0 D.d_d0
 m_d0 : CB K mg "names_of" D.a_d0 D.d_d0 ["line"]
 F_d6 : FU K "follows" zb5 D.a_d6 D.d_d6
 m_d6 : CB K mg "follows" D.a_d6 D.d_d6 ["lines", "paths", "k"]
 F_a3 : FU K "follows_behind" zaC D.a_a3 D.d_a3
 m_a3 : CB K mg "follows_behind" D.a_a3 D.d_a3 ["ahead", "lines", "paths", "k"]
 F_a6 : FU K "fits_its_rule" zaL D.a_a6 D.d_a6
 m_a6 : CB K mg "fits_its_rule" D.a_a6 D.d_a6 ["statement", "rule"]
 F_b4 : FU K "follows_by" zaY D.a_b4 D.d_b4
 m_b4 : CB K mg "follows_by" D.a_b4 D.d_b4 ["wants_and_step", "lines", "paths", "k"]
 F_b5 : FU K "stands_for" zaZ D.a_b5 D.d_b5
 m_b5 : CB K mg "stands_for" D.a_b5 D.d_b5 ["want", "ref", "lines", "paths", "k"]
 F_a2 : FU K "is_number_ahead" zaA D.a_a2 D.d_a2
 m_a2 : CB K mg "is_number_ahead" D.a_a2 D.d_a2 ["ref", "k"]
 F_d2 : FU K "seen_box" zbt D.a_d2 D.d_d2
 m_d2 : CB K mg "seen_box" D.a_d2 D.d_d2 ["b", "lines", "paths", "k"]
 F_a8 : FU K "statement_of" zaN D.a_a8 D.d_a8
 m_a8 : CB K mg "statement_of" D.a_a8 D.d_a8 ["line"]
 F_c3 : FU K "_law_cell_at" zbi D.a_c3 D.d_c3
 m_c3 : CB K mg "_law_cell_at" D.a_c3 D.d_c3 ["_law_script", "_law_k"]
 F_b7 : FU K "_law_name_by" zbj D.a_b7 D.d_b7
 m_b7 : CB K mg "_law_name_by" D.a_b7 D.d_b7 ["_law_shape", "_law_cell", "_law_k"]
 F_b2 : FU K "_law_letter_by" zaU D.a_b2 D.d_b2
 m_b2 : CB K mg "_law_letter_by" D.a_b2 D.d_b2 ["_law_cell"]
 F_f4 : FU K "_law_made" zbM D.a_f4 D.d_f4
 m_f4 : CB K mg "_law_made" D.a_f4 D.d_f4 ["_law_number", "_law_room", "_law_terms_here", "_law_words"]
 F_f0 : FU K "_law_draw" zbN D.a_f0 D.d_f0
 m_f0 : CB K mg "_law_draw" D.a_f0 D.d_f0 ["_law_script", "_law_at"]
 F_e7 : FU K "_law_some" zbO D.a_e7 D.d_e7
 m_e7 : CB K mg "_law_some" D.a_e7 D.d_e7 ["_law_script", "_law_at", "_law_drawn", "_law_count"]
 F_e3 : FU K "_law_paths" zb6 D.a_e3 D.d_e3
 m_e3 : CB K mg "_law_paths" D.a_e3 D.d_e3 ["_law_lines_here"]
 F_f2 : FU K "_law_line" zbP D.a_f2 D.d_f2
 m_f2 : CB K mg "_law_line" D.a_f2 D.d_f2 ["_law_lines_here", "_law_k", "_law_ref"]
 F_g0 : FU K "_law_box" zcm D.a_g0 D.d_g0
 m_g0 : CB K mg "_law_box" D.a_g0 D.d_g0 ["_law_lines_here", "_law_k", "_law_ref"]
 F_f7 : FU K "_law_put" zcn D.a_f7 D.d_f7
 m_f7 : CB K mg "_law_put" D.a_f7 D.d_f7 ["_law_ka", "_law_letter", "_law_name"]
 F_c0 : FU K "_law_is_name" zbk D.a_c0 D.d_c0
 m_c0 : CB K mg "_law_is_name" D.a_c0 D.d_c0 ["_law_thing"]
 F_e0 : FU K "_law_names" zb7 D.a_e0 D.d_e0
 m_e0 : CB K mg "_law_names" D.a_e0 D.d_e0 ["_law_ka"]
 F_g2 : FU K "_law_new" zco D.a_g2 D.d_g2
 m_g2 : CB K mg "_law_new" D.a_g2 D.d_g2 ["_law_lines_here", "_law_b"]
 F_f6 : FU K "_law_one" zcp D.a_f6 D.d_f6
 m_f6 : CB K mg "_law_one" D.a_f6 D.d_f6 ["_law_lines_here", "_law_k"]
 F_b0 : FU K "_law_some_line" zaV D.a_b0 D.d_b0
 m_b0 : CB K mg "_law_some_line" D.a_b0 D.d_b0 ["_law_script", "_law_drawn"]
 F_e8 : FU K "_law_open" zbQ D.a_e8 D.d_e8
 m_e8 : CB K mg "_law_open" D.a_e8 D.d_e8 ["_law_script", "_law_some_here", "_law_drawn", "_law_whole"]
 F_e4 : FU K "_law_lines" zb8 D.a_e4 D.d_e4
 m_e4 : CB K mg "_law_lines" D.a_e4 D.d_e4 ["_law_script", "_law_some_here", "_law_drawn", "_law_whole"]
 F_g5 : FU K "law" zeH D.a_g5 D.d_g5
 m_g5 : CB K mg "law" D.a_g5 D.d_g5 ["_law_script"]
 F_b6 : Fun K "__init__" "Ahead.__init__" zba D.a_b6 D.d_b6
 h_b6 : Meth K D.C_Ahead "__init__" D.a_b6
 b_b6 : Binds K D.d_b6 ["self", "lines"] []
 F_a1 : Fun K "only_givens" "Ahead.only_givens" za4 D.a_a1 D.d_a1
 h_a1 : Meth K D.C_Ahead "only_givens" D.a_a1
 b_a1 : Binds K D.d_a1 ["self", "k"] []
 F_a4 : Fun K "has_name" "Ahead.has_name" zaD D.a_a4 D.d_a4
 h_a4 : Meth K D.C_Ahead "has_name" D.a_a4
 b_a4 : Binds K D.d_a4 ["self", "name", "k"] []
 c_OPENING_RULES : mg "OPENING_RULES" = some (.ref D.k_OPENING_RULES)
 q_OPENING_RULES : ∀ H, SqT K H D.k_OPENING_RULES [V.str "guess", V.str "new", V.str "case"]
 c_SMALL : ∃ t, mg "SMALL" = some (.str "abcdefghijklmnopqrstuvwxyz" t)
 c_GREAT : ∃ t, mg "GREAT" = some (.str "ABCDEFGHIJKLMNOPQRSTUVWXYZ" t)
 c_SMALL_OR_FIGURE : ∃ t, mg "SMALL_OR_FIGURE" = some (.str "abcdefghijklmnopqrstuvwxyz0123456789" t)
 c_KEPT_WORDS : mg "KEPT_WORDS" = some (.ref D.k_KEPT_WORDS)
 q_KEPT_WORDS : ∀ H, SqT K H D.k_KEPT_WORDS [V.str "not", V.str "and", V.str "or", V.str "then", V.str "all", V.str "some", V.str "false"]
 c_MOST_SIGNS : ∃ t, mg "MOST_SIGNS" = some (.int 8 t)
 c_QUANTIFIERS : mg "QUANTIFIERS" = some (.ref D.k_QUANTIFIERS)
 q_QUANTIFIERS : ∀ H, SqT K H D.k_QUANTIFIERS [V.str "all", V.str "some"]
 c_FALSE : mg "FALSE" = some (.ref D.k_FALSE)
 q_FALSE : ∀ H, SqT K H D.k_FALSE [V.str "false"]
 c_RULES : mg "RULES" = some (.ref D.k_RULES)
 q_RULES : TabK K D.k_RULES [("again", V.ref D.r_RULES_0), ("both", V.ref D.r_RULES_1), ("left", V.ref D.r_RULES_2), ("right", V.ref D.r_RULES_3), ("either", V.ref D.r_RULES_4), ("cases", V.ref D.r_RULES_5), ("then", V.ref D.r_RULES_6), ("use", V.ref D.r_RULES_7), ("deny", V.ref D.r_RULES_8), ("clash", V.ref D.r_RULES_9), ("absurd", V.ref D.r_RULES_10), ("any", V.ref D.r_RULES_11), ("each", V.ref D.r_RULES_12), ("every", V.ref D.r_RULES_13), ("some", V.ref D.r_RULES_14), ("one", V.ref D.r_RULES_15)]
 qr_RULES_0 : ∀ H, SqT K H D.r_RULES_0 [V.ref D.w_RULES_0, V.ref D.a_d1]
 qw_RULES_0 : ∀ H, SqT K H D.w_RULES_0 [V.str "line"]
 qr_RULES_1 : ∀ H, SqT K H D.r_RULES_1 [V.ref D.w_RULES_1, V.ref D.a_e5]
 qw_RULES_1 : ∀ H, SqT K H D.w_RULES_1 [V.str "line", V.str "line"]
 qr_RULES_2 : ∀ H, SqT K H D.r_RULES_2 [V.ref D.w_RULES_2, V.ref D.a_d8]
 qw_RULES_2 : ∀ H, SqT K H D.w_RULES_2 [V.str "line"]
 qr_RULES_3 : ∀ H, SqT K H D.r_RULES_3 [V.ref D.w_RULES_3, V.ref D.a_c8]
 qw_RULES_3 : ∀ H, SqT K H D.w_RULES_3 [V.str "line"]
 qr_RULES_4 : ∀ H, SqT K H D.r_RULES_4 [V.ref D.w_RULES_4, V.ref D.a_b8]
 qw_RULES_4 : ∀ H, SqT K H D.w_RULES_4 [V.str "line"]
 qr_RULES_5 : ∀ H, SqT K H D.r_RULES_5 [V.ref D.w_RULES_5, V.ref D.a_c4]
 qw_RULES_5 : ∀ H, SqT K H D.w_RULES_5 [V.str "line", V.str "box", V.str "box"]
 qr_RULES_6 : ∀ H, SqT K H D.r_RULES_6 [V.ref D.w_RULES_6, V.ref D.a_d7]
 qw_RULES_6 : ∀ H, SqT K H D.w_RULES_6 [V.str "box"]
 qr_RULES_7 : ∀ H, SqT K H D.r_RULES_7 [V.ref D.w_RULES_7, V.ref D.a_f1]
 qw_RULES_7 : ∀ H, SqT K H D.w_RULES_7 [V.str "line", V.str "line"]
 qr_RULES_8 : ∀ H, SqT K H D.r_RULES_8 [V.ref D.w_RULES_8, V.ref D.a_e1]
 qw_RULES_8 : ∀ H, SqT K H D.w_RULES_8 [V.str "box"]
 qr_RULES_9 : ∀ H, SqT K H D.r_RULES_9 [V.ref D.w_RULES_9, V.ref D.a_c5]
 qw_RULES_9 : ∀ H, SqT K H D.w_RULES_9 [V.str "line", V.str "line"]
 qr_RULES_10 : ∀ H, SqT K H D.r_RULES_10 [V.ref D.w_RULES_10, V.ref D.a_b9]
 qw_RULES_10 : ∀ H, SqT K H D.w_RULES_10 [V.str "box"]
 qr_RULES_11 : ∀ H, SqT K H D.r_RULES_11 [V.ref D.w_RULES_11, V.ref D.a_f5]
 qw_RULES_11 : ∀ H, SqT K H D.w_RULES_11 [V.str "line"]
 qr_RULES_12 : ∀ H, SqT K H D.r_RULES_12 [V.ref D.w_RULES_12, V.ref D.a_d5]
 qw_RULES_12 : ∀ H, SqT K H D.w_RULES_12 [V.str "line", V.str "name"]
 qr_RULES_13 : ∀ H, SqT K H D.r_RULES_13 [V.ref D.w_RULES_13, V.ref D.a_c9]
 qw_RULES_13 : ∀ H, SqT K H D.w_RULES_13 [V.str "box"]
 qr_RULES_14 : ∀ H, SqT K H D.r_RULES_14 [V.ref D.w_RULES_14, V.ref D.a_e6]
 qw_RULES_14 : ∀ H, SqT K H D.w_RULES_14 [V.str "line", V.str "name"]
 qr_RULES_15 : ∀ H, SqT K H D.r_RULES_15 [V.ref D.w_RULES_15, V.ref D.a_e9]
 qw_RULES_15 : ∀ H, SqT K H D.w_RULES_15 [V.str "line", V.str "box"]
 z_all : mg "all" = none
 z_bool : mg "bool" = none
 z_enumerate : mg "enumerate" = none
 z_int : mg "int" = none
 z_isinstance : mg "isinstance" = none
 z_len : mg "len" = none
 z_list : mg "list" = none
 z_range : mg "range" = none
 z_set : mg "set" = none
 z_sorted : mg "sorted" = none
 z_str : mg "str" = none
 z_tuple : mg "tuple" = none
 z_zip : mg "zip" = none
 x_BoxError : XCls K mg "BoxError" D.x_BoxError [] [.type "ValueError", .type "Exception", .type "BaseException", .type "object"] "ValueError.__new__"
 x_NoBox : XCls K mg "NoBox" D.x_NoBox [D.x_BoxError] [.type "ValueError", .type "Exception", .type "BaseException", .type "object"] "ValueError.__new__"
 m_Ahead : mg "Ahead" = some (.ref D.C_Ahead)
 cl_Ahead : Cls K D.C_Ahead
 mk_Ahead : Mk K D.C_Ahead D.a_b6
 n_Ahead_lines : NoAttr K D.C_Ahead "lines"
 n_Ahead_givens : NoAttr K D.C_Ahead "givens"
 n_Ahead_named : NoAttr K D.C_Ahead "named"
 n_Ahead_first_places : NoAttr K D.C_Ahead "first_places"
theorem Tx.g_OPENING_RULES {K : W.Frag} {mg : Str -> Option Value} {D : Defs} (T : Tx K mg D) {X : Cx} {pos : Pos} (h : Gl X "OPENING_RULES") (hm : X.mg = mg := by rfl) : PE X (.Name "OPENING_RULES" pos) (tC (.ref D.k_OPENING_RULES)) := zcw h (hm ▸ T.c_OPENING_RULES) rfl
theorem Tx.g_SMALL {K : W.Frag} {mg : Str -> Option Value} {D : Defs} (T : Tx K mg D) {X : Cx} {pos : Pos} (h : Gl X "SMALL") (hm : X.mg = mg := by rfl) : PE X (.Name "SMALL" pos) (tC (.str "abcdefghijklmnopqrstuvwxyz")) := by
 obtain ⟨t, e⟩ := T.c_SMALL;exact zcw h (hm ▸ e) ⟨t, rfl⟩
theorem Tx.g_GREAT {K : W.Frag} {mg : Str -> Option Value} {D : Defs} (T : Tx K mg D) {X : Cx} {pos : Pos} (h : Gl X "GREAT") (hm : X.mg = mg := by rfl) : PE X (.Name "GREAT" pos) (tC (.str "ABCDEFGHIJKLMNOPQRSTUVWXYZ")) := by
 obtain ⟨t, e⟩ := T.c_GREAT;exact zcw h (hm ▸ e) ⟨t, rfl⟩
theorem Tx.g_SMALL_OR_FIGURE {K : W.Frag} {mg : Str -> Option Value} {D : Defs} (T : Tx K mg D) {X : Cx} {pos : Pos} (h : Gl X "SMALL_OR_FIGURE") (hm : X.mg = mg := by rfl) : PE X (.Name "SMALL_OR_FIGURE" pos) (tC (.str "abcdefghijklmnopqrstuvwxyz0123456789")) := by
 obtain ⟨t, e⟩ := T.c_SMALL_OR_FIGURE;exact zcw h (hm ▸ e) ⟨t, rfl⟩
theorem Tx.g_KEPT_WORDS {K : W.Frag} {mg : Str -> Option Value} {D : Defs} (T : Tx K mg D) {X : Cx} {pos : Pos} (h : Gl X "KEPT_WORDS") (hm : X.mg = mg := by rfl) : PE X (.Name "KEPT_WORDS" pos) (tC (.ref D.k_KEPT_WORDS)) := zcw h (hm ▸ T.c_KEPT_WORDS) rfl
theorem Tx.g_MOST_SIGNS {K : W.Frag} {mg : Str -> Option Value} {D : Defs} (T : Tx K mg D) {X : Cx} {pos : Pos} (h : Gl X "MOST_SIGNS") (hm : X.mg = mg := by rfl) : PE X (.Name "MOST_SIGNS" pos) (tC (.int 8)) := by
 obtain ⟨t, e⟩ := T.c_MOST_SIGNS;exact zcw h (hm ▸ e) ⟨t, rfl⟩
theorem Tx.g_QUANTIFIERS {K : W.Frag} {mg : Str -> Option Value} {D : Defs} (T : Tx K mg D) {X : Cx} {pos : Pos} (h : Gl X "QUANTIFIERS") (hm : X.mg = mg := by rfl) : PE X (.Name "QUANTIFIERS" pos) (tC (.ref D.k_QUANTIFIERS)) := zcw h (hm ▸ T.c_QUANTIFIERS) rfl
theorem Tx.g_RULES {K : W.Frag} {mg : Str -> Option Value} {D : Defs} (T : Tx K mg D) {X : Cx} {pos : Pos} (h : Gl X "RULES") (hm : X.mg = mg := by rfl) : PE X (.Name "RULES" pos) (tC (.ref D.k_RULES)) := zcw h (hm ▸ T.c_RULES) rfl
local macro_rules | `(tactic| walk_at "s") => `(tactic| exact ⟨rfl, rfl, rfl, by decide +kernel, rfl, by decide +kernel, by decide +kernel⟩)
theorem zlr : zaz ["paths", "k", "i"] ["paths", "k", "i"] (zah zcQ) := by walk_at "s"
theorem zfN : zaz ["paths", "k", "b"] ["paths", "k", "b"] (zah zbo) := by walk_at "s"
theorem zdZ : zaz ["path", "beginning"] ["path", "beginning"] (zah zaS) := by walk_at "s"
theorem sc_f3 : zaz ["paths", "b", "place", "end", "k"] ["paths", "b"] (zah zbK) := by walk_at "s"
theorem zj8 : zaz ["rule"] ["rule"] (zah zcj) := by walk_at "s"
theorem sc_f9 : zaz ["lines", "paths", "place"] ["lines"] (zah zck) := by walk_at "s"
theorem sc_a5 : zaz ["lines", "paths", "path", "k", "line"] ["lines"] (zah zaJ) := by walk_at "s"
theorem sc_a9 : zaz ["path", "line", "k", "level", "kept"] ["path", "line", "k"] (zah zaM) := by walk_at "s"
theorem zc2 : zaz ["text", "first_signs"] ["text", "first_signs"] (zah za2) := by walk_at "s"
theorem zhe : zaz ["text"] ["text"] (zah zb3) := by walk_at "s"
theorem zfu : zaz ["text"] ["text"] (zah zbg) := by walk_at "s"
theorem zj9 : zaz ["A"] ["A"] (zah zcl) := by walk_at "s"
theorem sc_c6 : zaz ["A", "found", "part"] ["A"] (zah zbp) := by walk_at "s"
theorem zfO : zaz ["A"] ["A"] (zah zbq) := by walk_at "s"
theorem sc_a7 : zaz ["A", "found", "part"] ["A"] (zah zaK) := by walk_at "s"
theorem zhf : zaz ["A"] ["A"] (zah zb4) := by walk_at "s"
theorem zkq : zaz ["A", "letter", "name"] ["A", "letter", "name"] (zah zeG) := by walk_at "s"
theorem sc_e9 : zaz ["S", "taken", "A", "box", "name"] ["S", "taken"] (zah zbL) := by walk_at "s"
theorem zea : zaz ["box", "rule"] ["box", "rule"] (zah zaT) := by walk_at "s"
theorem zfv : zaz ["line"] ["line"] (zah zbh) := by walk_at "s"
theorem zfP : zaz ["ref"] ["ref"] (zah zbr) := by walk_at "s"
theorem sc_d0 : zaz ["line", "names"] ["line"] (zah zbs) := by walk_at "s"
theorem zhg : zaz ["lines", "paths", "k"] ["lines", "paths", "k"] (zah zb5) := by walk_at "s"
theorem sc_a3 : zaz ["ahead", "lines", "paths", "k", "line", "rule", "name"] ["ahead", "lines", "paths", "k"] (zah zaC) := by walk_at "s"
theorem zdu : zaz ["statement", "rule"] ["statement", "rule"] (zah zaL) := by walk_at "s"
theorem sc_b4 : zaz ["wants_and_step", "lines", "paths", "k", "wants", "step", "refs", "taken"] ["wants_and_step", "lines", "paths", "k"] (zah zaY) := by walk_at "s"
theorem zeI : zaz ["want", "ref", "lines", "paths", "k"] ["want", "ref", "lines", "paths", "k"] (zah zaZ) := by walk_at "s"
theorem zcR : zaz ["ref", "k"] ["ref", "k"] (zah zaA) := by walk_at "s"
theorem zfQ : zaz ["b", "lines", "paths", "k"] ["b", "lines", "paths", "k"] (zah zbt) := by walk_at "s"
theorem zdL : zaz ["line"] ["line"] (zah zaN) := by walk_at "s"
theorem sc_c3 : zaz ["_law_script", "_law_k", "_law_cell"] ["_law_script", "_law_k"] (zah zbi) := by walk_at "s"
theorem sc_b7 : zaz ["_law_shape", "_law_cell", "_law_k", "_law_signs", "_law_place", "_law_name", "_law_turn"] ["_law_shape", "_law_cell", "_law_k"] (zah zbj) := by walk_at "s"
theorem sc_b2 : zaz ["_law_cell", "_law_signs"] ["_law_cell"] (zah zaU) := by walk_at "s"
theorem sc_f4 : zaz ["_law_number", "_law_room", "_law_terms_here", "_law_words", "_law_kind", "_law_rest", "_law_some_here", "_law_turn", "_law_first", "_law_second", "_law_letter"] ["_law_number", "_law_room", "_law_terms_here", "_law_words"] (zah zbM) := by walk_at "s"
theorem sc_f0 : zaz ["_law_script", "_law_at", "_law_shape", "_law_names_here", "_law_words"] ["_law_script", "_law_at"] (zah zbN) := by walk_at "s"
theorem sc_e7 : zaz ["_law_script", "_law_at", "_law_drawn", "_law_count", "_law_found", "_law_k", "_law_number"] ["_law_script", "_law_at", "_law_drawn", "_law_count"] (zah zbO) := by walk_at "s"
theorem sc_e3 : zaz ["_law_lines_here", "_law_found", "_law_ahead", "_law_k"] ["_law_lines_here"] (zah zb6) := by walk_at "s"
theorem sc_f2 : zaz ["_law_lines_here", "_law_k", "_law_ref", "_law_paths_here"] ["_law_lines_here", "_law_k", "_law_ref"] (zah zbP) := by walk_at "s"
theorem sc_g0 : zaz ["_law_lines_here", "_law_k", "_law_ref", "_law_paths_here", "_law_end"] ["_law_lines_here", "_law_k", "_law_ref"] (zah zcm) := by walk_at "s"
theorem zg2 : zaz ["_law_ka", "_law_letter", "_law_name"] ["_law_ka", "_law_letter", "_law_name"] (zah zcn) := by walk_at "s"
theorem zfw : zaz ["_law_thing"] ["_law_thing"] (zah zbk) := by walk_at "s"
theorem sc_e0 : zaz ["_law_ka", "_law_found", "_law_part"] ["_law_ka"] (zah zb7) := by walk_at "s"
theorem sc_g2 : zaz ["_law_lines_here", "_law_b", "_law_refs", "_law_line_here"] ["_law_lines_here", "_law_b"] (zah zco) := by walk_at "s"
theorem sc_f6 : zaz ["_law_lines_here", "_law_k", "_law_ks", "_law_refs", "_law_ka", "_law_box_here", "_law_name"] ["_law_lines_here", "_law_k"] (zah zcp) := by walk_at "s"
theorem sc_b0 : zaz ["_law_script", "_law_drawn", "_law_cell", "_law_letter", "_law_number", "_law_inner"] ["_law_script", "_law_drawn"] (zah zaV) := by walk_at "s"
theorem sc_e8 : zaz ["_law_script", "_law_some_here", "_law_drawn", "_law_whole", "_law_cell", "_law_name", "_law_rule", "_law_bare", "_law_statement", "_law_refs"] ["_law_script", "_law_some_here", "_law_drawn", "_law_whole"] (zah zbQ) := by walk_at "s"
theorem sc_e4 : zaz ["_law_script", "_law_some_here", "_law_drawn", "_law_whole", "_law_lines_here", "_law_k", "_law_cell", "_law_refs", "_law_late", "_law_b"] ["_law_script", "_law_some_here", "_law_drawn", "_law_whole"] (zah zb8) := by walk_at "s"
theorem sc_g5 : zaz ["_law_script", "_law_drawn", "_law_some_here", "_law_pair", "_law_lines_here", "_law_b", "_law_cell", "_law_box_here", "_law_ks", "_law_refs", "_law_handed", "_law_paths_here", "_law_k", "_law_found", "_law_due", "_law_again"] ["_law_script"] (zah zeH) := by walk_at "s"
theorem zeJ : zaz ["self", "lines"] ["self", "lines"] (zah zba) := by walk_at "s"
theorem zc8 : zaz ["self", "k"] ["self", "k"] (zah za4) := by walk_at "s"
theorem sc_a4 : zaz ["self", "name", "k", "found"] ["self", "name", "k"] (zah zaD) := by walk_at "s"
end K36
namespace K36
open PySem L2
seal PE PS PSs PA PT PW PG PI PO PIf OpR UnR zbE IxR SlR MtR MtM PSet
local macro_rules | `(tactic| walk_at "bpW") => `(tactic| simp only [↓w_v0, ↓w_v1, ↓w_v2, ↓w_v3, ↓w_v4, ↓w_v5, ↓w_v6, ↓w_v7, ↓w_v8, ↓w_v9, ↓zn9, ↓znA, ↓w_c, ↓ze0, ↓znB, ↓zmd, ↓znC, ↓zme, ↓ze1, ↓zcg, ↓w_op, ↓w_un, ↓zmf, ↓w_B, ↓w_bl, ↓znD, ↓w_or, ↓w_not, ↓zmg, ↓zmh, ↓w_if, ↓zmi, ↓znE, ↓zmj, ↓znF, ↓znG, ↓zmk, ↓w_CB, ↓w_BM, ↓zjb, ↓zhR, ↓w_sl, ↓zjc, ↓zml, ↓znH, ↓zkD, ↓w_rI, ↓zgq, ↓zmm, ↓zgr, ↓znI, ↓znJ, ↓znK, ↓znL, ↓zjd, ↓znM, ↓zje, ↓znN, ↓zdt, ↓zmn, ↓zmo, ↓znO, ↓znP, ↓zmp, ↓zmq, ↓zmr, ↓znQ, ↓znR, ↓zms, ↓zmt, ↓zmu, ↓zkE, ↓zhS, ↓zjf, ↓zjg, ↓zjh, ↓zmv, ↓zmw, ↓zhT, ↓zhU, ↓znS, ↓zmx, ↓zkK, ↓zm0, ↓zhY, ↓zm1, ↓zm2, ↓zgV, ↓zgW, ↓zjn, ↓zkC, ↓ziX, ↓List.set_cons_zero, ↓List.set_cons_succ, ↓List.nil_append, ↓List.cons_append, ↓List.append_nil, ↓reduceIte, Bool.false_eq_true, decide_eq_true_eq, Bool.not_eq_true', decide_eq_false_iff_not, ↓zkM, ↓zjs, ↓zkN, ↓zkO, ↓zkP, ↓zmC, ↓zmD, ↓zmG, ↓zmH, ↓zmE, ↓zmF, ↓zmI, ↓zmJ, ↓zmK, ↓zij, ↓zmL, ↓w_is, ↓znY, ↓zkQ, ↓zkR, ↓zmO, ↓znW, ↓zm6, ↓zm7, ↓zm8, ↓znZ, ↓zoa, ↓zkS, ↓zob, ↓zkk, ↓zkT, ↓zmP, ↓zmR, ↓zik, ↓ze9, ↓zkV, ↓zeA, ↓zil, ↓zkW, ↓zim, ↓zkX, ↓zkY, ↓zkZ, ↓zmS, ↓zoc, ↓zmT, ↓zla, ↓zod, ↓zna, ↓zlf, ↓zoe, ↓zkk, ↓zne, ↓zld, ↓zlh, ↓zli, ↓zmX, ↓zop, ↓zoi, ↓zoj, ↓zok, ↓zol, ↓zom, ↓zon, ↓zj7, ↓znk, ↓zni, ↓zix, ↓zng])
local macro_rules | `(tactic| walk_at "S") => `(tactic| simp only [L2.start, List.map_cons, List.map_nil, List.length_cons, List.length_nil, Nat.reduceAdd, Nat.reduceSub, List.replicate_succ, List.replicate_zero, List.cons_append, List.nil_append, List.append_nil, Nat.zero_add, Nat.sub_self])
local macro_rules | `(tactic| walk_at "o") => `(tactic| first | exact Or.inl (by rfl) | exact Or.inr (by rfl))
local macro_rules | `(tactic| walk_at "") => `(tactic| walk_at "bpW")
local macro_rules | `(tactic| walk_at "T") => `(tactic| simp only [zaI, List.replicate_succ, List.replicate_zero, List.map_cons, List.map_nil, List.nil_append, List.cons_append, List.getElem?_cons_zero, List.getElem?_cons_succ, Option.join_some])
local macro_rules | `(tactic| walk_at "t") => `(tactic| try walk_at "bpW")
section
variable {P : Program} {w : World} {K : W.Frag} {mg : Str -> Option Value} {Qd : Heap} {D : Defs}
theorem zbx (T : Tx K mg D) : FnOk P w K mg Qd CX0 1 D.a_c3 D.d_c3 ["_law_script", "_law_k"] (spC3 K) := by
 refine T.F_c3.ok sc_c3 (fun vs H Q E h => ?_) (fun cdv A outer s H vs Q E hr h => ?_)
 ·obtain ⟨a, ns, n, rfl, _⟩ := h; rfl
 obtain ⟨a, ns, n, rfl, hS, hl, h0, k⟩ := h;have hu := hr.units;refine ⟨_, (zaf (za6 (zan (za9 K hu) (zau (zay K) (by rfl) T.z_len yap (zaa (pv 0) zae)) zab (zav _)) (zai (zaq zab)) zat)
  (zaf (zap (i := 2) sc_c3.nd (by rfl) (by walk_at "o") (zao zax (zao zcb (zao (za3 K) (zal (ixA K) (pv 0) (zao zax (pv 1) (zau (zay K) (by rfl) T.z_len yap (zaa (pv 0) zae))) (fun _ _ => rfl)) (zao zcb zab (pv 1))) zab) zab))
  (zai (zaq (zao zax (zao zcb (pv 2) (pv 2)) zab))))), ?_⟩
 walk_at "S";walk_at "";refine ⟨_, .inl hS, ?_⟩;rw [yaf];refine ite2 (fun c => k 0 (by decide) (by decide)) fun c => ?_;have hp : 0 < ns.length := by omega
 refine ⟨_, .inl hS, ?_⟩;rw [yaf];have m0 := yao n (show (ns.length : Int) ≠ 0 by omega);have m1 := yak n (show (0 : Int) < ns.length by omega);refine ⟨by omega, _, .inl hS, _, zjk m0 m1, ?_⟩;walk_at "";refine ⟨ze2, zkG, by decide, ze2 ?_, by decide, k _ (yao _ (by decide)) (Int.lt_of_lt_of_le (yak _ (by decide)) (by decide))⟩;have q0 := yao ((ns.getD (n % (ns.length : Int)).toNat 0 + 7919 * n) * 48271) (show (2147483647 : Int) ≠ 0 by decide);have q1 := yak ((ns.getD (n % (ns.length : Int)).toNat 0 + 7919 * n) * 48271) (show (0 : Int) < 2147483647 by decide);omega
theorem zcB (T : Tx K mg D) : FnOk P w K mg Qd CX0 1 D.a_b2 D.d_b2 ["_law_cell"] zog := by
 refine T.F_b2.ok sc_b2 (fun vs H Q E h => ?_) (fun cdv A outer s H vs Q E hr h => ?_)
 ·obtain ⟨c, rfl, _⟩ := h; rfl
 obtain ⟨c, rfl, h0, k⟩ := h;have hu := hr.units;refine ⟨_, (zaf (zap (i := 1) sc_b2.nd (by rfl) (by walk_at "o") zas)
  (zai (zaq (zao (za3 K) (zal (ixA K) (pv 1) (zao zax (pv 0) zab) (fun _ _ => rfl)) (zal (ixA K) (zaB (zaa zas (zaa zas (zaa zas (zaa zas (zaa zas zae)))))) (zao zax (zao za1 (pv 0) zab) zab) (fun _ _ => rfl)))))), ?_⟩
 walk_at "S";walk_at "";obtain ⟨z, ez, hz⟩ := zkF (x := "ABCDEFGHIJKLMNOPQRSTUVWXYZ") (i := c) (P := fun c => c ∈ greatS.cps.toList) (by decide +kernel) (fun _ h => h);obtain ⟨y, hy, ey⟩ := zjl (ts := ["", "", "x", "2", "abc1234"]) (i := c / 26 % 5) (yao _ (by decide)) (yak _ (by decide));refine ⟨by decide, zar (by decide +kernel), z, ez, zar (by decide), fun p hp => ⟨cdiv, by decide, _, .inl (SqL.of zad), _, ey, ?_⟩⟩;walk_at "t";have hy7 : ∀ y ∈ (["", "", "x", "2", "abc1234"] : List Str), y.length <= 7 /\ ∀ d ∈ y.cps.toList, d ∈ sofS.cps.toList := by decide +kernel
 obtain ⟨y7, ys⟩ := hy7 y hy;refine ⟨zar (by show 1 + y.length <= _; omega), k _ _ (zac hp _) ⟨z, y.cps.toList, by rw [zbW]; rfl, hz, ys, by rw [zch]; exact y7, fun q => ?_⟩⟩;have hk : ∀ x ∈ keptW, ∀ c ∈ x.cps.toList.take 1, c ∉ greatS.cps.toList := by decide +kernel
 exact hk _ q z (by rw [zbW]; simp) hz
theorem znl {x : Str} {z i : Nat} (hx : x.length = i) (hi : i < 8) (g : 0 < i -> zfh smallS x.cps.toList) (hz : z ∈ sofS.cps.toList) (h0 : i = 0 -> z ∈ smallS.cps.toList) : (x ++ (⟨#[z]⟩ : Str)).length = i + 1 /\ (0 < i + 1 -> zfh smallS (x ++ (⟨#[z]⟩ : Str)).cps.toList) := by
 have hl := zch x;refine ⟨by rw [<- zch, zbW, yae, zch, hx]; rfl, fun _ => ?_⟩;rw [zbW]
 by_cases hi0 : i = 0
 ·have : x.cps.toList = [] := List.length_eq_zero_iff.mp (by omega);rw [this];exact ⟨z, [], rfl, h0 hi0, by simp, by simp⟩
 ·obtain ⟨c, r, e, g1, g2, g3⟩ := g (by omega);rw [e] at hl ⊢;rw [List.length_cons] at hl;refine ⟨c, r ++ [z], rfl, g1, fun d hd => ?_, by rw [yae, yas]; omega⟩;rcases yay.mp hd with q | q
  ·exact g2 d q
  ·rw [yah.mp q]; exact hz
theorem zfx (T : Tx K mg D) : FnOk P w K mg Qd CX0 1 D.a_b7 D.d_b7 ["_law_shape", "_law_cell", "_law_k"] zof := by
 refine T.F_b7.ok sc_b7 (fun vs H Q E h => ?_) (fun cdv A outer s H vs Q E hr h => ?_)
 ·obtain ⟨sh, c, j, rfl, _⟩ := h; rfl
 obtain ⟨sh, c, j, rfl, h0, c0, j0, k⟩ := h;have hu := hr.units;refine ⟨_, (zaf (zap (i := 3) sc_b7.nd (by rfl) (by walk_at "o") zas)
  (zaf (zap (i := 4) sc_b7.nd (by rfl) (by walk_at "o") (zao zax (zao za1 (pv 0) zab) zab))
  (zaf (za6 (zan (za9 K hu) (zao zax (pv 0) zab) zab (zav _)) (zai (zap (i := 1) sc_b7.nd (by rfl) (by walk_at "o") (zao za1 (pv 0) zab))) zat)
  (zaf (zap (i := 5) sc_b7.nd (by rfl) (by walk_at "o") zas)
  (zaf (zcd PassesOwn.never (by rfl) (zb0 (by rfl) T.z_range (zaa (zao (za3 K) (zao (za3 K) (pv 4) zab) (zao zax (zao za1 (pv 1) zab) (zao zbU zab (pv 4)))) zae)) (zaG (i := 6) sc_b7.nd (by rfl) (by walk_at "o"))
   (zai (za6 (zan (za9 K hu) (pv 6) (pv 4) (zav _)) (zai (zap (i := 5) sc_b7.nd (by rfl) (by walk_at "o") (zao (za3 K) (pv 5) (zal (ixA K) (pv 3) (zao zax (zao (za3 K) (zao za1 (pv 0) zab) (zao zcb zab (pv 2))) zab) (fun _ _ => rfl))))) (zai (za6 (zan (za9 K hu) (pv 6) zab (zav _)) (zai (zap (i := 5) sc_b7.nd (by rfl) (by walk_at "o") (zao (za3 K) (pv 5) (zal (ixA K) (pv 3) (zao zax (zao za1 (pv 1) zab) zab) (fun _ _ => rfl))))) (zai (zap (i := 5) sc_b7.nd (by rfl) (by walk_at "o") (zao (za3 K) (pv 5) (zal (ixA K) (pv 3) (zao zax (zao (za3 K) (zao za1 (pv 1) zab) (zao zcb (pv 6) (zao (za3 K) zab (zao zax (pv 1) zab)))) zab) (fun _ _ => rfl))))))))))
  (zaf (za6 (zan (zcy K) (pv 5) (zaB (zaa zas (zaa zas (zaa zas (zaa zas (zaa zas (zaa zas (zaa zas zae)))))))) (by rfl)) (zai (zap (i := 5) sc_b7.nd (by rfl) (by walk_at "o") (zao (za3 K) (pv 5) zas))) zat)
  (zai (zaq (pv 5))))))))), ?_⟩
 walk_at "S";have h1 : ∀ c : Nat, (⟨#[c]⟩ : Str).length = 1 := fun c => rfl;have sm : ∀ c ∈ (Str.ofString "abcdefghijklmnopqrstuvwxyz0123456789").cps.toList.take 26, c ∈ smallS.cps.toList := by decide +kernel
 have ss : ∀ c ∈ smallS.cps.toList, c ∈ sofS.cps.toList := by decide +kernel
 have l36 : (Str.ofString "abcdefghijklmnopqrstuvwxyz0123456789").length = 36 := by decide +kernel
 have p0 := yao (sh / 2) (show (8 : Int) ≠ 0 by decide);have p1 := yak (sh / 2) (show (0 : Int) < 8 by decide);have c1 : 0 <= sh / 16 := ya2 h0 (by decide);walk_at "";refine ⟨cdiv, by decide, by decide, ?_⟩;generalize sh / 2 % 8 = pl at p0 p1 ⊢;refine ite2 (fun _ => ⟨cdiv, ?_⟩) fun _ => ?_
 ·generalize sh / 16 = c at c1 ⊢;clear c0;have c0 := c1;have r0 := yao (c / 7) (show 8 - pl ≠ 0 by omega);have r1 := yak (c / 7) (show 0 < 8 - pl by omega);generalize c / 7 % (8 - pl) = rr at r0 r1 ⊢;refine ⟨cdiv, by omega, by omega, by omega, ?_⟩;refine zbw (fun i σ H2 => H2 = H /\ ∃ (x : Str) (u : Option V), σ = [some (.int sh), some (.int c), some (.int j), some (.str (Str.ofString "abcdefghijklmnopqrstuvwxyz0123456789")), some (.int pl), some (.str x), u] /\ x.length = i /\ (0 < i -> zfh smallS x.cps.toList)) ⟨rfl, Str.ofString "", _, rfl, by decide +kernel, fun h => absurd h (by decide)⟩ (fun i σ H2 hi hv => ?_) fun σ H2 hv => ?_
  ·obtain ⟨rfl, x, u, rfl, hx, g⟩ := hv;walk_at "";have fin : ∀ z : Nat, z ∈ sofS.cps.toList -> (i = 0 -> z ∈ smallS.cps.toList) -> x.length + ({ cps := #[z] } : Str).length <= sizeLine /\ True /\ ∃ (y : Str) (u' : Option V), ([some (.int sh), some (.int c), some (.int j), some (.str (Str.ofString "abcdefghijklmnopqrstuvwxyz0123456789")), some (.int pl), some (.str (x ++ (⟨#[z]⟩ : Str))), some (.int (0 + (i : Int)))] : St) = [some (.int sh), some (.int c), some (.int j), some (.str (Str.ofString "abcdefghijklmnopqrstuvwxyz0123456789")), some (.int pl), some (.str y), u'] /\ y.length = i + 1 /\ (0 < i + 1 -> zfh smallS y.cps.toList) := fun z hz h0' => by
    have g' := znl hx (by omega) g hz h0';exact ⟨zar (by rw [h1]; omega), trivial, _, _, rfl, g'.1, g'.2⟩
   obtain ⟨z1, e1, q1⟩ := zj2 (x := Str.ofString "abcdefghijklmnopqrstuvwxyz0123456789") (i := sh / 16 + 7 * j) (m := 26) (P := fun c => c ∈ smallS.cps.toList) (by decide) (by rw [l36]; decide) sm;obtain ⟨z2, e2, q2⟩ := zj2 (x := Str.ofString "abcdefghijklmnopqrstuvwxyz0123456789") (i := c / 56) (m := 26) (P := fun c => c ∈ smallS.cps.toList) (by decide) (by rw [l36]; decide) sm;obtain ⟨z3, e3, q3⟩ := zkF (x := Str.ofString "abcdefghijklmnopqrstuvwxyz0123456789") (i := c / 56 + (0 + (i : Int)) * (1 + c % 5)) (P := fun c => c ∈ sofS.cps.toList) (by decide +kernel) (fun _ h => h);refine ite2 (fun a1 => ⟨cdiv, ze2, by decide, zar (by decide +kernel), z1, e1, fin z1 (ss _ q1) fun _ => q1⟩) fun a1 => ite2 (fun a2 => ⟨cdiv, by decide, zar (by decide +kernel), z2, e2, fin z2 (ss _ q2) fun _ => q2⟩) fun a2 => ⟨cdiv, by decide, ze2 ⟨by omega, by omega⟩, by decide, zar (by decide +kernel), z3, e3, fin z3 q3 fun h => absurd h (by omega)⟩
  ·obtain ⟨rfl, x, u, rfl, hx, g⟩ := hv;have g := g (by omega);walk_at "";refine ⟨zar (by decide), fun p hp => ⟨_, .inl (SqL.of zad), rfl, zfg keptW, ?_⟩⟩;rw [show inV (V.str x) [V.str "not", V.str "and", V.str "or", V.str "then", V.str "all", V.str "some", V.str "false"] = decide (x ∈ keptW) from zdy x keptW];refine ite2 (fun q => ⟨zar (by have : (Str.ofString "0").length = 1 := rfl; omega), k _ _ (zac hp _) (zfi g rfl (ya7 q) rfl)⟩) fun q => k _ _ (zac hp _) (zgs g rfl fun z => q (ya9 z))
 ·have r0 := yao (c / 7) (show 8 - pl ≠ 0 by omega);have r1 := yak (c / 7) (show 0 < 8 - pl by omega);generalize c / 7 % (8 - pl) = rr at r0 r1 ⊢;refine ⟨cdiv, by omega, by omega, by omega, ?_⟩;refine zbw (fun i σ H2 => H2 = H /\ ∃ (x : Str) (u : Option V), σ = [some (.int sh), some (.int c), some (.int j), some (.str (Str.ofString "abcdefghijklmnopqrstuvwxyz0123456789")), some (.int pl), some (.str x), u] /\ x.length = i /\ (0 < i -> zfh smallS x.cps.toList)) ⟨rfl, Str.ofString "", _, rfl, by decide +kernel, fun h => absurd h (by decide)⟩ (fun i σ H2 hi hv => ?_) fun σ H2 hv => ?_
  ·obtain ⟨rfl, x, u, rfl, hx, g⟩ := hv;walk_at "";have fin : ∀ z : Nat, z ∈ sofS.cps.toList -> (i = 0 -> z ∈ smallS.cps.toList) -> x.length + ({ cps := #[z] } : Str).length <= sizeLine /\ True /\ ∃ (y : Str) (u' : Option V), ([some (.int sh), some (.int c), some (.int j), some (.str (Str.ofString "abcdefghijklmnopqrstuvwxyz0123456789")), some (.int pl), some (.str (x ++ (⟨#[z]⟩ : Str))), some (.int (0 + (i : Int)))] : St) = [some (.int sh), some (.int c), some (.int j), some (.str (Str.ofString "abcdefghijklmnopqrstuvwxyz0123456789")), some (.int pl), some (.str y), u'] /\ y.length = i + 1 /\ (0 < i + 1 -> zfh smallS y.cps.toList) := fun z hz h0' => by
    have g' := znl hx (by omega) g hz h0';exact ⟨zar (by rw [h1]; omega), trivial, _, _, rfl, g'.1, g'.2⟩
   obtain ⟨z1, e1, q1⟩ := zj2 (x := Str.ofString "abcdefghijklmnopqrstuvwxyz0123456789") (i := sh / 16 + 7 * j) (m := 26) (P := fun c => c ∈ smallS.cps.toList) (by decide) (by rw [l36]; decide) sm;obtain ⟨z2, e2, q2⟩ := zj2 (x := Str.ofString "abcdefghijklmnopqrstuvwxyz0123456789") (i := c / 56) (m := 26) (P := fun c => c ∈ smallS.cps.toList) (by decide) (by rw [l36]; decide) sm;obtain ⟨z3, e3, q3⟩ := zkF (x := Str.ofString "abcdefghijklmnopqrstuvwxyz0123456789") (i := c / 56 + (0 + (i : Int)) * (1 + c % 5)) (P := fun c => c ∈ sofS.cps.toList) (by decide +kernel) (fun _ h => h);refine ite2 (fun a1 => ⟨cdiv, ze2, by decide, zar (by decide +kernel), z1, e1, fin z1 (ss _ q1) fun _ => q1⟩) fun a1 => ite2 (fun a2 => ⟨cdiv, by decide, zar (by decide +kernel), z2, e2, fin z2 (ss _ q2) fun _ => q2⟩) fun a2 => ⟨cdiv, by decide, ze2 ⟨by omega, by omega⟩, by decide, zar (by decide +kernel), z3, e3, fin z3 q3 fun h => absurd h (by omega)⟩
  ·obtain ⟨rfl, x, u, rfl, hx, g⟩ := hv;have g := g (by omega);walk_at "";refine ⟨zar (by decide), fun p hp => ⟨_, .inl (SqL.of zad), rfl, zfg keptW, ?_⟩⟩;rw [show inV (V.str x) [V.str "not", V.str "and", V.str "or", V.str "then", V.str "all", V.str "some", V.str "false"] = decide (x ∈ keptW) from zdy x keptW];refine ite2 (fun q => ⟨zar (by have : (Str.ofString "0").length = 1 := rfl; omega), k _ _ (zac hp _) (zfi g rfl (ya7 q) rfl)⟩) fun q => k _ _ (zac hp _) (zgs g rfl fun z => q (ya9 z))
theorem zdM (T : Tx K mg D) : ∀ d : Nat, FnOk P w K mg Qd CX0 (d + 1) D.a_f4 D.d_f4 ["_law_number", "_law_room", "_law_terms_here", "_law_words"] (zkp K d)
 | 0 => by
  refine T.F_f4.ok sc_f4 (fun vs H Q E h => ?_) (fun cdv A outer s H vs Q E hr h => ?_)
  ·obtain ⟨n, r, tp, wp, ts, ws, rfl, _⟩ := h; rfl
  ·obtain ⟨n, r, tp, wp, ts, ws, rfl, _, h, _⟩ := h;omega
 | d + 1 => by
  have G_f4 := zdM T d;have G_b2 := @zcB P w _ _ Qd _ T;refine T.F_f4.ok sc_f4 (fun vs H Q E h => ?_) (fun cdv A outer s H vs Q E hr h => ?_)
  ·obtain ⟨n, r, tp, wp, ts, ws, rfl, _⟩ := h; rfl
  obtain ⟨n, r, tp, wp, ts, ws, rfl, h0, hrd, hT, hW, hne, Qe, hts, hws3, hws, k⟩ := h;have hu := hr.units;have hr_f4 : Room (d + 1) _ := hr;have hr_b2 : Room 1 _ := hr.mono (by omega);refine ⟨_, (zaf (zap (i := 4) sc_f4.nd (by rfl) (by walk_at "o") (zao zax (pv 0) zab))
  (zaf (zap (i := 5) sc_f4.nd (by rfl) (by walk_at "o") (zao zax (zao (za3 K) (zao zcb (zao za1 (pv 0) zab) zab) zab) zab))
  (zaf (zap (i := 5) sc_f4.nd (by rfl) (by walk_at "o") (zao zax (zao zcb (pv 5) (pv 5)) zab))
  (zaf (za6 (PW.pt (zbz (zan (za9 K hu) (pv 1) zab (zav _)) (zby (zan zct (pv 4) zab (zav _))))) (zaf (zap (i := 6) sc_f4.nd (by rfl) (by walk_at "o") (zaB zae))
  (zaf (zcd PassesOwn.never (by rfl) (zb0 (by rfl) T.z_range (zaa (zao zax (zao za1 (pv 5) zab) zab) zae)) (zaG (i := 7) sc_f4.nd (by rfl) (by walk_at "o"))
   (zaf (zap (i := 5) sc_f4.nd (by rfl) (by walk_at "o") (zao zax (zao (za3 K) (zao zcb (pv 5) zab) zab) zab))
  (zai (zbl (zb1 K yar PySem.F.slot_list_append yaw zaP (pv 6) (zaa (zal (ixA K) (pv 2) (zao zax (zao za1 (pv 5) zab) (zau (zay K) (by rfl) T.z_len yap (zaa (pv 2) zae))) (fun _ _ => rfl)) zae))))))
  (zai (zaq (zaE (zaa zas (zaa (zal (ixA K) (pv 3) (zao zax (zao za1 (pv 0) zab) zab) (fun _ _ => rfl)) (zaa (zaF (zaX K) (by rfl) T.z_tuple (by rfl) (zaa (pv 6) zae)) zae)))))))) zat)
  (zaf (za6 (zan (za9 K hu) (pv 4) zab (zav _)) (zai (zaq (zaE (zaa zas zae)))) zat)
  (zaf (za6 (zan (za9 K hu) (pv 4) zab (zav _)) (zai (zaq (zaE (zaa zas (zaa (YC G_f4 hr_f4 (by rfl) T.m_f4 (zaa (pv 5) (zaa (zao zbU (pv 1) zab) (zaa (pv 2) (zaa (pv 3) zae))))) zae))))) zat)
  (zaf (za6 (zan zct (pv 4) zab (zav _)) (zaf (zap (i := 8) sc_f4.nd (by rfl) (by walk_at "o") (YC G_f4 hr_f4 (by rfl) T.m_f4 (zaa (pv 5) (zaa (zao zbU (pv 1) zab) (zaa (pv 2) (zaa (pv 3) zae))))))
  (zaf (zap (i := 9) sc_f4.nd (by rfl) (by walk_at "o") (YC G_f4 hr_f4 (by rfl) T.m_f4 (zaa (zao zax (zao zcb (pv 5) (pv 5)) zab) (zaa (zao zbU (pv 1) zab) (zaa (pv 2) (zaa (pv 3) zae))))))
  (zai (zaq (zaE (zaa (zal (ixA K) (zaB (zaa zas (zaa zas (zaa zas zae)))) (zao zbU (pv 4) zab) (fun _ _ => rfl)) (zaa (pv 8) (zaa (pv 9) zae)))))))) zat)
  (zaf (zap (i := 10) sc_f4.nd (by rfl) (by walk_at "o") (YC G_b2 hr_b2 (by rfl) T.m_b2 (zaa (zao za1 (pv 5) zab) zae)))
  (zaf (zap (i := 0) sc_f4.nd (by rfl) (by walk_at "o") (zao zax (zao zcb (pv 5) (pv 5)) zab))
  (zai (zaq (zaE (zaa (zal (ixA K) (zaB (zaa zas (zaa zas zae))) (zao zax (pv 5) zab) (fun _ _ => rfl)) (zaa (pv 10) (zaa (YC G_f4 hr_f4 (by rfl) T.m_f4 (zaa (pv 0) (zaa (zao zbU (pv 1) zab) (zaa (zao (za3 K) (pv 2) (zaB (zaa (pv 10) zae))) (zaa (pv 3) zae))))) zae))))))))))))))), ?_⟩
  walk_at "S";rw [ze0, ze1];simp only [↓w_op, ↓w_v0, ↓w_v4, ↓w_v5, ↓w_c, ↓w_rI, ↓zgr, ↓zgq, ↓ze9, ↓zcg, ↓List.set_cons_zero, ↓List.set_cons_succ];refine ⟨by decide, ?_⟩;have k0 := yao n (show (9 : Int) ≠ 0 by decide);have k1 := yak n (show (0 : Int) < 9 by decide);generalize n % 9 = kd at k0 k1 ⊢;rw [ze0, ze1];simp only [↓w_op, ↓w_v0, ↓w_v4, ↓w_v5, ↓w_c, ↓w_rI, ↓zgr, ↓zgq, ↓ze9, ↓zcg, ↓List.set_cons_zero, ↓List.set_cons_succ];refine ⟨cdiv, zkG, by decide, ?_⟩;have a0 := yao (n / 9 * 48271 + 11) (show (2147483647 : Int) ≠ 0 by decide);have a1 := yak (n / 9 * 48271 + 11) (show (0 : Int) < 2147483647 by decide);generalize (n / 9 * 48271 + 11) % 2147483647 = re0 at a0 a1 ⊢;rw [ze0, ze1];simp only [↓w_op, ↓w_v0, ↓w_v4, ↓w_v5, ↓w_c, ↓w_rI, ↓zgr, ↓zgq, ↓ze9, ↓zcg, ↓List.set_cons_zero, ↓List.set_cons_succ];refine ⟨ze2 ⟨by omega, by omega⟩, by decide, ?_⟩;have b0 := yao (re0 * re0) (show (2147483629 : Int) ≠ 0 by decide);have b1 := yak (re0 * re0) (show (0 : Int) < 2147483629 by decide);generalize re0 * re0 % 2147483629 = re at b0 b1 ⊢;refine zbu (c := r = 0 \/ kd < 3) (fun Qb q => ?_) (fun c1 => ?_) fun c1 => zbu (c := kd = 3) (fun Qb q => ?_) (fun c2 => ?_) fun c2 => zbu (c := kd = 4) (fun Qb q => ?_) (fun c3 => ?_) fun c3 => zbu (c := kd < 8) (fun Qb q => ?_) (fun c4 => ?_) fun c4 => ?_
  ·walk_at "";refine ite2 (fun a => ?_) fun a => ?_
   ·rw [ya9 (show r = 0 \/ kd < 3 by omega)] at q; exact q
   ·rw [decide_eq_decide.mpr (show kd < 3 ↔ (r = 0 \/ kd < 3) by omega)]; exact q
  ·walk_at "";have m0 := yao (re / 3) (show (4 : Int) ≠ 0 by decide);have m1 := yak (re / 3) (show (0 : Int) < 4 by decide);generalize re / 3 % 4 = cnt at m0 m1 ⊢;have hlt : 0 < ts.length := List.length_pos_iff.mpr hne;refine ⟨yaq _, fun p hp => ⟨cdiv, by decide, by omega, by omega, ?_⟩⟩;refine zbw (fun i σ H2 => Same H H2 /\ ∃ (re' : Int) (u : Option V) (ts' : List Str), 0 <= re' /\ σ = [some (.int n), some (.int r), some (.ref tp), some (.ref wp), some (.int kd), some (.int re'), some (.ref p), u, none, none, none] /\ H2 p = some (.lst (ts'.map V.str)) /\ ts'.length = i /\ ∀ t ∈ ts', t ∈ ts) ⟨zac hp _, re, _, [], b0, rfl, zad, rfl, by simp⟩ (fun i σ H2 hi hv => ?_) fun σ H2 hv => ?_
   ·obtain ⟨s2, re', u, ts', g0, rfl, hp2, hl', hin⟩ := hv;walk_at "";have tS : SqL K H2 tp (ts.map V.str) := SqL.of (s2 _ _ hT);obtain ⟨z, hz, ez⟩ := zjl (ts := ts) (i := (re' * 69621 + 7) % 2147483587 / 12 % (ts.length : Int)) (yao _ (by omega)) (yak _ (by omega));refine ⟨zkG, by decide, ⟨_, SqL.of hp2⟩, cdiv, _, .inl tS, by rw [yaf]; omega, _, .inl tS, _, by rw [yaf]; exact ez, _, hp2, zaQ (by rw [yaf]; omega), s2.upd hp, _, _, ts' ++ [z], yao _ (by decide), rfl, by rw [zad, ya0]; rfl, by rw [yae, hl']; rfl, fun t ht => ?_⟩;rcases yay.mp ht with q | q
    ·exact hin t q
    ·rw [yah.mp q]; exact hz
   ·obtain ⟨s2, re', u, ts', g0, rfl, hp2, hl', hin⟩ := hv;walk_at "";obtain ⟨z, hz, ez⟩ := zjl (ts := ws) (i := n / 9 % 3) (yao _ (by decide)) (by rw [hws3]; exact yak _ (by decide));refine ⟨cdiv, by decide, _, .inl (s2.seq hW), _, ez, _, .inl ⟨SqL.of hp2, fun l hl2 => ⟨zar (show 3 <= 100000 by decide), fun p3 hp3 => ?_⟩⟩⟩;refine k (.is z ts') _ _ ((s2.trans (zac hl2 _)).trans (zac hp3 _)) ⟨p3, l, rfl, SqT.of zad, (zac hp3 _).seqT (SqT.of zad)⟩ ⟨hws z hz, by omega, fun t ht => hts t (hin t ht)⟩ (by show 1 <= r + 1; omega) hin
  ·walk_at "";exact q
  ·walk_at "";exact ⟨zar (by decide), fun p hp => k .fls _ _ (zac hp _) ⟨p, rfl, SqT.of zad⟩ trivial (by show 1 <= r + 1; omega) (by simp [Stm.fts])⟩
  ·walk_at "";exact q
  ·walk_at "";obtain ⟨r', rfl⟩ : ∃ r', r = r' + 1 := ⟨r - 1, by omega⟩
   refine ⟨re, r', tp, wp, ts, ws, by rw [show ((r' + 1 : Nat) : Int) - 1 = (r' : Int) by omega], b0, by omega, hT, hW, hne, by omega, hts, hws3, hws, fun S v H1 s1 rS hS hd hf => ⟨zar (show 2 <= 100000 by decide), fun p hp => ?_⟩⟩;exact k (.neg S) _ _ (s1.trans (zac hp _)) ⟨p, v, rfl, SqT.of zad, rS.same (zac hp _)⟩ hS (by show S.deep + 1 <= r' + 1 + 1; omega) hf
  ·walk_at "";exact q
  ·walk_at "";obtain ⟨r', rfl⟩ : ∃ r', r = r' + 1 := ⟨r - 1, by omega⟩
   have er : ((r' + 1 : Nat) : Int) - 1 = (r' : Int) := by omega
   rw [er];obtain ⟨o, eo⟩ : ∃ o : Bi, atI [V.str "and", V.str "or", V.str "then"] (kd - 5) = some (.str o.txt) := by
    obtain rfl | rfl | rfl : kd = 5 \/ kd = 6 \/ kd = 7 := by omega
    ·exact ⟨.and, rfl⟩
    ·exact ⟨.or, rfl⟩
    ·exact ⟨.thn, rfl⟩
   refine ⟨re, r', tp, wp, ts, ws, rfl, b0, by omega, hT, hW, hne, by omega, hts, hws3, hws, fun S v H1 s1 rS hS hd hf => ⟨ze2 ⟨by omega, by omega⟩, by decide, ?_⟩⟩;refine ⟨_, r', tp, wp, ts, ws, rfl, yao _ (by decide), by omega, s1 _ _ hT, s1.seq hW, hne, by omega, hts, hws3, hws, fun S2 v2 H2 s2 rS2 hS2 hd2 hf2 => ⟨zar (show 3 <= 100000 by decide), fun p hp => ⟨_, .inl (SqL.of zad), _, eo, zar (show 3 <= 100000 by decide), fun p2 hp2 => ?_⟩⟩⟩;have sq := (zac hp (.lst [V.str "and", V.str "or", V.str "then"])).trans (zac hp2 (.tup [V.str o.txt, v, v2]));refine k (.bi o S S2) _ _ ((s1.trans s2).trans sq) ⟨p2, v, v2, rfl, SqT.of zad, rS.same (s2.trans sq), rS2.same sq⟩ ⟨hS, hS2⟩ (by show max S.deep S2.deep + 1 <= r' + 1 + 1; omega) fun t ht => ?_;rcases yay.mp ht with q | q
   ·exact hf t q
   ·exact hf2 t q
  ·walk_at "";obtain ⟨r', rfl⟩ : ∃ r', r = r' + 1 := ⟨r - 1, by omega⟩
   have er : ((r' + 1 : Nat) : Int) - 1 = (r' : Int) := by omega
   rw [er];obtain ⟨o, eo⟩ : ∃ o : Bool, atI [V.str "all", V.str "some"] (re % 2) = some (.str (qtx o)) := by
    have e0 := yao re (show (2 : Int) ≠ 0 by decide);have e1 := yak re (show (0 : Int) < 2 by decide);generalize re % 2 = x at e0 e1;obtain rfl | rfl : x = 0 \/ x = 1 := by omega
    ·exact ⟨true, rfl⟩
    ·exact ⟨false, rfl⟩
   refine ⟨cdiv, _, rfl, ya2 b0 (by decide), fun X H1 s1 hX => ⟨ze2 ⟨by omega, by omega⟩, by decide, zar (by decide), fun p hp => ⟨by decide, _, .inl (SqL.of zad), _, eo, zar (show 1 <= 100000 by decide), fun p2 hp2 => ?_⟩⟩⟩;have sp := (zac hp (.lst [V.str "all", V.str "some"])).trans (zac hp2 (.lst [V.str X]));refine ⟨ts.map V.str, [V.str X], .inl ⟨sp _ _ (s1 _ _ hT), zad, zar (by rw [yaf]; show ts.length + 1 <= 100000; omega), fun q hq => ?_⟩⟩;refine ⟨_, r', q, wp, ts ++ [X], ws, rfl, yao _ (by decide), by omega, by rw [zad, ya0]; rfl, (s1.trans (sp.trans (zac hq _))).seq hW, by simp, by rw [yae]; show ts.length + 1 + r' <= 100; omega, fun t ht => ?_, hws3, hws, fun S v H2 s2 rS hS hd hf => ⟨zar (show 3 <= 100000 by decide), fun p3 hp3 => ?_⟩⟩
   ·rcases yay.mp ht with h | h
    ·exact hts t h
    ·rw [yah.mp h]; exact .inr hX
   refine k (.qu o X S) _ _ (((s1.trans (sp.trans (zac hq _))).trans s2).trans (zac hp3 _)) ⟨p3, v, rfl, SqT.of zad, rS.same (zac hp3 _)⟩ ⟨hX, hS⟩ (by show S.deep + 1 <= r' + 1 + 1; omega) fun t ht => ?_;obtain ⟨h1, h2⟩ := List.mem_filter.mp ht;rcases yay.mp (hf t h1) with h | h
   ·exact h
   ·exact absurd (yah.mp h) (ya7 h2)
theorem zi0 (T : Tx K mg D) : FnOk P w K mg Qd CX0 2 D.a_f0 D.d_f0 ["_law_script", "_law_at"] (znf K) := by
 have G_c3 := @zbx P w _ _ Qd _ T;have G_b7 := @zfx P w _ _ Qd _ T;refine T.F_f0.ok sc_f0 (fun vs H Q E h => ?_) (fun cdv A outer s H vs Q E hr h => ?_)
 ·obtain ⟨a, ns, n, rfl, _⟩ := h; rfl
 obtain ⟨a, ns, n, rfl, hS, hl, h0, k⟩ := h;have hu := hr.units;have hr_c3 : Room 1 _ := hr.mono (by decide);have hr_b7 : Room 1 _ := hr.mono (by decide);refine ⟨_, (zaf (zap (i := 2) sc_f0.nd (by rfl) (by walk_at "o") (YC G_c3 hr_c3 (by rfl) T.m_c3 (zaa (pv 0) (zaa (pv 1) zae))))
  (zaf (zce (i := 3) 1 [0, 1, 2] ["_law_k", "_law_script", "_law_at", "_law_shape"] sc_f0.nd (by rfl) (by rfl) ⟨by rfl, by rfl, by rfl, by rfl, by rfl, by rfl, by rfl⟩ (by rfl) (zb0 (by rfl) T.z_range (zaa zab zae)) (fun _ _ _ _ => zaG (i := 0) (show List.Nodup (["_law_k", "_law_script", "_law_at", "_law_shape"] : List Str) by decide +kernel) (by rfl) (Or.inl (by rfl)) (Or.inr (by rfl))) (zaO (by decide)) (fun _ _ _ _ => zbZ) (fun _ _ _ _ => (YC G_b7 hr_b7 (by rfl) T.m_b7 (zaa (zao za1 (pv 3) zab) (zaa (YC G_c3 hr_c3 (by rfl) T.m_c3 (zaa (pv 1) (zaa (zao (za3 K) (zao (za3 K) (pv 2) zab) (pv 0)) zae))) (zaa (pv 0) zae))))))
  (zaf (zce (i := 4) 1 [0, 1, 2] ["_law_k", "_law_script", "_law_at", "_law_shape"] sc_f0.nd (by rfl) (by rfl) ⟨by rfl, by rfl, by rfl, by rfl, by rfl, by rfl, by rfl⟩ (by rfl) (zb0 (by rfl) T.z_range (zaa zab zae)) (fun _ _ _ _ => zaG (i := 0) (show List.Nodup (["_law_k", "_law_script", "_law_at", "_law_shape"] : List Str) by decide +kernel) (by rfl) (Or.inl (by rfl)) (Or.inr (by rfl))) (zaO (by decide)) (fun _ _ _ _ => zbZ) (fun _ _ _ _ => (YC G_b7 hr_b7 (by rfl) T.m_b7 (zaa (zao za1 (pv 3) zab) (zaa (YC G_c3 hr_c3 (by rfl) T.m_c3 (zaa (pv 1) (zaa (zao (za3 K) (zao (za3 K) (pv 2) zab) (pv 0)) zae))) (zaa (zao (za3 K) zab (pv 0)) zae))))))
  (zaf (za6 (zan (za9 K hu) (zao zax (pv 2) zab) zab (zav _)) (zai (zlI (zal (ixA K) (pv 3) zab (fun _ _ => rfl)) (zlH (pv 4) zab ziU))) zat)
  (zai (zaq (zaB (zaa (pv 3) (zaa (pv 4) zae))))))))), ?_⟩
 walk_at "S";walk_at "";refine ⟨a, ns, n, rfl, hS, hl, h0, fun sh sh0 sh1 => ?_⟩;walk_at "";have snoc : ∀ (ts : List Str) (x : Str), (∀ t ∈ ts, Nm smallS t) -> Nm smallS x -> ∀ t ∈ ts ++ [x], Nm smallS t := fun ts x h hx t ht => by
  rcases yay.mp ht with q | q
  ·exact h t q
  ·rw [yah.mp q]; exact hx
 refine ⟨by decide, by decide, zcW (fun i acc H2 => Same H H2 /\ ∃ ts : List Str, acc = ts.map V.str /\ ts.length = i /\ ∀ t ∈ ts, Nm smallS t) ⟨Same.refl _, [], rfl, rfl, by simp⟩ (fun i acc H2 hi hv => ?_) fun acc H2 hv np hnp => ?_⟩
 ·obtain ⟨s2, ts, rfl, Qe, hts⟩ := hv;have hi' : i < 3 := hi;refine ⟨zaQ (by rw [yaf]; omega), ?_⟩;walk_at "T";walk_at "";refine ⟨cdiv, a, ns, _, rfl, s2.seq hS, hl, by omega, fun c c0 c1 => ⟨_, _, _, rfl, ya2 sh0 (by decide), c0, by omega, fun x H3 s3 hx => ?_⟩⟩;refine ⟨s2.trans s3, ts ++ [x], by rw [ya0]; rfl, by rw [yae, Qe]; rfl, snoc ts x hts hx⟩
 obtain ⟨s2, nm, rfl, ln, hnm⟩ := hv;have s2' := s2.trans (zac hnp (.lst (nm.map V.str)));refine ⟨by decide, by decide, zcW (fun i acc H3 => Same (upd H2 np (.lst (nm.map V.str))) H3 /\ ∃ ts : List Str, acc = ts.map V.str /\ ts.length = i /\ ∀ t ∈ ts, Nm smallS t) ⟨Same.refl _, [], rfl, rfl, by simp⟩ (fun i acc H3 hi hv => ?_) fun acc H3 hv wp hwp => ?_⟩
 ·obtain ⟨s3, ts, rfl, Qe, hts⟩ := hv;have hi' : i < 3 := hi;refine ⟨zaQ (by rw [yaf]; omega), ?_⟩;walk_at "T";walk_at "";refine ⟨cdiv, a, ns, _, rfl, (s2'.trans s3).seq hS, hl, by omega, fun c c0 c1 => ⟨_, _, _, rfl, ya2 sh0 (by decide), c0, by omega, fun x H4 s4 hx => ?_⟩⟩;refine ⟨s3.trans s4, ts ++ [x], by rw [ya0]; rfl, by rw [yae, Qe]; rfl, snoc ts x hts hx⟩
 obtain ⟨s3, wd, rfl, lw, hwd⟩ := hv;have np3 : H3 np = some (.lst (nm.map V.str)) := s3 _ _ zad;have np4 := zbv (o := .lst (wd.map V.str)) hwp np3;have ln' : nm.length = 3 := ln;have lw' : wd.length = 3 := lw;refine ⟨by decide, ite2 (fun _ => ?_) fun _ => ?_⟩
 ·obtain ⟨z, nm', rfl⟩ : ∃ z nm', nm = z :: nm' := by
   cases nm with
   | nil => simp at ln'
   | cons z nm' => exact ⟨z, nm', rfl⟩
  obtain ⟨w0, wd', rfl⟩ : ∃ z nm', wd = z :: nm' := by
   cases wd with
   | nil => simp at lw'
   | cons z nm' => exact ⟨z, nm', rfl⟩
  walk_at "";refine ⟨_, .inl (SqL.of np4), _, i0, _, 0, zad, zmy (by decide) (by rw [yaf]; omega), zar (show 2 <= 100000 by decide), fun p hp => ?_⟩;rw [zhm] at hp ⊢;refine k p np wp (z :: nm') (z :: wd') _ ((s2'.trans s3).trans ((zac hwp _).trans (zac hp _))) zad (zbv hp (zbv hwp np3)) (zbv hp (by rw [zad]; rfl)) ln' (by simpa using lw') hnm fun t ht => ?_;rcases yau.mp ht with q | q
  ·rw [q]; exact hnm z List.mem_cons_self
  ·exact hwd t (List.mem_cons_of_mem _ q)
 ·refine ⟨zar (show 2 <= 100000 by decide), fun p hp => ?_⟩;exact k p np wp nm wd _ ((s2'.trans s3).trans ((zac hwp _).trans (zac hp _))) zad (zbv hp np4) (zbv hp zad) ln' lw' hnm hwd
def zls (K : W.Frag) : Sp := fun vs H Q _ => ∃ (a p np wp : Addr) (ns : List Int) (n c : Int) (nm wd : List Str), vs = [.ref a, .int n, .ref p, .int c] /\ SqL K H a (ns.map V.int) /\ ns.length <= 63 /\ 0 <= n /\ 0 <= c /\ c <= 10 /\
 H p = some (.lst [.ref np, .ref wp]) /\ H np = some (.lst (nm.map V.str)) /\ H wp = some (.lst (wd.map V.str)) /\ (1 <= nm.length /\ nm.length <= 3) /\ wd.length = 3 /\ (∀ t ∈ nm, Nm smallS t) /\ (∀ t ∈ wd, Nm smallS t) /\
 ∀ (q : Addr) (Ss : List Stm) (us : List V) H', Same H H' -> H' q = some (.lst us) -> RepL K H' Ss us -> Ss.length = c.toNat -> (∀ S ∈ Ss, StOk 5 S) -> Q (.ref q) H'
theorem zi1 (T : Tx K mg D) : FnOk P w K mg Qd CX0 10 D.a_e7 D.d_e7 ["_law_script", "_law_at", "_law_drawn", "_law_count"] (zls K) := by
 have G_c3 := @zbx P w _ _ Qd _ T;have G_f4 := zdM (P := P) (w := w) (Qd := Qd) T 5;refine T.F_e7.ok sc_e7 (fun vs H Q E h => ?_) (fun cdv A outer s H vs Q E hr h => ?_)
 ·obtain ⟨a, p, np, wp, ns, n, c, nm, wd, rfl, _⟩ := h; rfl
 obtain ⟨a, p, np, wp, ns, n, c, nm, wd, rfl, hS, hl, h0, c0, c1, hp, hnp, hwp, ln, lw, hnm, hwd, k⟩ := h;have hu := hr.units;have hr_c3 : Room 1 _ := hr.mono (by decide);have hr_f4 : Room 6 _ := hr.mono (by decide);refine ⟨_, (zaf (zap (i := 4) sc_e7.nd (by rfl) (by walk_at "o") (zaB zae))
  (zaf (zcd PassesOwn.never (by rfl) (zb0 (by rfl) T.z_range (zaa (pv 3) zae)) (zaG (i := 5) sc_e7.nd (by rfl) (by walk_at "o"))
   (zaf (zap (i := 6) sc_e7.nd (by rfl) (by walk_at "o") (YC G_c3 hr_c3 (by rfl) T.m_c3 (zaa (pv 0) (zaa (zao (za3 K) (pv 1) (pv 5)) zae))))
  (zai (zbl (zb1 K yar PySem.F.slot_list_append yaw zaP (pv 4) (zaa (YC G_f4 hr_f4 (by rfl) T.m_f4 (zaa (zao zax (pv 6) (zao (za3 K) (zao zjX zab zab) zab)) (zaa (zao (za3 K) zab (zao zax (pv 6) zab)) (zaa (zal (ixA K) (pv 2) zab (fun _ _ => rfl)) (zaa (zal (ixA K) (pv 2) zab (fun _ _ => rfl)) zae))))) zae))))))
  (zai (zaq (pv 4))))), ?_⟩
 walk_at "S";walk_at "";refine ⟨yaq _, fun q hq => ⟨by omega, by omega, ?_⟩⟩;refine zbw (fun i σ H2 => Same H H2 /\ ∃ (Ss : List Stm) (us : List V) (u u2 : Option V), σ = [some (V.ref a), some (V.int n), some (V.ref p), some (V.int c), some (V.ref q), u, u2] /\ H2 q = some (.lst us) /\ RepL K H2 Ss us /\ Ss.length = i /\ ∀ S ∈ Ss, StOk 5 S) ⟨zac hq _, [], [], _, _, rfl, zad, Paired.nil, rfl, by simp⟩ (fun i σ H2 hi hv => ?_) fun σ H2 hv => ?_
 ·obtain ⟨s2, Ss, us, u, u2, rfl, hq2, hR, Qe, hSs⟩ := hv;walk_at "";refine ⟨a, ns, _, rfl, s2.seq hS, hl, by omega, fun m m0 m1 => ?_⟩;walk_at "";have e0 := yao m (show (4 : Int) ≠ 0 by decide);have e1 := yak m (show (0 : Int) < 4 by decide);generalize m % 4 = md at e0 e1 ⊢;have hp2 : SqL K H2 p [V.ref np, V.ref wp] := SqL.of (s2 _ _ hp);refine ⟨⟨_, SqL.of hq2⟩, ⟨by decide, by decide, by decide⟩, by decide, by decide, _, .inl hp2, _, i0, _, .inl hp2, _, i1, _, (1 + md).toNat, np, wp, nm, wd, by rw [show ((1 + md).toNat : Int) = 1 + md by omega], yao _ (by decide), by omega, s2 _ _ hnp, SqL.of (s2 _ _ hwp), ?_, by omega, fun t ht => .inl (hnm t ht), lw, hwd, fun S v H3 s3 rS hS hd hf => ?_⟩
  ·intro z; rw [z] at ln; exact absurd ln.1 (by decide)
  ·have hq3 := s3 _ _ hq2;have hlu := Paired.length hR;refine ⟨us, hq3, zaQ (by omega), (s2.trans s3).upd hq, Ss ++ [S], us ++ [v], _, _, rfl, zad, RepL.snoc (RepL.keepL hq3 (hR.same s3)) (rS.keepL hq3), by rw [yae, Qe]; rfl, fun S' hS' => ?_⟩;rcases yay.mp hS' with z | z
   ·exact hSs S' z
   ·rw [yah.mp z]; exact ⟨hS, by omega, fun t ht => hnm t (hf t ht)⟩
 ·obtain ⟨s2, Ss, us, u, u2, rfl, hq2, hR, Qe, hSs⟩ := hv;walk_at "";exact k q Ss us H2 s2 hq2 hR Qe hSs
theorem zaw {a b : TS} {Dd : Ends} {σ : St} {H : Hp} (R : St -> Hp -> Prop) (ha : ∀ N : St -> Hp -> Prop, (∀ σ' H', R σ' H' -> N σ' H') -> a { Dd with nx := N } σ H) (hb : ∀ σ' H', R σ' H' -> b Dd σ' H') : tSeq a b Dd σ H := ha _ hb
theorem zg3 (T : Tx K mg D) : FnOk P w K mg Qd CX0 1 D.a_g1 D.d_g1 ["A"] (zkI K) := by
 refine T.F_g1.ok zj9 (fun vs H Q E h => ?_) (fun cdv A outer s H vs Q E hr h => ?_)
 ·obtain ⟨v, S, rfl, _⟩ := h; rfl
 obtain ⟨v, S, rfl, rS, k⟩ := h;have hu := hr.units;refine ⟨_, (zaf (za6 (zan (za9 K hu) (zal (ixA K) (pv 0) zab (fun _ _ => rfl)) zas (zav _)) (zai (zaq (zaE zae))) zat)
  (zaf (za6 (zan (zcy K) (zal (ixA K) (pv 0) zab (fun _ _ => rfl)) (T.g_QUANTIFIERS (by rfl)) (by rfl)) (zai (zaq (zaE (zaa (zal (ixA K) (pv 0) zab (fun _ _ => rfl)) zae)))) zat)
  (zai (zaq (zaR (slB K) (pv 0) (zbe zab) zbd))))), ?_⟩
 walk_at "S";cases S with
 | is x ts =>
  obtain ⟨a, b, rfl, h2, h3⟩ := rS;walk_at "";refine ⟨_, .inr h2, _, i0, ?_⟩;walk_at "";refine ⟨(by show 0 <= sizeLine; decide), fun p hp => k p [] _ (zac hp _) (SqT.of zad) .nil⟩
 | fls =>
  obtain ⟨a, rfl, h2⟩ := rS;walk_at "";refine ⟨_, .inr h2, _, i0, ?_⟩;walk_at "";rw [if_neg (by decide +kernel)];refine ⟨_, .inr h2, _, i0, ?_⟩;walk_at "t";refine ⟨_, .inr (T.q_QUANTIFIERS _), rfl, by decide, ?_⟩;rw [if_neg (by decide +kernel)];exact ⟨_, .inr ⟨h2, fun p H1 s1 q1 => k p _ _ s1 q1 .nil⟩⟩
 | neg B =>
  obtain ⟨a, u, rfl, h2, h3⟩ := rS;walk_at "";refine ⟨_, .inr h2, _, i0, ?_⟩;walk_at "";rw [if_neg (by decide +kernel)];refine ⟨_, .inr h2, _, i0, ?_⟩;walk_at "t";refine ⟨_, .inr (T.q_QUANTIFIERS _), rfl, by decide, ?_⟩;rw [if_neg (by decide +kernel)];exact ⟨_, .inr ⟨h2, fun p H1 s1 q1 => k p _ _ s1 q1 (.cons (h3.same s1) .nil)⟩⟩
 | bi o B C =>
  obtain ⟨a, u, u', rfl, h2, h3, h4⟩ := rS;walk_at "";refine ⟨_, .inr h2, _, i0, ?_⟩;walk_at "";rw [if_neg (zgT o)];refine ⟨_, .inr h2, _, i0, ?_⟩;walk_at "t";refine ⟨_, .inr (T.q_QUANTIFIERS _), rfl, by decide, ?_⟩;rw [zci, if_neg (by decide)];exact ⟨_, .inr ⟨h2, fun p H1 s1 q1 => k p _ _ s1 q1 (.cons (h3.same s1) (.cons (h4.same s1) .nil))⟩⟩
 | qu q X B =>
  obtain ⟨a, u, rfl, h2, h3⟩ := rS;walk_at "";refine ⟨_, .inr h2, _, i0, ?_⟩;walk_at "";rw [if_neg (zgU q)];refine ⟨_, .inr h2, _, i0, ?_⟩;walk_at "t";refine ⟨_, .inr (T.q_QUANTIFIERS _), rfl, by decide, ?_⟩;rw [zdz, if_pos rfl];refine ⟨_, .inr h2, _, i2, (by show 1 <= sizeLine; decide), fun p hp => k p _ _ (zac hp _) (SqT.of zad) (.cons (h3.same (zac hp _)) .nil)⟩
theorem zdc : ∀ {S : Stm}, S.Ok -> S.fts.length <= 3 * 2 ^ S.deep
 | .is w ts, h => by show ts.length <= 6; have := h.2.1; omega
 | .fls, _ => yaq _
 | .neg A, h => by
  have h1 := zdc (S := A) h;show A.fts.length <= 3 * 2 ^ (A.deep + 1);rw [Nat.pow_succ]; omega
 | .bi _ A B, h => by
  have h1 := zdc (S := A) h.1;have h2 := zdc (S := B) h.2;show (A.fts ++ B.fts).length <= 3 * 2 ^ (max A.deep B.deep + 1);have p1 : 2 ^ A.deep <= 2 ^ max A.deep B.deep := Nat.pow_le_pow_right (by decide) (Nat.le_max_left _ _);have p2 : 2 ^ B.deep <= 2 ^ max A.deep B.deep := Nat.pow_le_pow_right (by decide) (Nat.le_max_right _ _);rw [yae, Nat.pow_succ]; omega
 | .qu _ X A, h => by
  have h1 := zdc (S := A) h.2;have h2 := List.length_filter_le (fun t => decide (t ≠ X)) A.fts;show (A.fts.filter fun t => decide (t ≠ X)).length <= 3 * 2 ^ (A.deep + 1);rw [Nat.pow_succ]; omega
def zor (K : W.Frag) (d : Nat) : Sp := fun vs H Q _ => ∃ v S, vs = [v] /\ RepS K H S v /\ S.Ok /\ S.deep <= d /\ d <= 12 /\ ∀ p H', Same H H' -> H' p = some (.lst (S.fts.map V.str)) -> Q (.ref p) H'
theorem zcv (T : Tx K mg D) : ∀ d : Nat, FnOk P w K mg Qd CX0 (d + 2) D.a_a7 D.d_a7 ["A"] (zor K d)
 | 0 => by
  refine T.F_a7.ok sc_a7 (fun vs H Q E h => ?_) (fun cdv A outer s H vs Q E hr h => ?_)
  ·obtain ⟨v, S, rfl, _⟩ := h; rfl
  ·obtain ⟨v, S, rfl, _, _, h, _⟩ := h;have := S.deep_pos;omega
 | d + 1 => by
  have G_g1 := @zg3 P w _ _ Qd _ T;have G_a7 := zcv T d;refine T.F_a7.ok sc_a7 (fun vs H Q E h => ?_) (fun cdv A outer s H vs Q E hr h => ?_)
  ·obtain ⟨v, S, rfl, _⟩ := h; rfl
  obtain ⟨v, S, rfl, rS, hOk, hd, hd12, k⟩ := h;have hu := hr.units;have hr_g1 : Room 1 _ := hr.mono (by omega);have hr_a7 : Room (d + 2) _ := hr;refine ⟨_, (zaf (za6 (zan (za9 K hu) (zal (ixA K) (pv 0) zab (fun _ _ => rfl)) zas (zav _)) (zai (zaq (zaF (zcY K) (by rfl) T.z_list (by rfl) (zaa (zal (ixA K) (pv 0) zab (fun _ _ => rfl)) zae)))) zat)
  (zaf (zap (i := 1) sc_a7.nd (by rfl) (by walk_at "o") (zaB zae))
  (zaf (zcd PassesOwn.never (by rfl) (zbF K (YC G_g1 hr_g1 (by rfl) T.m_g1 (zaa (pv 0) zae))) (zaG (i := 2) sc_a7.nd (by rfl) (by walk_at "o"))
   (zai (zbl (zb1 K yar PySem.F.slot_list_extend PySem.F.type_list_extend zen (pv 1) (zaa (YC G_a7 hr_a7 (by rfl) T.m_a7 (zaa (pv 2) zae)) zae)))))
  (zaf (za6 (zan (zcy K) (zal (ixA K) (pv 0) zab (fun _ _ => rfl)) (T.g_QUANTIFIERS (by rfl)) (by rfl)) (zai (zaq (zca 1 [0] ["term", "A"] ⟨by rfl, by rfl, by rfl, by rfl, by rfl, by rfl, by rfl⟩ (by rfl) (zbF K (pv 1)) (fun _ _ _ _ => zaG (i := 0) (show List.Nodup (["term", "A"] : List Str) by decide +kernel) (by rfl) (Or.inl (by rfl)) (Or.inr (by rfl))) (zaO (by decide)) (fun _ _ _ _ => zdC (zan (zhO hu) (pv 0) (zal (ixA K) (pv 1) zab (fun _ _ => rfl)) (zav _))) (fun _ _ _ _ => (pv 0))))) zat)
  (zai (zaq (pv 1))))))), ?_⟩
  walk_at "S";obtain ⟨a, xs0, ev, h2⟩ := rS.tag;subst ev;refine zbu (c := S.tag = "is") (fun Qb q => ?_) (fun c1 => ?_) fun c1 => ?_
  ·walk_at "";exact ⟨_, .inr h2, _, i0, by rw [zhY]; exact ⟨_, rfl, q⟩⟩
  ·cases S with
   | is x ts =>
    obtain ⟨a', b, e', h2', h3⟩ := rS;cases e';walk_at "";refine ⟨_, .inr h2', _, i2, ?_⟩;walk_at "";exact ⟨_, .inr h3, fun l hl => k l _ (zac hl _) zad⟩
   | fls => exact absurd c1 (show ¬ (Str.ofString "false" = Str.ofString "is") by decide +kernel)
   | neg B => exact absurd c1 (show ¬ (Str.ofString "not" = Str.ofString "is") by decide +kernel)
   | bi o B C => exact absurd c1 (zgT o)
   | qu o X B => exact absurd c1 (zgU o)
  ·have Qe := zdc hOk;have hpw : 2 ^ S.deep <= 2 ^ 12 := Nat.pow_le_pow_right (by decide) (by omega);have small : ∀ {B : Stm}, B.Ok -> B.deep <= d + 1 -> B.fts.length <= 12288 := fun {B} hB hd' => by
    have h1 := zdc hB;have h2 : 2 ^ B.deep <= 2 ^ 12 := Nat.pow_le_pow_right (by decide) (by omega);omega
   have pOk : ∀ B ∈ S.parts, B.Ok /\ B.deep <= d := by
    cases S with
    | is x ts => intro B h; cases h
    | fls => intro B h; cases h
    | neg C => intro B h; rw [yah.mp h]; exact ⟨hOk, by have : C.deep + 1 <= d + 1 := hd; omega⟩
    | bi o C C' =>
     intro B h;have : max C.deep C'.deep + 1 <= d + 1 := hd;rcases yau.mp h with rfl | h
     ·exact ⟨hOk.1, by omega⟩
     ·rw [yah.mp h]; exact ⟨hOk.2, by omega⟩
    | qu o X C => intro B h; rw [yah.mp h]; exact ⟨hOk.2, by have : C.deep + 1 <= d + 1 := hd; omega⟩
   have pLen : S.parts.length <= 2 := by cases S <;> simp [Stm.parts]
   refine zaw (fun σ2 H2 => ∃ p, H p = none /\ H2 = upd H p (.lst []) /\ σ2 = [some (V.ref a), some (V.ref p), none]) (fun N hN => ?_) fun σ2 H2 hv => ?_
   ·walk_at "";exact ⟨yaq _, fun p hp => hN _ _ ⟨p, hp, rfl, rfl⟩⟩
   obtain ⟨p, hp, rfl, rfl⟩ := hv;refine zaw (fun σ2 H2 => Same H H2 /\ H2 p = some (.lst ((S.parts.flatMap Stm.fts).map V.str)) /\ ∃ u, σ2 = [some (V.ref a), some (V.ref p), u]) (fun N hN => ?_) fun σ2 H2 hv => ?_
   ·walk_at "";refine ⟨_, S, rfl, rS.same (zac hp _), fun q us H1 s1 hq hR => ?_⟩;walk_at "t";have s01 := (zac hp (.lst [])).trans s1;have hul := Paired.length hR;refine .inr ⟨⟨_, hq⟩, zez (xs := us) (fun i σ2 H2 => Same H H2 /\ SqT K H2 q us /\ RepL K H2 S.parts us /\ ∃ (u : Option V), σ2 = [some (V.ref a), some (V.ref p), u] /\ H2 p = some (.lst (((S.parts.take i).flatMap Stm.fts).map V.str)) /\ ((S.parts.take i).flatMap Stm.fts).length <= 12288 * i) ⟨s01, hq, hR, _, rfl, s1 _ _ zad, by simp⟩ (fun i σ2 H2 _ hv => hv.2.1) (fun i x σ2 H2 hx hv => ?_) fun σ2 H2 hv => ?_⟩
    ·obtain ⟨s2, hq2, hR2, u, rfl, hp2, hle⟩ := hv;obtain ⟨B, eB, rB⟩ := hR2.get hx;have hB := pOk B (ya1 eB);have hi : i < S.parts.length := (yag.mp eB).1;have sB := small hB.1 (by omega);walk_at "";refine ⟨⟨_, SqL.of hp2⟩, _, B, rfl, rB, hB.1, hB.2, by omega, fun p3 H3 s3 h3 => ?_⟩;have e1 : S.parts.take (i + 1) = S.parts.take i ++ [B] := by
      rw [List.take_succ, eB]; rfl
     have e2 : (S.parts.take (i + 1)).flatMap Stm.fts = (S.parts.take i).flatMap Stm.fts ++ B.fts := by
      rw [e1, List.flatMap_append]; simp
     walk_at "t";refine ⟨_, _, s3 _ _ hp2, h3, zar (by rw [yaf, yaf]; omega), (s2.trans s3).upd hp, (s3.seqT hq2).keepL (s3 _ _ hp2), RepL.keepL (s3 _ _ hp2) (hR2.same s3), _, rfl, ?_, ?_⟩
     ·rw [zad, e2, ya0]
     ·rw [e2, yae]; omega
    ·obtain ⟨s2, hq2, hR2, u, rfl, hp2, hle⟩ := hv;rw [<- hul, List.take_length] at hp2;exact hN _ _ ⟨s2, hp2, u, rfl⟩
   obtain ⟨s2, hp2, u, rfl⟩ := hv;have h2' := s2.seqT h2;cases S with
   | is x ts => exact absurd rfl c1
   | fls =>
    walk_at "";refine ⟨_, .inr h2', _, i0, ?_⟩;walk_at "t";refine ⟨_, .inr (T.q_QUANTIFIERS _), rfl, by decide, ?_⟩;rw [if_neg (by decide +kernel)];exact k p _ s2 hp2
   | neg B =>
    walk_at "";refine ⟨_, .inr h2', _, i0, ?_⟩;walk_at "t";refine ⟨_, .inr (T.q_QUANTIFIERS _), rfl, by decide, ?_⟩;rw [show B.neg.tag = Str.ofString "not" from rfl, if_neg (show ¬ inV (V.str (Str.ofString "not")) [V.str (Str.ofString "all"), V.str (Str.ofString "some")] = true by decide +kernel)];exact k p _ s2 (by rw [hp2]; simp [Stm.parts, Stm.fts])
   | bi o B C =>
    walk_at "";refine ⟨_, .inr h2', _, i0, ?_⟩;walk_at "t";refine ⟨_, .inr (T.q_QUANTIFIERS _), rfl, by decide, ?_⟩;rw [show (Stm.bi o B C).tag = o.txt from rfl, zci, if_neg (by decide)];exact k p _ s2 (by rw [hp2]; simp [Stm.parts, Stm.fts])
   | qu o X B =>
    obtain ⟨a', u', e', h3, rB⟩ := rS;cases e';walk_at "";refine ⟨_, .inr h2', _, i0, ?_⟩;walk_at "t";refine ⟨_, .inr (T.q_QUANTIFIERS _), rfl, by decide, ?_⟩;rw [show (Stm.qu o X B).tag = qtx o from rfl, zdz, if_pos rfl];have hp3 : H2 p = some (.lst (B.fts.map V.str)) := by rw [hp2]; simp [Stm.parts]
    have hBl : B.fts.length <= 12288 := small hOk.2 (by have : B.deep + 1 <= d + 1 := hd; omega);refine .inl ⟨⟨_, SqL.of hp3⟩, zcL (xs := B.fts.map V.str) (fun i acc H3 => H3 = H2 /\ acc = ((B.fts.take i).filter fun t => decide (t ≠ X)).map V.str) ⟨rfl, rfl⟩ (fun i acc H3 _ hv => hv.1 ▸ SqL.of hp3) (fun i x acc H3 hx hv => ?_) fun acc H3 hv p3 h3' => ?_⟩
    ·obtain ⟨rfl, rfl⟩ := hv;rw [yav] at hx;cases e : B.fts[i]? with
     | none => rw [e] at hx; cases hx
     | some y =>
      rw [e] at hx;cases hx;have hfl := List.length_filter_le (fun t => decide (t ≠ X)) (B.fts.take i);have htl := List.length_take_le i B.fts;have htl' := List.length_take_le' i B.fts;have e1 : B.fts.take (i + 1) = B.fts.take i ++ [y] := by rw [List.take_succ, e]; rfl
      refine ⟨zaQ (by rw [yaf]; omega), ?_⟩;walk_at "T";walk_at "";refine ⟨_, .inr (s2.seqT h3), _, i1, ?_⟩;walk_at "t";rw [e1, List.filter_append, ya0];refine ite2 (fun q => ⟨trivial, ?_⟩) fun q => ⟨trivial, ?_⟩
      ·rw [List.filter_cons, if_pos (ya9 q)]; rfl
      ·rw [List.filter_cons, if_neg (by simpa using q)]; simp
    ·obtain ⟨rfl, rfl⟩ := hv;refine k p3 _ (s2.trans (zac h3' _)) ?_;rw [zad, yaf, List.take_length]
     rfl
def sof : Str := "abcdefghijklmnopqrstuvwxyz0123456789"
def zcC (x : Str) : Bool := (Txt.slice x (some 1) none).cps.toList.all fun c => inS ⟨#[c]⟩ sof
def base (x f : Str) : Bool := if x = "" then false else if (8 : Int) < x.length then false else if inS ⟨#[x.cps.toList.headD 0]⟩ f then zcC x else false
def zlt : List V := [V.str "not", V.str "and", V.str "or", V.str "then", V.str "all", V.str "some", V.str "false"]
theorem zfR {x : Str} (h : ¬ x = "") : atI x.cps.toList 0 = some (x.cps.toList.headD 0) := by
 have e : x.cps.toList ≠ [] := fun e => h (by
  obtain ⟨c⟩ := x;have : c = #[] := by simpa using e
  subst this
  rfl)
 cases q : x.cps.toList with
 | nil => exact absurd q e
 | cons c r => exact zag (j := 0) rfl
def znm : Sp := fun vs H Q _ => ∃ x f, vs = [.str x, .str f] /\ x.length <= 1000 /\ ∀ H', Same H H' -> Q (.bl (base x f)) H'
def sp1 (r : Str -> Bool) : Sp := fun vs H Q _ => ∃ x, vs = [.str x] /\ x.length <= 1000 /\ ∀ H', Same H H' -> Q (.bl (r x)) H'
theorem zfy (T : Tx K mg D) : FnOk P w K mg Qd CX0 1 D.a_a0 D.d_a0 ["text", "first_signs"] znm := by
 refine T.F_a0.ok zc2 (fun vs H Q E h => ?_) (fun cdv A outer s H vs Q E hr h => ?_)
 ·obtain ⟨x, f, rfl, _⟩ := h; rfl
 obtain ⟨x, f, rfl, hx, k⟩ := h;have hu := hr.units;refine ⟨_, (zaf (za6 (PW.pt (zbz (zan (za9 K hu) (pv 0) zas (zav _)) (zbz (zan zlP (zau (zay K) (by rfl) T.z_len yap (zaa (pv 0) zae)) (T.g_MOST_SIGNS (by rfl)) (zav _)) (zby (zan (zbV K) (zal (ixA K) (pv 0) zab (fun _ _ => rfl)) (pv 1) (by rfl)))))) (zai (zaq zcI)) zat)
  (zai (zaq (zau (zdD K (by rfl)) (by rfl) T.z_all (by rfl) (zaa (zca 1 [] ["sign"] ⟨by rfl, by rfl, by rfl, by rfl, by rfl, by rfl, by rfl⟩ (by rfl) (zbF K (zaR (slB K) (pv 0) (zbe zab) zbd)) (fun _ _ _ _ => zaG (i := 0) (show List.Nodup (["sign"] : List Str) by decide +kernel) (by rfl) (Or.inl (by rfl)) (Or.inr (by rfl))) (zaO (by decide)) (fun _ _ _ _ => zbZ) (fun _ _ _ _ => (zaH (zcy K) (pv 0) (T.g_SMALL_OR_FIGURE (by rfl)) (by rfl)))) zae))))), ?_⟩
 walk_at "S";walk_at "";have hz : x.length <= sizeLine := zar (by omega);have kf : base x f = false -> Q (.bl false) H := fun e => by have q := k H (Same.refl H); rw [e] at q; exact q
 refine ite2 (fun c => kf (by unfold base; rw [if_pos c])) fun c => ⟨hz, ite2 (fun c2 => kf (by unfold base; rw [if_neg c, if_pos c2])) fun c2 => ⟨hz, _, zfR c, ?_⟩⟩
 refine ite2 (fun c3 => kf (by unfold base; rw [if_neg c, if_neg c2, if_neg (by rw [c3]; exact yam)])) fun c3 => ⟨hz, ?_⟩
 have c3' : inS ⟨#[x.cps.toList.headD 0]⟩ f = true := by simpa using c3
 have hb : base x f = zcC x := by unfold base; rw [if_neg c, if_neg c2, if_pos c3']
 have Qe : (Txt.slice x (some 1) none).cps.toList.length <= 1000 := yat (Nat.le_of_eq (by simp [Str.length])) (yat (Txt.slice_le x (some 1) none) hx);refine zgo (fun i acc H2 => H2 = H /\ acc = ((Txt.slice x (some 1) none).cps.toList.take i).map fun c => V.bl (inS ⟨#[c]⟩ sof)) ⟨rfl, by simp⟩ (fun i c acc H2 hi hp => ?_) fun acc H2 hp p hn => ?_
 ·obtain ⟨rfl, rfl⟩ := hp;have hil : i < (Txt.slice x (some 1) none).cps.toList.length := (yag.mp hi).1;refine ⟨zaQ (by rw [yaf, ya3]; omega), ?_⟩;simp only [zaI, List.replicate_succ, List.replicate_zero, List.map_nil, List.nil_append, List.cons_append];walk_at "";refine ⟨trivial, ?_⟩;rw [yaz, hi];simp [sof]
 ·obtain ⟨rfl, rfl⟩ := hp;walk_at "";refine ⟨(Txt.slice x (some 1) none).cps.toList.map fun c => inS ⟨#[c]⟩ sof, SqL.of (by rw [zad, List.take_of_length_le (yai _), List.map_map]; rfl), ?_⟩;have q := k _ (zac hn (.lst (((Txt.slice x (some 1) none).cps.toList.take (Txt.slice x (some 1) none).cps.toList.length).map fun c => V.bl (inS ⟨#[c]⟩ sof))));rw [hb] at q;have e : ((Txt.slice x (some 1) none).cps.toList.map fun c => inS ⟨#[c]⟩ sof).all id = zcC x := by unfold zcC; rw [List.all_map]; rfl
  rw [e];exact q
theorem zi2 (T : Tx K mg D) : FnOk P w K mg Qd CX0 2 D.a_c2 D.d_c2 ["text"] (sp1 fun x => base x "ABCDEFGHIJKLMNOPQRSTUVWXYZ") := by
 have G_a0 := @zfy P w _ _ Qd _ T;refine T.F_c2.ok zfu (fun vs H Q E h => ?_) (fun cdv A outer s H vs Q E hr h => ?_)
 ·obtain ⟨x, rfl, _⟩ := h; rfl
 obtain ⟨x, rfl, hx, k⟩ := h;have hu := hr.units;have hr_a0 : Room 1 _ := hr.mono (by decide);refine ⟨_, (zai (zaq (YC G_a0 hr_a0 (by rfl) T.m_a0 (zaa (pv 0) (zaa (T.g_GREAT (by rfl)) zae))))), ?_⟩;walk_at "S";walk_at "";exact ⟨x, _, rfl, hx, k⟩
def zlu (K : W.Frag) : Sp := fun vs H Q _ => ∃ v S, vs = [v] /\ RepS K H S v /\ StOk 10 S /\ ∀ p H', Same H H' -> SqT K H' p [] -> Q (.ref p) H'
theorem zhh {y : Str} (h : Nm smallS y) : base y "ABCDEFGHIJKLMNOPQRSTUVWXYZ" = false := by
 obtain ⟨c, r, e, h1, _⟩ := h;have hc : ∀ c ∈ smallS.cps.toList, inS ⟨#[c]⟩ "ABCDEFGHIJKLMNOPQRSTUVWXYZ" = false := by decide +kernel
 unfold base;rw [show y.cps.toList.headD 0 = c by rw [e]; rfl, hc c h1]
 split
 ·rfl
 ·split <;> rfl
theorem zhi (T : Tx K mg D) : FnOk P w K mg Qd CX0 20 D.a_e2 D.d_e2 ["A"] (zlu K) := by
 have G_c2 := @zi2 P w _ _ Qd _ T;have G_a7 := zcv (P := P) (w := w) (Qd := Qd) T 10;refine T.F_e2.ok zhf (fun vs H Q E h => ?_) (fun cdv A outer s H vs Q E hr h => ?_)
 ·obtain ⟨v, S, rfl, _⟩ := h; rfl
 obtain ⟨v, S, rfl, rS, oS, k⟩ := h;have hu := hr.units;have hr_c2 : Room 2 _ := hr.mono (by decide);have hr_a7 : Room 12 _ := hr.mono (by decide);refine ⟨_, (zai (zaq (zaF (zaX K) (by rfl) T.z_tuple (by rfl) (zaa (zau (zdp P w K (by rfl)) (by rfl) T.z_sorted (by rfl) (zaa (zaF (zfr P w K (by rfl)) (by rfl) T.z_set (by rfl) (zaa (zca 1 [] ["term"] ⟨by rfl, by rfl, by rfl, by rfl, by rfl, by rfl, by rfl⟩ (by rfl) (zbF K (YC G_a7 hr_a7 (by rfl) T.m_a7 (zaa (pv 0) zae))) (fun _ _ _ _ => zaG (i := 0) (show List.Nodup (["term"] : List Str) by decide +kernel) (by rfl) (Or.inl (by rfl)) (Or.inr (by rfl))) (zaO (by decide)) (fun _ _ _ _ => zdC (zbm (YC G_c2 hr_c2 (by rfl) T.m_c2 (zaa (pv 0) zae)))) (fun _ _ _ _ => (pv 0))) zae)) zae)) zae)))), ?_⟩;walk_at "S";walk_at "";refine ⟨v, S, rfl, rS, oS.1, oS.2.1, by decide, fun p H1 s1 hp => ?_⟩;walk_at "t";refine .inl ⟨⟨_, SqL.of hp⟩, zcL (xs := S.fts.map V.str) (fun i acc H2 => Same H1 H2 /\ acc = []) ⟨Same.refl _, rfl⟩ (fun i acc H2 _ hv => SqL.of (hv.1 _ _ hp)) (fun i x acc H2 hx hv => ?_) fun acc H2 hv p2 h2 => ?_⟩
 ·obtain ⟨s2, rfl⟩ := hv;rw [yav] at hx;cases e : S.fts[i]? with
  | none => rw [e] at hx; cases hx
  | some y =>
   rw [e] at hx;cases hx;have hy := oS.2.2 y (ya1 e);have hy8 := hy.len.1;refine ⟨Nat.lt_of_le_of_lt (yaq _) (show 0 < sizeLine by decide), ?_⟩;walk_at "T";walk_at "";refine ⟨y, rfl, by omega, fun H3 s3 => ?_⟩;show ∃ k, V.bl (base y "ABCDEFGHIJKLMNOPQRSTUVWXYZ") = V.bl k /\ _;rw [zhh hy];exact ⟨false, rfl, s2.trans s3, trivial⟩
 ·obtain ⟨s2, rfl⟩ := hv;walk_at "t";refine ⟨[], SqL.of zad, by decide, fun So us h3 _ hl _ => ?_⟩;have hus : us = [] := List.length_eq_zero_iff.mp (by simpa using hl);subst hus;walk_at "t";refine ⟨[], .inl zad, by decide, fun l vs h4 _ hperm => ?_⟩;have hvs : vs = [] := hperm.eq_nil;subst hvs;walk_at "t";refine ⟨_, .inl ⟨SqL.of zad, fun l2 h5 => k l2 _ ((s1.trans s2).trans (((zac h2 _).trans (zac h3 _)).trans ((zac h4 _).trans (zac h5 _)))) (SqT.of zad)⟩⟩
inductive Rf
 | n (i : Int)
 | s (t : Str)
 | b (c : Bool)
 | o
def Rf.v : Rf -> V
 | .n i => .int i
 | .s t => .str t
 | .b c => .bl c
 | .o => .non
structure Ln where
 (lev : Int) (ru : Str) (st : Option Stm) (rs : List Rf)
def RepOS (K : W.Frag) (H : Hp) (o : Option Stm) (v : V) : Prop := match o with | some S => RepS K H S v | none => v = .non
theorem RepOS.same {H H' : Hp} {o : Option Stm} {v : V} (e : Same H H') (h : RepOS K H o v) : RepOS K H' o v := by
 cases o with
 | none => exact h
 | some S => exact RepS.same (S := S) e h
theorem RepOS.keepL {H : Hp} {p : Addr} {ys zs : List V} {o : Option Stm} {v : V} (hp : H p = some (.lst ys)) (h : RepOS K H o v) : RepOS K (upd H p (.lst zs)) o v := by
 cases o with
 | none => exact h
 | some S => exact RepS.keepL (S := S) hp h
def odt : Option Stm -> Dt | some S => S.dt | none => .non
theorem RepOS.repD {H : Hp} {o : Option Stm} {v : V} (h : RepOS K H o v) : RepD K H (odt o) v := by
 cases o with
 | none => cases (show v = .non from h); exact .non
 | some S => exact RepS.repD (S := S) h
def RepN (K : W.Frag) (H : Hp) (L : Ln) (v : V) : Prop := ∃ a x b, v = .ref a /\ SqT K H a [.int L.lev, .str L.ru, x, .ref b] /\ RepOS K H L.st x /\ SqT K H b (L.rs.map Rf.v)
theorem RepN.same {H H' : Hp} {L : Ln} {v : V} (e : Same H H') (h : RepN K H L v) : RepN K H' L v := let ⟨a, x, b, h1, h2, h3, h4⟩ := h; ⟨a, x, b, h1, e.seqT h2, h3.same e, e.seqT h4⟩
theorem RepN.keepL {H : Hp} {p : Addr} {ys zs : List V} {L : Ln} {v : V} (hp : H p = some (.lst ys)) (h : RepN K H L v) : RepN K (upd H p (.lst zs)) L v := let ⟨a, x, b, h1, h2, h3, h4⟩ := h; ⟨a, x, b, h1, h2.keepL hp, h3.keepL hp, h4.keepL hp⟩
def znn (K : W.Frag) : Sp := fun vs H Q _ => ∃ v L, vs = [v] /\ RepN K H L v /\ (L.ru = "new" -> L.st = none) /\ ∀ x, RepOS K H L.st x -> Q x H
theorem zc3 (T : Tx K mg D) : FnOk P w K mg Qd CX0 1 D.a_a8 D.d_a8 ["line"] (znn K) := by
 refine T.F_a8.ok zdL (fun vs H Q E h => ?_) (fun cdv A outer s H vs Q E hr h => ?_)
 ·obtain ⟨v, L, rfl, _⟩ := h; rfl
 obtain ⟨v, L, rfl, rL, hn, k⟩ := h;have hu := hr.units;refine ⟨_, (zai (zaq (zc4 (zan (za9 K hu) (zal (ixA K) (pv 0) zab (fun _ _ => rfl)) zas (zav _)) zbA (zal (ixA K) (pv 0) zab (fun _ _ => rfl))))), ?_⟩;walk_at "S";obtain ⟨a, x, b, rfl, h1, h2, h3⟩ := rL;walk_at "";refine ⟨_, .inr h1, _, i1, ?_⟩;walk_at "t";refine ite2 (fun c => ?_) fun c => ?_
 ·refine k _ ?_;rw [hn c]
  rfl
 ·exact ⟨_, .inr h1, _, i2, k _ h2⟩
def numA (R : Rf) (k : Int) : Bool := match R with
 | .n i => decide (0 <= i) && decide (i < k)
 | _ => false
def zjA : Sp := fun vs H Q _ => ∃ (R : Rf) (k : Int), vs = [R.v, .int k] /\ Q (.bl (numA R k)) H
theorem zcS (T : Tx K mg D) : FnOk P w K mg Qd CX0 1 D.a_a2 D.d_a2 ["ref", "k"] zjA := by
 refine T.F_a2.ok zcR (fun vs H Q E h => ?_) (fun cdv A outer s H vs Q E hr h => ?_)
 ·obtain ⟨R, n, rfl, _⟩ := h; rfl
 obtain ⟨R, n, rfl, k⟩ := h;have hu := hr.units;refine ⟨_, (zai (zaq (zbB (zau (zbb K "int") (by rfl) T.z_isinstance (by rfl) (zaa (pv 0) (zaa (zbT (v := .ty "int") (by rfl) T.z_int (by rfl) (by rfl)) zae))) (zbB (zjS (zau (zbb K "bool") (by rfl) T.z_isinstance (by rfl) (zaa (pv 0) (zaa (zbT (v := .ty "bool") (by rfl) T.z_bool (by rfl) (by rfl)) zae)))) (zbB (zaH ziO zab (pv 0) (zav _)) (zcx (zaH zct (pv 0) (pv 1) (zav _)))))))), ?_⟩;walk_at "S";cases R with
 | n r =>
  simp only [Rf.v];walk_at "";refine ⟨true, rfl, ?_⟩;rw [if_pos rfl];refine ⟨false, rfl, ?_⟩;rw [if_pos rfl]
  by_cases h0 : 0 <= r
  ·rw [if_pos h0];simpa [numA, h0] using k
  ·rw [if_neg h0];simpa [numA, h0] using k
 | s t =>
  simp only [Rf.v];walk_at "";refine ⟨false, rfl, ?_⟩;rw [if_neg (by decide)];exact k
 | b c =>
  simp only [Rf.v];walk_at "";refine ⟨true, rfl, ?_⟩;rw [if_pos rfl];refine ⟨true, rfl, ?_⟩;rw [if_neg (by decide)];exact k
 | o =>
  simp only [Rf.v];walk_at "";refine ⟨false, rfl, ?_⟩;rw [if_neg (by decide)];exact k
theorem zcD (T : Tx K mg D) : FnOk P w K mg Qd CX0 1 D.a_b1 D.d_b1 ["path", "beginning"] (zjw K) := by
 refine T.F_b1.ok zdZ (fun vs H Q E h => ?_) (fun cdv A outer s H vs Q E hr h => ?_)
 ·obtain ⟨a, b, p, q, rfl, _⟩ := h; rfl
 obtain ⟨a, b, p, q, rfl, hp, hq, k⟩ := h;have hu := hr.units;refine ⟨_, (zai (zaq (zaH (zdq K hu) (zaR (slB K) (pv 0) zbd (zbe (zau (zay K) (by rfl) T.z_len yap (zaa (pv 1) zae)))) (pv 1) (zav _)))), ?_⟩;walk_at "S";walk_at "";refine ⟨_, .inr hq, _, .inr ⟨hp, fun c H' s1 h1 => ?_⟩⟩;rw [zcu, zcO, zcc] at h1;refine ⟨_, _, zc1 h1, zc1 (s1.seqT hq), zeD _, ?_⟩;rw [zlb];exact k _ s1
theorem zlv (T : Tx K mg D) : FnOk P w K mg Qd CX0 2 D.a_g3 D.d_g3 ["paths", "k", "i"] (zmW K) := by
 have G_b1 := @zcD P w _ _ Qd _ T;refine T.F_g3.ok zlr (fun vs H Q E h => ?_) (fun cdv A outer s H vs Q E hr h => ?_)
 ·obtain ⟨a, us, f, n, i, rfl, _⟩ := h; rfl
 obtain ⟨a, us, f, n, i, rfl, hA, hP, hn, hi, k⟩ := h;have hu := hr.units;have hr_b1 : Room 1 _ := hr.mono (by decide);refine ⟨_, (zai (zaq (zbB (zaH zct (pv 2) (pv 1) (zav _)) (zcx (YC G_b1 hr_b1 (by rfl) T.m_b1 (zaa (zal (ixA K) (pv 0) (pv 1) (fun _ _ => rfl)) (zaa (zal (ixA K) (pv 0) (pv 2) (fun _ _ => rfl)) zae))))))), ?_⟩;walk_at "S";walk_at "";obtain ⟨b1, e1, h1⟩ := hP.at hn;obtain ⟨b2, e2, h2⟩ := hP.at hi;refine ite2 (fun c => ?_) fun c => ?_
 ·refine ⟨_, .inr hA, _, zag e1, _, .inr hA, _, zag e2, b1, b2, _, _, rfl, h1, h2, fun H' s' => ?_⟩;have := k H' s';rw [ya9 (show i < n by omega), Bool.true_and] at this;exact this
 ·have := k H (Same.refl H);rw [ya8 (show ¬ i < n by omega), Bool.false_and] at this;exact this
theorem zg4 (T : Tx K mg D) : FnOk P w K mg Qd CX0 1 D.a_f8 D.d_f8 ["rule"] (fun vs H Q _ => ∃ r, vs = [.str r] /\ Q (.bl (opn r)) H) := by
 refine T.F_f8.ok zj8 (fun vs H Q E h => ?_) (fun cdv A outer s H vs Q E hr h => ?_)
 ·obtain ⟨r, rfl, _⟩ := h; rfl
 obtain ⟨r, rfl, k⟩ := h;have hu := hr.units;refine ⟨_, (zai (zaq (zaH (zcy K) (pv 0) (T.g_OPENING_RULES (by rfl)) (by rfl)))), ?_⟩;walk_at "S";walk_at "";exact ⟨_, .inr (T.q_OPENING_RULES _), rfl, rfl, k⟩
theorem zfS (T : Tx K mg D) : FnOk P w K mg Qd CX0 2 D.a_d3 D.d_d3 ["paths", "k", "b"] (zio K) := by
 have G_b1 := @zcD P w _ _ Qd _ T;refine T.F_d3.ok zfN (fun vs H Q E h => ?_) (fun cdv A outer s H vs Q E hr h => ?_)
 ·obtain ⟨a, us, f, n, i, rfl, _⟩ := h; rfl
 obtain ⟨a, us, f, n, i, rfl, hA, hP, hn, hi, k⟩ := h;have hu := hr.units;have hr_b1 : Room 1 _ := hr.mono (by decide);refine ⟨_, (zai (zaq (zbB (zaH zct (pv 2) (pv 1) (zav _)) (zbB (zaH (zbV K) (pv 2) (zal (ixA K) (pv 0) (pv 1) (fun _ _ => rfl)) (by rfl)) (zcx (YC G_b1 hr_b1 (by rfl) T.m_b1 (zaa (zal (ixA K) (pv 0) (pv 1) (fun _ _ => rfl)) (zaa (zaR (slB K) (zal (ixA K) (pv 0) (pv 2) (fun _ _ => rfl)) zbd (zbe (zkz zhw zab))) zae)))))))), ?_⟩;walk_at "S";walk_at "";obtain ⟨b1, e1, h1⟩ := hP.at hn;obtain ⟨b2, e2, h2⟩ := hP.at hi;refine ite2 (fun c => ?_) fun c => ?_
 ·refine ⟨_, .inr hA, _, zag e1, ?_⟩;walk_at "";refine ⟨_, .inr h1, rfl, zin _, ?_⟩;rw [zkm];refine ite2 (fun c2 => ?_) fun c2 => ?_
  ·refine ⟨_, .inr hA, _, zag e1, _, .inr hA, _, zag e2, 1, rfl, ?_⟩;walk_at "";refine ⟨_, .inr ⟨h2, fun b3 H3 s3 h3 => ?_⟩⟩;rw [zgv, zcu, zcc] at h3;refine ⟨b1, b3, _, _, rfl, s3.seqT h1, h3, fun H4 s4 => ?_⟩;have := k H4 (s3.trans s4);rw [ya9 (show i < n by omega), Bool.true_and, ya9 (show i ∉ f n by simpa using c2), Bool.true_and] at this;rw [ya3, Nat.min_eq_left (by omega)];exact this
  ·have := k H (Same.refl H);rw [ya8 (show ¬ i ∉ f n by simpa using c2), Bool.false_and, Bool.and_false] at this;exact this
 ·have := k H (Same.refl H);rw [ya8 (show ¬ i < n by omega), Bool.false_and] at this;exact this
theorem zi3 (T : Tx K mg D) : FnOk P w K mg Qd CX0 1 D.a_f3 D.d_f3 ["paths", "b"] (zlc K) := by
 refine T.F_f3.ok sc_f3 (fun vs H Q E h => ?_) (fun cdv A outer s H vs Q E hr h => ?_)
 ·obtain ⟨a, us, rs, g, b, rfl, _⟩ := h; rfl
 obtain ⟨a, us, rs, g, b, rfl, hA, hP, hb, hl, ho, k⟩ := h;have hu := hr.units;refine ⟨_, (zaf (zap (i := 2) sc_f3.nd (by rfl) (by walk_at "o") (zao zbU (zau (zay K) (by rfl) T.z_len yap (zaa (zal (ixA K) (pv 0) (pv 1) (fun _ _ => rfl)) zae)) zab))
  (zaf (zap (i := 3) sc_f3.nd (by rfl) (by walk_at "o") (pv 1))
  (zaf (zcd PassesOwn.never (by rfl) (zht (by rfl) T.z_range (zaa (pv 1) (zaa (zau (zay K) (by rfl) T.z_len yap (zaa (pv 0) zae)) zae))) (zaG (i := 4) sc_f3.nd (by rfl) (by walk_at "o"))
   (zaf (za6 (PW.pt (zbz (zan ziO (zau (zay K) (by rfl) T.z_len yap (zaa (zal (ixA K) (pv 0) (pv 4) (fun _ _ => rfl)) zae)) (pv 2) (zav _)) (zby (zan (zhO hu) (zal (ixA K) (zal (ixA K) (pv 0) (pv 4) (fun _ _ => rfl)) (pv 2) (fun _ _ => rfl)) (pv 1) (zav _))))) (zai zgh) zat)
  (zai (za6 (zan (za9 K hu) (zau (zay K) (by rfl) T.z_len yap (zaa (zal (ixA K) (pv 0) (pv 4) (fun _ _ => rfl)) zae)) (zao (za3 K) (pv 2) zab) (zav _)) (zai (zap (i := 3) sc_f3.nd (by rfl) (by walk_at "o") (pv 4))) zat))))
  (zai (zaq (pv 3)))))), ?_⟩
 walk_at "S";walk_at "";obtain ⟨c, ec, hc⟩ := hP.at hb;refine ⟨_, .inr hA, _, zag ec, ?_⟩;walk_at "";have hne : 1 <= (Qc rs g (b + 1)).length := by rw [zbf rs g ho]; simp
 have epl : ((iv (Qc rs g (b + 1))).length : Int) - 1 = (((Qc rs g (b + 1)).length - 1 : Nat) : Int) := by rw [zcu]; omega
 generalize hpl : (Qc rs g (b + 1)).length - 1 = pl at *;refine ⟨_, .inr hc, _, .inr hA, ⟨by omega, by omega, by omega, by omega⟩, ?_⟩;rw [epl];refine zbw (fun i σ H2 => H2 = H /\ ∃ (e : Nat) (u : Option V), σ = [some (.ref a), some (.int b), some (.int pl), some (.int e), u] /\ zeB (fun i => Qc rs g (i + 1)) b pl (us.length - b - i) (b + i) e = zeB (fun i => Qc rs g (i + 1)) b pl (us.length - b) b b) ⟨rfl, b, _, rfl, rfl⟩ (fun i σ H2 hi hv => ?_) fun σ H2 hv => ?_
 ·obtain ⟨rfl, e, u, rfl, he⟩ := hv;have hk : b + i < us.length := by omega
  obtain ⟨c2, ec2, hc2⟩ := hP.at hk;obtain ⟨m, hm⟩ : ∃ m, us.length - b - i = m + 1 := ⟨us.length - b - i - 1, by omega⟩
  have hm' : us.length - b - (i + 1) = m := by omega
  rw [hm] at he;rw [zdb] at he;walk_at "";rw [show (b : Int) + (i : Int) = ((b + i : Nat) : Int) by omega];refine ⟨_, .inr hA, _, zag ec2, ?_⟩;walk_at "";refine ⟨_, .inr hc2, ?_⟩;rw [zcu];refine ite2 (fun c3 => ?_) fun c3 => ?_
  ·rw [if_neg (by intro z; have := (yag.mp z).1; omega)] at he;rw [<- he] at k;exact k
  ·obtain ⟨z, hz⟩ : ∃ z, (Qc rs g (b + i + 1))[pl]? = some z := ⟨_, yal (by omega)⟩
   refine ⟨_, .inr hA, _, zag ec2, ?_⟩;walk_at "";refine ⟨_, .inr hc2, _, zag (zmU hz), ?_⟩;walk_at "";refine ite2 (fun c4 => ?_) fun c4 => ?_
   ·rw [if_neg (by rw [hz]; intro q; have := Option.some.inj q; omega)] at he;rw [<- he] at k;exact k
   ·rw [if_pos (by rw [hz]; congr 1; omega)] at he;refine ⟨_, .inr hA, _, zag ec2, ?_⟩;walk_at "";refine ⟨_, .inr hc2, ?_⟩;rw [zcu, hm'];refine ite2 (fun c5 => ⟨trivial, b + i, _, rfl, ?_⟩) fun c5 => ⟨trivial, e, _, rfl, ?_⟩
    ·rw [if_pos (by omega)] at he; exact he
    ·rw [if_neg (by omega)] at he; exact he
 ·obtain ⟨rfl, e, u, rfl, he⟩ := hv;walk_at "";rw [show us.length - b - ((us.length : Int) - (b : Int)).toNat = 0 by omega] at he;rw [<- he] at k;exact k
def isNm (x : Str) : Bool := base x "abcdefghijklmnopqrstuvwxyz" && !inV (.str x) zlt
def Rf.sm : Rf -> Prop
 | .s t => t.length <= 20
 | _ => True
def nmR : Rf -> Option Str
 | .s t => if isNm t = true then some t else none
 | _ => none
def nmV : Option Str -> V
 | some t => .str t
 | none => .non
def onlyN (L : Ln) : Option Str := match L.rs with
 | [R] => nmR R
 | _ => none
theorem zi4 (T : Tx K mg D) : FnOk P w K mg Qd CX0 2 D.a_d9 D.d_d9 ["text"] (sp1 isNm) := by
 have G_a0 := @zfy P w _ _ Qd _ T;refine T.F_d9.ok zhe (fun vs H Q E h => ?_) (fun cdv A outer s H vs Q E hr h => ?_)
 ·obtain ⟨x, rfl, _⟩ := h; rfl
 obtain ⟨x, rfl, hx, k⟩ := h;have hu := hr.units;have hr_a0 : Room 1 _ := hr.mono (by decide);refine ⟨_, (zai (zaq (zbB (YC G_a0 hr_a0 (by rfl) T.m_a0 (zaa (pv 0) (zaa (T.g_SMALL (by rfl)) zae))) (zcx (zaH (zbV K) (pv 0) (T.g_KEPT_WORDS (by rfl)) (by rfl)))))), ?_⟩;walk_at "S";walk_at "";refine ⟨x, _, rfl, hx, fun H' hs => ?_⟩;walk_at "";have q : Q (.bl (base x "abcdefghijklmnopqrstuvwxyz" && !inV (.str x) zlt)) H' := k H' hs;cases e : base x "abcdefghijklmnopqrstuvwxyz" with
 | false => rw [e] at q; exact iteF q
 | true => rw [e] at q; exact iteT ⟨_, .inr (T.q_KEPT_WORDS _), rfl, by decide, q⟩
def zlw : Sp := fun vs H Q _ => ∃ R : Rf, vs = [R.v] /\ R.sm /\ ∀ H', Same H H' -> Q (nmV (nmR R)) H'
theorem zdN (T : Tx K mg D) : FnOk P w K mg Qd CX0 3 D.a_c7 D.d_c7 ["ref"] zlw := by
 have G_d9 := @zi4 P w _ _ Qd _ T;refine T.F_c7.ok zfP (fun vs H Q E h => ?_) (fun cdv A outer s H vs Q E hr h => ?_)
 ·obtain ⟨R, rfl, _⟩ := h; rfl
 obtain ⟨R, rfl, hR, k⟩ := h;have hu := hr.units;have hr_d9 : Room 2 _ := hr.mono (by decide);refine ⟨_, (zai (zaq (zc4 (PW.pt (zjR (zbm (zau (zbb K "str") (by rfl) T.z_isinstance (by rfl) (zaa (pv 0) (zaa (zbT (v := .ty "str") (by rfl) T.z_str (by rfl) (by rfl)) zae)))) (zhp (zbm (YC G_d9 hr_d9 (by rfl) T.m_d9 (zaa (pv 0) zae)))))) (pv 0) zbA))), ?_⟩;walk_at "S";cases R with
 | s t =>
  simp only [Rf.v];walk_at "";refine ⟨true, rfl, ?_⟩;rw [if_pos rfl];refine ⟨t, rfl, yat (show t.length <= 20 from hR) (by decide), fun H' s' => ⟨_, rfl, ?_⟩⟩;have kk : Q (nmV (if isNm t = true then some t else none)) H' := k H' s';refine ite2 (fun c => ?_) fun c => ?_
  ·rw [if_pos c] at kk; exact kk
  ·rw [if_neg c] at kk; exact kk
 | n i =>
  simp only [Rf.v];walk_at "";refine ⟨false, rfl, ?_⟩;rw [if_neg (by decide)];exact k H (Same.refl _)
 | b c =>
  simp only [Rf.v];walk_at "";refine ⟨false, rfl, ?_⟩;rw [if_neg (by decide)];exact k H (Same.refl _)
 | o =>
  simp only [Rf.v];walk_at "";refine ⟨false, rfl, ?_⟩;rw [if_neg (by decide)];exact k H (Same.refl _)
def zkr (K : W.Frag) : Sp := fun vs H Q _ => ∃ v L, vs = [v] /\ RepN K H L v /\ (∀ R ∈ L.rs, R.sm) /\ ∀ H', Same H H' -> Q (nmV (onlyN L)) H'
theorem zdr (T : Tx K mg D) : FnOk P w K mg Qd CX0 4 D.a_c1 D.d_c1 ["line"] (zkr K) := by
 have G_c7 := @zdN P w _ _ Qd _ T;refine T.F_c1.ok zfv (fun vs H Q E h => ?_) (fun cdv A outer s H vs Q E hr h => ?_)
 ·obtain ⟨v, L, rfl, _⟩ := h; rfl
 obtain ⟨v, L, rfl, rL, hsm, k⟩ := h;have hu := hr.units;have hr_c7 : Room 3 _ := hr.mono (by decide);refine ⟨_, (zaf (za6 (zan (zhO hu) (zau (zay K) (by rfl) T.z_len yap (zaa (zal (ixA K) (pv 0) zab (fun _ _ => rfl)) zae)) zab (zav _)) (zai (zaq zbA)) zat)
  (zai (zaq (YC G_c7 hr_c7 (by rfl) T.m_c7 (zaa (zal (ixA K) (zal (ixA K) (pv 0) zab (fun _ _ => rfl)) zab (fun _ _ => rfl)) zae))))), ?_⟩
 walk_at "S";obtain ⟨a, x, b, rfl, h1, h2, h3⟩ := rL;have k0 : onlyN L = none -> Q .non H := fun e => by have := k H (Same.refl _); rw [e] at this; exact this
 walk_at "";refine ⟨_, .inr h1, _, i3, ?_⟩;walk_at "t";refine ⟨_, .inr h3, ?_⟩;rw [yaf];walk_at "t";refine ite2 (fun c => k0 ?_) fun c => ?_
 ·unfold onlyN
  match e : L.rs, c with
  | [], _ => rfl
  | [_], c => exact absurd rfl c
  | _ :: _ :: _, _ => rfl
 ·obtain ⟨R, hR⟩ : ∃ R, L.rs = [R] := List.length_eq_one_iff.mp (by omega);have ek : onlyN L = nmR R := by unfold onlyN; rw [hR]
  rw [hR] at h3;refine ⟨_, .inr h1, _, i3, ?_⟩;walk_at "t";refine ⟨_, .inr h3, _, i0, R, rfl, hsm R (by rw [hR]; simp), fun H' s' => ?_⟩;have := k H' s';rw [ek] at this;exact this
def RepNs (K : W.Frag) (H : Hp) (L : Nat -> Ln) (ls : List V) : Prop := ∀ i v, ls[i]? = some v -> RepN K H (L i) v
theorem RepNs.same {H H' : Hp} {L : Nat -> Ln} {ls : List V} (e : Same H H') (h : RepNs K H L ls) : RepNs K H' L ls := fun i v hv => (h i v hv).same e
def zfT (f : Nat -> List Nat) (n r : Nat) : Bool := decide (r < n) && decide ((f n).take (f r).length = f r)
def tk (f : Nat -> List Nat) (n : Nat) (R : Rf) : Option Nat := match R with
 | .n i => if 0 <= i /\ i < n /\ zfT f n i.toNat = true then some i.toNat else none
 | _ => none
theorem zos {f : Nat -> List Nat} {n r : Nat} {R : Rf} (h : tk f n R = some r) : r < n := by
 cases R with
 | n i =>
  simp only [tk] at h
  split at h
  ·cases h; omega
  ·cases h
 | s t => cases h
 | b c => cases h
 | o => cases h
inductive Tk
 | non
 | st (S : Stm)
 | bx (l : Ln) (e : Option Stm)
def RepTk (K : W.Frag) (H : Hp) (t : Tk) (v : V) : Prop := match t with
 | .non => v = .non
 | .st S => RepS K H S v
 | .bx l e => ∃ a lv x, v = .ref a /\ SqT K H a [lv, x] /\ RepN K H l lv /\ RepOS K H e x
theorem RepTk.same {H H' : Hp} {t : Tk} {v : V} (e : Same H H') (h : RepTk K H t v) : RepTk K H' t v := by
 cases t with
 | non => exact h
 | st S => exact RepS.same (S := S) e h
 | bx l o => obtain ⟨a, lv, x, h1, h2, h3, h4⟩ := h; exact ⟨a, lv, x, h1, e.seqT h2, h3.same e, h4.same e⟩
def tkL (L : Nat -> Ln) (f : Nat -> List Nat) (n : Nat) (R : Rf) : Tk := match tk f n R with
 | some r => (match (L r).st with | some S => .st S | none => .non)
 | none => .non
def zbY (f : Nat -> List Nat) (n b : Nat) : Bool := decide (b < n) && (decide (b ∉ f n) && decide ((f n).take ((f b).length - 1) = (f b).take ((f b).length - 1)))
def endF (f : Nat -> List Nat) (N b : Nat) : Nat := zeB f b ((f b).length - 1) (N - b) b b
def tkB (L : Nat -> Ln) (f : Nat -> List Nat) (N n : Nat) (R : Rf) : Tk := match R with
 | .n i => if 0 <= i /\ i < n /\ opn (L i.toNat).ru = true /\ zbY f n i.toNat = true then .bx (L i.toNat) (L (endF f N i.toNat)).st else .non
 | _ => .non
def tkW (L : Nat -> Ln) (f : Nat -> List Nat) (N n : Nat) (bx : Bool) (R : Rf) : Tk := if bx = true then tkB L f N n R else tkL L f n R
def wnt (bx : Bool) : Str := if bx = true then "box" else "line"
structure LnsAt (K : W.Frag) (H : Hp) (la pa : Addr) (ls us : List V) (L : Nat -> Ln) (rs : List Str) (g : Nat -> Nat) : Prop where
 l : SqT K H la ls
 n : RepNs K H L ls
 p : SqT K H pa us
 r : RepPs K H (fun i => Qc rs g (i + 1)) us
 len : ls.length = us.length
 ru : ∀ i, i < us.length -> (L i).ru = rs.getD i ""
 nw : ∀ i, i < us.length -> (L i).ru = "new" -> (L i).st = none
 sm : us.length <= 80
theorem LnsAt.same {H H' : Hp} {la pa : Addr} {ls us : List V} {L : Nat -> Ln} {rs : List Str} {g : Nat -> Nat} (h : LnsAt K H la pa ls us L rs g) (e : Same H H') : LnsAt K H' la pa ls us L rs g :=
 ⟨e.seqT h.l, h.n.same e, e.seqT h.p, h.r.same e, h.len, h.ru, h.nw, h.sm⟩
theorem zd0 (f : Nat -> List Nat) (b pl : Nat) : ∀ (m k e N : Nat), k + m <= N -> e < N -> zeB f b pl m k e < N
 | 0, k, e, N, _, he => he
 | m + 1, k, e, N, hk, he => by
  rw [zdb]
  split
  ·refine zd0 f b pl m (k + 1) _ N (by omega) ?_
   split
   ·omega
   ·exact he
  ·exact he
def zi5 (K : W.Frag) : Sp := fun vs H Q _ => ∃ (b n : Nat) (la pa : Addr) (ls us : List V) (L : Nat -> Ln) (rs : List Str) (g : Nat -> Nat), vs = [.int b, .ref la, .ref pa, .int n] /\ LnsAt K H la pa ls us L rs g /\ n < us.length /\ b < n /\
 ∀ H' v, Same H H' -> RepTk K H' (tkB L (fun i => Qc rs g (i + 1)) us.length n (.n b)) v -> Q v H'
theorem zfU (T : Tx K mg D) : FnOk P w K mg Qd CX0 3 D.a_d2 D.d_d2 ["b", "lines", "paths", "k"] (zi5 K) := by
 have G_f8 := @zg4 P w _ _ Qd _ T;have G_d3 := @zfS P w _ _ Qd _ T;have G_f3 := @zi3 P w _ _ Qd _ T;have G_a8 := @zc3 P w _ _ Qd _ T;refine T.F_d2.ok zfQ (fun vs H Q E h => ?_) (fun cdv A outer s H vs Q E hr h => ?_)
 ·obtain ⟨b, n, la, pa, ls, us, L, rs, g, rfl, _⟩ := h; rfl
 obtain ⟨b, n, la, pa, ls, us, L, rs, g, rfl, hA, hn, hb, k⟩ := h;have hu := hr.units;have hr_f8 : Room 1 _ := hr.mono (by decide);have hr_d3 : Room 2 _ := hr.mono (by decide);have hr_f3 : Room 1 _ := hr.mono (by decide);have hr_a8 : Room 1 _ := hr.mono (by decide);refine ⟨_, (zaf (za6 (PW.pt (zbz (zcr (zbm (YC G_f8 hr_f8 (by rfl) T.m_f8 (zaa (zal (ixA K) (zal (ixA K) (pv 1) (pv 0) (fun _ _ => rfl)) zab (fun _ _ => rfl)) zae)))) (zby (zcr (zbm (YC G_d3 hr_d3 (by rfl) T.m_d3 (zaa (pv 2) (zaa (pv 3) (zaa (pv 0) zae))))))))) (zai (zaq zbA)) zat)
  (zai (zaq (zaE (zaa (zal (ixA K) (pv 1) (pv 0) (fun _ _ => rfl)) (zaa (YC G_a8 hr_a8 (by rfl) T.m_a8 (zaa (zal (ixA K) (pv 1) (YC G_f3 hr_f3 (by rfl) T.m_f3 (zaa (pv 2) (zaa (pv 0) zae))) (fun _ _ => rfl)) zae)) zae)))))), ?_⟩
 walk_at "S";have Qe := hA.len;have hbl : b < ls.length := by omega
 obtain ⟨lv, hlv⟩ : ∃ v, ls[b]? = some v := ⟨_, yal hbl⟩
 have rb := hA.n b lv hlv;obtain ⟨a0, x0, b0, e0, h1, h2, h3⟩ := id rb;subst e0;walk_at "";refine ⟨_, .inr hA.l, _, zag hlv, ?_⟩;walk_at "t";refine ⟨_, .inr h1, _, i1, ?_⟩;refine ⟨_, rfl, ?_⟩;have eB : tkB L (fun i => Qc rs g (i + 1)) us.length n (.n (b : Int)) = if opn (L b).ru = true /\ zbY (fun i => Qc rs g (i + 1)) n b = true then .bx (L b) (L (endF (fun i => Qc rs g (i + 1)) us.length b)).st else .non := by
  show (if _ then _ else _) = _
  by_cases c : opn (L b).ru = true /\ zbY (fun i => Qc rs g (i + 1)) n b = true
  ·rw [if_pos ⟨by omega, by omega, by simpa using c.1, by simpa using c.2⟩, if_pos c]; simp
  ·rw [if_neg fun z => c ⟨by simpa using z.2.2.1, by simpa using z.2.2.2⟩, if_neg c]
 rw [eB] at k;refine ite2 (fun c => ?_) fun c => ?_
 ·refine k H _ (Same.refl _) ?_;rw [if_neg (by rw [c]; simp)]
  rfl
 have ho : opn (L b).ru = true := by simpa using c
 refine ⟨pa, us, _, n, b, rfl, hA.p, hA.r, hn, by omega, fun H1 s1 => ⟨_, rfl, ?_⟩⟩;refine ite2 (fun c2 => ?_) fun c2 => ?_
 ·refine k H1 _ s1 ?_;rw [if_neg fun z => ?_]
  ·rfl
  ·exact absurd (show zbY _ n b = true from z.2) (by rw [show zbY (fun i => Qc rs g (i + 1)) n b = false from c2]; decide)
 have c3 : zbY (fun i => Qc rs g (i + 1)) n b = true := by
  cases e : zbY (fun i => Qc rs g (i + 1)) n b with
  | true => rfl
  | false => exact absurd (show _ = false from e) c2
 rw [if_pos ⟨ho, c3⟩] at k;have hA1 := hA.same s1;have heL : endF (fun i => Qc rs g (i + 1)) us.length b < us.length := zd0 _ _ _ _ _ _ _ (by omega) (by omega);refine ⟨_, .inr hA1.l, _, zag hlv, pa, us, rs, g, b, rfl, hA1.p, hA1.r, by omega, hA.sm, by rw [<- hA.ru b (by omega)]; exact ho, ?_⟩;change rIx K (.ref la) (.int ((endF (fun i => Qc rs g (i + 1)) us.length b : Nat) : Int)) H1 _;generalize endF (fun i => Qc rs g (i + 1)) us.length b = en at heL k;rw [zdt];obtain ⟨ev, hev⟩ : ∃ v, ls[en]? = some v := ⟨_, yal (by omega)⟩
 refine ⟨_, .inr hA1.l, _, zag hev, ev, L en, rfl, hA1.n en ev hev, hA.nw en heL, fun x rx => ⟨zar (show 2 <= 100000 by decide), fun p hp => ?_⟩⟩;have sp := zac hp (.tup [V.ref a0, x]);exact k _ _ (s1.trans sp) ⟨p, _, x, rfl, SqT.of zad, (rb.same s1).same sp, rx.same sp⟩
def zjB (K : W.Frag) : Sp := fun vs H Q _ => ∃ (bx : Bool) (R : Rf) (n : Nat) (la pa : Addr) (ls us : List V) (L : Nat -> Ln) (rs : List Str) (g : Nat -> Nat), vs = [.str (wnt bx), R.v, .ref la, .ref pa, .int n] /\ LnsAt K H la pa ls us L rs g /\ n < us.length /\
 ∀ H' v, Same H H' -> RepTk K H' (tkW L (fun i => Qc rs g (i + 1)) us.length n bx R) v -> Q v H'
theorem zeK (T : Tx K mg D) : FnOk P w K mg Qd CX0 4 D.a_b5 D.d_b5 ["want", "ref", "lines", "paths", "k"] (zjB K) := by
 have G_g3 := @zlv P w _ _ Qd _ T;have G_a8 := @zc3 P w _ _ Qd _ T;have G_a2 := @zcS P w _ _ Qd _ T;have G_d2 := @zfU P w _ _ Qd _ T;have G_c7 := @zdN P w _ _ Qd _ T;refine T.F_b5.ok zeI (fun vs H Q E h => ?_) (fun cdv A outer s H vs Q E hr h => ?_)
 ·obtain ⟨bx, R, n, la, pa, ls, us, L, rs, g, rfl, _⟩ := h; rfl
 obtain ⟨bx, R, n, la, pa, ls, us, L, rs, g, rfl, hA, hn, k⟩ := h;have hu := hr.units;have hr_g3 : Room 2 _ := hr.mono (by decide);have hr_a8 : Room 1 _ := hr.mono (by decide);have hr_a2 : Room 1 _ := hr.mono (by decide);have hr_d2 : Room 3 _ := hr.mono (by decide);have hr_c7 : Room 3 _ := hr.mono (by decide);refine ⟨_, (zaf (za6 (zan (za9 K hu) (pv 0) zas (zav _)) (zai (zaq (YC G_c7 hr_c7 (by rfl) T.m_c7 (zaa (pv 1) zae)))) zat)
  (zaf (za6 (zcr (zbm (YC G_a2 hr_a2 (by rfl) T.m_a2 (zaa (pv 1) (zaa (pv 4) zae))))) (zai (zaq zbA)) zat)
  (zaf (za6 (zan (za9 K hu) (pv 0) zas (zav _)) (zai (zaq (zc4 (zbm (YC G_g3 hr_g3 (by rfl) T.m_g3 (zaa (pv 3) (zaa (pv 4) (zaa (pv 1) zae))))) (YC G_a8 hr_a8 (by rfl) T.m_a8 (zaa (zal (ixA K) (pv 2) (pv 1) (fun _ _ => rfl)) zae)) zbA))) zat)
  (zai (zaq (YC G_d2 hr_d2 (by rfl) T.m_d2 (zaa (pv 1) (zaa (pv 2) (zaa (pv 3) (zaa (pv 4) zae)))))))))), ?_⟩
 walk_at "S";have Qe := hA.len;walk_at "";rw [if_neg (show ¬ wnt bx = Str.ofString "name" by cases bx <;> decide +kernel)];refine ⟨R, n, rfl, _, rfl, ?_⟩;refine ite2 (fun c0 => ?_) fun c0 => ?_
 ·refine k H _ (Same.refl H) ?_;have e : tkW L (fun i => Qc rs g (i + 1)) us.length n bx R = .non := by
   cases R with
   | n i =>
    have c1 : ¬ (0 <= i /\ i < (n : Int)) := by simpa [numA] using c0
    cases bx with
    | true =>
     have e : tkB L (fun i => Qc rs g (i + 1)) us.length n (.n i) = .non := by unfold tkB; exact if_neg fun z => c1 ⟨z.1, z.2.1⟩
     exact e
    | false =>
     have e : tk (fun i => Qc rs g (i + 1)) n (.n i) = none := by show (if _ then _ else _) = _; rw [if_neg fun z => c1 ⟨z.1, z.2.1⟩]
     show tkL _ _ _ _ = _;unfold tkL;rw [e]
   | s t => cases bx <;> rfl
   | b t => cases bx <;> rfl
   | o => cases bx <;> rfl
  rw [e]
  rfl
 obtain ⟨r, rfl, hrn⟩ : ∃ r : Nat, R = .n r /\ r < n := by
  cases R with
  | n i =>
   have c1 : 0 <= i /\ i < (n : Int) := by simpa [numA] using c0
   exact ⟨i.toNat, by rw [show ((i.toNat : Nat) : Int) = i by omega], by omega⟩
  | s t => simp [numA] at c0
  | b t => simp [numA] at c0
  | o => simp [numA] at c0
 cases bx with
 | true =>
  rw [if_neg (show ¬ wnt true = Str.ofString "line" by decide +kernel)];exact ⟨r, n, la, pa, ls, us, L, rs, g, rfl, hA, hn, hrn, fun H' v s' hv => k H' v s' hv⟩
 | false =>
  rw [if_pos (show wnt false = Str.ofString "line" by decide +kernel)];generalize hf : (fun i => Qc rs g (i + 1)) = f at k;have et : tk f n (.n (r : Int)) = if zfT f n r = true then some r else none := by
   show (if _ then _ else _) = _
   by_cases c : zfT f n r = true
   ·rw [if_pos ⟨by omega, by omega, by simpa using c⟩, if_pos c]; simp
   ·rw [if_neg fun z => c (by simpa using z.2.2), if_neg c]
  have ew : tkW L f us.length n false (.n (r : Int)) = tkL L f n (.n (r : Int)) := rfl;unfold tkL at ew;rw [et] at ew;rw [ew] at k;simp only [Rf.v];walk_at "t";refine ⟨pa, us, f, n, r, rfl, hA.p, by rw [<- hf]; exact hA.r, hn, by omega, fun H' s' => ⟨_, rfl, ?_⟩⟩;refine ite2 (fun c => ?_) fun c => ?_
  ·have c' : zfT f n r = true := c;rw [if_pos c'] at k;obtain ⟨lv, hlv⟩ : ∃ v, ls[r]? = some v := ⟨_, yal (by omega)⟩
   refine ⟨_, .inr (s'.seqT hA.l), _, zag hlv, _, L r, rfl, (hA.n r lv hlv).same s', hA.nw r (by omega), fun x rx => k H' x s' ?_⟩;show RepTk K H' (match (L r).st with | some S => .st S | none => .non) x;cases e : (L r).st with
   | some S => rw [e] at rx; exact rx
   | none => rw [e] at rx; exact rx
  ·rw [if_neg (show ¬ zfT f n r = true from c)] at k;exact k H' _ s' rfl
def _root_.L2.Stm.tms : Stm -> List Str
 | .is _ ts => ts
 | .fls => []
 | .neg A => A.tms
 | .bi _ A B => A.tms ++ B.tms
 | .qu _ _ A => A.tms
theorem zcE : ∀ {S : Stm}, S.Ok -> S.tms.length <= 3 * 2 ^ S.deep
 | .is w ts, h => by show ts.length <= 6; have := h.2.1; omega
 | .fls, _ => yaq _
 | .neg A, h => by
  have h1 := zcE (S := A) h;show A.tms.length <= 3 * 2 ^ (A.deep + 1);rw [Nat.pow_succ]; omega
 | .bi _ A B, h => by
  have h1 := zcE (S := A) h.1;have h2 := zcE (S := B) h.2;show (A.tms ++ B.tms).length <= 3 * 2 ^ (max A.deep B.deep + 1);have p1 : 2 ^ A.deep <= 2 ^ max A.deep B.deep := Nat.pow_le_pow_right (by decide) (Nat.le_max_left _ _);have p2 : 2 ^ B.deep <= 2 ^ max A.deep B.deep := Nat.pow_le_pow_right (by decide) (Nat.le_max_right _ _);rw [yae, Nat.pow_succ]; omega
 | .qu _ X A, h => by
  have h1 := zcE (S := A) h.2;show A.tms.length <= 3 * 2 ^ (A.deep + 1);rw [Nat.pow_succ]; omega
def zot (K : W.Frag) (d : Nat) : Sp := fun vs H Q _ => ∃ v S, vs = [v] /\ RepS K H S v /\ S.Ok /\ S.deep <= d /\ d <= 12 /\ ∀ p H', Same H H' -> H' p = some (.lst (S.tms.map V.str)) -> Q (.ref p) H'
theorem zdO (T : Tx K mg D) : ∀ d : Nat, FnOk P w K mg Qd CX0 (d + 2) D.a_c6 D.d_c6 ["A"] (zot K d)
 | 0 => by
  refine T.F_c6.ok sc_c6 (fun vs H Q E h => ?_) (fun cdv A outer s H vs Q E hr h => ?_)
  ·obtain ⟨v, S, rfl, _⟩ := h; rfl
  ·obtain ⟨v, S, rfl, _, _, h, _⟩ := h;have := S.deep_pos;omega
 | d + 1 => by
  have G_g1 := @zg3 P w _ _ Qd _ T;have G_c6 := zdO T d;refine T.F_c6.ok sc_c6 (fun vs H Q E h => ?_) (fun cdv A outer s H vs Q E hr h => ?_)
  ·obtain ⟨v, S, rfl, _⟩ := h; rfl
  obtain ⟨v, S, rfl, rS, hOk, hd, hd12, k⟩ := h;have hu := hr.units;have hr_g1 : Room 1 _ := hr.mono (by omega);have hr_c6 : Room (d + 2) _ := hr;refine ⟨_, (zaf (za6 (zan (za9 K hu) (zal (ixA K) (pv 0) zab (fun _ _ => rfl)) zas (zav _)) (zai (zaq (zaF (zcY K) (by rfl) T.z_list (by rfl) (zaa (zal (ixA K) (pv 0) zab (fun _ _ => rfl)) zae)))) zat)
  (zaf (zap (i := 1) sc_c6.nd (by rfl) (by walk_at "o") (zaB zae))
  (zaf (zcd PassesOwn.never (by rfl) (zbF K (YC G_g1 hr_g1 (by rfl) T.m_g1 (zaa (pv 0) zae))) (zaG (i := 2) sc_c6.nd (by rfl) (by walk_at "o"))
   (zai (zbl (zb1 K yar PySem.F.slot_list_extend PySem.F.type_list_extend zen (pv 1) (zaa (YC G_c6 hr_c6 (by rfl) T.m_c6 (zaa (pv 2) zae)) zae)))))
  (zai (zaq (pv 1)))))), ?_⟩
  walk_at "S";obtain ⟨a, xs0, ev, h2⟩ := rS.tag;subst ev;refine zbu (c := S.tag = "is") (fun Qb q => ?_) (fun c1 => ?_) fun c1 => ?_
  ·walk_at "";exact ⟨_, .inr h2, _, i0, by rw [zhY]; exact ⟨_, rfl, q⟩⟩
  ·cases S with
   | is x ts =>
    obtain ⟨a', b, e', h2', h3⟩ := rS;cases e';walk_at "";refine ⟨_, .inr h2', _, i2, ?_⟩;walk_at "";exact ⟨_, .inr h3, fun l hl => k l _ (zac hl _) zad⟩
   | fls => exact absurd c1 (show ¬ (Str.ofString "false" = Str.ofString "is") by decide +kernel)
   | neg B => exact absurd c1 (show ¬ (Str.ofString "not" = Str.ofString "is") by decide +kernel)
   | bi o B C => exact absurd c1 (zgT o)
   | qu o X B => exact absurd c1 (zgU o)
  ·have Qe := zcE hOk;have hpw : 2 ^ S.deep <= 2 ^ 12 := Nat.pow_le_pow_right (by decide) (by omega);have small : ∀ {B : Stm}, B.Ok -> B.deep <= d + 1 -> B.tms.length <= 12288 := fun {B} hB hd' => by
    have h1 := zcE hB;have h2 : 2 ^ B.deep <= 2 ^ 12 := Nat.pow_le_pow_right (by decide) (by omega);omega
   have pOk : ∀ B ∈ S.parts, B.Ok /\ B.deep <= d := by
    cases S with
    | is x ts => intro B h; cases h
    | fls => intro B h; cases h
    | neg C => intro B h; rw [yah.mp h]; exact ⟨hOk, by have : C.deep + 1 <= d + 1 := hd; omega⟩
    | bi o C C' =>
     intro B h;have : max C.deep C'.deep + 1 <= d + 1 := hd;rcases yau.mp h with rfl | h
     ·exact ⟨hOk.1, by omega⟩
     ·rw [yah.mp h]; exact ⟨hOk.2, by omega⟩
    | qu o X C => intro B h; rw [yah.mp h]; exact ⟨hOk.2, by have : C.deep + 1 <= d + 1 := hd; omega⟩
   have pLen : S.parts.length <= 2 := by cases S <;> simp [Stm.parts]
   refine zaw (fun σ2 H2 => ∃ p, H p = none /\ H2 = upd H p (.lst []) /\ σ2 = [some (V.ref a), some (V.ref p), none]) (fun N hN => ?_) fun σ2 H2 hv => ?_
   ·walk_at "";exact ⟨yaq _, fun p hp => hN _ _ ⟨p, hp, rfl, rfl⟩⟩
   obtain ⟨p, hp, rfl, rfl⟩ := hv;refine zaw (fun σ2 H2 => Same H H2 /\ H2 p = some (.lst ((S.parts.flatMap Stm.tms).map V.str)) /\ ∃ u, σ2 = [some (V.ref a), some (V.ref p), u]) (fun N hN => ?_) fun σ2 H2 hv => ?_
   ·walk_at "";refine ⟨_, S, rfl, rS.same (zac hp _), fun q us H1 s1 hq hR => ?_⟩;walk_at "t";have s01 := (zac hp (.lst [])).trans s1;have hul := Paired.length hR;refine .inr ⟨⟨_, hq⟩, zez (xs := us) (fun i σ2 H2 => Same H H2 /\ SqT K H2 q us /\ RepL K H2 S.parts us /\ ∃ (u : Option V), σ2 = [some (V.ref a), some (V.ref p), u] /\ H2 p = some (.lst (((S.parts.take i).flatMap Stm.tms).map V.str)) /\ ((S.parts.take i).flatMap Stm.tms).length <= 12288 * i) ⟨s01, hq, hR, _, rfl, s1 _ _ zad, by simp⟩ (fun i σ2 H2 _ hv => hv.2.1) (fun i x σ2 H2 hx hv => ?_) fun σ2 H2 hv => ?_⟩
    ·obtain ⟨s2, hq2, hR2, u, rfl, hp2, hle⟩ := hv;obtain ⟨B, eB, rB⟩ := hR2.get hx;have hB := pOk B (ya1 eB);have hi : i < S.parts.length := (yag.mp eB).1;have sB := small hB.1 (by omega);walk_at "";refine ⟨⟨_, SqL.of hp2⟩, _, B, rfl, rB, hB.1, hB.2, by omega, fun p3 H3 s3 h3 => ?_⟩;have e1 : S.parts.take (i + 1) = S.parts.take i ++ [B] := by
      rw [List.take_succ, eB]; rfl
     have e2 : (S.parts.take (i + 1)).flatMap Stm.tms = (S.parts.take i).flatMap Stm.tms ++ B.tms := by
      rw [e1, List.flatMap_append]; simp
     walk_at "t";refine ⟨_, _, s3 _ _ hp2, h3, zar (by rw [yaf, yaf]; omega), (s2.trans s3).upd hp, (s3.seqT hq2).keepL (s3 _ _ hp2), RepL.keepL (s3 _ _ hp2) (hR2.same s3), _, rfl, ?_, ?_⟩
     ·rw [zad, e2, ya0]
     ·rw [e2, yae]; omega
    ·obtain ⟨s2, hq2, hR2, u, rfl, hp2, hle⟩ := hv;rw [<- hul, List.take_length] at hp2;exact hN _ _ ⟨s2, hp2, u, rfl⟩
   obtain ⟨s2, hp2, u, rfl⟩ := hv;walk_at "";refine k p _ s2 ?_;rw [hp2];cases S with
   | is x ts => exact absurd rfl c1
   | _ => simp [Stm.parts, Stm.tms]
theorem tm8 : ∀ {S : Stm}, S.Ok -> ∀ t ∈ S.tms, t.length <= 8
 | .is _ ts, h, t, ht => (h.2.2 t ht).elim (fun q => q.len.1) fun q => q.len.1
 | .fls, _, t, ht => absurd ht (by show ¬ t ∈ []; simp)
 | .neg A, h, t, ht => tm8 (S := A) h t ht
 | .bi _ A B, h, t, ht => (yay.mp ht).elim (tm8 (S := A) h.1 t) (tm8 (S := B) h.2 t)
 | .qu _ _ A, h, t, ht => tm8 (S := A) h.2 t ht
def zlx (K : W.Frag) : Sp := fun vs H Q _ => ∃ v S, vs = [v] /\ RepS K H S v /\ S.Ok /\ S.deep <= 10 /\ S.tms.length <= 60 /\ ∀ (p : Addr) (ts : List Str) H', Same H H' -> SqT K H' p (ts.map V.str) -> (∀ x, x ∈ ts ↔ x ∈ S.tms /\ isNm x = true) -> ts.length <= 60 -> Q (.ref p) H'
theorem zdP (T : Tx K mg D) : FnOk P w K mg Qd CX0 20 D.a_d4 D.d_d4 ["A"] (zlx K) := by
 have G_d9 := @zi4 P w _ _ Qd _ T;have G_c6 := zdO (P := P) (w := w) (Qd := Qd) T 10;refine T.F_d4.ok zfO (fun vs H Q E h => ?_) (fun cdv A outer s H vs Q E hr h => ?_)
 ·obtain ⟨v, S, rfl, _⟩ := h; rfl
 obtain ⟨v, S, rfl, rS, oS, dS, hl, k⟩ := h;have hu := hr.units;have hr_d9 : Room 2 _ := hr.mono (by decide);have hr_c6 : Room 12 _ := hr.mono (by decide);refine ⟨_, (zai (zaq (zaF (zaX K) (by rfl) T.z_tuple (by rfl) (zaa (zau (zdp P w K (by rfl)) (by rfl) T.z_sorted (by rfl) (zaa (zaF (zfr P w K (by rfl)) (by rfl) T.z_set (by rfl) (zaa (zca 1 [] ["term"] ⟨by rfl, by rfl, by rfl, by rfl, by rfl, by rfl, by rfl⟩ (by rfl) (zbF K (YC G_c6 hr_c6 (by rfl) T.m_c6 (zaa (pv 0) zae))) (fun _ _ _ _ => zaG (i := 0) (show List.Nodup (["term"] : List Str) by decide +kernel) (by rfl) (Or.inl (by rfl)) (Or.inr (by rfl))) (zaO (by decide)) (fun _ _ _ _ => zdC (zbm (YC G_d9 hr_d9 (by rfl) T.m_d9 (zaa (pv 0) zae)))) (fun _ _ _ _ => (pv 0))) zae)) zae)) zae)))), ?_⟩;walk_at "S";walk_at "";refine ⟨v, S, rfl, rS, oS, dS, by decide, fun p H1 s1 hp => ?_⟩;walk_at "t";have flt : ∀ i, ((S.tms.take i).filter isNm).length <= 60 := fun i => yat (List.length_filter_le _ _) (by rw [ya3]; omega);refine .inl ⟨⟨_, SqL.of hp⟩, zcL (xs := S.tms.map V.str) (fun i acc H2 => Same H1 H2 /\ acc = ((S.tms.take i).filter isNm).map V.str) ⟨Same.refl _, rfl⟩ (fun i acc H2 _ hv => SqL.of (hv.1 _ _ hp)) (fun i x acc H2 hx hv => ?_) fun acc H2 hv p2 h2 => ?_⟩
 ·obtain ⟨s2, rfl⟩ := hv;rw [yav] at hx;cases e : S.tms[i]? with
  | none => rw [e] at hx; cases hx
  | some y =>
   rw [e] at hx;cases hx;have hy8 := tm8 oS y (ya1 e);refine ⟨zaQ (by rw [yaf]; have := flt i; omega), ?_⟩;walk_at "T";walk_at "";refine ⟨y, rfl, by omega, fun H3 s3 => ⟨_, rfl, ?_⟩⟩;have et : S.tms.take (i + 1) = S.tms.take i ++ [y] := by rw [yaz, e]; rfl
   rw [et, List.filter_append];refine ite2 (fun c => ⟨s2.trans s3, ?_⟩) fun c => ⟨s2.trans s3, ?_⟩
   ·rw [show [y].filter isNm = [y] by simp [c], ya0]; rfl
   ·rw [show [y].filter isNm = [] by simp [c], List.append_nil]
 ·obtain ⟨s2, rfl⟩ := hv;rw [yaf, List.take_length];walk_at "t";have f0 : (S.tms.filter isNm).length <= 60 := yat (List.length_filter_le _ _) hl;refine ⟨S.tms.filter isNm, SqL.of zad, by omega, fun So us h3 _ hul hus => ?_⟩;walk_at "t";refine ⟨us, .inl zad, by omega, fun l vs h4 _ hperm => ?_⟩;walk_at "t";refine ⟨_, .inl ⟨SqL.of zad, fun l2 h5 => k l2 vs _ ((s1.trans s2).trans (((zac h2 _).trans (zac h3 _)).trans ((zac h4 _).trans (zac h5 _)))) (SqT.of zad) (fun x => ?_) ?_⟩⟩
  ·rw [hperm.mem_iff, hus, List.mem_filter]
  ·rw [hperm.length_eq]; omega
def zcF (L : Ln) (x : Str) : Prop := .s x ∈ L.rs \/ ∃ S, L.st = some S /\ x ∈ S.tms /\ isNm x = true
def zi6 (K : W.Frag) : Sp := fun vs H Q _ => ∃ v L, vs = [v] /\ RepN K H L v /\ L.rs.length <= 10 /\ (∀ S, L.st = some S -> S.Ok /\ S.deep <= 10 /\ S.tms.length <= 60) /\
 ∀ (p : Addr) (ts : List Str) H', Same H H' -> H' p = some (.lst (ts.map V.str)) -> (∀ x, x ∈ ts ↔ zcF L x) -> ts.length <= 80 -> Q (.ref p) H'
def rfS : List Rf -> List Str
 | [] => []
 | .s t :: l => t :: rfS l
 | _ :: l => rfS l
theorem zdd {x : Str} : ∀ {l : List Rf}, x ∈ rfS l ↔ Rf.s x ∈ l
 | [] => by simp [rfS]
 | .s t :: l => by simp [rfS, zdd (l := l)]
 | .n i :: l => by simp [rfS, zdd (l := l)]
 | .b i :: l => by simp [rfS, zdd (l := l)]
 | .o :: l => by simp [rfS, zdd (l := l)]
theorem zdQ : ∀ {l m : List Rf}, rfS (l ++ m) = rfS l ++ rfS m
 | [], m => rfl
 | .s t :: l, m => by simp [rfS, zdQ (l := l)]
 | .n i :: l, m => by simp [rfS, zdQ (l := l)]
 | .b i :: l, m => by simp [rfS, zdQ (l := l)]
 | .o :: l, m => by simp [rfS, zdQ (l := l)]
theorem zde : ∀ {l : List Rf}, (rfS l).length <= l.length
 | [] => yai _
 | .s t :: l => by have := zde (l := l); simp [rfS]; exact this
 | .n i :: l => by have := zde (l := l); simp [rfS]; omega
 | .b i :: l => by have := zde (l := l); simp [rfS]; omega
 | .o :: l => by have := zde (l := l); simp [rfS]; omega
theorem zfV (T : Tx K mg D) : FnOk P w K mg Qd CX0 21 D.a_d0 D.d_d0 ["line"] (zi6 K) := by
 have G_d4 := @zdP P w _ _ Qd _ T;refine T.F_d0.ok sc_d0 (fun vs H Q E h => ?_) (fun cdv A outer s H vs Q E hr h => ?_)
 ·obtain ⟨v, L, rfl, _⟩ := h; rfl
 obtain ⟨v, L, rfl, rL, hrl, hst, k⟩ := h;have hu := hr.units;have hr_d4 : Room 20 _ := hr.mono (by decide);refine ⟨_, (zaf (zce (i := 1) 1 [] ["ref"] sc_d0.nd (by rfl) (by rfl) ⟨by rfl, by rfl, by rfl, by rfl, by rfl, by rfl, by rfl⟩ (by rfl) (zbF K (zal (ixA K) (pv 0) zab (fun _ _ => rfl))) (fun _ _ _ _ => zaG (i := 0) (show List.Nodup (["ref"] : List Str) by decide +kernel) (by rfl) (Or.inl (by rfl)) (Or.inr (by rfl))) (zaO (by decide)) (fun _ _ _ _ => zdC (zbm (zau (zbb K "str") (by rfl) T.z_isinstance (by rfl) (zaa (pv 0) (zaa (zbT (v := .ty "str") (by rfl) T.z_str (by rfl) (by rfl)) zae))))) (fun _ _ _ _ => (pv 0)))
  (zaf (za6 (zdj (zho (zal (ixA K) (pv 0) zab (fun _ _ => rfl)))) (zai (zbl (zb1 K yar PySem.F.slot_list_extend PySem.F.type_list_extend (zj5 K) (pv 1) (zaa (YC G_d4 hr_d4 (by rfl) T.m_d4 (zaa (zal (ixA K) (pv 0) zab (fun _ _ => rfl)) zae)) zae)))) zat)
  (zai (zaq (pv 1))))), ?_⟩
 walk_at "S";obtain ⟨a, x, b, rfl, h1, h2, h3⟩ := rL;refine zaw (fun σ' H' => ∃ p, Same H H' /\ H p = none /\ H' p = some (.lst ((rfS L.rs).map V.str)) /\ σ' = [some (.ref a), some (.ref p)]) (fun N hN => ?_) fun σ' H1 hv => ?_
 ·walk_at "";refine ⟨_, .inr h1, _, i3, ?_⟩;walk_at "t";refine .inr ⟨⟨_, h3⟩, zbG (xs := L.rs.map Rf.v) (fun i acc H2 => H2 = H /\ acc = (rfS (L.rs.take i)).map V.str) ⟨rfl, rfl⟩ (fun i acc H2 _ hv => by rw [hv.1]; exact h3) (fun i y acc H2 hx hv => ?_) fun acc H2 hv p hp => ?_⟩
  ·obtain ⟨rfl, rfl⟩ := hv;rw [yav] at hx;cases e : L.rs[i]? with
   | none => rw [e] at hx; cases hx
   | some R =>
    rw [e] at hx;cases hx;have et : L.rs.take (i + 1) = L.rs.take i ++ [R] := by rw [yaz, e]; rfl
    refine ⟨zaQ (by rw [yaf]; have := zde (l := L.rs.take i); rw [ya3] at this; omega), ?_⟩;walk_at "T";rw [et, zdQ];cases R with
    | s t =>
     simp only [Rf.v];walk_at "";refine ⟨true, rfl, ?_⟩;rw [if_pos rfl, ya0];exact ⟨trivial, rfl⟩
    | n j =>
     simp only [Rf.v];walk_at "";refine ⟨false, rfl, ?_⟩;rw [if_neg (by decide)];exact ⟨trivial, by simp [rfS]⟩
    | b j =>
     simp only [Rf.v];walk_at "";refine ⟨false, rfl, ?_⟩;rw [if_neg (by decide)];exact ⟨trivial, by simp [rfS]⟩
    | o =>
     simp only [Rf.v];walk_at "";refine ⟨false, rfl, ?_⟩;rw [if_neg (by decide)];exact ⟨trivial, by simp [rfS]⟩
  ·obtain ⟨rfl, rfl⟩ := hv;rw [yaf, List.take_length];exact hN _ _ ⟨p, zac hp _, hp, zad, rfl⟩
 obtain ⟨p, s1, hp0, hp, rfl⟩ := hv;have hl0 := zde (l := L.rs);cases e : L.st with
 | none =>
  rw [e] at h2;cases (show x = .non from h2);walk_at "";refine ⟨_, .inr (s1.seqT h1), _, i2, ?_⟩;walk_at "t";refine k p _ H1 s1 hp (fun y => ?_) (by omega);rw [zdd];unfold zcF;rw [e];simp
 | some S =>
  rw [e] at h2;have h2 : RepS K H S x := h2;obtain ⟨oS, dS, tS⟩ := hst S e;obtain ⟨ax, xs, rfl, hx⟩ := h2.tag;walk_at "";refine ⟨_, .inr (s1.seqT h1), _, i2, ?_⟩;walk_at "t";rw [if_pos (fun z => by cases z)];refine ⟨⟨_, SqL.of hp⟩, _, .inr (s1.seqT h1), _, i2, _, S, rfl, h2.same s1, oS, dS, tS, fun q ts H2 s2 hq hts hle => ?_⟩;walk_at "t";refine ⟨_, _, s2 _ _ hp, hq, zar (by rw [yaf, yaf]; omega), k p (rfS L.rs ++ ts) _ ((s1.trans s2).upd hp0) (by rw [zad, ya0]) (fun y => ?_) (by rw [yae]; omega)⟩;rw [yay, zdd, hts];unfold zcF;rw [e]
  constructor
  ·rintro (z | z)
   ·exact .inl z
   ·exact .inr ⟨S, rfl, z⟩
  ·rintro (z | ⟨S', z, y⟩)
   ·exact .inl z
   ·cases z; exact .inr y
def zcT (v : V) (j : Int) (d : Addr) : List (Str × V) := [("lines", v), ("givens", .int 0), ("named", .int j), ("first_places", .ref d)]
def zfz (v : V) (d : Addr) : List (Str × V) := zcT v 0 d
def zfW (D : Defs) : Sp := fun vs H Q _ => ∃ (r dx : Addr) (v : V), vs = [.ref r, v] /\ H r = some (.ins D.C_Ahead dx []) /\ ∀ H' d, H' r = some (.ins D.C_Ahead dx (zfz v d)) -> (∀ b u, b ≠ r -> H b = some u -> H' b = some u) -> H d = none -> H' d = some (.dK (dS [])) -> d ≠ r -> Q .non H'
theorem zeL (T : Tx K mg D) : FnOk P w K mg Qd CX0 1 D.a_b6 D.d_b6 ["self", "lines"] (zfW D) := by
 refine T.F_b6.ok zeJ (fun vs H Q E h => ?_) (fun cdv A outer s H vs Q E hr h => ?_)
 ·obtain ⟨r, dx, v, rfl, _⟩ := h; rfl
 obtain ⟨r, dx, v, rfl, h1, k⟩ := h;have hu := hr.units;refine ⟨_, (zaf (zgk (pv 0) (pv 1) (by rfl))
  (zaf (zgk (pv 0) zab (by rfl))
  (zaf (zgk (pv 0) zab (by rfl))
  (zai (zgk (pv 0) zlg (by rfl)))))), ?_⟩
 walk_at "S";walk_at "";refine ⟨r, _, dx, _, rfl, h1, T.cl_Ahead, T.n_Ahead_lines, by decide, ?_⟩;walk_at "t";refine ⟨r, _, dx, _, rfl, zad, T.cl_Ahead, T.n_Ahead_givens, by show 1 < 1000; decide, ?_⟩;walk_at "t";refine ⟨r, _, dx, _, rfl, zad, T.cl_Ahead, T.n_Ahead_named, by show 2 < 1000; decide, ?_⟩;walk_at "t";intro p hp;simp only [zhm] at hp ⊢;have nrp : r ≠ p := by rintro rfl; rw [zad] at hp; cases hp
 refine ⟨r, _, dx, _, rfl, by rw [za7 nrp, zad], T.cl_Ahead, T.n_Ahead_first_places, by show 3 < 1000; decide, ?_⟩;refine k _ p (by rw [zad]; rfl) (fun b u nb hb => ?_) (by rw [za7 nrp.symm] at hp; exact hp) (by rw [za7 nrp.symm, zad]; rfl) nrp.symm;have nbp : b ≠ p := by rintro rfl; rw [za7 nb] at hp; rw [hb] at hp; cases hp
 rw [za7 nb, za7 nbp, za7 nb];exact hb
def zly (D : Defs) : Sp := fun vs H Q _ => ∃ (r dx : Addr) (v : V) (d : Addr), vs = [.ref r, .int 0] /\ H r = some (.ins D.C_Ahead dx (zfz v d)) /\ Q (.bl true) H
theorem zc9 (T : Tx K mg D) : FnOk P w K mg Qd CX0 1 D.a_a1 D.d_a1 ["self", "k"] (zly D) := by
 refine T.F_a1.ok zc8 (fun vs H Q E h => ?_) (fun cdv A outer s H vs Q E hr h => ?_)
 ·obtain ⟨r, dx, v, d, rfl, _⟩ := h; rfl
 obtain ⟨r, dx, v, d, rfl, h1, k⟩ := h;have hu := hr.units;refine ⟨_, (zaf (zgi PassesOwn.never (PW.pt (zjR (zan zct (zcA (pv 0) (by rfl)) (pv 1) (zav _)) (zhp (zan (za9 K hu) (zal (ixA K) (zal (ixA K) (zcA (pv 0) (by rfl)) (zcA (pv 0) (by rfl)) (fun _ _ => rfl)) zab (fun _ _ => rfl)) zas (zav _))))) (zai (zeU (pv 0) zab zjZ)))
  (zai (zaq (zaH zk1 (zcA (pv 0) (by rfl)) (pv 1) (zav _))))), ?_⟩
 walk_at "S";walk_at "";refine ⟨fun m σ H2 => σ = [some (V.ref r), some (V.int 0)] /\ H2 = H, ⟨0, rfl, rfl⟩, ?_⟩
 rintro m σ H2 ⟨rfl, rfl⟩
 walk_at "t";have lk : List.lookup (Str.ofString "givens") (zfz v d) = some (.int 0) := by rfl
 refine ⟨r, _, dx, _, _, rfl, h1, T.cl_Ahead, T.n_Ahead_givens, lk, ?_⟩;walk_at "t";rw [if_neg (by decide)];refine ⟨r, _, dx, _, _, rfl, h1, T.cl_Ahead, T.n_Ahead_givens, lk, ?_⟩;walk_at "t";exact k
theorem zf0 {l : List (Str × V)} {k x : Str} {v : V} (h : valS l k = none) : valS (l ++ [(k, v)]) x = if x = k then some v else valS l x := by
 unfold valS at h ⊢;rw [List.find?_append];have hn : l.find? (fun p => decide (p.1 = k)) = none := by
  cases e : l.find? (fun p => decide (p.1 = k)) with
  | none => rfl
  | some z => rw [e] at h; cases h
 by_cases c : x = k
 ·subst c;rw [hn, if_pos rfl];simp
 ·rw [if_neg c];have : [(k, v)].find? (fun p => decide (p.1 = x)) = none := by simp [Ne.symm c]
  rw [this, Option.or_none]
def anyN (L : Nat -> Ln) (j : Nat) (x : Str) : Prop := ∃ i, i < j /\ zcF (L i) x
theorem zf1 {L : Nat -> Ln} {j : Nat} {x : Str} : anyN L (j + 1) x ↔ anyN L j x \/ zcF (L j) x := by
 constructor
 ·rintro ⟨i, hi, h⟩
  by_cases e : i = j
  ·subst e; exact .inr h
  ·exact .inl ⟨i, by omega, h⟩
 ·rintro (⟨i, hi, h⟩ | h)
  ·exact ⟨i, by omega, h⟩
  ·exact ⟨j, by omega, h⟩
def zno (D : Defs) (K : W.Frag) : Sp := fun vs H Q _ => ∃ (r dx d la : Addr) (nm : Str) (k : Nat) (H0 : Hp) (ls : List V) (L : Nat -> Ln), vs = [.ref r, .str nm, .int k] /\ H r = some (.ins D.C_Ahead dx (zfz (.ref la) d)) /\ H d = some (.dK (dS [])) /\ d ≠ r /\
 Same H0 H /\ H0 r = none /\ H0 d = none /\ SqT K H0 la ls /\ RepNs K H0 L ls /\ k <= ls.length /\ k <= 80 /\ (∀ i, i < k -> (L i).rs.length <= 10 /\ ∀ S, (L i).st = some S -> S.Ok /\ S.deep <= 10 /\ S.tms.length <= 60) /\
 ∀ (b : Bool) H', Same H0 H' -> (b = true ↔ anyN L k nm) -> Q (.bl b) H'
theorem zdf (T : Tx K mg D) : FnOk P w K mg Qd CX0 22 D.a_a4 D.d_a4 ["self", "name", "k"] (zno D K) := by
 have G_d0 := @zfV P w _ _ Qd _ T;refine T.F_a4.ok sc_a4 (fun vs H Q E h => ?_) (fun cdv A outer s H vs Q E hr h => ?_)
 ·obtain ⟨r, dx, d, la, nm, k, H0, ls, L, rfl, _⟩ := h; rfl
 obtain ⟨r, dx, d, la, nm, k, H0, ls, L, rfl, hr1, hd1, hdr, s0, r0, d0, hla, hL, hk, hk80, hok, kk⟩ := h;have hu := hr.units;have hr_d0 : Room 21 _ := hr.mono (by decide);refine ⟨_, (zaf (zgi PassesOwn.never (zan zct (zcA (pv 0) (by rfl)) (pv 2) (zav _)) (zaf (zcd PassesOwn.never (by rfl) (zbF K (YC G_d0 hr_d0 (by rfl) T.m_d0 (zaa (zal (ixA K) (zcA (pv 0) (by rfl)) (zcA (pv 0) (by rfl)) (fun _ _ => rfl)) zae))) (zaG (i := 3) sc_a4.nd (by rfl) (by walk_at "o"))
   (zai (zbl (zb1 K PySem.F.plainAttrs_dict PySem.F.slot_dict_setdefault PySem.F.type_dict_setdefault ziz (zcA (pv 0) (by rfl)) (zaa (pv 3) (zaa (zcA (pv 0) (by rfl)) zae))))))
  (zai (zeU (pv 0) zab zjZ))))
  (zai (zaq (zaH zct (zb1 K PySem.F.plainAttrs_dict PySem.F.slot_dict_get PySem.F.type_dict_get zlq (zcA (pv 0) (by rfl)) (zaa (pv 1) (zaa (pv 2) zae))) (pv 2) (zav _))))), ?_⟩
 walk_at "S";refine zaw (fun σ' H' => ∃ (u : Option V) (l : List (Str × V)), Same H0 H' /\ σ' = [some (.ref r), some (.str nm), some (.int k), u] /\ H' r = some (.ins D.C_Ahead dx (zcT (.ref la) k d)) /\ H' d = some (.dK (dS l)) /\ (∀ x, valS l x ≠ none ↔ anyN L k x) /\ ∀ x z, valS l x = some z -> ∃ i : Nat, z = .int i /\ i < k) (fun N hN => ?_) fun σ' H1 hv => ?_
 ·walk_at "";refine ⟨fun m σ H2 => ∃ (j : Nat) (u : Option V) (l : List (Str × V)), m = k - j /\ j <= k /\ Same H0 H2 /\ σ = [some (.ref r), some (.str nm), some (.int k), u] /\ H2 r = some (.ins D.C_Ahead dx (zcT (.ref la) j d)) /\ H2 d = some (.dK (dS l)) /\ l.length <= 80 * j /\ (∀ x, valS l x ≠ none ↔ anyN L j x) /\ ∀ x z, valS l x = some z -> ∃ i : Nat, z = .int i /\ i < j, ⟨k, 0, _, [], rfl, yaq _, s0, rfl, hr1, hd1, yaq _, fun x => ⟨fun z => absurd rfl z, fun ⟨i, hi, _⟩ => absurd hi (by omega)⟩, fun x z e => by cases e⟩, ?_⟩
  rintro m σ H2 ⟨j, u, l, rfl, hj, s2, rfl, hr2, hd2, hl2, hv2, hi2⟩
  walk_at "t";have lk : List.lookup (Str.ofString "named") (zcT (.ref la) j d) = some (.int j) := by rfl
  refine ⟨r, _, dx, _, _, rfl, hr2, T.cl_Ahead, T.n_Ahead_named, lk, ?_⟩;walk_at "t";refine ite2 (fun c => ?_) fun c => ?_
  ·have hjk : j < k := by omega
   refine ⟨fun σ' H' => ∃ (u : Option V) (l : List (Str × V)), Same H0 H' /\ σ' = [some (.ref r), some (.str nm), some (.int k), u] /\ H' r = some (.ins D.C_Ahead dx (zcT (.ref la) (j + 1 : Nat) d)) /\ H' d = some (.dK (dS l)) /\ l.length <= 80 * (j + 1) /\ (∀ x, valS l x ≠ none ↔ anyN L (j + 1) x) /\ ∀ x z, valS l x = some z -> ∃ i : Nat, z = .int i /\ i < j + 1, ?_, ?_⟩
   ·rintro σ' H' ⟨u, l, h1, h2, h3, h4, h5, h6, h7⟩
    exact ⟨k - (j + 1), by omega, j + 1, u, l, rfl, by omega, h1, h2, h3, h4, h5, h6, h7⟩
   have lkl : List.lookup (Str.ofString "lines") (zcT (.ref la) j d) = some (.ref la) := by rfl
   refine ⟨r, _, dx, _, _, rfl, hr2, T.cl_Ahead, T.n_Ahead_lines, lkl, r, _, dx, _, _, rfl, hr2, T.cl_Ahead, T.n_Ahead_named, lk, ?_⟩;walk_at "t";obtain ⟨v, hlv⟩ : ∃ v, ls[j]? = some v := ⟨_, yal (by omega)⟩
   refine ⟨_, .inr (s2.seqT hla), _, zag hlv, _, L j, rfl, (hL j v hlv).same s2, (hok j hjk).1, (hok j hjk).2, fun p ts H3 s3 hp hts hle => ?_⟩;walk_at "t";have hr3 := s3 _ _ hr2;have hd3 := s3 _ _ hd2;have npd : p ≠ d := zn4 hp hd3 (fun z => by cases z);have lkd : List.lookup (Str.ofString "first_places") (zcT (.ref la) j d) = some (.ref d) := by rfl
   refine .inl ⟨⟨_, SqL.of hp⟩, zff (xs := ts.map V.str) (fun i σ H' => ∃ (u : Option V) (l' : List (Str × V)), Same H0 H' /\ H' p = some (.lst (ts.map V.str)) /\ σ = [some (.ref r), some (.str nm), some (.int k), u] /\ H' r = some (.ins D.C_Ahead dx (zcT (.ref la) j d)) /\ H' d = some (.dK (dS l')) /\ l'.length <= 80 * j + i /\ (∀ x, valS l' x ≠ none ↔ anyN L j x \/ x ∈ ts.take i) /\ ∀ x z, valS l' x = some z -> ∃ i' : Nat, z = .int i' /\ i' < j + 1) ⟨_, l, s2.trans s3, hp, rfl, hr3, hd3, by omega, fun x => by rw [hv2]; simp, fun x z e => let ⟨i', e1, e2⟩ := hi2 x z e; ⟨i', e1, by omega⟩⟩ (fun i σ H' _ hv => let ⟨_, _, _, e, _⟩ := hv; SqL.of e) (fun i y σ H' hy hv => ?_) fun σ H' hv => ?_⟩
   ·obtain ⟨u', l', s4, hp4, rfl, hr4, hd4, hl4, hv4, hi4⟩ := hv;rw [yav] at hy;cases e : ts[i]? with
    | none => rw [e] at hy; cases hy
    | some t =>
     rw [e] at hy;cases hy;have hil := (yag.mp e).1;have et : ts.take (i + 1) = ts.take i ++ [t] := by rw [yaz, e]; rfl
     walk_at "";refine ⟨r, _, dx, _, _, rfl, hr4, T.cl_Ahead, T.n_Ahead_first_places, lkd, .inr (.inr (.inl ⟨rfl, .inl ⟨_, hd4⟩⟩)), r, _, dx, _, _, rfl, hr4, T.cl_Ahead, T.n_Ahead_named, lk, ?_⟩;walk_at "t";refine ⟨l', hd4, by omega, fun z ez => ⟨_, l', s4, hp4, rfl, hr4, hd4, by omega, fun x => ?_, hi4⟩, fun ez => ⟨_, l' ++ [(t, .int j)], s4.upd d0, by rw [za7 npd]; exact hp4, rfl, by rw [za7 hdr.symm]; exact hr4, zad, by rw [yae]; simp; omega, fun x => ?_, fun x z ez' => ?_⟩⟩
     ·rw [hv4, et, yay, yah];have ht := (hv4 t).mp (by rw [ez]; simp)
      constructor
      ·rintro (q | q)
       ·exact .inl q
       ·exact .inr (.inl q)
      ·rintro (q | q | rfl)
       ·exact .inl q
       ·exact .inr q
       ·exact ht
     ·rw [zf0 ez, et, yay, yah]
      by_cases c2 : x = t
      ·rw [if_pos c2]; simp [c2]
      ·rw [if_neg c2, hv4]
       constructor
       ·rintro (q | q)
        ·exact .inl q
        ·exact .inr (.inl q)
       ·rintro (q | q | q)
        ·exact .inl q
        ·exact .inr q
        ·exact absurd q c2
     ·rw [zf0 ez] at ez'
      by_cases c2 : x = t
      ·rw [if_pos c2] at ez'; cases ez'; exact ⟨j, rfl, by omega⟩
      ·rw [if_neg c2] at ez'; exact hi4 x z ez'
   ·obtain ⟨u', l', s4, hp4, rfl, hr4, hd4, hl4, hv4, hi4⟩ := hv;rw [yaf] at hl4 hv4;rw [List.take_length] at hv4;refine ⟨_, rfl, r, _, dx, _, _, rfl, hr4, T.cl_Ahead, T.n_Ahead_named, lk, ?_⟩;refine ⟨j, 1, rfl, rfl, dx, _, hr4, (show 4 < 1000 by decide), u', l', s4.upd r0, rfl, ?_, by rw [za7 hdr]; exact hd4, by omega, fun x => ?_, hi4⟩
    ·rw [zad, show ((j + 1 : Nat) : Int) = (j : Int) + 1 by omega]
     rfl
    ·rw [hv4, zf1, hts]
  ·have : j = k := by omega
   subst this;exact hN _ _ ⟨u, l, s2, rfl, hr2, hd2, hv2, hi2⟩
 obtain ⟨u, l, s1, rfl, hr1', hd1', hv, hi⟩ := hv;walk_at "";have lkd : List.lookup (Str.ofString "first_places") (zcT (.ref la) k d) = some (.ref d) := by rfl
 refine ⟨r, _, dx, _, _, rfl, hr1', T.cl_Ahead, T.n_Ahead_first_places, lkd, ?_, ?_⟩
 ·exact .inr (.inr (.inl ⟨rfl, .inl ⟨_, hd1'⟩⟩))
 walk_at "t";refine ⟨l, hd1', ?_⟩;cases e : valS l nm with
 | none =>
  show rLtA (.int k) (.int k) H1 Q;walk_at "t";refine kk _ H1 s1 ?_;rw [decide_eq_true_iff];exact ⟨fun z => absurd z (by omega), fun z => absurd e ((hv nm).mpr z)⟩
 | some z =>
  obtain ⟨j, rfl, hj⟩ := hi nm z e;show rLtA (.int j) (.int k) H1 Q;walk_at "t";refine kk _ H1 s1 ?_;rw [decide_eq_true_iff];exact ⟨fun _ => (hv nm).mp (by rw [e]; simp), fun _ => by omega⟩
theorem zks (T : Tx K mg D) : ∀ d : Nat, FnOk P w K mg Qd CX0 (d + 1) D.a_g4 D.d_g4 ["A", "letter", "name"] (zm3 K d)
 | 0 => by
  refine T.F_g4.ok zkq (fun vs H Q E h => ?_) (fun cdv A outer s H vs Q E hr h => ?_)
  ·obtain ⟨v, S, x, n, rfl, _⟩ := h; rfl
  ·obtain ⟨v, S, x, n, rfl, _, h, _⟩ := h;have := S.deep_pos;omega
 | d + 1 => by
  have G_g4 := zks T d;refine T.F_g4.ok zkq (fun vs H Q E h => ?_) (fun cdv A outer s H vs Q E hr h => ?_)
  ·obtain ⟨v, S, x, n, rfl, _⟩ := h; rfl
  obtain ⟨v, S, x, n, rfl, rS, hd, oS, k⟩ := h;have hu := hr.units;have hr_g4 : Room (d + 1) _ := hr;refine ⟨_, (zaf (za6 (zan (za9 K hu) (zal (ixA K) (pv 0) zab (fun _ _ => rfl)) zas (zav _)) (zai (zaq (zaE (zaa zas (zaa (zal (ixA K) (pv 0) zab (fun _ _ => rfl)) (zaa (zaF (zaX K) (by rfl) T.z_tuple (by rfl) (zaa (zca 1 [1, 2] ["term", "letter", "name"] ⟨by rfl, by rfl, by rfl, by rfl, by rfl, by rfl, by rfl⟩ (by rfl) (zbF K (zal (ixA K) (pv 0) zab (fun _ _ => rfl))) (fun _ _ _ _ => zaG (i := 0) (show List.Nodup (["term", "letter", "name"] : List Str) by decide +kernel) (by rfl) (Or.inl (by rfl)) (Or.inr (by rfl))) (zaO (by decide)) (fun _ _ _ _ => zbZ) (fun _ _ _ _ => (zc4 (zan (za9 K hu) (pv 0) (pv 1) (zav _)) (pv 2) (pv 0)))) zae)) zae)))))) zat)
  (zaf (za6 (zan (zcy K) (zal (ixA K) (pv 0) zab (fun _ _ => rfl)) (T.g_QUANTIFIERS (by rfl)) (by rfl)) (zaf (za6 (zan (za9 K hu) (zal (ixA K) (pv 0) zab (fun _ _ => rfl)) (pv 1) (zav _)) (zai (zaq (pv 0))) zat)
  (zai (zaq (zaE (zaa (zal (ixA K) (pv 0) zab (fun _ _ => rfl)) (zaa (zal (ixA K) (pv 0) zab (fun _ _ => rfl)) (zaa (YC G_g4 hr_g4 (by rfl) T.m_g4 (zaa (zal (ixA K) (pv 0) zab (fun _ _ => rfl)) (zaa (pv 1) (zaa (pv 2) zae)))) zae))))))) zat)
  (zai (zaq (zao (zhN K) (zaE (zaa (zal (ixA K) (pv 0) zab (fun _ _ => rfl)) zae)) (zaF (zaX K) (by rfl) T.z_tuple (by rfl) (zaa (zca 1 [1, 2] ["part", "letter", "name"] ⟨by rfl, by rfl, by rfl, by rfl, by rfl, by rfl, by rfl⟩ (by rfl) (zbF K (zaR (slA K) (pv 0) (zbe zab) zbd)) (fun _ _ _ _ => zaG (i := 0) (show List.Nodup (["part", "letter", "name"] : List Str) by decide +kernel) (by rfl) (Or.inl (by rfl)) (Or.inr (by rfl))) (zaO (by decide)) (fun _ _ _ _ => zbZ) (fun _ _ _ _ => (YC G_g4 hr_g4 (by rfl) T.m_g4 (zaa (pv 0) (zaa (pv 1) (zaa (pv 2) zae)))))) zae))))))), ?_⟩
  walk_at "S";cases S with
  | is y ts =>
   obtain ⟨a, b, rfl, h2, h3⟩ := rS;walk_at "t";refine ⟨_, .inr h2, _, i0, ?_⟩;walk_at "t";refine ⟨_, .inr h2, _, i1, _, .inr h2, _, i2, ?_⟩;walk_at "t";have h3' := oS.2.1;refine .inr ⟨⟨_, h3⟩, zbG (xs := ts.map V.str) (fun i acc H2 => H2 = H /\ acc = ((ts.take i).map fun t => if t = x then n else t).map V.str) ⟨rfl, by simp⟩ (fun i acc H2 _ hp => by rw [hp.1]; exact h3) (fun i t acc H2 hi hp => ?_) fun acc H2 hp p hn => ?_⟩
   ·obtain ⟨rfl, rfl⟩ := hp;rw [yav] at hi;cases e : ts[i]? with
    | none => rw [e] at hi; cases hi
    | some t' =>
     rw [e] at hi;cases hi;have hil : i < ts.length := (yag.mp e).1;refine ⟨zaQ (by simp only [List.length_map, List.length_take]; omega), ?_⟩;walk_at "T";walk_at "t";refine ite2 (fun c => ⟨trivial, ?_⟩) fun c => ⟨trivial, ?_⟩
     ·rw [yaz, e]; simp [c]
     ·rw [yaz, e]; simp [c]
   ·obtain ⟨rfl, rfl⟩ := hp;walk_at "t";refine ⟨_, .inl ⟨SqL.of zad, fun l hl => ⟨(by show 3 <= sizeLine; decide), fun p2 hp2 => ?_⟩⟩⟩;have s1 := (zac hn (.lst (((ts.take (ts.map V.str).length).map fun t => if t = x then n else t).map V.str))).trans ((zac hl (.tup (((ts.take (ts.map V.str).length).map fun t => if t = x then n else t).map V.str))).trans (zac hp2 (.tup [V.str "is", V.str y, V.ref l])));refine k _ _ s1 ⟨p2, l, rfl, SqT.of zad, SqT.of (zbv hp2 ?_)⟩;rw [zad, yaf, List.take_of_length_le (yai _)]
  | fls =>
   obtain ⟨a, rfl, h2⟩ := rS;walk_at "t";refine ⟨_, .inr h2, _, i0, ?_⟩;walk_at "t";rw [if_neg (by decide +kernel)];refine ⟨_, .inr h2, _, i0, ?_⟩;walk_at "t";refine ⟨_, .inr (T.q_QUANTIFIERS _), rfl, by decide, ?_⟩;rw [if_neg (by decide +kernel)];refine ⟨_, .inr h2, _, i0, ?_⟩;walk_at "t";refine ⟨(by show 1 <= sizeLine; decide), fun p hp => ⟨_, .inr ⟨(zac hp _).seqT h2, by decide, fun q hq => .inr ⟨⟨_, SqT.of zad⟩, ?_⟩⟩⟩⟩;refine zbG (xs := []) (fun i acc H2 => i = 0 /\ acc = [] /\ H2 = upd (upd H p (.tup [V.str "false"])) q (.tup [])) ⟨rfl, rfl, rfl⟩ (fun i acc H2 _ hv => by rw [hv.2.2]; exact SqT.of zad) (fun i y acc H2 hi hv => by simp at hi) fun acc H2 hv l hl => ?_;obtain ⟨_, rfl, rfl⟩ := hv;walk_at "t";refine ⟨_, .inl ⟨SqL.of zad, fun l2 hl2 => ?_⟩⟩;have ep : upd (upd (upd (upd H p (.tup [V.str "false"])) q (.tup [])) l (.lst [])) l2 (.tup []) p = some (.tup [V.str "false"]) := zbv hl2 (zbv hl (zbv hq zad));refine ⟨_, _, .inr ⟨SqT.of ep, SqT.of zad, by simp, (by show 1 <= sizeLine; decide), fun _ => ?_, fun z => absurd rfl z⟩⟩;exact k _ _ ((zac hp _).trans ((zac hq _).trans ((zac hl _).trans (zac hl2 _)))) ⟨p, rfl, SqT.of ep⟩
  | neg B =>
   obtain ⟨a, u, rfl, h2, h3⟩ := rS;simp only [Stm.deep] at hd;walk_at "t";refine ⟨_, .inr h2, _, i0, ?_⟩;walk_at "t";rw [if_neg (by decide +kernel)];refine ⟨_, .inr h2, _, i0, ?_⟩;walk_at "t";refine ⟨_, .inr (T.q_QUANTIFIERS _), rfl, by decide, ?_⟩;rw [if_neg (by decide +kernel)];refine ⟨_, .inr h2, _, i0, ?_⟩;walk_at "t";refine ⟨(by show 1 <= sizeLine; decide), fun p hp => ⟨_, .inr ⟨(zac hp _).seqT h2, (by show ¬ (min 1 2 = 0 /\ _); omega), fun q hq => .inr ⟨⟨_, SqT.of zad⟩, ?_⟩⟩⟩⟩;have s1 := (zac hp (.tup [V.str "not"])).trans (zac hq (.tup [u]));refine zbG (xs := [u]) (fun i acc H2 => Same (upd (upd H p (.tup [V.str "not"])) q (.tup [u])) H2 /\ RepL K H2 ([B.put x n].take i) acc) ⟨Same.refl _, .nil⟩ (fun i acc H2 _ hv => hv.1.seqT (SqT.of zad)) (fun i y acc H2 hi hv => ?_) fun acc H2 hv l hl => ?_
   ·match i, hi with
    | 0, hi =>
     cases hi;obtain ⟨s2, r2⟩ := hv;cases r2;refine ⟨zaQ (by show 0 <= 100000; decide), ?_⟩;walk_at "T";walk_at "t";refine ⟨_, B, _, _, rfl, h3.same (s1.trans s2), by omega, oS, fun w H3 s3 r3 => ⟨s2.trans s3, .cons r3 .nil⟩⟩
   ·obtain ⟨s2, r2⟩ := hv;cases r2 with
    | cons ra rb =>
     cases rb;walk_at "t";refine ⟨_, .inl ⟨SqL.of zad, fun l2 hl2 => ⟨_, _, .inr ⟨SqT.of (zbv hl2 (zbv hl (s2 _ _ (zbv hq zad)))), SqT.of zad, by simp, (by show 2 <= sizeLine; decide), (fun z => by cases z), fun _ r hr => ?_⟩⟩⟩⟩;exact k _ _ (s1.trans (s2.trans ((zac hl _).trans ((zac hl2 _).trans (zac hr _))))) ⟨r, _, rfl, SqT.of zad, ra.same ((zac hl _).trans ((zac hl2 _).trans (zac hr _)))⟩
  | bi o B C =>
   obtain ⟨a, u, u', rfl, h2, h3, h4⟩ := rS;simp only [Stm.deep] at hd;walk_at "t";refine ⟨_, .inr h2, _, i0, ?_⟩;walk_at "t";rw [if_neg (zgT o)];refine ⟨_, .inr h2, _, i0, ?_⟩;walk_at "t";refine ⟨_, .inr (T.q_QUANTIFIERS _), rfl, by decide, ?_⟩;rw [zci, if_neg (by decide)];refine ⟨_, .inr h2, _, i0, ?_⟩;walk_at "t";refine ⟨(by show 1 <= sizeLine; decide), fun p hp => ⟨_, .inr ⟨(zac hp _).seqT h2, (by show ¬ (min 1 3 = 0 /\ _); omega), fun q hq => .inr ⟨⟨_, SqT.of zad⟩, ?_⟩⟩⟩⟩;have s1 := (zac hp (.tup [V.str o.txt])).trans (zac hq (.tup [u, u']));refine zbG (xs := [u, u']) (fun i acc H2 => Same (upd (upd H p (.tup [V.str o.txt])) q (.tup [u, u'])) H2 /\ RepL K H2 ([B.put x n, C.put x n].take i) acc) ⟨Same.refl _, .nil⟩ (fun i acc H2 _ hv => hv.1.seqT (SqT.of zad)) (fun i y acc H2 hi hv => ?_) fun acc H2 hv l hl => ?_
   ·match i, hi with
    | 0, hi =>
     cases hi;obtain ⟨s2, r2⟩ := hv;cases r2;refine ⟨zaQ (by show 0 <= 100000; decide), ?_⟩;walk_at "T";walk_at "t";refine ⟨_, B, _, _, rfl, h3.same (s1.trans s2), by omega, oS.1, fun w H3 s3 r3 => ⟨s2.trans s3, .cons r3 .nil⟩⟩
    | 1, hi =>
     cases hi;obtain ⟨s2, r2⟩ := hv;cases r2 with
     | cons ra rb =>
      cases rb;refine ⟨zaQ (by show 1 <= 100000; decide), ?_⟩;walk_at "T";walk_at "t";refine ⟨_, C, _, _, rfl, h4.same (s1.trans s2), by omega, oS.2, fun w H3 s3 r3 => ⟨s2.trans s3, .cons (ra.same s3) (.cons r3 .nil)⟩⟩
   ·obtain ⟨s2, r2⟩ := hv;cases r2 with
    | cons ra rb =>
     cases rb with
     | cons rb rc =>
      cases rc;walk_at "t";refine ⟨_, .inl ⟨SqL.of zad, fun l2 hl2 => ⟨_, _, .inr ⟨SqT.of (zbv hl2 (zbv hl (s2 _ _ (zbv hq zad)))), SqT.of zad, by simp, (by show 3 <= sizeLine; decide), (fun z => by cases z), fun _ r hr => ?_⟩⟩⟩⟩;exact k _ _ (s1.trans (s2.trans ((zac hl _).trans ((zac hl2 _).trans (zac hr _))))) ⟨r, _, _, rfl, SqT.of zad, ra.same ((zac hl _).trans ((zac hl2 _).trans (zac hr _))), rb.same ((zac hl _).trans ((zac hl2 _).trans (zac hr _)))⟩
  | qu q X B =>
   have rS' := rS;obtain ⟨a, u, rfl, h2, h3⟩ := rS;simp only [Stm.deep] at hd;walk_at "t";refine ⟨_, .inr h2, _, i0, ?_⟩;walk_at "t";rw [if_neg (zgU q)];refine ⟨_, .inr h2, _, i0, ?_⟩;walk_at "t";refine ⟨_, .inr (T.q_QUANTIFIERS _), rfl, by decide, ?_⟩;rw [zdz, if_pos rfl];refine ⟨_, .inr h2, _, i1, ?_⟩;walk_at "t";simp only [Stm.put] at k;refine ite2 (fun c => ?_) fun c => ?_
   ·rw [if_pos c] at k;exact k _ _ (Same.refl _) rS'
   ·rw [if_neg c] at k;refine ⟨_, .inr h2, _, i0, _, .inr h2, _, i1, _, .inr h2, _, i2, ?_⟩;refine ⟨_, B, _, _, rfl, h3, by omega, oS.2, fun w H1 s1 r1 => ⟨(by show 3 <= sizeLine; decide), fun p hp => ?_⟩⟩;exact k _ _ (s1.trans (zac hp _)) ⟨p, w, rfl, SqT.of zad, r1.same (zac hp _)⟩
def okO (o : Option Stm) : Prop := ∀ S, o = some S -> S.deep <= 10 /\ S.Ok /\ S.tms.length <= 60
theorem zeM {o : Option Stm} (h : okO o) : Dt.dep (odt o) <= 60 := by
 cases o with
 | none => exact yaq _
 | some S => exact yat (Stm.dep_dt S) (by have := (h S rfl).1; omega)
def zi7 (K : W.Frag) (H : Hp) (Ts : List Tk) (us : List V) : Prop := Paired (RepTk K H) Ts us
def zlz (bx : Bool) (t : Tk) : Prop := if bx = true then ∃ l e, t = .bx l e /\ okO l.st /\ okO e /\ (∀ R ∈ l.rs, R.sm) else ∃ S, t = .st S /\ S.deep <= 10 /\ S.Ok /\ S.tms.length <= 60
def spBy (K : W.Frag) (ws : List Bool) (f : Stm -> List Tk -> Bool) : Sp := fun vs H Q _ => ∃ v S p us Ts, vs = [v, .ref p] /\ RepS K H S v /\ SqL K H p us /\ zi7 K H Ts us /\ Paired zlz ws Ts /\ S.deep <= 10 /\ S.Ok /\ S.tms.length <= 60 /\ ∀ H', Same H H' -> Q (.bl (f S Ts)) H'
def zcG (l : Ln) : Option Str := if l.ru = "case" then onlyN l else none
def oneC (S A : Stm) (l : Ln) : Bool := match A with
 | .qu false _ B => match zcG l with
  | some n => !decide (n ∈ S.tms) && !decide (n ∈ B.tms)
  | none => false
 | _ => false
def zdR (A : Stm) (l : Ln) : Option Stm := match A with
 | .qu _ X B => match zcG l with
  | some n => some (B.put X n)
  | none => none
 | _ => none
def fOne (S : Stm) : List Tk -> Bool
 | [.st A, .bx l e] => oneC S A l && (decide (l.st = zdR A l) && decide (e = some S))
 | _ => false
theorem znp {H : Hp} {Ts : List Tk} {us : List V} (h : zi7 K H Ts us) (hf : Paired zlz [false, true] Ts) : ∃ A l e u u', Ts = [.st A, .bx l e] /\ us = [u, u'] /\ RepS K H A u /\ A.deep <= 10 /\ A.Ok /\ A.tms.length <= 60 /\ RepTk K H (.bx l e) u' /\ okO l.st /\ okO e /\ (∀ R ∈ l.rs, R.sm) := by
 match Ts, hf with
 | [x, y], .cons h0 (.cons h1 .nil) =>
  obtain ⟨A, rfl, a1, a2, a3⟩ : ∃ S, x = .st S /\ S.deep <= 10 /\ S.Ok /\ S.tms.length <= 60 := h0;obtain ⟨l, e, rfl, h2, h3, h4⟩ : ∃ l e, y = .bx l e /\ okO l.st /\ okO e /\ (∀ R ∈ l.rs, R.sm) := h1
  match us, h with
  | [u, u'], .cons r0 (.cons r .nil) => exact ⟨A, l, e, u, u', rfl, rfl, r0, a1, a2, a3, r, h2, h3, h4⟩
theorem zg5 {l : Ln} {n : Str} (h : onlyN l = some n) : isNm n = true := by
 unfold onlyN at h;cases e : l.rs with
 | nil => rw [e] at h; cases h
 | cons R r =>
  rw [e] at h;cases r with
  | cons _ _ => cases h
  | nil =>
   cases R with
   | s t =>
    have h' : (if isNm t = true then some t else none) = some n := h
    by_cases c : isNm t = true
    ·rw [if_pos c] at h'; cases h'; exact c
    ·rw [if_neg c] at h'; cases h'
   | _ => cases h
theorem zjC {l : Ln} {n : Str} (h : zcG l = some n) : isNm n = true := by
 unfold zcG at h
 by_cases c : l.ru = "case"
 ·rw [if_pos c] at h; exact zg5 h
 ·rw [if_neg c] at h; cases h
theorem zjD {S A : Stm} {l : Ln} (h : oneC S A l = true) : ∃ X B n, A = .qu false X B /\ zcG l = some n /\ n ∉ S.tms /\ n ∉ B.tms := by
 cases A with
 | qu q X B =>
  cases q with
  | true => cases h
  | false =>
   unfold oneC at h;cases en : zcG l with
   | none => rw [en] at h; cases h
   | some n =>
    rw [en] at h;have h' : (!decide (n ∈ S.tms) && !decide (n ∈ B.tms)) = true := h;simp at h';exact ⟨X, B, n, rfl, rfl, h'.1, h'.2⟩
 | _ => cases h
theorem zcU {S A : Stm} {l : Ln} (h : zcG l = none) : oneC S A l = false := by
 unfold oneC;cases A with
 | qu q X B => cases q <;> simp [h]
 | _ => rfl
theorem zfX {S A : Stm} {l : Ln} {e : Option Stm} (h : oneC S A l = false) : fOne S [.st A, .bx l e] = false := by
 show (oneC S A l && _) = false;rw [h, Bool.false_and]
theorem zcH {c : Prop} [Decidable c] {tt : TT} {t u : TS} {Dd : Ends} {σ : St} {H : Hp} (ht : ∀ Qb : Bool -> Hp -> Prop, (∀ H', Same H H' -> Qb (decide c) H') -> tt σ H Qb) (h1 : ∀ H', Same H H' -> c -> t { Dd with nx := u Dd } σ H') (h2 : ∀ H', Same H H' -> ¬ c -> u Dd σ H') : tSeq (tIfS tt t ziL) u Dd σ H := by
 show tt σ H fun b H1 => if b = true then t { Dd with nx := u Dd } σ H1 else u Dd σ H1;refine ht _ fun H' s' => ?_
 by_cases hc : c
 ·rw [ya9 hc, if_pos rfl]; exact h1 H' s' hc
 ·rw [ya8 hc, if_neg (by decide)]; exact h2 H' s' hc
theorem zg6 {S : Stm} (h : S.tag = Str.ofString "some") : ∃ X B, S = .qu false X B := by
 cases S with
 | qu q X B =>
  cases q with
  | false => exact ⟨X, B, rfl⟩
  | true => exact absurd h (show ¬ qtx true = Str.ofString "some" by decide +kernel)
 | neg A => exact absurd h (show ¬ Str.ofString "not" = Str.ofString "some" by decide +kernel)
 | bi o B C => exact absurd h (zkJ o)
 | is x ts => exact absurd h (show ¬ Str.ofString "is" = Str.ofString "some" by decide +kernel)
 | fls => exact absurd h (show ¬ Str.ofString "false" = Str.ofString "some" by decide +kernel)
theorem zeN (e : Option Stm) (S : Stm) : decide (odt e = S.dt) = decide (e = some S) := by
 cases e with
 | none =>
  have h1 : ¬ odt none = S.dt := fun z => by cases S <;> cases z
  have h2 : ¬ (none : Option Stm) = some S := fun z => by cases z
  rw [ya8 h1, ya8 h2]
 | some A =>
  have := Stm.dt_dec A S;show decide (A.dt = S.dt) = _;rw [this]
  by_cases c : A = S
  ·simp [c]
  ·simp [c]
def zou (K : W.Frag) : Sp := fun vs H Q _ => ∃ (v : V) (l : Ln) (e : Option Stm), vs = [v, .str "case"] /\ RepTk K H (.bx l e) v /\ (∀ R ∈ l.rs, R.sm) /\ ∀ H', Same H H' -> Q (nmV (zcG l)) H'
theorem zeb (T : Tx K mg D) : FnOk P w K mg Qd CX0 5 D.a_b3 D.d_b3 ["box", "rule"] (zou K) := by
 have G_c1 := @zdr P w _ _ Qd _ T;refine T.F_b3.ok zea (fun vs H Q E h => ?_) (fun cdv A outer s H vs Q E hr h => ?_)
 ·obtain ⟨v, l, e, rfl, _⟩ := h; rfl
 obtain ⟨v, l, e, rfl, hB, hsm, k⟩ := h;have hu := hr.units;have hr_c1 : Room 4 _ := hr.mono (by decide);refine ⟨_, (zai (zaq (zc4 (zan (za9 K hu) (zal (ixA K) (zal (ixA K) (pv 0) zab (fun _ _ => rfl)) zab (fun _ _ => rfl)) (pv 1) (zav _)) (YC G_c1 hr_c1 (by rfl) T.m_c1 (zaa (zal (ixA K) (pv 0) zab (fun _ _ => rfl)) zae)) zbA))), ?_⟩;walk_at "S";obtain ⟨c, lv, x, rfl, h1, h2, h3⟩ := hB;obtain ⟨la, y, lb, e0, g1, g2, g3⟩ := id h2;subst e0;walk_at "";refine ⟨_, .inr h1, _, i0, ?_⟩;walk_at "t";refine ⟨_, .inr g1, _, i1, ?_⟩;walk_at "t";refine ite2 (fun c1 => ?_) fun c1 => ?_
 ·refine ⟨_, .inr h1, _, i0, _, l, rfl, h2, hsm, fun H' s' => ?_⟩;have := k H' s';unfold zcG at this;rw [if_pos c1] at this;exact this
 ·have := k H (Same.refl _);unfold zcG at this;rw [if_neg c1] at this;exact this
theorem zer (l : List Str) : Dt.deps (l.map Dt.str) <= 60 := by
 have : Dt.deps (l.map Dt.str) = 0 := by
  induction l with
  | nil => rfl
  | cons x l ih => simp only [List.map_cons, Dt.deps, ih]; rfl
 omega
theorem zi8 (T : Tx K mg D) : FnOk P w K mg Qd CX0 21 D.a_e9 D.d_e9 ["S", "taken"] (spBy K [false, true] fOne) := by
 have G_g4 := zks (P := P) (w := w) (Qd := Qd) T 10;have G_b3 := @zeb P w _ _ Qd _ T;have G_d4 := @zdP P w _ _ Qd _ T;refine T.F_e9.ok sc_e9 (fun vs H Q E h => ?_) (fun cdv A outer s H vs Q E hr h => ?_)
 ·obtain ⟨v, S, p, us, Ts, rfl, _⟩ := h; rfl
 obtain ⟨v, S, p, us, Ts, rfl, rS, hp, hR, hf, hd, hS, ht, k⟩ := h;have hu := hr.units;have hr_g4 : Room 11 _ := hr.mono (by decide);have hr_b3 : Room 5 _ := hr.mono (by decide);have hr_d4 : Room 20 _ := hr.mono (by decide);refine ⟨_, (zaf (zap (i := 2) sc_e9.nd (by rfl) (by walk_at "o") (zal (ixA K) (pv 1) zab (fun _ _ => rfl)))
  (zaf (zap (i := 3) sc_e9.nd (by rfl) (by walk_at "o") (zal (ixA K) (pv 1) zab (fun _ _ => rfl)))
  (zaf (zap (i := 4) sc_e9.nd (by rfl) (by walk_at "o") (YC G_b3 hr_b3 (by rfl) T.m_b3 (zaa (pv 3) (zaa zas zae))))
  (zaf (za6 (PW.pt (zbz (zan (zcz K hu) (zal (ixA K) (pv 2) zab (fun _ _ => rfl)) zas (zav _)) (zbz (zdj (zdi (pv 4))) (zbz (zan (zep K hu) (pv 4) (YC G_d4 hr_d4 (by rfl) T.m_d4 (zaa (pv 0) zae)) (by rfl)) (zby (zan (zep K hu) (pv 4) (YC G_d4 hr_d4 (by rfl) T.m_d4 (zaa (pv 2) zae)) (by rfl))))))) (zai (zaq zcI)) zat)
  (zai (zaq (zbB (zaH (zdq K hu) (zal (ixA K) (zal (ixA K) (pv 3) zab (fun _ _ => rfl)) zab (fun _ _ => rfl)) (YC G_g4 hr_g4 (by rfl) T.m_g4 (zaa (zal (ixA K) (pv 2) zab (fun _ _ => rfl)) (zaa (zal (ixA K) (pv 2) zab (fun _ _ => rfl)) (zaa (pv 4) zae)))) (zav _)) (zcx (zaH (zdq K hu) (zal (ixA K) (pv 3) zab (fun _ _ => rfl)) (pv 0) (zav _)))))))))), ?_⟩
 walk_at "S";obtain ⟨B0, l, e, u, u', rfl, rfl, rA, dA, oA, tA, rb, ol, oe, hsm⟩ := znp hR hf;obtain ⟨aA, xs0, rfl, hA2⟩ := rA.tag;obtain ⟨cb, lv, x, rfl, g1, g2, g3⟩ := id rb;refine zaw (fun σ' H' => H' = H /\ σ' = [some v, some (.ref p), some (.ref aA), none, none]) (fun N hN => ?_) fun σ' H1 hv => ?_
 ·walk_at "";exact ⟨_, .inl hp, _, i0, hN _ _ ⟨rfl, rfl⟩⟩
 obtain ⟨rfl, rfl⟩ := hv;refine zaw (fun σ' H' => H' = H1 /\ σ' = [some v, some (.ref p), some (.ref aA), some (.ref cb), none]) (fun N hN => ?_) fun σ' H2 hv => ?_
 ·walk_at "";exact ⟨_, .inl hp, _, i1, hN _ _ ⟨rfl, rfl⟩⟩
 obtain ⟨rfl, rfl⟩ := hv;refine zaw (fun σ' H' => Same H2 H' /\ σ' = [some v, some (.ref p), some (.ref aA), some (.ref cb), some (nmV (zcG l))]) (fun N hN => ?_) fun σ' H3 hv => ?_
 ·walk_at "";exact ⟨_, l, e, rfl, rb, hsm, fun H' s' => hN _ _ ⟨s', rfl⟩⟩
 obtain ⟨s3, rfl⟩ := hv;replace rS := rS.same s3;replace rA := rA.same s3;replace hA2 := s3.seqT hA2;refine zcH (c := oneC S B0 l = false) (fun Qb q => ?_) (fun H4 s4 c => ?_) fun H4 s4 c => ?_
 ·have qT : oneC S B0 l = false -> ∀ H', Same H3 H' -> Qb true H' := fun e H' s' => by have := q H' s'; rw [ya9 e] at this; exact this
  cases en : zcG l with
  | none =>
   walk_at "";refine ⟨_, .inr hA2, _, i0, ?_⟩;walk_at "t";refine ite2 (fun _ => qT (zcU en) _ (Same.refl _)) fun _ => ?_;rw [if_pos (show nmV none = .non from rfl)];exact qT (zcU en) _ (Same.refl _)
  | some n =>
   walk_at "";refine ⟨_, .inr hA2, _, i0, ?_⟩;walk_at "t";refine ite2 (fun c1 => qT ?_ _ (Same.refl _)) fun c1 => ?_
   ·unfold oneC;cases B0 with
    | qu qq X B =>
     cases qq with
     | false => exact absurd rfl c1
     | true => rfl
    | _ => rfl
   rw [if_neg (show ¬ nmV (some n) = .non from fun z => by cases z)];obtain ⟨X, B, rfl⟩ := zg6 (S := B0) (yax c1);have ec : oneC S (.qu false X B) l = (!decide (n ∈ S.tms) && !decide (n ∈ B.tms)) := by
    unfold oneC;rw [en]
   have nmn := zjC en;have memI : ∀ {ts : List Str} {Z : Stm}, (∀ x, x ∈ ts ↔ x ∈ Z.tms /\ isNm x = true) -> ((Dt.str n ∈ ts.map Dt.str) ↔ n ∈ Z.tms) := fun hts => by
    rw [ya6]
    constructor
    ·rintro ⟨y, h1, h2⟩
     cases h2;exact ((hts _).mp h1).1
    ·intro h1;exact ⟨n, (hts _).mpr ⟨h1, nmn⟩, rfl⟩
   refine ⟨_, _, rfl, rS, hS, hd, ht, fun p2 ts H' s' hp2 hts hle => .inr ⟨.str n, ts.map Dt.str, .str n, .inl (RepD.strs hp2), zer _, _, rfl, ?_⟩⟩;refine ite2 (fun c2 => qT ?_ _ s') fun c2 => ?_
   ·rw [ec, ya9 ((memI hts).mp (by simpa using c2))]; rfl
   have c2' : ¬ n ∈ S.tms := fun z => c2 (by simpa using (memI hts).mpr z);refine ⟨_, _, rfl, rA.same s', oA, dA, tA, fun p3 ts3 H'' s'' hp3 hts3 hle3 => .inr ⟨.str n, ts3.map Dt.str, .str n, .inl (RepD.strs hp3), zer _, _, rfl, ?_⟩⟩;have := q H'' (s'.trans s'');have e1 : decide (oneC S (.qu false X B) l = false) = decide (Dt.str n ∈ ts3.map Dt.str) := by
    have e3 : (Dt.str n ∈ ts3.map Dt.str) ↔ n ∈ B.tms := memI (Z := .qu false X B) hts3;rw [ec, ya8 c2', decide_eq_decide, e3];simp
   rw [e1] at this;exact this
 ·walk_at "";have := k H4 (s3.trans s4);rw [zfX c] at this;exact this
 obtain ⟨X, B, n, rfl, en, hnS, hnB⟩ := zjD (by simpa using c);clear c;have ek : fOne S [.st (.qu false X B), .bx l e] = (decide (l.st = some (B.put X n)) && decide (e = some S)) := by
  show (oneC S (.qu false X B) l && (decide (l.st = zdR (.qu false X B) l) && decide (e = some S))) = _;have e1 : oneC S (.qu false X B) l = true := by
   unfold oneC;rw [en];show (!decide (n ∈ S.tms) && !decide (n ∈ B.tms)) = true;rw [ya8 hnS, ya8 hnB]
   rfl
  have e2 : zdR (.qu false X B) l = some (B.put X n) := by
   unfold zdR;rw [en]
  rw [e1, e2, Bool.true_and]
 rw [ek] at k;rw [en];have s24 := s3.trans s4;obtain ⟨la, y, lb, rfl, q1, q2, q3⟩ := g2.same s24;obtain ⟨a', u', e0, h3', rB⟩ := rA.same s4;cases e0;simp only [Stm.deep] at dA;walk_at "";refine ⟨_, .inr (s24.seqT g1), _, i0, ?_⟩;walk_at "t";refine ⟨_, .inr q1, _, i2, _, .inr h3', _, i2, _, .inr h3', _, i1, _, B, X, n, rfl, rB, by omega, oA.2, fun w H5 s5 rw' => ?_⟩;refine .inr ⟨_, _, (q2.same s5).repD, rw'.repD, zeM ol, ?_⟩;rw [zeN];refine ⟨_, rfl, ?_⟩;have s25 := s24.trans s5
 by_cases c : l.st = some (B.put X n)
 ·rw [ya9 c, if_pos rfl];refine ⟨_, .inr (s25.seqT g1), _, i1, ?_⟩;refine .inr ⟨_, _, (g3.same s25).repD, (rS.same (s4.trans s5)).repD, zeM oe, ?_⟩;rw [zeN];have := k H5 s25;rw [ya9 c, Bool.true_and] at this;exact this
 ·rw [ya8 c, if_neg (by decide)];have := k H5 s25;rw [ya8 c, Bool.false_and] at this;exact this
theorem deps_le {k : Nat} : ∀ {l : List Dt}, (∀ d ∈ l, Dt.dep d <= k) -> Dt.deps l <= k
 | [], _ => yaq _
 | a :: l, h => by
  have h1 := h a (by simp);have h2 := deps_le (l := l) fun d hd => h d (by simp [hd]);simp only [Dt.deps];omega
def noB : Rf -> Prop
 | .b _ => False
 | _ => True
def rdt (l : List Rf) : List Dt := l.map fun R => match R with | .n i => Dt.int i | .s t => Dt.str t | .b _ => Dt.non | .o => Dt.non
theorem zi9 {H : Hp} {b : Addr} {l : List Rf} (hb : ∀ R ∈ l, noB R) (h : SqT K H b (l.map Rf.v)) : RepD K H (.tup (rdt l)) (.ref b) :=
 .tup h (by simp [rdt]) fun j d x h1 h2 => by
  unfold rdt at h1;rw [yav] at h1 h2;cases e : l[j]? with
  | none => rw [e] at h1; cases h1
  | some R =>
   rw [e] at h1 h2;cases h1;cases h2;cases R with
   | n i => exact .int i
   | s t => exact .str t
   | b t => exact (hb _ (ya1 e)).elim
   | o => exact .non
theorem zkt (l : List Rf) : Dt.dep (.tup (rdt l)) <= 2 := by
 show Dt.deps _ + 1 <= 2;refine Nat.succ_le_succ (deps_le (k := 1) fun d hd => ?_);obtain ⟨R, _, rfl⟩ := ya6.mp hd;cases R <;> exact yaq _
def Ln.dt (L : Ln) : Dt := .tup [.int L.lev, .str L.ru, odt L.st, .tup (rdt L.rs)]
theorem RepN.repD {H : Hp} {L : Ln} {v : V} (hb : ∀ R ∈ L.rs, noB R) (h : RepN K H L v) : RepD K H L.dt v := by
 obtain ⟨a, x, b, rfl, h2, h3, h4⟩ := h;exact RepD.t4 h2 (.int _) (.str _) h3.repD (zi9 hb h4)
theorem zg7 {o : Option Stm} (h : okO o) : Dt.dep (odt o) <= 19 := by
 cases o with
 | none => exact yaq _
 | some S => have := Stm.dep_dt S; have := (h S rfl).1; show Dt.dep S.dt <= 19; omega
theorem Ln.dep {L : Ln} (h : okO L.st) : Dt.dep L.dt <= 20 := by
 have h1 := zg7 h;have h3 : Dt.dep (.tup (rdt L.rs)) <= 2 := zkt L.rs;show Dt.deps _ + 1 <= 20;refine Nat.succ_le_succ (deps_le (k := 19) fun d hd => ?_);simp only [List.mem_cons, List.not_mem_nil, or_false] at hd;rcases hd with rfl | rfl | rfl | rfl
 ·exact yaq _
 ·exact yaq _
 ·omega
 ·omega
def Tk.dt : Tk -> Dt
 | .non => .non
 | .st S => S.dt
 | .bx l e => .tup [l.dt, odt e]
def Tk.nb : Tk -> Prop
 | .bx l _ => ∀ R ∈ l.rs, noB R
 | _ => True
theorem RepTk.repD {H : Hp} {t : Tk} {v : V} (hb : t.nb) (h : RepTk K H t v) : RepD K H t.dt v := by
 cases t with
 | non => cases (show v = .non from h); exact .non
 | st S => exact RepS.repD (S := S) h
 | bx l e =>
  obtain ⟨a, lv, x, rfl, h1, h2, h3⟩ := h;exact RepD.t2 h1 (RepN.repD hb h2) h3.repD
def Tk.ok : Tk -> Prop
 | .non => True
 | .st S => S.deep <= 10 /\ S.Ok /\ S.tms.length <= 60
 | .bx l e => okO l.st /\ okO e /\ ∀ R ∈ l.rs, R.sm /\ noB R
theorem Tk.ok_nb {t : Tk} (h : t.ok) : t.nb := by
 cases t with
 | bx l e => exact fun R hR => (h.2.2 R hR).2
 | _ => trivial
theorem Tk.dep {t : Tk} (h : t.ok) : Dt.dep t.dt <= 60 := by
 cases t with
 | non => exact yaq _
 | st S => exact yat (Stm.dep_dt S) (by have : S.deep <= 10 := h.1; omega)
 | bx l e =>
  have h1 := Ln.dep h.1;have h2 := zg7 h.2.1;show Dt.deps _ + 1 <= 60;simp only [Dt.deps];omega
def Tk.isN : Tk -> Bool
 | .non => true
 | _ => false
theorem Tk.non_iff (t : Tk) : decide (Dt.non = t.dt) = t.isN := by
 cases t with
 | non => rfl
 | st S => cases S <;> rfl
 | bx l e => rfl
theorem zg8 : ∀ Ts : List Tk, (!decide (Dt.non ∈ Ts.map Tk.dt)) = Ts.all (fun t => !t.isN)
 | [] => rfl
 | t :: Ts => by
  have ih := zg8 Ts;rw [List.all_cons, <- ih, <- Tk.non_iff t]
  by_cases h1 : Dt.non = t.dt
  ·simp [h1]
  ·by_cases h2 : Dt.non ∈ Ts.map Tk.dt <;> simp [h1, h2]
def zfY (L : Nat -> Ln) (f : Nat -> List Nat) (N n : Nat) (ws : List Bool) (rs : List Rf) : List Tk := List.zipWith (tkW L f N n) ws rs
theorem zf2 {L : Nat -> Ln} {f : Nat -> List Nat} {N n : Nat} {b : Bool} {R : Rf} (h : ∀ i, i < N -> okO (L i).st) (hrr : ∀ i, i < n -> ∀ R ∈ (L i).rs, R.sm /\ noB R) (hn : n < N) : (tkW L f N n b R).ok := by
 cases b with
 | true =>
  show (tkB L f N n R).ok;unfold tkB;cases R with
  | s t => trivial
  | b t => trivial
  | o => trivial
  | n i =>
   show Tk.ok (if _ then _ else _)
   split
   ·rename_i hh
    exact ⟨h _ (by omega), h _ (zd0 _ _ _ _ _ _ _ (by omega) (by omega)), hrr _ (by omega)⟩
   ·trivial
 | false =>
  show (tkL L f n R).ok;unfold tkL;cases e : tk f n R with
  | none => trivial
  | some r =>
   have := zos e;show Tk.ok (match (L r).st with | some S => .st S | none => .non);cases e2 : (L r).st with
   | none => trivial
   | some S => exact h r (by omega) S e2
theorem zl0 {L : Nat -> Ln} {f : Nat -> List Nat} {N n : Nat} {b : Bool} {R : Rf} (h : ∀ i, i < N -> okO (L i).st) (hrr : ∀ i, i < n -> ∀ R ∈ (L i).rs, R.sm /\ noB R) (hn : n < N) (hx : (tkW L f N n b R).isN = false) : zlz b (tkW L f N n b R) := by
 have ho := zf2 (f := f) (b := b) (R := R) h hrr hn;have ht : (b = true -> ∀ S, tkW L f N n b R ≠ .st S) /\ (b = false -> ∀ l e, tkW L f N n b R ≠ .bx l e) := by
  constructor
  ·rintro rfl S
   show tkB L f N n R ≠ _;unfold tkB;cases R with
   | s t => intro z; cases z
   | b t => intro z; cases z
   | o => intro z; cases z
   | n i =>
    show (if _ then _ else _) ≠ _
    split <;> (intro z; cases z)
  ·rintro rfl l e
   show tkL L f n R ≠ _;unfold tkL;cases tk f n R with
   | none => intro z; cases z
   | some r =>
    show (match (L r).st with | some S => Tk.st S | none => .non) ≠ _;cases (L r).st <;> (intro z; cases z)
 generalize tkW L f N n b R = t at ho ht hx;cases t with
 | non => cases hx
 | st S =>
  cases b with
  | true => exact absurd rfl (ht.1 rfl S)
  | false => exact ⟨S, rfl, ho.1, ho.2⟩
 | bx l e =>
  cases b with
  | true => exact ⟨l, e, rfl, ho.1, ho.2.1, fun R hR => (ho.2.2 R hR).1⟩
  | false => exact absurd rfl (ht.2 rfl l e)
def zfZ (P : Program) (w : World) (K : W.Frag) (mg : Str -> Option Value) (Qd : Heap) : Sp := fun vs H Q _ => ∃ (ws : List Bool) (gg : Stm -> List Tk -> Bool) (n : Nat) (ra wa fa la pa : Addr) (fd : FuncData) (ls us : List V) (L : Nat -> Ln) (ss : List Str) (g : Nat -> Nat) (S0 : Stm), vs = [.ref ra, .ref la, .ref pa, .int n] /\
 SqT K H ra [.ref wa, .ref fa] /\ SqT K H wa (ws.map fun b => .str (wnt b)) /\ FnOk P w K mg Qd CX0 21 fa fd ["S", "taken"] (spBy K ws gg) /\ W.keepIn K (.ref fa) = true /\ Binds K fd ["S", "taken"] [] /\ ws.length <= 10 /\
 LnsAt K H la pa ls us L ss g /\ n < us.length /\ (L n).rs.length <= 10 /\ (∀ i, i < us.length -> okO (L i).st) /\ (∀ i, i < n -> ∀ R ∈ (L i).rs, R.sm /\ noB R) /\ S0.tms.length <= 60 /\ (L n).st = some S0 /\
 ∀ H', Same H H' -> Q (.bl (decide ((L n).rs.length = ws.length) && ((zfY L (fun i => Qc ss g (i + 1)) us.length n ws (L n).rs).all (fun t => !t.isN) && gg S0 (zfY L (fun i => Qc ss g (i + 1)) us.length n ws (L n).rs)))) H'
theorem zdS {α β : Type} {Rel : α -> β -> Prop} : ∀ {xs : List α} {ys : List β}, xs.length = ys.length -> (∀ (j : Nat) x y, xs[j]? = some x -> ys[j]? = some y -> Rel x y) -> Paired Rel xs ys
 | [], [], _, _ => .nil
 | x :: xs, y :: ys, hl, h => .cons (h 0 x y rfl rfl) (zdS (by simpa using hl) fun j a b e1 e2 => h (j + 1) a b (by simpa using e1) (by simpa using e2))
 | [], _ :: _, hl, _ => by simp at hl
 | _ :: _, [], hl, _ => by simp at hl
theorem zeO (T : Tx K mg D) : FnOk P w K mg Qd CX0 23 D.a_b4 D.d_b4 ["wants_and_step", "lines", "paths", "k"] (zfZ P w K mg Qd) := by
 have G_b5 := @zeK P w _ _ Qd _ T;refine T.F_b4.ok sc_b4 (fun vs H Q E h => ?_) (fun cdv A outer s H vs Q E hr h => ?_)
 ·obtain ⟨ws, gg, n, ra, wa, fa, la, pa, fd, ls, us, L, ss, g, S0, rfl, _⟩ := h; rfl
 obtain ⟨ws, gg, n, ra, wa, fa, la, pa, fd, ls, us, L, ss, g, S0, rfl, hra, hwa, hF, hkp, hB, hm, hA, hn, hrl, hok, hrr, ht60, hS0, k⟩ := h;have hu := hr.units;have hr_b5 : Room 4 _ := hr.mono (by decide);have hr1 : Room 21 _ := hr.mono (by decide);refine ⟨_, (zaf (zap (i := 4) sc_b4.nd (by rfl) (by walk_at "o") (zal (ixA K) (pv 0) zab (fun _ _ => rfl)))
  (zaf (zap (i := 5) sc_b4.nd (by rfl) (by walk_at "o") (zal (ixA K) (pv 0) zab (fun _ _ => rfl)))
  (zaf (zap (i := 6) sc_b4.nd (by rfl) (by walk_at "o") (zal (ixA K) (zal (ixA K) (pv 1) (pv 3) (fun _ _ => rfl)) zab (fun _ _ => rfl)))
  (zaf (za6 (zan (zcz K hu) (zau (zay K) (by rfl) T.z_len yap (zaa (pv 6) zae)) (zau (zay K) (by rfl) T.z_len yap (zaa (pv 4) zae)) (zav _)) (zai (zaq zcI)) zat)
  (zaf (zce (i := 7) 2 [1, 2, 3] ["want", "ref", "lines", "paths", "k"] sc_b4.nd (by rfl) (by rfl) ⟨by rfl, by rfl, by rfl, by rfl, by rfl, by rfl, by rfl⟩ (by rfl) (znc K (by rfl) T.z_zip (zaa (pv 4) (zaa (pv 6) zae))) (fun _ _ _ _ => zjU (by rfl) (zdx (zaG (i := 0) (show List.Nodup (["want", "ref", "lines", "paths", "k"] : List Str) by decide +kernel) (by rfl) (Or.inl (by rfl)) (Or.inr (by rfl))) (zdx (zaG (i := 1) (show List.Nodup (["want", "ref", "lines", "paths", "k"] : List Str) by decide +kernel) (by rfl) (Or.inl (by rfl)) (Or.inr (by rfl))) zhq))) (zhd (by decide)) (fun _ _ _ _ => zbZ) (fun _ _ _ _ => (YC G_b5 hr_b5 (by rfl) T.m_b5 (zaa (pv 0) (zaa (pv 1) (zaa (pv 2) (zaa (pv 3) (zaa (pv 4) zae))))))))
  (zai (zaq (zbB (zaH (zii K hu) zbA (pv 7) (by rfl)) (zcx (zjx (pv 5) (zaa (zal (ixA K) (zal (ixA K) (pv 1) (pv 3) (fun _ _ => rfl)) zab (fun _ _ => rfl)) (zaa (pv 7) zae)))))))))))), ?_⟩
 walk_at "S";have Qe := hA.len;have hnl : n < ls.length := by omega
 obtain ⟨a, x, b, ea, h2, rx, h4⟩ := hA.n n ls[n] (by simp [hnl]);rw [hS0] at rx;have eat : atI ls (n : Int) = some (.ref a) := by rw [<- ea]; exact zag (yal hnl)
 generalize hrs : (L n).rs = rs at h4 hrl k;generalize hf : (fun i => Qc ss g (i + 1)) = f at k;rw [ze0, ze1];simp only [↓w_op, ↓w_v0, ↓w_v1, ↓w_v3, ↓w_c, ↓zdt, ↓zcg, ↓List.set_cons_zero, ↓List.set_cons_succ];refine ⟨_, .inr hra, _, i0, ?_⟩;rw [ze0, ze1];simp only [↓w_op, ↓w_v0, ↓w_v1, ↓w_v3, ↓w_c, ↓zdt, ↓zcg, ↓List.set_cons_zero, ↓List.set_cons_succ];refine ⟨_, .inr hra, _, i1, ?_⟩;rw [ze0, ze1];simp only [↓w_op, ↓w_v0, ↓w_v1, ↓w_v3, ↓w_c, ↓zdt, ↓zcg, ↓List.set_cons_zero, ↓List.set_cons_succ];refine ⟨_, .inr hA.l, _, eat, ?_⟩;rw [zdt];refine ⟨_, .inr h2, _, i3, ?_⟩;refine zbu (c := ¬ rs.length = ws.length) (fun Qb q => ?_) (fun c1 => ?_) fun c1 => ?_
 ·walk_at "";refine ⟨_, .inr h4, _, .inr hwa, ?_⟩;rw [yaf, yaf];have e : (!decide ((rs.length : Int) = (ws.length : Int))) = decide (¬ rs.length = ws.length) := by
   by_cases h : rs.length = ws.length
   ·simp [h]
   ·have h' : ¬ (rs.length : Int) = (ws.length : Int) := by omega
    simp [h, h']
  rw [e];exact q
 ·walk_at "";have kk := k _ (Same.refl _);rw [ya8 c1, Bool.false_and] at kk;exact kk
 ·walk_at "";have hlm : rs.length = ws.length := yax c1;refine ⟨wa, b, rfl, ⟨_, hwa⟩, ⟨_, h4⟩, zj1 (xs := ws.map fun b => V.str (wnt b)) (ys := rs.map Rf.v) (by rw [yaf, yaf, hlm])
   (fun i acc H2 => Same H H2 /\ acc.length = i /\ ∀ j v b r, acc[j]? = some v -> ws[j]? = some b -> rs[j]? = some r -> RepTk K H2 (tkW L f us.length n b r) v) ⟨Same.refl _, rfl, fun j v b r h => absurd h (by rw [List.getElem?_nil]; intro z; cases z)⟩ (fun i acc H2 _ hv => ⟨hv.1.seqT hwa, hv.1.seqT h4⟩) (fun i x y acc H2 t hx hy ht hv => ?_) (fun acc H2 hv p hp => ?_) fun i acc H2 hi hv => ?_⟩
  ·obtain ⟨s2, hal, hacc⟩ := hv;rw [yav] at hx hy;cases er : rs[i]? with
   | none => rw [er] at hy; cases hy
   | some r =>
    cases eb : ws[i]? with
    | none => rw [eb] at hx; cases hx
    | some bb =>
     rw [er] at hy;rw [eb] at hx;cases hy;cases hx;have hiw := (yag.mp eb).1;refine ⟨zaQ (by omega), ?_⟩;walk_at "T";have sq := zac ht (.tup [V.str (wnt bb), r.v]);walk_at "";refine ⟨_, SqT.of zad, rfl, _, _, rfl, _, _, rfl, rfl, ?_⟩;simp only [List.set_cons_zero, List.set_cons_succ];walk_at "t";have s3 := s2.trans sq;refine ⟨bb, r, n, la, pa, ls, us, L, ss, g, rfl, hA.same s3, hn, fun H4 y s4 hy => ⟨s3.trans s4, by rw [yae, hal]; rfl, fun j v b' r' hj hb' hr' => ?_⟩⟩;rw [hf] at hy
     by_cases hlt : j < acc.length
     ·rw [ya5 hlt] at hj;exact (hacc j v b' r' hj hb' hr').same (sq.trans s4)
     ·have hj' : j < (acc ++ [y]).length := (yag.mp hj).1;rw [yae, yas] at hj';have ej : j = acc.length := by omega
      subst ej;rw [List.getElem?_append_right (yai _), Nat.sub_self] at hj;cases hj;rw [hal] at hb' hr';rw [eb] at hb';rw [er] at hr';cases hb';cases hr';exact hy
  ·obtain ⟨s2, hal, hacc⟩ := hv;have s4 := s2.trans (zac hp (.lst acc));rw [yaf] at hal;generalize hTs : zfY L f us.length n ws rs = Ts at k;have hTl : Ts.length = ws.length := by rw [<- hTs]; unfold zfY; rw [List.length_zipWith]; omega
   have hTg : ∀ j t, Ts[j]? = some t -> ∃ b r, ws[j]? = some b /\ rs[j]? = some r /\ t = tkW L f us.length n b r := fun j t ht => by
    rw [<- hTs] at ht;unfold zfY at ht;rw [List.getElem?_zipWith] at ht;cases eb : ws[j]? with
    | none => rw [eb] at ht; cases ht
    | some b =>
     cases er : rs[j]? with
     | none => rw [eb, er] at ht; cases ht
     | some r => rw [eb, er] at ht; cases ht; exact ⟨b, r, by first | rfl | exact eb, by first | rfl | exact er, rfl⟩
   have hRT : zi7 K (upd H2 p (.lst acc)) Ts acc := zdS (by omega) fun j t v e1 e2 => by
    obtain ⟨b', r', g1, g2, rfl⟩ := hTg j t e1;exact (hacc j v b' r' e2 g1 g2).same (zac hp _)
   have hTo : ∀ t ∈ Ts, t.ok := fun t ht => by
    obtain ⟨j, hj⟩ := List.getElem?_of_mem ht;obtain ⟨b', r', _, _, rfl⟩ := hTg j t hj;exact zf2 hok hrr hn
   refine .inr ⟨.non, Ts.map Tk.dt, .non, .inr (RepD.lst (SqL.of zad) (by rw [yaf]; omega) fun j d v e1 e2 => ?_), deps_le fun d hd => ?_, _, rfl, ?_⟩
   ·rw [yav] at e1;cases et : Ts[j]? with
    | none => rw [et] at e1; cases e1
    | some t =>
     rw [et] at e1;cases e1;obtain ⟨b', r', g1, g2, rfl⟩ := hTg j t et;exact RepTk.repD (Tk.ok_nb (zf2 hok hrr hn)) ((hacc j v b' r' e2 g1 g2).same (zac hp _))
   ·obtain ⟨t, ht, rfl⟩ := ya6.mp hd;exact Tk.dep (hTo t ht)
   ·show if (!decide (Dt.non ∈ Ts.map Tk.dt)) = true then _ else _;rw [zg8 Ts];refine ite2 (fun c => ?_) fun c => ?_
    ·refine ⟨fa, CX0, 21, fd, ["S", "taken"], spBy K ws gg, [], [], E0, rfl, hF, hr1, hkp, hB, .nil, za0, ?_⟩;refine ⟨_, .inr (s4.seqT hA.l), _, eat, ?_⟩;rw [zdt];refine ⟨_, .inr (s4.seqT h2), _, i2, x, S0, p, acc, Ts, rfl, RepS.same (S := S0) s4 rx, SqL.of zad, hRT, zdS (by omega) (fun j b' t e1 e2 => ?_), (hok n hn S0 hS0).1, (hok n hn S0 hS0).2.1, ht60, fun H' s' => ?_⟩
     ·obtain ⟨b'', r', g1, g2, rfl⟩ := hTg j t e2;rw [e1] at g1;cases g1;refine zl0 hok hrr hn ?_;have := List.all_eq_true.mp c _ (ya1 e2);simpa using this
     ·have kk := k H' (s4.trans s');rw [ya9 hlm, Bool.true_and, c, Bool.true_and] at kk;exact kk
    ·have kk := k _ s4;rw [Bool.eq_false_iff.mpr c, Bool.false_and, Bool.and_false] at kk;exact kk
  ·exact zaQ (by rw [yaf] at hi; have := hv.2.1; omega)
def zl1 (K : W.Frag) : Sp := fun vs H Q _ => ∃ (v : V) (o : Option Stm) (ru : Str), vs = [v, .str ru] /\ RepOS K H o v /\ ((ru = "new" /\ o = none) \/ (ru ≠ "new" /\ ∃ S, o = some S /\ StOk 10 S)) /\ ∀ H', Same H H' -> Q (.bl true) H'
theorem zdv (T : Tx K mg D) : FnOk P w K mg Qd CX0 21 D.a_a6 D.d_a6 ["statement", "rule"] (zl1 K) := by
 have G_e2 := @zhi P w _ _ Qd _ T;refine T.F_a6.ok zdu (fun vs H Q E h => ?_) (fun cdv A outer s H vs Q E hr h => ?_)
 ·obtain ⟨v, o, ru, rfl, _⟩ := h; rfl
 obtain ⟨v, o, ru, rfl, rv, hc, k⟩ := h;have hu := hr.units;have hr_e2 : Room 20 _ := hr.mono (by decide);refine ⟨_, (zaf (za6 (PW.pt (zbz (zan (za9 K hu) (pv 1) zas (zav _)) (zby (zdj (zdi (pv 0)))))) (zai (zaq (zbB (zaH (za9 K hu) (pv 1) zas (zav _)) (zcx (zjQ (zdi (pv 0))))))) zat)
  (zai (zaq (zaH (za9 K hu) (zau (zay K) (by rfl) T.z_len yap (zaa (YC G_e2 hr_e2 (by rfl) T.m_e2 (zaa (pv 0) zae)) zae)) zab (zav _))))), ?_⟩
 walk_at "S";rcases hc with ⟨rfl, rfl⟩ | ⟨hn, S, rfl, oS⟩
 ·cases (show v = .non from rv);walk_at "";exact k H (Same.refl _)
 ·have rS : RepS K H S v := rv;obtain ⟨a, xs0, rfl, h2⟩ := rS.tag;walk_at "";rw [if_neg hn, if_neg (by intro h; cases h)];refine ⟨_, S, rfl, rS, oS, fun p H1 s1 hp => ?_⟩;walk_at "t";refine ⟨_, .inr hp, ?_⟩;walk_at "t";exact k H1 s1
def ansW (L : Nat -> Ln) (f : Nat -> List Nat) (N n : Nat) (ws : List Bool) (gg : Stm -> List Tk -> Bool) (S0 : Stm) : Bool := decide ((L n).rs.length = ws.length) && ((zfY L f N n ws (L n).rs).all (fun t => !t.isN) && gg S0 (zfY L f N n ws (L n).rs))
def tab7 (D : Defs) : List (Str × V) := [("again", .ref D.r_RULES_0), ("both", .ref D.r_RULES_1), ("left", .ref D.r_RULES_2), ("right", .ref D.r_RULES_3), ("either", .ref D.r_RULES_4), ("cases", .ref D.r_RULES_5), ("then", .ref D.r_RULES_6), ("use", .ref D.r_RULES_7), ("deny", .ref D.r_RULES_8), ("clash", .ref D.r_RULES_9), ("absurd", .ref D.r_RULES_10), ("any", .ref D.r_RULES_11), ("each", .ref D.r_RULES_12), ("every", .ref D.r_RULES_13), ("some", .ref D.r_RULES_14), ("one", .ref D.r_RULES_15)]
def newB (L : Nat -> Ln) (n : Nat) (b : Bool) : Prop := b = true ↔ ∃ x, onlyN (L n) = some x /\ ¬ anyN L n x
def lnH (L : Nat -> Ln) (n : Nat) : Prop := ∀ i, i < n -> (L i).rs.length <= 10 /\ ∀ S, (L i).st = some S -> S.Ok /\ S.deep <= 10 /\ S.tms.length <= 60
def fixB (L : Nat -> Ln) (n : Nat) (b : Bool) : Prop := if (L n).ru = "guess" then b = decide ((((L n).rs.map Rf.v).length : Int) = 0) else newB L n b
theorem newB.one {L : Nat -> Ln} {n : Nat} {b c : Bool} (h1 : newB L n b) (h2 : newB L n c) : b = c := by
 have h := h1.trans h2.symm;cases b <;> cases c <;> simp_all
theorem fixB.one {L : Nat -> Ln} {n : Nat} {b c : Bool} (h1 : fixB L n b) (h2 : fixB L n c) : b = c := by
 unfold fixB at h1 h2
 by_cases e : (L n).ru = "guess"
 ·rw [if_pos e] at h1 h2; rw [h1, h2]
 ·rw [if_neg e] at h1 h2; exact h1.one h2
def znq (L : Nat -> Ln) (f : Nat -> List Nat) (N n : Nat) (H : Hp) (Q : VK) : Prop :=
 ((L n).ru = "one" /\ ∃ S0, (L n).st = some S0 /\ StOk 10 S0 /\ S0.tms.length <= 60 /\ ∀ H', Same H H' -> Q (.bl (ansW L f N n [false, true] fOne S0)) H') \/
 ((L n).ru = "new" /\ (L n).st = none /\ ∀ b H', Same H H' -> newB L n b -> Q (.bl b) H') \/
 (((L n).ru = "case" \/ (L n).ru = "guess") /\ (∃ S0, (L n).st = some S0 /\ StOk 10 S0) /\ ∀ b H', Same H H' -> fixB L n b -> Q (.bl b) H')
def spFB (D : Defs) (K : W.Frag) : Sp := fun vs H Q _ => ∃ (n : Nat) (ah la pa dx d : Addr) (ls us : List V) (L : Nat -> Ln) (ss : List Str) (g : Nat -> Nat) (H0 : Hp), vs = [.ref ah, .ref la, .ref pa, .int n] /\ H ah = some (.ins D.C_Ahead dx (zfz (.ref la) d)) /\ H d = some (.dK (dS [])) /\ d ≠ ah /\ Same H0 H /\ H0 ah = none /\ H0 d = none /\
 LnsAt K H0 la pa ls us L ss g /\ n < us.length /\ (L n).rs.length <= 10 /\ (∀ R ∈ (L n).rs, R.sm) /\ (∀ i, i < us.length -> okO (L i).st) /\ (∀ i, i < n -> ∀ R ∈ (L i).rs, R.sm /\ noB R) /\ lnH L n /\ znq L (fun i => Qc ss g (i + 1)) us.length n H0 Q
theorem zdg (T : Tx K mg D) : FnOk P w K mg Qd CX0 24 D.a_a3 D.d_a3 ["ahead", "lines", "paths", "k"] (spFB D K) := by
 have G_a6 := @zdv P w _ _ Qd _ T;have G_b4 := @zeO P w _ _ Qd _ T;have G_a1 := @zc9 P w _ _ Qd _ T;have G_a4 := @zdf P w _ _ Qd _ T;have G_c1 := @zdr P w _ _ Qd _ T;refine T.F_a3.ok sc_a3 (fun vs H Q E h => ?_) (fun cdv A outer s H vs Q E hr h => ?_)
 ·obtain ⟨n, ah, la, pa, dx, d, ls, us, L, ss, g, H0, rfl, _⟩ := h; rfl
 obtain ⟨n, ah, la, pa, dx, d, ls, us, L, ss, g, H0, rfl, hah, hd, hda, s0, a0, d0, hA, hn, hrl, hsm, hok, hrr, hlh, hask⟩ := h;have hu := hr.units;have hr_a6 : Room 21 _ := hr.mono (by decide);have hr_b4 : Room 23 _ := hr.mono (by decide);have hr_a1 : Room 1 _ := hr.mono (by decide);have hr_a4 : Room 22 _ := hr.mono (by decide);have hr_c1 : Room 4 _ := hr.mono (by decide);refine ⟨_, (zaf (zap (i := 4) sc_a3.nd (by rfl) (by walk_at "o") (zal (ixA K) (pv 1) (pv 3) (fun _ _ => rfl)))
  (zaf (zap (i := 5) sc_a3.nd (by rfl) (by walk_at "o") (zal (ixA K) (pv 4) zab (fun _ _ => rfl)))
  (zaf (za6 (zcr (zbm (YC G_a6 hr_a6 (by rfl) T.m_a6 (zaa (zal (ixA K) (pv 4) zab (fun _ _ => rfl)) (zaa (pv 5) zae))))) (zai (zaq zcI)) zat)
  (zaf (za6 (zan (za9 K hu) (pv 5) zas (zav _)) (zai (zaq (zbB (zaH (za9 K hu) (zau (zay K) (by rfl) T.z_len yap (zaa (zal (ixA K) (pv 4) zab (fun _ _ => rfl)) zae)) zab (zav _)) (zbB (zaH (za9 K hu) (zal (ixA K) (pv 4) zab (fun _ _ => rfl)) zab (zav _)) (zcx (zh8 (pv 0) T.cl_Ahead T.h_a1 G_a1 hr_a1 T.b_a1 .nil za0 (zaa (pv 3) zae))))))) zat)
  (zaf (za6 (zan (za9 K hu) (pv 5) zas (zav _)) (zai (zaq (zaH (za9 K hu) (zau (zay K) (by rfl) T.z_len yap (zaa (zal (ixA K) (pv 4) zab (fun _ _ => rfl)) zae)) zab (zav _)))) zat)
  (zaf (za6 (PW.pt (zbz (zan (za9 K hu) (pv 5) zas (zav _)) (zby (zan (za9 K hu) (pv 5) zas (zav _))))) (zaf (zap (i := 6) sc_a3.nd (by rfl) (by walk_at "o") (YC G_c1 hr_c1 (by rfl) T.m_c1 (zaa (pv 4) zae)))
  (zai (zaq (zbB (zjQ (zho (pv 6))) (zcx (zjS (zh8 (pv 0) T.cl_Ahead T.h_a4 G_a4 hr_a4 T.b_a4 .nil za0 (zaa (pv 6) (zaa (pv 3) zae))))))))) zat)
  (zai (zaq (zbB (zaH (zmY K) (pv 5) (T.g_RULES (by rfl)) (by rfl)) (zcx (YC G_b4 hr_b4 (by rfl) T.m_b4 (zaa (zal (ixT K) (T.g_RULES (by rfl)) (pv 5) (fun _ _ => rfl)) (zaa (pv 1) (zaa (pv 2) (zaa (pv 3) zae))))))))))))))), ?_⟩
 walk_at "S";have Qe := hA.len;have hsmA := hA.sm;have hnl : n < ls.length := by omega
 obtain ⟨lv, hlv⟩ : ∃ v, ls[n]? = some v := ⟨_, yal hnl⟩
 have rLn := hA.n n lv hlv;obtain ⟨a, x, b, ea, h2, rx, h4⟩ := id rLn;subst ea;have eat : atI ls (n : Int) = some (.ref a) := zag hlv;have hA1 := hA.same s0;rw [ze0, ze1];simp only [↓w_op, ↓w_v1, ↓w_v3, ↓w_v4, ↓w_c, ↓zdt, ↓zcg, ↓List.set_cons_zero, ↓List.set_cons_succ];refine ⟨_, .inr hA1.l, _, eat, ?_⟩;rw [ze0, ze1];simp only [↓w_op, ↓w_v1, ↓w_v3, ↓w_v4, ↓w_c, ↓zdt, ↓zcg, ↓List.set_cons_zero, ↓List.set_cons_succ];refine ⟨_, .inr (s0.seqT h2), _, i1, ?_⟩;have hfit : ((L n).ru = "new" /\ (L n).st = none) \/ ((L n).ru ≠ "new" /\ ∃ S, (L n).st = some S /\ StOk 10 S) := by
  rcases hask with ⟨e, S0, e1, e2, _⟩ | ⟨e, e1, _⟩ | ⟨e, ⟨S0, e1, e2⟩, _⟩
  ·exact .inr ⟨by rw [e]; decide +kernel, S0, e1, e2⟩
  ·exact .inl ⟨e, e1⟩
  ·exact .inr ⟨by rcases e with e | e <;> (rw [e]; decide +kernel), S0, e1, e2⟩
 refine zaw (fun σ' H' => Same H H' /\ σ' = [some (V.ref ah), some (V.ref la), some (V.ref pa), some (V.int n), some (V.ref a), some (V.str (L n).ru), none]) (fun N hN => ?_) fun σ' H' hv => ?_
 ·walk_at "";refine ⟨_, .inr (s0.seqT h2), _, i2, x, (L n).st, (L n).ru, rfl, rx.same s0, hfit, fun H' s' => ⟨true, rfl, ?_⟩⟩;rw [if_neg (by decide)];exact hN _ _ ⟨s', rfl⟩
 obtain ⟨s1, rfl⟩ := hv;have s01 := s0.trans s1;have named : ∀ (kk : ∀ b H2, Same H0 H2 -> newB L n b -> Q (.bl b) H2), zkr K [V.ref a] H' (fun x H1 => if ¬ x = V.non then ∃ a dx fs, V.ref ah = V.ref a /\ H1 a = some (HO.ins D.C_Ahead dx fs) /\ List.lookup (Str.ofString "has_name") fs = none /\ zno D K [V.ref ah, x, V.int n] H1 (fun x H1 => ∃ c, x = V.bl c /\ Q (V.bl !c) H1) E0 else Q (V.bl false) H1) E0 := fun kk => by
  refine ⟨_, L n, rfl, rLn.same s01, hsm, fun H2 s2 => ?_⟩;have s02 := s01.trans s2;cases e : onlyN (L n) with
  | none =>
   show if ¬ V.non = V.non then _ else _;rw [if_neg (fun z => z rfl)];exact kk _ _ s02 ⟨fun z => (by cases z), fun ⟨x, z, _⟩ => by rw [e] at z; cases z⟩
  | some nm =>
   show if ¬ V.str nm = V.non then _ else _;rw [if_pos (fun z => by cases z)];refine ⟨ah, dx, _, rfl, (s1.trans s2) _ _ hah, by rfl, ah, dx, d, la, nm, n, H0, ls, L, rfl, (s1.trans s2) _ _ hah, (s1.trans s2) _ _ hd, hda, s02, a0, d0, hA.l, hA.n, by omega, by omega, hlh, fun c H3 s3 hc => ⟨c, rfl, kk _ _ s3 ?_⟩⟩
   constructor
   ·intro z;refine ⟨nm, e, fun q => ?_⟩;rw [hc.mpr q] at z;cases z
   ·rintro ⟨y, e', hy⟩
    rw [e] at e';cases e';cases c with
    | false => rfl
    | true => exact absurd (hc.mp rfl) hy
 rcases hask with ⟨hg, S0, e1, e2, e3, k⟩ | ⟨hg, e1, k⟩ | ⟨hg, ⟨S0, e1, e2⟩, k⟩
 ·rw [hg];walk_at "";have hat : PyProof.Rows.KTD.datumAt (Str.ofString "one") (tab7 D) = some (.ref D.r_RULES_15) := by rfl
  have hin : PyProof.Rows.KTD.inKeys (Str.ofString "one") (tab7 D) = true := by rw [<- PyProof.Rows.KTD.isSome_datumAt, hat]; rfl
  rw [if_neg (show ¬ Str.ofString "one" = Str.ofString "given" by decide +kernel), if_neg (show ¬ Str.ofString "one" = Str.ofString "guess" by decide +kernel), if_neg (show ¬ Str.ofString "one" = Str.ofString "new" by decide +kernel), if_neg (show ¬ Str.ofString "one" = Str.ofString "case" by decide +kernel)];refine ⟨tab7 D, T.q_RULES, ?_⟩;rw [if_pos hin];exact ⟨tab7 D, _, T.q_RULES, hat, [false, true], fOne, n, D.r_RULES_15, D.w_RULES_15, D.a_e9, la, pa, _, ls, us, L, ss, g, S0, rfl, T.qr_RULES_15 _, T.qw_RULES_15 _, zi8 T, T.F_e9.kp, T.m_e9.2.2, by decide, hA.same s01, hn, hrl, hok, hrr, e3, e1, fun H2 s2 => k H2 (s01.trans s2)⟩
 ·rw [hg];walk_at "";rw [if_neg (show ¬ Str.ofString "new" = Str.ofString "given" by decide +kernel), if_neg (show ¬ Str.ofString "new" = Str.ofString "guess" by decide +kernel)];exact named fun b H2 s2 hb => k b H2 s2 hb
 ·rcases hg with hg | hg
  ·rw [hg];walk_at "";rw [if_neg (show ¬ Str.ofString "case" = Str.ofString "given" by decide +kernel), if_neg (show ¬ Str.ofString "case" = Str.ofString "guess" by decide +kernel), if_neg (show ¬ Str.ofString "case" = Str.ofString "new" by decide +kernel)];exact named fun b H2 s2 hb => k b H2 s2 (by unfold fixB; rw [if_neg (by rw [hg]; decide +kernel)]; exact hb)
  ·rw [hg];walk_at "";rw [if_neg (show ¬ Str.ofString "guess" = Str.ofString "given" by decide +kernel)];refine ⟨_, .inr (s01.seqT h2), _, i3, ?_⟩;walk_at "t";refine ⟨_, .inr (s01.seqT h4), ?_⟩;walk_at "t";exact k _ _ s01 (by unfold fixB; rw [if_pos hg])
def zdT (D : Defs) (K : W.Frag) : Sp := fun vs H Q _ => ∃ (n : Nat) (la pa : Addr) (ls us : List V) (L : Nat -> Ln) (ss : List Str) (g : Nat -> Nat), vs = [.ref la, .ref pa, .int n] /\
 LnsAt K H la pa ls us L ss g /\ n < us.length /\ (L n).rs.length <= 10 /\ (∀ R ∈ (L n).rs, R.sm) /\ (∀ i, i < us.length -> okO (L i).st) /\ (∀ i, i < n -> ∀ R ∈ (L i).rs, R.sm /\ noB R) /\ lnH L n /\ znq L (fun i => Qc ss g (i + 1)) us.length n H Q
theorem zhj (T : Tx K mg D) : FnOk P w K mg Qd CX0 25 D.a_d6 D.d_d6 ["lines", "paths", "k"] (zdT D K) := by
 have G_a3 := @zdg P w _ _ Qd _ T;have G_b6 := @zeL P w _ _ Qd _ T;refine T.F_d6.ok zhg (fun vs H Q E h => ?_) (fun cdv A outer s H vs Q E hr h => ?_)
 ·obtain ⟨n, la, pa, ls, us, L, ss, g, rfl, _⟩ := h; rfl
 obtain ⟨n, la, pa, ls, us, L, ss, g, rfl, hA, hn, hrl, hsm, hok, hrr, hlh, hk⟩ := h;have hu := hr.units;have hr_a3 : Room 24 _ := hr.mono (by decide);have hr_b6 : Room 2 _ := hr.mono (by decide);refine ⟨_, (zai (zaq (YC G_a3 hr_a3 (by rfl) T.m_a3 (zaa (zk8 T.mk_Ahead G_b6 hr_b6 (by rfl) T.m_Ahead T.b_b6 .nil za0 (zaa (pv 0) zae)) (zaa (pv 0) (zaa (pv 1) (zaa (pv 2) zae))))))), ?_⟩;walk_at "S";walk_at "";intro x dx hx hdx hne;refine ⟨x, dx, .ref la, rfl, zad, fun H1 d h1 hkeep hd0 hd1 hdx' => ⟨rfl, ?_⟩⟩;have s1 : Same H H1 := fun b u hb => hkeep b u (za8 hb hx) (by rw [za7 (za8 hb hx), za7 (za8 hb hdx)]; exact hb);have hd0' : H d = none := by
  cases e : H d with
  | none => rfl
  | some z => rw [za7 (za8 e hx), za7 (za8 e hdx), e] at hd0; cases hd0
 exact ⟨n, x, la, pa, dx, d, ls, us, L, ss, g, H, rfl, h1, hd1, hdx', s1, hx, hd0', hA, hn, hrl, hsm, hok, hrr, hlh, hk⟩
theorem zdU (T : Tx K mg D) : FnOk P w K mg Qd CX0 2 D.a_a9 D.d_a9 ["path", "line", "k"] (zj4 K) := by
 have G_f8 := @zg4 P w _ _ Qd _ T;refine T.F_a9.ok sc_a9 (fun vs H Q E h => ?_) (fun cdv A outer s H vs Q E hr h => ?_)
 ·obtain ⟨a, c, n, p, l, r, x, y, rfl, _⟩ := h; rfl
 obtain ⟨a, c, n, p, l, r, x, y, rfl, hA, hC, hl, k1, k2⟩ := h;have hu := hr.units;have hr_f8 : Room 1 _ := hr.mono (by decide);refine ⟨_, (zaf (zap (i := 3) sc_a9.nd (by rfl) (by walk_at "o") (zal (ixA K) (pv 1) zab (fun _ _ => rfl)))
  (zaf (zap (i := 4) sc_a9.nd (by rfl) (by walk_at "o") (zc4 (zbm (YC G_f8 hr_f8 (by rfl) T.m_f8 (zaa (zal (ixA K) (pv 1) zab (fun _ _ => rfl)) zae))) (zao zbU (pv 3) zab) (pv 3)))
  (zaf (za6 (PW.pt (zbz (zan zct (pv 4) zab (zav _)) (zby (zan zlP (pv 4) (zau (zay K) (by rfl) T.z_len yap (zaa (pv 0) zae)) (zav _))))) (zai (zaq zbA)) zat)
  (zaf (za6 (zbm (YC G_f8 hr_f8 (by rfl) T.m_f8 (zaa (zal (ixA K) (pv 1) zab (fun _ _ => rfl)) zae))) (zai (zaq (zao (za3 K) (zaR (slB K) (pv 0) zbd (zbe (pv 4))) (zaE (zaa (pv 2) zae))))) zat)
  (zai (zaq (zaR (slB K) (pv 0) zbd (zbe (pv 4))))))))), ?_⟩
 walk_at "S";walk_at "";refine ⟨_, .inr hC, _, i0, _, .inr hC, _, i1, r, rfl, ite2 (fun c1 => ?_) fun c1 => ?_⟩
 ·walk_at "";refine ite2 (fun c2 => k1 ?_) fun c2 => ⟨_, .inr hA, ?_⟩
  ·unfold zbD zdK; rw [if_pos c1, if_pos (.inl c2)]
  walk_at "t";rw [zcu];refine ite2 (fun c3 => k1 ?_) fun c3 => ⟨_, .inr hC, _, i1, r, rfl, ?_⟩
  ·unfold zbD zdK; rw [if_pos c1, if_pos (.inr c3)]
  rw [if_pos c1];refine ⟨_, .inr ⟨hA, fun q H1 s1 h1 => ⟨zar (show 1 <= 100000 by decide), fun p2 hp2 => ⟨_, _, .inr ⟨(zac hp2 _).seqT h1, SqT.of zad, ?_, fun b H3 s3 h3 => ?_⟩⟩⟩⟩⟩
  ·obtain ⟨m, hm⟩ : ∃ m : Nat, l - 1 = m := ⟨(l - 1).toNat, by omega⟩
   rw [hm, zcO, zcc, zcu];have := List.length_take_le' m p;exact zar (by simp only [List.length_singleton]; omega)
  ·obtain ⟨m, hm⟩ : ∃ m : Nat, l - 1 = m := ⟨(l - 1).toNat, by omega⟩
   rw [hm, zcO, zcc] at h3;refine k2 (p.take m ++ [n]) ?_ b H3 ((s1.trans (zac hp2 _)).trans s3) ?_
   ·unfold zbD zdK;rw [if_pos c1, if_neg (by omega), if_pos c1, hm, ya4]
   ·have e : iv (p.take m ++ [n]) = iv (p.take m) ++ [V.int n] := by simp [iv]
    rw [e]; exact h3
 ·walk_at "";refine ite2 (fun c2 => k1 ?_) fun c2 => ⟨_, .inr hA, ?_⟩
  ·unfold zbD zdK; rw [if_neg c1, if_pos (.inl c2)]
  walk_at "t";rw [zcu];refine ite2 (fun c3 => k1 ?_) fun c3 => ⟨_, .inr hC, _, i1, r, rfl, ?_⟩
  ·unfold zbD zdK; rw [if_neg c1, if_pos (.inr c3)]
  rw [if_neg c1];refine ⟨_, .inr ⟨hA, fun q H1 s1 h1 => ?_⟩⟩;obtain ⟨m, hm⟩ : ∃ m : Nat, l = m := ⟨l.toNat, by omega⟩
  rw [hm, zcO, zcc] at h1;refine k2 (p.take m) ?_ q H1 s1 h1;unfold zbD zdK;rw [if_neg c1, if_neg (by omega), if_neg c1, hm, ya4]
theorem zdw (T : Tx K mg D) : FnOk P w K mg Qd CX0 3 D.a_a5 D.d_a5 ["lines"] (zoh K) := by
 have G_a9 := @zdU P w _ _ Qd _ T;refine T.F_a5.ok sc_a5 (fun vs H Q E h => ?_) (fun cdv A outer s H vs Q E hr h => ?_)
 ·obtain ⟨a, us, f, rfl, _⟩ := h; rfl
 obtain ⟨a, us, f, rfl, hA, hL, hl, k⟩ := h;have hu := hr.units;have hr_a9 : Room 2 _ := hr.mono (by decide);refine ⟨_, (zaf (zap (i := 1) sc_a5.nd (by rfl) (by walk_at "o") (zaB zae))
  (zaf (zap (i := 2) sc_a5.nd (by rfl) (by walk_at "o") (zaE zae))
  (zaf (zcd PassesOwn.never (by rfl) (zle K (by rfl) T.z_enumerate (zaa (pv 0) zae)) (zjU (by rfl) (zdx (zaG (i := 3) sc_a5.nd (by rfl) (by walk_at "o")) (zdx (zaG (i := 4) sc_a5.nd (by rfl) (by walk_at "o")) zhq)))
   (zaf (zap (i := 2) sc_a5.nd (by rfl) (by walk_at "o") (YC G_a9 hr_a9 (by rfl) T.m_a9 (zaa (pv 2) (zaa (pv 4) (zaa (pv 3) zae)))))
  (zaf (za6 (zdj (zdi (pv 2))) (zai zgh) zat)
  (zai (zbl (zb1 K yar PySem.F.slot_list_append yaw zaP (pv 1) (zaa (pv 2) zae)))))))
  (zai (zaq (zaF (zaX K) (by rfl) T.z_tuple (by rfl) (zaa (pv 1) zae))))))), ?_⟩
 walk_at "S";walk_at "";refine ⟨yaq _, fun p hp => ⟨yaq _, fun p1 hp1 => ?_⟩⟩;have s0 : Same H (upd (upd H p (.lst [])) p1 (.tup [])) := ((Same.refl H).upd hp).trans (zac hp1 _);have hne : p ≠ p1 := za8 zad hp1;refine ⟨a, rfl, ⟨_, s0.seqT hA⟩, ?_⟩;refine zit (xs := us) (fun i σ H2 => Same H H2 /\ ∃ c ps u3 u4 pt, σ = [some (.ref a), some (.ref p), some (.ref c), u3, u4] /\ zbJ f i = some pt /\ SqT K H2 c (iv pt) /\ H2 p = some (.lst ps) /\ ps.length = i /\ RepPs K H2 (fun i => (zbJ f (i + 1)).getD []) ps /\ ∀ j, j < i -> zbJ f (j + 1) ≠ none)
  ⟨s0, p1, [], _, _, [], rfl, rfl, SqT.of zad, by rw [za7 hne]; exact zad, rfl, RepPs.nil, fun j hj => absurd hj (by omega)⟩ (fun i σ H2 _ hv => hv.1.seqT hA) (fun i x σ H2 hx hv t ht => ?_) fun σ H2 hv => ?_
 ·obtain ⟨s2, c, ps, u3, u4, pt, rfl, hf, hc, hps, Qe, hP, hno⟩ := hv;obtain ⟨ln, x1, y1, rfl, hln⟩ := hL i x hx;have hi : i < us.length := (yag.mp hx).1;walk_at "";refine ⟨_, SqT.of zad, rfl, ?_⟩;walk_at "";have st := zac ht (.tup [V.int (i : Int), V.ref ln]);have s3 := s2.trans st;have hps3 : upd H2 t (.tup [V.int (i : Int), V.ref ln]) p = some (.lst ps) := zbv ht hps;refine ⟨c, ln, i, pt, _, _, x1, y1, rfl, st.seqT hc, s3.seqT hln, by have := ziw hf; omega, fun hn => ?_, fun q hq b H4 s4 hb => ?_⟩
  ·walk_at "";exact ⟨_, .inl ⟨SqL.of hps3, fun l hl' => k l ps _ (s3.trans (zac hl' _)) (SqT.of zad) ((hP.same st).same (zac hl' _)) (by omega) (fun i hi => hno i (by omega)) (fun _ => by
    rw [Qe];show (zbJ f i).bind (zbD i (f i).1 (f i).2) = none;rw [hf]; exact hn)⟩⟩
  ·walk_at "";rw [if_neg (by intro z; cases z)];have hps4 : H4 p = some (.lst ps) := s4 p _ hps3;have hfi : zbJ f (i + 1) = some q := by
    show (zbJ f i).bind (zbD i (f i).1 (f i).2) = some q;rw [hf]; exact hq
   refine ⟨⟨_, SqL.of hps4⟩, ps, hps4, zaQ (by omega), (s3.trans s4).upd hp, b, ps ++ [.ref b], _, _, q, rfl, hfi, hb.keepL hps4, zad, by simp [Qe], ?_, fun j hj => ?_⟩
   ·refine RepPs.snoc (((hP.same st).same s4).keepL hps4) ?_;rw [Qe];show SqT K _ b (iv ((zbJ f (i + 1)).getD []));rw [hfi];exact hb.keepL hps4
   ·by_cases e : j = i
    ·subst e; rw [hfi]; simp
    ·exact hno j (by omega)
 ·obtain ⟨s2, c, ps, u3, u4, pt, rfl, hf, hc, hps, Qe, hP, hno⟩ := hv;walk_at "";exact ⟨_, .inl ⟨SqL.of hps, fun l hl' => k l ps _ (s2.trans (zac hl' _)) (SqT.of zad) (hP.same (zac hl' _)) (by omega) (fun i hi => hno i (by omega)) (fun h => by omega)⟩⟩
def zjE (K : W.Frag) : Sp := fun vs H Q _ => ∃ (a : Addr) (us : List V) (f : Nat -> Int × Str), vs = [.ref a] /\ SqT K H a us /\ zj3 K H f us /\ us.length <= 80 /\ zbJ f us.length ≠ none /\
 ∀ (q : Addr) ps H', Same H H' -> SqT K H' q ps -> ps.length = us.length -> RepPs K H' (fun i => (zbJ f (i + 1)).getD []) ps -> Q (.ref q) H'
theorem zjF (T : Tx K mg D) : FnOk P w K mg Qd CX0 4 D.a_f9 D.d_f9 ["lines"] (zjE K) := by
 have G_a5 := @zdw P w _ _ Qd _ T;refine T.F_f9.ok sc_f9 (fun vs H Q E h => ?_) (fun cdv A outer s H vs Q E hr h => ?_)
 ·obtain ⟨a, us, f, rfl, _⟩ := h; rfl
 obtain ⟨a, us, f, rfl, hA, hL, hl, hf, k1⟩ := h;have hu := hr.units;have hr_a5 : Room 3 _ := hr.mono (by decide);refine ⟨_, (zaf (zap (i := 1) sc_f9.nd (by rfl) (by walk_at "o") (YC G_a5 hr_a5 (by rfl) T.m_a5 (zaa (pv 0) zae)))
  (zaf (za6 (zan zct (zau (zay K) (by rfl) T.z_len yap (zaa (pv 1) zae)) (zau (zay K) (by rfl) T.z_len yap (zaa (pv 0) zae)) (zav _)) (zaf (zap (i := 2) sc_f9.nd (by rfl) (by walk_at "o") (zau (zay K) (by rfl) T.z_len yap (zaa (pv 1) zae)))
  (zai ziM)) zat)
  (zai (zaq (pv 1))))), ?_⟩
 walk_at "S";walk_at "";refine ⟨a, us, f, rfl, hA, hL, hl, fun q ps H1 s1 hq hP h1 h2 h3 => ?_⟩;walk_at "t";refine ⟨_, .inr hq, _, .inr (s1.seqT hA), ?_⟩;walk_at "t";refine ite2 (fun c => ?_) fun c => ?_
 ·have hn : zbJ f us.length = none := by
   have := zg1 (h3 (by omega)) (us.length - (ps.length + 1))
   rwa [show ps.length + 1 + (us.length - (ps.length + 1)) = us.length by omega] at this
  exact absurd hn hf
 ·exact k1 q ps H1 s1 hq (by omega) hP
def zjG (K : W.Frag) : Sp := fun vs H Q _ => ∃ (a : Addr) (ls : List V) (rs : List Str) (g : Nat -> Nat), vs = [.ref a] /\ SqL K H a ls /\ zj3 K H (fun i => ((g i : Int), rs.getD i "")) ls /\ ls.length <= 80 /\ (∀ j, j < ls.length -> o1 (rs.getD j "") <= g j) /\
 ∀ (p : Addr) us H', Same H H' -> H' p = some (.lst us) -> us.length = ls.length -> RepPs K H' (fun i => Qc rs g (i + 1)) us -> Q (.ref p) H'
theorem zes (T : Tx K mg D) : FnOk P w K mg Qd CX0 1 D.a_e3 D.d_e3 ["_law_lines_here"] (zjG K) := by
 refine T.F_e3.ok sc_e3 (fun vs H Q E h => ?_) (fun cdv A outer s H vs Q E hr h => ?_)
 ·obtain ⟨a, ls, rs, g, rfl, _⟩ := h; rfl
 obtain ⟨a, ls, rs, g, rfl, hA, hR, hl, hg, k⟩ := h;have hu := hr.units;refine ⟨_, (zaf (zap (i := 1) sc_e3.nd (by rfl) (by walk_at "o") (zaB zae))
  (zaf (zap (i := 2) sc_e3.nd (by rfl) (by walk_at "o") (zaE zae))
  (zaf (zcd PassesOwn.never (by rfl) (zb0 (by rfl) T.z_range (zaa (zau (zay K) (by rfl) T.z_len yap (zaa (pv 0) zae)) zae)) (zaG (i := 3) sc_e3.nd (by rfl) (by walk_at "o"))
   (zaf (za6 (zan (zcy K) (zal (ixA K) (zal (ixA K) (pv 0) (pv 3) (fun _ _ => rfl)) zab (fun _ _ => rfl)) (zaB (zaa zas (zaa zas (zaa zas zae)))) (by rfl)) (zai (zap (i := 2) sc_e3.nd (by rfl) (by walk_at "o") (zao (za3 K) (zaR (slB K) (pv 2) zbd (zbe (zao zbU (zal (ixA K) (zal (ixA K) (pv 0) (pv 3) (fun _ _ => rfl)) zab (fun _ _ => rfl)) zab))) (zaE (zaa (pv 3) zae))))) (zai (zap (i := 2) sc_e3.nd (by rfl) (by walk_at "o") (zaR (slB K) (pv 2) zbd (zbe (zal (ixA K) (zal (ixA K) (pv 0) (pv 3) (fun _ _ => rfl)) zab (fun _ _ => rfl)))))))
  (zai (zbl (zb1 K yar PySem.F.slot_list_append yaw zaP (pv 1) (zaa (pv 2) zae))))))
  (zai (zaq (pv 1)))))), ?_⟩
 walk_at "S";walk_at "";refine ⟨yaq _, fun p hp => ⟨yaq _, fun p1 hp1 => ?_⟩⟩;have s0 : Same H (upd (upd H p (.lst [])) p1 (.tup [])) := ((Same.refl H).upd hp).trans (zac hp1 _);have hne : p ≠ p1 := za8 zad hp1;refine ⟨_, .inl (s0.seq hA), by omega, by omega, ?_⟩;refine zbw (fun i σ H2 => Same H H2 /\ ∃ pp us o, σ = [some (.ref a), some (.ref p), some (.ref pp), o] /\ SqT K H2 pp (iv (Qc rs g i)) /\ H2 p = some (.lst us) /\ us.length = i /\ RepPs K H2 (fun i => Qc rs g (i + 1)) us)
  ⟨s0, p1, [], _, rfl, SqT.of zad, by rw [za7 hne]; exact zad, rfl, RepPs.nil⟩ (fun i σ H2 hi hv => ?_) fun σ H2 hv => ?_
 ·obtain ⟨s2, pp, us, o, rfl, hpp, hps, Qe, hP⟩ := hv;have hi' : i < ls.length := by rw [ya4] at hi; exact hi
  obtain ⟨v, hv⟩ : ∃ v, ls[i]? = some v := ⟨_, yal hi'⟩
  obtain ⟨ln, x, y, rfl, hln⟩ := hR i v hv;walk_at "";refine ⟨_, .inl (s2.seq hA), _, at0 hv, ?_⟩;walk_at "t";refine ⟨_, .inr (s2.seqT hln), _, i1, zar (by decide), fun p3 hp3 => ⟨_, .inl (SqL.of zad), rfl, rfl, ?_⟩⟩;have s3 := s2.trans (zac hp3 (.lst [V.str "guess", V.str "new", V.str "case"]));have hP3 := hP.same (zac hp3 (.lst [V.str "guess", V.str "new", V.str "case"]));have hpp3 := (zac hp3 (.lst [V.str "guess", V.str "new", V.str "case"])).seqT hpp;have hps3 : upd H2 p3 (.lst [V.str "guess", V.str "new", V.str "case"]) p = some (.lst us) := zbv hp3 hps;generalize upd H2 p3 (.lst [V.str "guess", V.str "new", V.str "case"]) = H3 at s3 hP3 hpp3 hps3;have fin : ∀ (r : Addr) (H5 : Hp), Same H H5 -> SqT K H5 r (iv (Qc rs g (i + 1))) -> H5 p = some (.lst us) -> RepPs K H5 (fun i => Qc rs g (i + 1)) us -> ∃ xs, H5 p = some (.lst xs) /\ xs.length < sizeLine /\
    Same H (upd H5 p (.lst (xs ++ [V.ref r]))) /\ ∃ pp us o, [some (V.ref a), some (V.ref p), some (V.ref r), some (V.int (0 + (i : Int)))] = [some (V.ref a), some (V.ref p), some (V.ref pp), o] /\
    SqT K (upd H5 p (.lst (xs ++ [V.ref r]))) pp (iv (Qc rs g (i + 1))) /\ upd H5 p (.lst (xs ++ [V.ref r])) p = some (.lst us) /\ us.length = i + 1 /\
    RepPs K (upd H5 p (.lst (xs ++ [V.ref r]))) (fun i => Qc rs g (i + 1)) us := fun r H5 s5 h1 h2 h3 => by
   refine ⟨us, h2, zaQ (by omega), s5.upd hp, r, us ++ [.ref r], _, rfl, h1.keepL h2, zad, by simp [Qe], ?_⟩;refine RepPs.snoc (h3.keepL h2) ?_;rw [Qe];exact h1.keepL h2
  refine ite2 (fun c => ?_) fun c => ?_
  ·refine ⟨_, .inl (s3.seq hA), _, at0 hv, ?_⟩;walk_at "t";refine ⟨_, .inr (s3.seqT hln), _, i0, ?_⟩;walk_at "t";have c : opn (rs.getD i "") = true := c;have h1 := hg i hi';have e1 : o1 (rs.getD i "") = 1 := by unfold o1; rw [if_pos c]
   have ec : cutV (iv (Qc rs g i)) none (some ((g i : Int) - 1)) = iv ((Qc rs g i).take (g i - 1)) := by
    rw [show ((g i : Int) - 1) = ((g i - 1 : Nat) : Int) by omega, zcO, zcc]
   refine ⟨_, .inr ⟨hpp3, fun q H4 s4 hq => ⟨zar (show 1 <= 100000 by decide), fun p2 hp2 => ?_⟩⟩⟩;rw [ec] at hq;refine ⟨_, _, .inr ⟨(zac hp2 _).seqT hq, SqT.of zad, ?_, fun b H6 s6 hb => ?_⟩⟩
   ·have := List.length_take_le' (g i - 1) (Qc rs g i);have := zgw rs g i;refine zar ?_;rw [zcu]; simp only [List.length_singleton]; omega
   rw [zmV, <- zbf rs g c] at hb;have s46 := (s4.trans (zac hp2 (.tup [V.int (0 + (i : Int))]))).trans s6;have hp6 : H6 p = some (.lst us) := s46 _ _ hps3;exact ⟨⟨_, SqL.of hp6⟩, fin b H6 (s3.trans s46) hb hp6 (hP3.same s46)⟩
  ·refine ⟨_, .inl (s3.seq hA), _, at0 hv, ?_⟩;walk_at "t";refine ⟨_, .inr (s3.seqT hln), _, i0, ?_⟩;walk_at "t";have ec : cutV (iv (Qc rs g i)) none (some (g i : Int)) = iv (Qc rs g (i + 1)) := by
    rw [zcO, zcc];show _ = iv (nxt i (rs.getD i "") (g i) (Qc rs g i));unfold nxt;rw [if_neg (show ¬ opn (rs.getD i "") = true from c)]
   refine ⟨_, .inr ⟨hpp3, fun q H4 s4 hq => ?_⟩⟩;rw [ec] at hq;have hp4 : H4 p = some (.lst us) := s4 _ _ hps3;exact ⟨⟨_, SqL.of hp4⟩, fin q H4 (s3.trans s4) hq hp4 (hP3.same s4)⟩
 ·obtain ⟨s2, pp, us, o, rfl, hpp, hps, Qe, hP⟩ := hv;walk_at "";rw [ya4] at Qe;exact k p us H2 s2 hps Qe hP
theorem zeP (T : Tx K mg D) : ∀ d : Nat, FnOk P w K mg Qd CX0 (d + 1) D.a_f7 D.d_f7 ["_law_ka", "_law_letter", "_law_name"] (zm3 K d)
 | 0 => by
  refine T.F_f7.ok zg2 (fun vs H Q E h => ?_) (fun cdv A outer s H vs Q E hr h => ?_)
  ·obtain ⟨v, S, x, n, rfl, _⟩ := h; rfl
  ·obtain ⟨v, S, x, n, rfl, _, h, _⟩ := h;have := S.deep_pos;omega
 | d + 1 => by
  have G_f7 := zeP T d;refine T.F_f7.ok zg2 (fun vs H Q E h => ?_) (fun cdv A outer s H vs Q E hr h => ?_)
  ·obtain ⟨v, S, x, n, rfl, _⟩ := h; rfl
  obtain ⟨v, S, x, n, rfl, rS, hd, oS, k⟩ := h;have hu := hr.units;have hr_f7 : Room (d + 1) _ := hr;refine ⟨_, (zaf (za6 (zan (za9 K hu) (zal (ixA K) (pv 0) zab (fun _ _ => rfl)) zas (zav _)) (zai (zaq (zaE (zaa (zal (ixA K) (pv 0) zab (fun _ _ => rfl)) (zaa (zal (ixA K) (pv 0) zab (fun _ _ => rfl)) (zaa (zaF (zaX K) (by rfl) T.z_tuple (by rfl) (zaa (zca 1 [1, 2] ["_law_term", "_law_letter", "_law_name"] ⟨by rfl, by rfl, by rfl, by rfl, by rfl, by rfl, by rfl⟩ (by rfl) (zbF K (zal (ixA K) (pv 0) zab (fun _ _ => rfl))) (fun _ _ _ _ => zaG (i := 0) (show List.Nodup (["_law_term", "_law_letter", "_law_name"] : List Str) by decide +kernel) (by rfl) (Or.inl (by rfl)) (Or.inr (by rfl))) (zaO (by decide)) (fun _ _ _ _ => zbZ) (fun _ _ _ _ => (zal (ixA K) (zaB (zaa (pv 0) (zaa (pv 2) zae))) (zaF zcM (by rfl) T.z_int (by rfl) (zaa (zaH (za9 K hu) (pv 0) (pv 1) (zav _)) zae)) (fun _ _ => rfl)))) zae)) zae)))))) zat)
  (zaf (za6 (zan (zcy K) (zal (ixA K) (pv 0) zab (fun _ _ => rfl)) (zaB (zaa zas (zaa zas zae))) (by rfl)) (zaf (za6 (zan (za9 K hu) (zal (ixA K) (pv 0) zab (fun _ _ => rfl)) (pv 1) (zav _)) (zai (zaq (pv 0))) zat)
  (zai (zaq (zaE (zaa (zal (ixA K) (pv 0) zab (fun _ _ => rfl)) (zaa (zal (ixA K) (pv 0) zab (fun _ _ => rfl)) (zaa (YC G_f7 hr_f7 (by rfl) T.m_f7 (zaa (zal (ixA K) (pv 0) zab (fun _ _ => rfl)) (zaa (pv 1) (zaa (pv 2) zae)))) zae))))))) zat)
  (zai (zaq (zao (zhN K) (zaE (zaa (zal (ixA K) (pv 0) zab (fun _ _ => rfl)) zae)) (zaF (zaX K) (by rfl) T.z_tuple (by rfl) (zaa (zca 1 [1, 2] ["_law_part", "_law_letter", "_law_name"] ⟨by rfl, by rfl, by rfl, by rfl, by rfl, by rfl, by rfl⟩ (by rfl) (zbF K (zaR (slA K) (pv 0) (zbe zab) zbd)) (fun _ _ _ _ => zaG (i := 0) (show List.Nodup (["_law_part", "_law_letter", "_law_name"] : List Str) by decide +kernel) (by rfl) (Or.inl (by rfl)) (Or.inr (by rfl))) (zaO (by decide)) (fun _ _ _ _ => zbZ) (fun _ _ _ _ => (YC G_f7 hr_f7 (by rfl) T.m_f7 (zaa (pv 0) (zaa (pv 1) (zaa (pv 2) zae)))))) zae))))))), ?_⟩
  walk_at "S";obtain ⟨a0, xs0, e0, ht⟩ := rS.tag;subst e0;refine zbu (c := S.tag = Str.ofString "is") (fun Qb q => ?_) (fun c => ?_) fun c => ?_
  ·walk_at "";refine ⟨_, .inr ht, _, i0, ?_⟩;walk_at "t";exact q
  ·cases S with
   | is y ts =>
    obtain ⟨a, b, e0, h2, h3⟩ := rS;cases e0;walk_at "";refine ⟨_, .inr h2, _, i0, _, .inr h2, _, i1, _, .inr h2, _, i2, ?_⟩;walk_at "t";have h3' := oS.2.1;refine .inr ⟨⟨_, h3⟩, zbG (xs := ts.map V.str) (fun i acc H2 => Same H H2 /\ acc = ((ts.take i).map fun t => if t = x then n else t).map V.str) ⟨Same.refl _, by simp⟩ (fun i acc H2 _ hp => hp.1.seqT h3) (fun i t acc H2 hi hp => ?_) fun acc H2 hp p hn => ?_⟩
    ·obtain ⟨s2, rfl⟩ := hp;rw [yav] at hi;cases e : ts[i]? with
     | none => rw [e] at hi; cases hi
     | some t' =>
      rw [e] at hi;cases hi;have hil : i < ts.length := (yag.mp e).1;refine ⟨zaQ (by simp only [List.length_map, List.length_take]; omega), ?_⟩;walk_at "T";walk_at "t";refine ⟨zar (show 2 <= 100000 by decide), fun p hp => ?_⟩;have sp := zac hp (.lst [V.str t', V.str n])
      by_cases c : t' = x
      ·rw [if_pos c];refine ⟨_, .inl (SqL.of zad), _, i1, s2.trans sp, ?_⟩;rw [yaz, e]; simp [c]
      ·rw [if_neg c];refine ⟨_, .inl (SqL.of zad), _, i0, s2.trans sp, ?_⟩;rw [yaz, e]; simp [c]
    ·obtain ⟨s2, rfl⟩ := hp;walk_at "t";refine ⟨_, .inl ⟨SqL.of zad, fun l hl => ⟨(by show 3 <= sizeLine; decide), fun p2 hp2 => ?_⟩⟩⟩;have s1 := s2.trans ((zac hn (.lst (((ts.take (ts.map V.str).length).map fun t => if t = x then n else t).map V.str))).trans ((zac hl (.tup (((ts.take (ts.map V.str).length).map fun t => if t = x then n else t).map V.str))).trans (zac hp2 (.tup [V.str "is", V.str y, V.ref l]))));refine k _ _ s1 ⟨p2, l, rfl, SqT.of zad, SqT.of (zbv hp2 ?_)⟩;rw [zad, yaf, List.take_of_length_le (yai _)]
   | fls => exact absurd c (by decide +kernel)
   | neg B => exact absurd c (show ¬ Str.ofString "not" = Str.ofString "is" by decide +kernel)
   | bi o B C => exact absurd c (zgT o)
   | qu q X B => exact absurd c (zgU q)
  refine zcH (c := inV (.str S.tag) [V.str "all", V.str "some"] = true) (fun Qb q => ?_) (fun H s1 c2 => ?_) fun H s1 c2 => ?_
  ·walk_at "";refine ⟨_, .inr ht, _, i0, zar (show 2 <= 100000 by decide), fun pq hpq => ⟨_, .inl (SqL.of zad), rfl, rfl, ?_⟩⟩;have e : decide (inV (.str S.tag) [V.str "all", V.str "some"] = true) = inV (.str S.tag) [V.str "all", V.str "some"] := by simp
   rw [e] at q;exact q _ (zac hpq _)
  all_goals
   replace rS := rS.same s1;replace ht := s1.seqT ht;replace k := fun u H' s' => k u H' (s1.trans s');clear s1
  ·cases S with
   | qu q X B =>
    have rS' := rS;obtain ⟨a, u, e0, h2, h3⟩ := rS;cases e0;simp only [Stm.deep] at hd;walk_at "";refine ⟨_, .inr h2, _, i1, ?_⟩;walk_at "t";simp only [Stm.put] at k;refine ite2 (fun c => ?_) fun c => ?_
    ·rw [if_pos c] at k;exact k _ _ (Same.refl _) rS'
    ·rw [if_neg c] at k;refine ⟨_, .inr h2, _, i0, _, .inr h2, _, i1, _, .inr h2, _, i2, ?_⟩;refine ⟨_, B, _, _, rfl, h3, by omega, oS.2, fun w H1 s1 r1 => ⟨(by show 3 <= sizeLine; decide), fun p hp => ?_⟩⟩;exact k _ _ (s1.trans (zac hp _)) ⟨p, w, rfl, SqT.of zad, r1.same (zac hp _)⟩
   | is y ts => exact absurd rfl c
   | fls => exact absurd c2 (by decide +kernel)
   | neg B => exact absurd c2 (by show ¬ inV (.str (Str.ofString "not")) _ = true; decide +kernel)
   | bi o B C => exact absurd c2 (by show ¬ inV (.str o.txt) _ = true; rw [zci]; decide)
  ·cases S with
   | is y ts => exact absurd rfl c
   | qu q X B => exact absurd (zdz q) c2
   | fls =>
    obtain ⟨a, e0, h2⟩ := rS;cases e0;walk_at "";refine ⟨_, .inr h2, _, i0, ?_⟩;walk_at "t";refine ⟨(by show 1 <= sizeLine; decide), fun p hp => ⟨_, .inr ⟨(zac hp _).seqT h2, by decide, fun q hq => .inr ⟨⟨_, SqT.of zad⟩, ?_⟩⟩⟩⟩;refine zbG (xs := []) (fun i acc H2 => i = 0 /\ acc = [] /\ H2 = upd (upd H p (.tup [V.str "false"])) q (.tup [])) ⟨rfl, rfl, rfl⟩ (fun i acc H2 _ hv => by rw [hv.2.2]; exact SqT.of zad) (fun i y acc H2 hi hv => by simp at hi) fun acc H2 hv l hl => ?_;obtain ⟨_, rfl, rfl⟩ := hv;walk_at "t";refine ⟨_, .inl ⟨SqL.of zad, fun l2 hl2 => ?_⟩⟩;have ep : upd (upd (upd (upd H p (.tup [V.str "false"])) q (.tup [])) l (.lst [])) l2 (.tup []) p = some (.tup [V.str "false"]) := zbv hl2 (zbv hl (zbv hq zad));refine ⟨_, _, .inr ⟨SqT.of ep, SqT.of zad, by simp, (by show 1 <= sizeLine; decide), fun _ => ?_, fun z => absurd rfl z⟩⟩;exact k _ _ ((zac hp _).trans ((zac hq _).trans ((zac hl _).trans (zac hl2 _)))) ⟨p, rfl, SqT.of ep⟩
   | neg B =>
    obtain ⟨a, u, e0, h2, h3⟩ := rS;cases e0;simp only [Stm.deep] at hd;walk_at "";refine ⟨_, .inr h2, _, i0, ?_⟩;walk_at "t";refine ⟨(by show 1 <= sizeLine; decide), fun p hp => ⟨_, .inr ⟨(zac hp _).seqT h2, (by show ¬ (min 1 2 = 0 /\ _); omega), fun q hq => .inr ⟨⟨_, SqT.of zad⟩, ?_⟩⟩⟩⟩;have s1 := (zac hp (.tup [V.str "not"])).trans (zac hq (.tup [u]));refine zbG (xs := [u]) (fun i acc H2 => Same (upd (upd H p (.tup [V.str "not"])) q (.tup [u])) H2 /\ RepL K H2 ([B.put x n].take i) acc) ⟨Same.refl _, .nil⟩ (fun i acc H2 _ hv => hv.1.seqT (SqT.of zad)) (fun i y acc H2 hi hv => ?_) fun acc H2 hv l hl => ?_
    ·match i, hi with
     | 0, hi =>
      cases hi;obtain ⟨s2, r2⟩ := hv;cases r2;refine ⟨zaQ (by show 0 <= 100000; decide), ?_⟩;walk_at "T";walk_at "t";refine ⟨_, B, _, _, rfl, h3.same (s1.trans s2), by omega, oS, fun w H3 s3 r3 => ⟨s2.trans s3, .cons r3 .nil⟩⟩
    ·obtain ⟨s2, r2⟩ := hv;cases r2 with
     | cons ra rb =>
      cases rb;walk_at "t";refine ⟨_, .inl ⟨SqL.of zad, fun l2 hl2 => ⟨_, _, .inr ⟨SqT.of (zbv hl2 (zbv hl (s2 _ _ (zbv hq zad)))), SqT.of zad, by simp, (by show 2 <= sizeLine; decide), (fun z => by cases z), fun _ r hr => ?_⟩⟩⟩⟩;exact k _ _ (s1.trans (s2.trans ((zac hl _).trans ((zac hl2 _).trans (zac hr _))))) ⟨r, _, rfl, SqT.of zad, ra.same ((zac hl _).trans ((zac hl2 _).trans (zac hr _)))⟩
   | bi o B C =>
    obtain ⟨a, u, u', e0, h2, h3, h4⟩ := rS;cases e0;simp only [Stm.deep] at hd;walk_at "";refine ⟨_, .inr h2, _, i0, ?_⟩;walk_at "t";refine ⟨(by show 1 <= sizeLine; decide), fun p hp => ⟨_, .inr ⟨(zac hp _).seqT h2, (by show ¬ (min 1 3 = 0 /\ _); omega), fun q hq => .inr ⟨⟨_, SqT.of zad⟩, ?_⟩⟩⟩⟩;have s1 := (zac hp (.tup [V.str o.txt])).trans (zac hq (.tup [u, u']));refine zbG (xs := [u, u']) (fun i acc H2 => Same (upd (upd H p (.tup [V.str o.txt])) q (.tup [u, u'])) H2 /\ RepL K H2 ([B.put x n, C.put x n].take i) acc) ⟨Same.refl _, .nil⟩ (fun i acc H2 _ hv => hv.1.seqT (SqT.of zad)) (fun i y acc H2 hi hv => ?_) fun acc H2 hv l hl => ?_
    ·match i, hi with
     | 0, hi =>
      cases hi;obtain ⟨s2, r2⟩ := hv;cases r2;refine ⟨zaQ (by show 0 <= 100000; decide), ?_⟩;walk_at "T";walk_at "t";refine ⟨_, B, _, _, rfl, h3.same (s1.trans s2), by omega, oS.1, fun w H3 s3 r3 => ⟨s2.trans s3, .cons r3 .nil⟩⟩
     | 1, hi =>
      cases hi;obtain ⟨s2, r2⟩ := hv;cases r2 with
      | cons ra rb =>
       cases rb;refine ⟨zaQ (by show 1 <= 100000; decide), ?_⟩;walk_at "T";walk_at "t";refine ⟨_, C, _, _, rfl, h4.same (s1.trans s2), by omega, oS.2, fun w H3 s3 r3 => ⟨s2.trans s3, .cons (ra.same s3) (.cons r3 .nil)⟩⟩
    ·obtain ⟨s2, r2⟩ := hv;cases r2 with
     | cons ra rb =>
      cases rb with
      | cons rb rc =>
       cases rc;walk_at "t";refine ⟨_, .inl ⟨SqL.of zad, fun l2 hl2 => ⟨_, _, .inr ⟨SqT.of (zbv hl2 (zbv hl (s2 _ _ (zbv hq zad)))), SqT.of zad, by simp, (by show 3 <= sizeLine; decide), (fun z => by cases z), fun _ r hr => ?_⟩⟩⟩⟩;exact k _ _ (s1.trans (s2.trans ((zac hl _).trans ((zac hl2 _).trans (zac hr _))))) ⟨r, _, _, rfl, SqT.of zad, ra.same ((zac hl _).trans ((zac hl2 _).trans (zac hr _))), rb.same ((zac hl _).trans ((zac hl2 _).trans (zac hr _)))⟩
def znr : Rf -> Bool
 | .s t => isNm t
 | _ => false
def zjH (K : W.Frag) : Sp := fun vs H Q _ => ∃ R : Rf, vs = [R.v] /\ R.sm /\ ∀ H', Same H H' -> Q (.bl (znr R)) H'
theorem zl2 {t : Str} (h : ¬ 1 <= (t.length : Int)) : t = "" := by
 obtain ⟨c⟩ := t;have h' : ¬ 1 <= (c.size : Int) := h;have : c = #[] := by
  apply Array.eq_empty_of_size_eq_zero;omega
 subst this
 rfl
theorem zjI {t : Str} {c : Nat} (h : t.cps.toList.head? = some c) (hc : inS ⟨#[c]⟩ "abcdefghijklmnopqrstuvwxyz" = true) : (t.cps.toList.all fun c => inS ⟨#[c]⟩ sof) = zcC t := by
 unfold zcC;have e := zgR t 1;rw [show ((1 : Nat) : Int) = 1 from rfl] at e;rw [e];cases q : t.cps.toList with
 | nil => rw [q] at h; cases h
 | cons d r =>
  rw [q] at h;cases h;have h1 : inS ⟨#[c]⟩ sof = true := by
   rw [zkH] at hc ⊢;exact ya9 (zhW c (ya7 hc))
  rw [List.all_cons, h1, Bool.true_and]
  rfl
theorem zds (T : Tx K mg D) : FnOk P w K mg Qd CX0 1 D.a_c0 D.d_c0 ["_law_thing"] (zjH K) := by
 refine T.F_c0.ok zfw (fun vs H Q E h => ?_) (fun cdv A outer s H vs Q E hr h => ?_)
 ·obtain ⟨R, rfl, _⟩ := h; rfl
 obtain ⟨R, rfl, hR, k⟩ := h;have hu := hr.units;refine ⟨_, (zaf (za6 (PW.pt (zbz (zcr (zbm (zau (zbb K "str") (by rfl) T.z_isinstance (by rfl) (zaa (pv 0) (zaa (zbT (v := .ty "str") (by rfl) T.z_str (by rfl) (by rfl)) zae))))) (zby (zcr (ziP ziO ziO zab (zau (zay K) (by rfl) T.z_len yap (zaa (pv 0) zae)) zab))))) (zai (zaq zcI)) zat)
  (zaf (za6 (zan (zbV K) (zal (ixA K) (pv 0) zab (fun _ _ => rfl)) zas (by rfl)) (zai (zaq zcI)) zat)
  (zaf (za6 (zcr (zbm (zau (zdD K (by rfl)) (by rfl) T.z_all (by rfl) (zaa (zca 1 [] ["_law_sign"] ⟨by rfl, by rfl, by rfl, by rfl, by rfl, by rfl, by rfl⟩ (by rfl) (zbF K (pv 0)) (fun _ _ _ _ => zaG (i := 0) (show List.Nodup (["_law_sign"] : List Str) by decide +kernel) (by rfl) (Or.inl (by rfl)) (Or.inr (by rfl))) (zaO (by decide)) (fun _ _ _ _ => zbZ) (fun _ _ _ _ => (zaH (zcy K) (pv 0) zas (by rfl)))) zae)))) (zai (zaq zcI)) zat)
  (zai (zaq (zaH (zbV K) (pv 0) (zaB (zaa zas (zaa zas (zaa zas (zaa zas (zaa zas (zaa zas (zaa zas zae)))))))) (by rfl))))))), ?_⟩
 walk_at "S";cases R with
 | n i =>
  simp only [Rf.v];walk_at "";refine ⟨false, rfl, ?_⟩;rw [if_pos rfl];exact k H (Same.refl _)
 | b c =>
  simp only [Rf.v];walk_at "";refine ⟨false, rfl, ?_⟩;rw [if_pos rfl];exact k H (Same.refl _)
 | o =>
  simp only [Rf.v];walk_at "";refine ⟨false, rfl, ?_⟩;rw [if_pos rfl];exact k H (Same.refl _)
 | s t =>
  simp only [Rf.v];have hx : t.length <= 1000 := yat (show t.length <= 20 from hR) (by decide);have hz : t.length <= sizeLine := zar (by omega);have k' : ∀ H', Same H H' -> Q (.bl (isNm t)) H' := k;walk_at "";refine ⟨true, rfl, ?_⟩;rw [if_neg (by decide)];have kf : isNm t = false -> Q (.bl false) H := fun e => by have := k' H (Same.refl _); rw [e] at this; exact this
  refine ⟨hz, ite2 (fun c1 => ite2 (fun c2 => kf ?_) fun c2 => ?_) fun c1 => kf ?_⟩
  ·unfold isNm base;rw [if_neg (fun e => by subst e; exact absurd c1 (by decide)), if_pos (by omega)]
   rfl
  ·have hne : ¬ t = "" := fun e => by subst e; exact absurd c1 (by decide)
   refine ⟨hz, _, zfR hne, ite2 (fun c3 => kf ?_) fun c3 => ?_⟩
   ·unfold isNm base;rw [if_neg hne, if_neg (by omega), if_neg (by rw [c3]; exact yam)]
    rfl
   have c3' : inS ⟨#[t.cps.toList.headD 0]⟩ "abcdefghijklmnopqrstuvwxyz" = true := by simpa using c3
   have hb : base t "abcdefghijklmnopqrstuvwxyz" = zcC t := by unfold base; rw [if_neg hne, if_neg (by omega), if_pos c3']
   have hta : (t.cps.toList.all fun c => inS ⟨#[c]⟩ sof) = zcC t := by
    refine zjI (c := t.cps.toList.headD 0) ?_ c3';have := zfR hne;cases q : t.cps.toList with
    | nil => rw [q] at this; cases this
    | cons d r => rfl
   have Qe : t.cps.toList.length <= 1000 := by simpa [Str.length] using hx
   refine zgo (fun i acc H2 => H2 = H /\ acc = (t.cps.toList.take i).map fun c => V.bl (inS ⟨#[c]⟩ sof)) ⟨rfl, by simp⟩ (fun i c acc H2 hi hp => ?_) fun acc H2 hp p hn => ?_
   ·obtain ⟨rfl, rfl⟩ := hp;have hil : i < t.cps.toList.length := (yag.mp hi).1;refine ⟨zaQ (by rw [yaf, ya3]; omega), ?_⟩;simp only [zaI, List.replicate_succ, List.replicate_zero, List.map_nil, List.nil_append, List.cons_append];walk_at "";refine ⟨trivial, ?_⟩;rw [yaz, hi];simp [sof]
   ·obtain ⟨rfl, rfl⟩ := hp;walk_at "";refine ⟨t.cps.toList.map fun c => inS ⟨#[c]⟩ sof, SqL.of (by rw [zad, List.take_of_length_le (yai _), List.map_map]; rfl), ?_⟩;have e : (t.cps.toList.map fun c => inS ⟨#[c]⟩ sof).all id = zcC t := by rw [<- hta, List.all_map]; rfl
    rw [e];have sp := zac hn (.lst ((t.cps.toList.take t.cps.toList.length).map fun c => V.bl (inS ⟨#[c]⟩ sof)));refine ite2 (fun c4 => ?_) fun c4 => ?_
    ·have := k' _ sp;unfold isNm at this;rw [hb, c4, Bool.false_and] at this;exact this
    ·refine ⟨zar (show 7 <= 100000 by decide), fun p2 hp2 => ⟨_, .inl (SqL.of zad), rfl, rfl, ?_⟩⟩;have := k' _ (sp.trans (zac hp2 (.lst zlt)));unfold isNm at this;rw [hb, show zcC t = true by simpa using c4, Bool.true_and] at this;exact this
  ·have := zl2 c1;subst this
   rfl
theorem RepNs.ln {H : Hp} {L : Nat -> Ln} {ls : List V} {rs : List Str} {g : Nat -> Nat} (h : RepNs K H L ls) (e : ∀ i, i < ls.length -> (L i).lev = (g i : Int) /\ (L i).ru = rs.getD i "") : zj3 K H (fun i => ((g i : Int), rs.getD i "")) ls := fun i v hv => by
 obtain ⟨a, x, b, h1, h2, _⟩ := h i v hv;obtain ⟨e1, e2⟩ := e i (yag.mp hv).1;rw [e1, e2] at h2;exact ⟨a, x, _, h1, h2⟩
theorem zga (rs : List Str) (g : Nat -> Nat) {b j : Nat} (h : b <= j) (ho : opn (rs.getD b "") = true) :
  Qc rs g (j + 1) = Qc rs g (b + 1) ↔ (Qc rs g (j + 1))[(Qc rs g (b + 1)).length - 1]? = some b /\ (Qc rs g (j + 1)).length = (Qc rs g (b + 1)).length - 1 + 1 := by
 have h0 := zbf rs g ho
 constructor
 ·intro e;rw [e, h0];simp
 ·rintro ⟨h1, h2⟩
  obtain ⟨m, r, e, hr⟩ := zbX rs g (b + 1) (j - b);rw [show b + 1 + (j - b) = j + 1 from by omega] at e;rw [h0] at h1 h2 e ⊢;generalize (Qc rs g b).take (g b - 1) = p at h1 h2 e;generalize Qc rs g (j + 1) = q at h1 h2 e;have el : (p ++ [b]).length - 1 = p.length := by simp
  rw [el] at h1 h2
  by_cases hm : p.length + 1 <= m
  ·rw [List.take_of_length_le (by simp; omega)] at e;rw [e] at h2;simp at h2;rw [e, h2, List.append_nil]
  ·exfalso
   have hlt : ((p ++ [b]).take m).length <= p.length := by rw [ya3]; omega
   rw [e, List.getElem?_append_right hlt] at h1;have := hr b (ya1 h1);omega
theorem zf3 (rs : List Str) (g : Nat -> Nat) {b j j' : Nat} (h : b <= j) (hj : j <= j') (hb : b ∉ Qc rs g (j + 1)) : b ∉ Qc rs g (j' + 1) := by
 obtain ⟨m, r, e, hr⟩ := zbX rs g (j + 1) (j' - j);rw [show j + 1 + (j' - j) = j' + 1 from by omega] at e;rw [e];intro z;rcases yay.mp z with z | z
 ·exact hb (List.mem_of_mem_take z)
 ·have := hr b z;omega
theorem zgb (rs : List Str) (g : Nat -> Nat) {b j : Nat} (h : j < b) (ho : opn (rs.getD b "") = true) : Qc rs g (j + 1) ≠ Qc rs g (b + 1) := fun e => by
 have hb : b ∈ Qc rs g (b + 1) := by rw [zbf rs g ho]; simp
 rw [<- e] at hb;have := zc0 rs g (j + 1) b hb;omega
theorem zg9 (rs : List Str) (g : Nat -> Nat) {b : Nat} (ho : opn (rs.getD b "") = true) : ∀ (m k e : Nat), b <= k ->
  zeB (fun i => Qc rs g (i + 1)) b ((Qc rs g (b + 1)).length - 1) m k e = (((List.range' k m).filter fun j => decide (Qc rs g (j + 1) = Qc rs g (b + 1))).getLast?).getD e
 | 0, k, e, _ => rfl
 | m + 1, k, e, hk => by
  rw [zdb, List.range'_succ, List.filter_cons];have hi := zga rs g hk ho
  by_cases c : (Qc rs g (k + 1))[(Qc rs g (b + 1)).length - 1]? = some b
  ·rw [if_pos c, zg9 rs g ho m (k + 1) _ (by omega)]
   by_cases c2 : (Qc rs g (k + 1)).length = (Qc rs g (b + 1)).length - 1 + 1
   ·rw [if_pos c2, if_pos (ya9 (hi.mpr ⟨c, c2⟩))];rw [List.getLast?_cons];cases ((List.range' (k + 1) m).filter fun j => decide (Qc rs g (j + 1) = Qc rs g (b + 1))).getLast? <;> rfl
   ·rw [if_neg c2, if_neg (by rw [decide_eq_true_eq]; exact fun z => c2 (hi.mp z).2)]
  ·rw [if_neg c, if_neg (by rw [decide_eq_true_eq]; exact fun z => c (hi.mp z).1)];have hb : b ∉ Qc rs g (k + 1) := fun z => c ((zjv rs g hk ho).1.mp z);have : ((List.range' (k + 1) m).filter fun j => decide (Qc rs g (j + 1) = Qc rs g (b + 1))) = [] := by
    rw [List.filter_eq_nil_iff];intro j hj;have := (List.mem_range'_1.mp hj).1;rw [decide_eq_true_eq];intro z;have hb' : b ∈ Qc rs g (j + 1) := by rw [z, zbf rs g ho]; simp
    exact zf3 rs g hk (by omega) hb hb'
   rw [this]
   rfl
theorem zl3 (rs : List Str) (g : Nat -> Nat) {b k N : Nat} (ho : opn (rs.getD b "") = true) (hbk : b < k) (hk : k < N) (hb : b ∉ Qc rs g (k + 1)) :
  ((List.range k).filter fun j => decide (Qc rs g (j + 1) = Qc rs g (b + 1))).getLast? = some (endF (fun i => Qc rs g (i + 1)) N b) := by
 have e1 : endF (fun i => Qc rs g (i + 1)) N b = (((List.range' b (N - b)).filter fun j => decide (Qc rs g (j + 1) = Qc rs g (b + 1))).getLast?).getD b := zg9 rs g ho _ _ _ (yai _);have e2 : List.range' b (N - b) = List.range' b (k - b) ++ List.range' k (N - k) := by
  rw [show N - b = (k - b) + (N - k) by omega, <- List.range'_append_1, show b + (k - b) = k by omega]
 have e3 : List.range k = List.range' 0 b ++ List.range' b (k - b) := by
  rw [List.range_eq_range', show k = b + (k - b) by omega, <- List.range'_append_1, Nat.zero_add]
  congr 2
  omega
 have z1 : ((List.range' k (N - k)).filter fun j => decide (Qc rs g (j + 1) = Qc rs g (b + 1))) = [] := by
  rw [List.filter_eq_nil_iff];intro j hj;have := (List.mem_range'_1.mp hj).1;rw [decide_eq_true_eq];intro z;have hb' : b ∈ Qc rs g (j + 1) := by rw [z, zbf rs g ho]; simp
  exact zf3 rs g (Nat.le_of_lt hbk) this hb hb'
 have z2 : ((List.range' 0 b).filter fun j => decide (Qc rs g (j + 1) = Qc rs g (b + 1))) = [] := by
  rw [List.filter_eq_nil_iff];intro j hj;have := (List.mem_range'_1.mp hj).2;rw [decide_eq_true_eq];exact zgb rs g (by omega) ho
 rw [e1, e2, e3, List.filter_append, List.filter_append, z1, z2, List.append_nil, List.nil_append];have hne : ((List.range' b (k - b)).filter fun j => decide (Qc rs g (j + 1) = Qc rs g (b + 1))) ≠ [] := by
  intro z;have := List.filter_eq_nil_iff.mp z b (List.mem_range'_1.mpr ⟨yai _, by omega⟩);simp at this
 cases e : ((List.range' b (k - b)).filter fun j => decide (Qc rs g (j + 1) = Qc rs g (b + 1))).getLast? with
 | none => exact absurd (List.getLast?_eq_none_iff.mp e) hne
 | some z => rfl
theorem zgc {α β : Type} {Rel : α -> β -> Prop} {xs : List α} {ys : List β} {x : α} {y : β} (h : Paired Rel xs ys) (hx : Rel x y) : Paired Rel (xs ++ [x]) (ys ++ [y]) := by
 induction h with
 | nil => exact .cons hx .nil
 | cons h1 _ ih => exact .cons h1 ih
theorem zf4 {α β : Type} {Rel : α -> β -> Prop} {xs : List α} {ys : List β} (h : Paired Rel xs ys) : ∀ {i : Nat} {x : α}, xs[i]? = some x -> ∃ y, ys[i]? = some y /\ Rel x y := by
 induction h with
 | nil => intro i x e; simp at e
 | cons h1 _ ih =>
  intro i x e;cases i with
  | zero => simp at e; subst e; exact ⟨_, rfl, h1⟩
  | succ i => exact ih (by simpa using e)
theorem zns {xs : List V} {v : V} (hn : 0 < xs.length) (h : xs[xs.length - 1]? = some v) : atI xs (-1) = some v := by
 have e : ixN xs.length (-1) = some (xs.length - 1) := by
  unfold ixN;rw [if_neg (by decide), if_pos (by omega)]
  congr 1
  omega
 unfold atI;rw [e];exact h
def znt (K : W.Frag) (H : Hp) (t : Tk) (v : V) : Prop := match t with
 | .non => v = .non
 | .st _ => False
 | .bx l e => ∃ a x b y, v = .ref a /\ SqL K H a [.str l.ru, x, .ref b, y] /\ RepOS K H l.st x /\ SqT K H b (l.rs.map Rf.v) /\ RepOS K H e y
structure LnsL (K : W.Frag) (H : Hp) (a : Addr) (ls : List V) (L : Nat -> Ln) (rs : List Str) (g : Nat -> Nat) : Prop where
 l : SqL K H a ls
 n : RepNs K H L ls
 lv : ∀ i, i < ls.length -> (L i).lev = (g i : Int) /\ (L i).ru = rs.getD i ""
 sm : ls.length <= 80
 o : ∀ j, j < ls.length -> o1 (rs.getD j "") <= g j
theorem LnsL.same {H H' : Hp} {a : Addr} {ls : List V} {L : Nat -> Ln} {rs : List Str} {g : Nat -> Nat} (h : LnsL K H a ls L rs g) (e : Same H H') : LnsL K H' a ls L rs g := ⟨e.seq h.l, h.n.same e, h.lv, h.sm, h.o⟩
def znu (K : W.Frag) : Sp := fun vs H Q _ => ∃ (a : Addr) (ls : List V) (L : Nat -> Ln) (rs : List Str) (g : Nat -> Nat) (n : Nat) (R : Rf), vs = [.ref a, .int n, R.v] /\ n < ls.length /\ LnsL K H a ls L rs g /\
 ∀ H' v, Same H H' -> znt K H' (tkB L (fun i => Qc rs g (i + 1)) ls.length n R) v -> Q v H'
theorem zgA (T : Tx K mg D) : FnOk P w K mg Qd CX0 2 D.a_g0 D.d_g0 ["_law_lines_here", "_law_k", "_law_ref"] (znu K) := by
 have G_e3 := @zes P w _ _ Qd _ T;refine T.F_g0.ok sc_g0 (fun vs H Q E h => ?_) (fun cdv A outer s H vs Q E hr h => ?_)
 ·obtain ⟨a, ls, L, rs, g, n, R, rfl, _⟩ := h; rfl
 obtain ⟨a, ls, L, rs, g, n, R, rfl, hn, hA, k⟩ := h;have hu := hr.units;have hr_e3 : Room 1 _ := hr.mono (by decide);refine ⟨_, (zaf (za6 (PW.pt (zbz (zcr (zbm (zau (zbb K "int") (by rfl) T.z_isinstance (by rfl) (zaa (pv 2) (zaa (zbT (v := .ty "int") (by rfl) T.z_int (by rfl) (by rfl)) zae))))) (zbz (zbm (zau (zbb K "bool") (by rfl) T.z_isinstance (by rfl) (zaa (pv 2) (zaa (zbT (v := .ty "bool") (by rfl) T.z_bool (by rfl) (by rfl)) zae)))) (zbz (zan zct (pv 2) zab (zav _)) (zby (zan zk1 (pv 2) (pv 1) (zav _))))))) (zai (zaq zbA)) zat)
  (zaf (zap (i := 3) sc_g0.nd (by rfl) (by walk_at "o") (YC G_e3 hr_e3 (by rfl) T.m_e3 (zaa (pv 0) zae)))
  (zaf (za6 (PW.pt (zbz (zan (zbV K) (zal (ixA K) (zal (ixA K) (pv 0) (pv 2) (fun _ _ => rfl)) zab (fun _ _ => rfl)) (zaB (zaa zas (zaa zas (zaa zas zae)))) (by rfl)) (zby (zan (zcy K) (pv 2) (zal (ixA K) (pv 3) (pv 1) (fun _ _ => rfl)) (by rfl))))) (zai (zaq zbA)) zat)
  (zaf (za6 (zan (zcz K hu) (zaR (slB K) (zal (ixA K) (pv 3) (pv 1) (fun _ _ => rfl)) zbd (zbe (zao zbU (zau (zay K) (by rfl) T.z_len yap (zaa (zal (ixA K) (pv 3) (pv 2) (fun _ _ => rfl)) zae)) zab))) (zaR (slB K) (zal (ixA K) (pv 3) (pv 2) (fun _ _ => rfl)) zbd (zbe (zkz zhw zab))) (zav _)) (zai (zaq zbA)) zat)
  (zaf (zce (i := 4) 1 [0, 2, 3] ["_law_j", "_law_lines_here", "_law_ref", "_law_paths_here"] sc_g0.nd (by rfl) (by rfl) ⟨by rfl, by rfl, by rfl, by rfl, by rfl, by rfl, by rfl⟩ (by rfl) (zb0 (by rfl) T.z_range (zaa (pv 1) zae)) (fun _ _ _ _ => zaG (i := 0) (show List.Nodup (["_law_j", "_law_lines_here", "_law_ref", "_law_paths_here"] : List Str) by decide +kernel) (by rfl) (Or.inl (by rfl)) (Or.inr (by rfl))) (zaO (by decide)) (fun _ _ _ _ => zdC (zan (zdq K hu) (zal (ixA K) (pv 3) (pv 0) (fun _ _ => rfl)) (zal (ixA K) (pv 3) (pv 2) (fun _ _ => rfl)) (zav _))) (fun _ _ _ _ => (zal (ixA K) (zal (ixA K) (pv 1) (pv 0) (fun _ _ => rfl)) zab (fun _ _ => rfl))))
  (zai (zaq (zaB (zaa (zal (ixA K) (zal (ixA K) (pv 0) (pv 2) (fun _ _ => rfl)) zab (fun _ _ => rfl)) (zaa (zal (ixA K) (zal (ixA K) (pv 0) (pv 2) (fun _ _ => rfl)) zab (fun _ _ => rfl)) (zaa (zal (ixA K) (zal (ixA K) (pv 0) (pv 2) (fun _ _ => rfl)) zab (fun _ _ => rfl)) (zaa (zal (ixA K) (pv 4) (zkz zhw zab) (fun _ _ => rfl)) zae)))))))))))), ?_⟩
 walk_at "S";have k0 : tkB L (fun i => Qc rs g (i + 1)) ls.length n R = .non -> Q .non H := fun e => k H _ (Same.refl H) (by rw [e]; rfl);have hNn : ∀ (i : Int), ¬ (0 <= i /\ i < (n : Int)) -> tkB L (fun i => Qc rs g (i + 1)) ls.length n (.n i) = .non := fun i h => by
  show (if _ then _ else _) = _;rw [if_neg fun z => h ⟨z.1, z.2.1⟩]
 cases R with
 | s t =>
  simp only [Rf.v];refine zbu (c := True) (fun Qb q => ?_) (fun _ => ?_) fun c => absurd trivial c
  ·walk_at "";refine ⟨false, rfl, ?_⟩;rw [if_pos (by decide)];simpa using q
  ·walk_at "";exact k0 rfl
 | o =>
  simp only [Rf.v];refine zbu (c := True) (fun Qb q => ?_) (fun _ => ?_) fun c => absurd trivial c
  ·walk_at "";refine ⟨false, rfl, ?_⟩;rw [if_pos (by decide)];simpa using q
  ·walk_at "";exact k0 rfl
 | b t =>
  simp only [Rf.v];refine zbu (c := True) (fun Qb q => ?_) (fun _ => ?_) fun c => absurd trivial c
  ·walk_at "";refine ⟨true, rfl, ?_⟩;rw [if_neg (by decide)];refine ⟨true, rfl, ?_⟩;rw [if_pos (by decide)];simpa using q
  ·walk_at "";exact k0 rfl
 | n i =>
  simp only [Rf.v];refine zbu (c := ¬ (0 <= i /\ i < (n : Int))) (fun Qb q => ?_) (fun c => ?_) fun c => ?_
  ·walk_at "";refine ⟨true, rfl, ?_⟩;rw [if_neg (by decide)];refine ⟨false, rfl, ?_⟩;rw [if_neg (by decide)];refine ite2 (fun c1 => ?_) fun c1 => ?_
   ·rw [ya9 (show ¬ (0 <= i /\ i < (n : Int)) by omega)] at q;exact q
   ·have e : decide ((n : Int) <= i) = decide (¬ (0 <= i /\ i < (n : Int))) := decide_eq_decide.mpr (by omega);rw [e];exact q
  ·walk_at "";exact k0 (hNn i c)
  obtain ⟨r, rfl⟩ : ∃ r : Nat, i = r := ⟨i.toNat, by omega⟩
  have hrn : r < n := by omega
  have eB : tkB L (fun i => Qc rs g (i + 1)) ls.length n (.n (r : Int)) = if opn (L r).ru = true /\ zbY (fun i => Qc rs g (i + 1)) n r = true then .bx (L r) (L (endF (fun i => Qc rs g (i + 1)) ls.length r)).st else .non := by
   show (if _ then _ else _) = _
   by_cases c : opn (L r).ru = true /\ zbY (fun i => Qc rs g (i + 1)) n r = true
   ·rw [if_pos ⟨by omega, by omega, by simpa using c.1, by simpa using c.2⟩, if_pos c]; simp
   ·rw [if_neg fun z => c ⟨by simpa using z.2.2.1, by simpa using z.2.2.2⟩, if_neg c]
  rw [eB] at k;clear k0 hNn eB;refine zaw (fun σ' H' => Same H H' /\ ∃ (p : Addr) (us : List V), σ' = [some (.ref a), some (.int n), some (.int r), some (.ref p), none] /\ H' p = some (.lst us) /\ us.length = ls.length /\ RepPs K H' (fun i => Qc rs g (i + 1)) us) (fun N hN => ?_) fun σ' H1 hv => ?_
  ·walk_at "";exact ⟨a, ls, rs, g, rfl, hA.l, RepNs.ln hA.n hA.lv, hA.sm, hA.o, fun p us H1 s1 hp hul hP => hN _ _ ⟨s1, p, us, rfl, hp, hul, hP⟩⟩
  obtain ⟨s1, p, us, rfl, hp, hul, hP⟩ := hv;have hA1 := hA.same s1;obtain ⟨c1, hc1, hs1⟩ := hP.at (i := n) (by omega);obtain ⟨c2, hc2, hs2⟩ := hP.at (i := r) (by omega);obtain ⟨lv, hlv⟩ : ∃ v, ls[r]? = some v := ⟨_, yal (by omega)⟩
  have rb := hA1.n r lv hlv;obtain ⟨a0, x0, b0, e0, h1, h2, h3⟩ := id rb;subst e0;refine zcH (c := ¬ (opn (L r).ru = true /\ r ∉ Qc rs g (n + 1))) (fun Qb q => ?_) (fun H2 s2 c => ?_) fun H2 s2 c => ?_
  ·walk_at "";refine ⟨_, .inl hA1.l, _, zag hlv, ?_⟩;walk_at "t";refine ⟨_, .inr h1, _, i1, zar (show 3 <= 100000 by decide), fun p3 hp3 => ⟨_, .inl (SqL.of zad), rfl, rfl, ?_⟩⟩;have s3 := zac hp3 (.lst [V.str "guess", V.str "new", V.str "case"]);refine ite2 (fun c => ?_) fun c => ?_
   ·have e : ¬ opn (L r).ru = true := by
     intro z;exact absurd c (by rw [show inV (V.str (L r).ru) [V.str "guess", V.str "new", V.str "case"] = true from z]; decide)
    rw [ya9 (show ¬ (opn (L r).ru = true /\ r ∉ Qc rs g (n + 1)) from fun z => e z.1)] at q;exact q _ s3
   ·have e : opn (L r).ru = true := by
     cases z : opn (L r).ru with
     | true => rfl
     | false => exact absurd (show _ = false from z) c
    refine ⟨_, .inl (SqL.of (s3 _ _ hp)), _, zag hc1, ?_⟩;walk_at "t";refine ⟨_, .inr (s3.seqT hs1), rfl, zin _, ?_⟩;rw [zkm];have e2 : decide (r ∈ Qc rs g (n + 1)) = decide (¬ (opn (L r).ru = true /\ r ∉ Qc rs g (n + 1))) := decide_eq_decide.mpr (by simp [e]);rw [e2];exact q _ s3
  ·walk_at "";refine k H2 _ (s1.trans s2) ?_;rw [if_neg fun z => c ⟨z.1, by have := z.2; simp [zbY] at this; exact this.2.1⟩]
   rfl
  have ho : opn (L r).ru = true := (yax fun z => c fun y => z y.1)
  have hb : r ∉ Qc rs g (n + 1) := (yax fun z => c fun y => z y.2)
  clear c;refine zcH (c := ¬ ((Qc rs g (n + 1)).take ((Qc rs g (r + 1)).length - 1) = (Qc rs g (r + 1)).take ((Qc rs g (r + 1)).length - 1))) (fun Qb q => ?_) (fun H3 s3 c => ?_) fun H3 s3 c => ?_
  ·walk_at "";refine ⟨_, .inl (SqL.of (s2 _ _ hp)), _, zag hc1, _, .inl (SqL.of (s2 _ _ hp)), _, zag hc2, ?_⟩;walk_at "t";refine ⟨_, .inr (s2.seqT hs2), ?_⟩;rw [zcu];have hne : 1 <= (Qc rs g (r + 1)).length := by rw [zbf rs g (by rw [<- (hA.lv r (by omega)).2]; exact ho)]; simp
   rw [show (((Qc rs g (r + 1)).length : Nat) : Int) - 1 = (((Qc rs g (r + 1)).length - 1 : Nat) : Int) by omega];refine ⟨_, .inr ⟨s2.seqT hs1, fun q1 H3 s3 hq1 => ?_⟩⟩;rw [zcO, zcc] at hq1;refine ⟨_, .inl (SqL.of ((s2.trans s3) _ _ hp)), _, zag hc2, 1, rfl, -1, rfl, ?_⟩;walk_at "t";refine ⟨_, .inr ⟨(s2.trans s3).seqT hs2, fun q2 H4 s4 hq2 => ?_⟩⟩;rw [zgv, zcu, zcc] at hq2;refine ⟨_, _, zc1 (s4.seqT hq1), zc1 hq2, zeD _, ?_⟩;have e : (!decide (idt ((Qc rs g (n + 1)).take ((Qc rs g (r + 1)).length - 1)) = idt ((Qc rs g (r + 1)).take ((Qc rs g (r + 1)).length - 1)))) = decide (¬ ((Qc rs g (n + 1)).take ((Qc rs g (r + 1)).length - 1) = (Qc rs g (r + 1)).take ((Qc rs g (r + 1)).length - 1))) := by
    by_cases z : (Qc rs g (n + 1)).take ((Qc rs g (r + 1)).length - 1) = (Qc rs g (r + 1)).take ((Qc rs g (r + 1)).length - 1)
    ·rw [z]; simp
    ·have z' : ¬ idt ((Qc rs g (n + 1)).take ((Qc rs g (r + 1)).length - 1)) = idt ((Qc rs g (r + 1)).take ((Qc rs g (r + 1)).length - 1)) := fun y => z (zeC y);simp [z, z']
   rw [e];exact q _ (s3.trans s4)
  ·walk_at "";refine k H3 _ ((s1.trans s2).trans s3) ?_;rw [if_neg fun z => c (by have := z.2; simp [zbY] at this; exact this.2.2)]
   rfl
  have hc := yax c;rw [if_pos ⟨ho, by simp [zbY, hrn, hb, hc]⟩] at k;have s13 := (s1.trans s2).trans s3;have hA3 := hA.same s13;have hp3 := (s2.trans s3) _ _ hp;have hP3 := hP.same (s2.trans s3);refine zaw (fun σ' H' => Same H3 H' /\ ∃ (q : Addr) (es : List V), σ' = [some (.ref a), some (.int n), some (.int r), some (.ref p), some (.ref q)] /\ H' q = some (.lst es) /\ Paired (fun j v => RepOS K H' (L j).st v) ((List.range n).filter fun j => decide (Qc rs g (j + 1) = Qc rs g (r + 1))) es) (fun N hN => ?_) fun σ' H4 hv => ?_
  ·walk_at "";have hsm := hA.sm;refine ⟨by omega, by omega, ?_⟩;refine zcW (fun i acc H' => Same H3 H' /\ acc.length <= i /\ Paired (fun j v => RepOS K H' (L j).st v) ((List.range i).filter fun j => decide (Qc rs g (j + 1) = Qc rs g (r + 1))) acc) ⟨Same.refl _, yai _, .nil⟩ (fun i acc H' hi hv => ?_) fun acc H' hv q hq => ?_
   ·obtain ⟨s4, hal, hac⟩ := hv;have hi' : i < n := by rw [ya4] at hi; exact hi
    refine ⟨zaQ (by have := hA.sm; omega), ?_⟩;walk_at "T";walk_at "";rw [Int.zero_add];have hp4 := s4 _ _ hp3;obtain ⟨c3, hc3, hs3⟩ := hP3.at (i := i) (by omega);refine ⟨_, .inl (SqL.of hp4), _, zag hc3, _, .inl (SqL.of hp4), _, zag hc2, ?_⟩;walk_at "t";refine ⟨_, _, zc1 (s4.seqT hs3), zc1 (((s2.trans s3).trans s4).seqT hs2), zeD _, ?_⟩;rw [List.range_succ, List.filter_append];refine ite2 (fun ce => ?_) fun ce => ?_
    ·have ce' : Qc rs g (i + 1) = Qc rs g (r + 1) := zeC ce;obtain ⟨li, hli⟩ : ∃ v, ls[i]? = some v := ⟨_, yal (by omega)⟩
     obtain ⟨ai, xi, bi, rfl, g1, g2, _⟩ := hA3.n i li hli;refine ⟨_, .inl (s4.seq hA3.l), _, zag hli, ?_⟩;walk_at "t";refine ⟨_, .inr (s4.seqT g1), _, i2, s4, by rw [yae]; simp; omega, ?_⟩;rw [show [i].filter (fun j => decide (Qc rs g (j + 1) = Qc rs g (r + 1))) = [i] by simp [ce']];exact zgc hac (g2.same s4)
    ·have ce' : ¬ Qc rs g (i + 1) = Qc rs g (r + 1) := fun z => ce (by rw [z]);refine ⟨s4, by omega, ?_⟩;rw [show [i].filter (fun j => decide (Qc rs g (j + 1) = Qc rs g (r + 1))) = [] by simp [ce'], List.append_nil];exact hac
   ·obtain ⟨s4, _, hac⟩ := hv;rw [ya4] at hac;have sq := zac hq (.lst acc);exact hN _ _ ⟨s4.trans sq, q, acc, rfl, zad, Paired.mapP hac fun _ _ h => RepOS.same sq h⟩
  obtain ⟨s4, q, es, rfl, hq, hes⟩ := hv;have hA4 := hA3.same s4;have eL := zl3 rs g (b := r) (k := n) (N := ls.length) (by rw [<- (hA.lv r (by omega)).2]; exact ho) hrn hn hb;rw [List.getLast?_eq_getElem?] at eL;obtain ⟨y, hy, ry⟩ := zf4 hes eL;have hll := Paired.length hes;rw [hll] at hy;have hel : 0 < es.length := by have := (yag.mp hy).1; omega
  have g1 := (s2.trans (s3.trans s4)).seqT h1;walk_at "";refine ⟨_, .inl hA4.l, _, zag hlv, ?_⟩;walk_at "t";refine ⟨_, .inr g1, _, i1, _, .inl hA4.l, _, zag hlv, ?_⟩;walk_at "t";refine ⟨_, .inr g1, _, i2, _, .inl hA4.l, _, zag hlv, ?_⟩;walk_at "t";refine ⟨_, .inr g1, _, i3, 1, rfl, ?_⟩;show rIx K (.ref q) (.int (-1)) H4 _;rw [zdt];refine ⟨_, .inl (SqL.of hq), y, zns hel hy, zar (show 4 <= 100000 by decide), fun z hz => ?_⟩;have sz := zac hz (.lst [V.str (L r).ru, x0, .ref b0, y]);have s24 := (s2.trans (s3.trans s4)).trans sz;exact k _ _ ((s13.trans s4).trans sz) ⟨z, x0, b0, y, rfl, SqL.of zad, h2.same s24, s24.seqT h3, RepOS.same sz ry⟩
def oTms : Option Stm -> List Str
 | some S => S.tms
 | none => []
def RepP (K : W.Frag) (H : Hp) (o : Option Stm) (v : V) : Prop := match o with
 | some S => RepS K H S v
 | none => ∃ t, v = .str t
def rest7 : Stm -> List (Option Stm)
 | .neg A => [some A]
 | .bi _ A B => [some A, some B]
 | .qu _ _ A => [none, some A]
 | _ => []
theorem ziA {H : Hp} {S : Stm} {a : Addr} (h : RepS K H S (.ref a)) (hn : ¬ S.tag = Str.ofString "is") : ∃ xs, SqT K H a (.str S.tag :: xs) /\ Paired (RepP K H) (rest7 S) xs := by
 cases S with
 | is w ts => exact absurd rfl hn
 | fls => obtain ⟨a', e, h2⟩ := h; cases e; exact ⟨[], h2, .nil⟩
 | neg A => obtain ⟨a', u, e, h2, h3⟩ := h; cases e; exact ⟨[u], h2, .cons h3 .nil⟩
 | bi o A B => obtain ⟨a', u, u', e, h2, h3, h4⟩ := h; cases e; exact ⟨[u, u'], h2, .cons h3 (.cons h4 .nil)⟩
 | qu q X A => obtain ⟨a', u, e, h2, h3⟩ := h; cases e; exact ⟨[.str X, u], h2, .cons ⟨X, rfl⟩ (.cons h3 .nil)⟩
theorem ziB {S : Stm} (hn : ¬ S.tag = Str.ofString "is") : (rest7 S).flatMap oTms = S.tms := by
 cases S with
 | is w ts => exact absurd rfl hn
 | _ => simp [rest7, oTms, Stm.tms]
theorem zjJ {S : Stm} {d : Nat} (h : S.Ok) (hd : S.deep <= d + 1) : ∀ o ∈ rest7 S, ∀ B, o = some B -> B.Ok /\ B.deep <= d := by
 intro o ho B e;subst e;cases S with
 | is w ts => cases ho
 | fls => cases ho
 | neg A => simp [rest7] at ho; subst ho; simp only [Stm.deep] at hd; exact ⟨h, by omega⟩
 | bi o A C =>
  simp only [Stm.deep] at hd;simp [rest7] at ho;rcases ho with rfl | rfl
  ·exact ⟨h.1, by omega⟩
  ·exact ⟨h.2, by omega⟩
 | qu q X A => simp [rest7] at ho; subst ho; simp only [Stm.deep] at hd; exact ⟨h.2, by omega⟩
def zjK (K : W.Frag) (d : Nat) : Sp := fun vs H Q _ => ∃ (v : V) (o : Option Stm), vs = [v] /\ RepOS K H o v /\ (∀ S, o = some S -> S.Ok /\ S.deep <= d) /\ (o = none -> 1 <= d) /\ d <= 12 /\ ∀ p H', Same H H' -> H' p = some (.lst ((oTms o).map V.str)) -> Q (.ref p) H'
theorem zdh (T : Tx K mg D) : ∀ d : Nat, FnOk P w K mg Qd CX0 (d + 1) D.a_e0 D.d_e0 ["_law_ka"] (zjK K d)
 | 0 => by
  refine T.F_e0.ok sc_e0 (fun vs H Q E h => ?_) (fun cdv A outer s H vs Q E hr h => ?_)
  ·obtain ⟨v, o, rfl, _⟩ := h; rfl
  obtain ⟨v, o, rfl, rv, ho, hn0, hd12, k⟩ := h;cases o with
  | none => exact absurd (hn0 rfl) (by decide)
  | some S =>
   have := S.deep_pos;have := (ho S rfl).2;omega
 | d + 1 => by
  have G_e0 := zdh T d;refine T.F_e0.ok sc_e0 (fun vs H Q E h => ?_) (fun cdv A outer s H vs Q E hr h => ?_)
  ·obtain ⟨v, o, rfl, _⟩ := h; rfl
  obtain ⟨v, o, rfl, rv, ho, hn0, hd12, k⟩ := h;have hu := hr.units;have hr_e0 : Room (d + 1) _ := hr;refine ⟨_, (zaf (za6 (zdj (zdi (pv 0))) (zai (zaq (zaB zae))) zat)
  (zaf (za6 (zan (za9 K hu) (zal (ixA K) (pv 0) zab (fun _ _ => rfl)) zas (zav _)) (zai (zaq (zaF (zcY K) (by rfl) T.z_list (by rfl) (zaa (zal (ixA K) (pv 0) zab (fun _ _ => rfl)) zae)))) zat)
  (zaf (zap (i := 1) sc_e0.nd (by rfl) (by walk_at "o") (zaB zae))
  (zaf (zcd PassesOwn.never (by rfl) (zbF K (zaR (slB K) (pv 0) (zbe zab) zbd)) (zaG (i := 2) sc_e0.nd (by rfl) (by walk_at "o"))
   (zai (za6 (zbm (zau (zbb K "tuple") (by rfl) T.z_isinstance (by rfl) (zaa (pv 2) (zaa (zbT (v := .ty "tuple") (by rfl) T.z_tuple (by rfl) (by rfl)) zae)))) (zai (zap (i := 1) sc_e0.nd (by rfl) (by walk_at "o") (zao (za3 K) (pv 1) (YC G_e0 hr_e0 (by rfl) T.m_e0 (zaa (pv 2) zae))))) zat)))
  (zai (zaq (pv 1))))))), ?_⟩
  walk_at "S";cases o with
  | none =>
   cases (show v = .non from rv);walk_at "";exact ⟨yaq _, fun p hp => k p _ (zac hp _) zad⟩
  | some S =>
   have rS : RepS K H S v := rv;obtain ⟨oS, dS⟩ := ho S rfl;obtain ⟨a, xs0, rfl, h2⟩ := rS.tag;refine zbu (c := False) (fun Qb q => ?_) (fun c => c.elim) fun _ => ?_
   ·walk_at "";exact q
   refine zbu (c := S.tag = Str.ofString "is") (fun Qb q => ?_) (fun c => ?_) fun c => ?_
   ·walk_at "";refine ⟨_, .inr h2, _, i0, ?_⟩;walk_at "t";exact q
   ·cases S with
    | is y ts =>
     obtain ⟨a', b, e0, h2', h3⟩ := rS;cases e0;walk_at "";refine ⟨_, .inr h2', _, i2, ?_⟩;walk_at "t";exact ⟨_, .inr h3, fun l hl => k l _ (zac hl _) zad⟩
    | fls => exact absurd c (by decide +kernel)
    | neg B => exact absurd c (show ¬ Str.ofString "not" = Str.ofString "is" by decide +kernel)
    | bi o B C => exact absurd c (zgT o)
    | qu q X B => exact absurd c (zgU q)
   obtain ⟨xs, hxs, hP⟩ := ziA rS c;have hto := ziB c;have hlen12 : S.tms.length <= 24576 := by
    have h1 := zcE oS;have h2 : 2 ^ S.deep <= 2 ^ 13 := Nat.pow_le_pow_right (by decide) (by omega);omega
   walk_at "";refine ⟨yaq _, fun p hp => ⟨_, .inr ⟨(zac hp _).seqT hxs, fun q H1 s1 hq => .inr ⟨⟨_, hq⟩, ?_⟩⟩⟩⟩;rw [zeE] at hq;have s01 := (zac hp (.lst [])).trans s1;have hp1 := s1 _ _ (zad (H := H) (a := p) (o := .lst []));have hl := Paired.length hP;refine zez (xs := xs) (fun i σ H2 => ∃ (u : Option V) (p' : Addr), Same H H2 /\ SqT K H2 q xs /\ σ = [some (.ref a), some (.ref p'), u] /\ H2 p' = some (.lst ((((rest7 S).take i).flatMap oTms).map V.str))) ⟨_, p, s01, hq, rfl, hp1⟩ (fun i σ H2 _ hv => let ⟨_, _, _, e, _⟩ := hv; e) (fun i x σ H2 hx hv => ?_) fun σ H2 hv => ?_
   ·obtain ⟨u, p', s2, hq2, rfl, hp2⟩ := hv;have hi : i < (rest7 S).length := by have := (yag.mp hx).1; omega
    obtain ⟨y, ey, ry⟩ := zf4 hP (yal hi);rw [ey] at hx;cases hx;have et : (rest7 S).take (i + 1) = (rest7 S).take i ++ [(rest7 S)[i]] := by rw [yaz, yal hi]; rfl
    have hlt : (((rest7 S).take (i + 1)).flatMap oTms).length <= 24576 := by
     refine yat ?_ hlen12;rw [<- hto]
     conv => rhs; rw [<- List.take_append_drop (i + 1) (rest7 S), List.flatMap_append, yae]
     omega
    have hob := zjJ oS dS (rest7 S)[i] (List.getElem_mem _);rw [et, List.flatMap_append] at hlt ⊢;cases eo : (rest7 S)[i] with
    | none =>
     rw [eo] at ry;obtain ⟨t, rfl⟩ := ry;walk_at "";refine ⟨false, rfl, ?_⟩;rw [if_neg (by decide)];exact ⟨_, p', s2, hq2, rfl, by rw [hp2]; simp [oTms]⟩
    | some B =>
     rw [eo] at ry;have rB : RepS K H B x := ry;obtain ⟨ab, xb, rfl, hb⟩ := rB.tag;obtain ⟨oB, dB⟩ := hob B eo;walk_at "";refine ⟨_, true, .tup (s2.seqT hb), rfl, ?_⟩;rw [if_pos rfl];rw [eo] at hlt;refine ⟨_, some B, rfl, RepS.same (S := B) s2 rB, fun S' e => (by cases e; exact ⟨oB, dB⟩), fun e => (by cases e), by omega, fun p3 H3 s3 h3 => ?_⟩;walk_at "t";refine ⟨_, _, .inl ⟨s3 _ _ hp2, h3, zar ?_, fun r hr' => ?_⟩⟩
     ·rw [yae] at hlt;rw [yaf, yaf];have : ([some B].flatMap oTms).length = (oTms (some B)).length := by simp
      omega
     ·have sr := zac hr' (.lst (((((rest7 S).take i).flatMap oTms).map V.str) ++ ((oTms (some B)).map V.str)));refine ⟨_, r, (s2.trans s3).trans sr, (s3.trans sr).seqT hq2, rfl, ?_⟩;rw [zad];simp
   ·obtain ⟨u, p', s2, hq2, rfl, hp2⟩ := hv;rw [<- hl, List.take_length, hto] at hp2;walk_at "";exact k p' H2 s2 hp2
def znv (K : W.Frag) : Sp := fun vs H Q _ => ∃ (lp : Addr) (ls : List V) (L : Nat -> Ln) (n : Nat), vs = [.ref lp, .int n] /\ SqL K H lp ls /\ RepNs K H L ls /\ n < ls.length /\ ls.length <= 80 /\ (∀ R ∈ (L n).rs, R.sm) /\ (∀ i, i < n -> ∀ R ∈ (L i).rs, R.sm /\ noB R) /\ lnH L n /\
 ∀ (b : Bool) H', Same H H' -> newB L n b -> Q (.bl b) H'
theorem zf5 {L : Ln} {R : Rf} (h : L.rs = [R]) : decide (onlyN L = none) = !znr R := by
 unfold onlyN;rw [h];cases R with
 | s t =>
  show decide ((if isNm t = true then some t else none) = none) = !isNm t;cases isNm t <;> rfl
 | _ => rfl
theorem zgB {L : Ln} {nm : Str} (h0 : onlyN L = some nm) : L.rs = [.s nm] := by
 unfold onlyN at h0;cases e : L.rs with
 | nil => rw [e] at h0; cases h0
 | cons R r =>
  rw [e] at h0;cases r with
  | cons _ _ => cases h0
  | nil =>
   cases R with
   | s t =>
    have h' : (if isNm t = true then some t else none) = some nm := h0
    by_cases c : isNm t = true
    ·rw [if_pos c] at h'; cases h'; rfl
    ·rw [if_neg c] at h'; cases h'
   | _ => cases h0
theorem zet {L : Ln} (h : ¬ (L.rs.length : Int) = 1) : onlyN L = none := by
 unfold onlyN;cases e : L.rs with
 | nil => rfl
 | cons R r =>
  cases r with
  | nil => rw [e] at h; exact absurd rfl h
  | cons _ _ => rfl
theorem mem_rdt {l : List Rf} {x : Str} : Dt.str x ∈ rdt l ↔ Rf.s x ∈ l := by
 unfold rdt;rw [ya6]
 constructor
 ·rintro ⟨R, h, e⟩
  cases R with
  | s t => cases e; exact h
  | _ => cases e
 ·intro h;exact ⟨_, h, rfl⟩
theorem zcV : ∀ l : List Str, Dt.deps (l.map Dt.str) <= 60
 | [] => yaq _
 | x :: l => by
  have := zcV l;simp only [List.map_cons, Dt.deps];have h0 : Dt.dep (.str x) = 0 := rfl;omega
theorem zjL (T : Tx K mg D) : FnOk P w K mg Qd CX0 12 D.a_g2 D.d_g2 ["_law_lines_here", "_law_b"] (znv K) := by
 have G_c0 := @zds P w _ _ Qd _ T;have G_e0 := zdh (P := P) (w := w) (Qd := Qd) T 10;refine T.F_g2.ok sc_g2 (fun vs H Q E h => ?_) (fun cdv A outer s H vs Q E hr h => ?_)
 ·obtain ⟨lp, ls, L, n, rfl, _⟩ := h; rfl
 obtain ⟨lp, ls, L, n, rfl, hlp, hL, hn, hl80, hsm, hrr, hlh, k⟩ := h;have hu := hr.units;have hr_c0 : Room 1 _ := hr.mono (by decide);have hr_e0 : Room 11 _ := hr.mono (by decide);refine ⟨_, (zaf (zap (i := 2) sc_g2.nd (by rfl) (by walk_at "o") (zal (ixA K) (zal (ixA K) (pv 0) (pv 1) (fun _ _ => rfl)) zab (fun _ _ => rfl)))
  (zaf (za6 (PW.pt (zbz (zan (zcz K hu) (zau (zay K) (by rfl) T.z_len yap (zaa (pv 2) zae)) zab (zav _)) (zby (zcr (zbm (YC G_c0 hr_c0 (by rfl) T.m_c0 (zaa (zal (ixA K) (pv 2) zab (fun _ _ => rfl)) zae))))))) (zai (zaq zcI)) zat)
  (zaf (zcd PassesOwn.never (by rfl) (zbF K (zaR (slB K) (pv 0) zbd (zbe (pv 1)))) (zaG (i := 3) sc_g2.nd (by rfl) (by walk_at "o"))
   (zai (za6 (PW.pt (zbz (zan (zep K hu) (zal (ixA K) (pv 2) zab (fun _ _ => rfl)) (zal (ixA K) (pv 3) zab (fun _ _ => rfl)) (by rfl)) (zby (zan (zep K hu) (zal (ixA K) (pv 2) zab (fun _ _ => rfl)) (YC G_e0 hr_e0 (by rfl) T.m_e0 (zaa (zal (ixA K) (pv 3) zab (fun _ _ => rfl)) zae)) (by rfl))))) (zai (zaq zcI)) zat)))
  (zai (zaq zcI))))), ?_⟩
 walk_at "S";obtain ⟨lv, hlv⟩ : ∃ v, ls[n]? = some v := ⟨_, yal hn⟩
 obtain ⟨a, x, b, rfl, h1, h2, h3⟩ := hL n lv hlv;refine zaw (fun σ' H' => H' = H /\ σ' = [some (.ref lp), some (.int n), some (.ref b), none]) (fun N hN => ?_) fun σ' H1 hv => ?_
 ·walk_at "";refine ⟨_, .inl hlp, _, zag hlv, ?_⟩;walk_at "t";exact ⟨_, .inr h1, _, i3, hN _ _ ⟨rfl, rfl⟩⟩
 obtain ⟨rfl, rfl⟩ := hv;refine zcH (c := onlyN (L n) = none) (fun Qb q => ?_) (fun H2 s2 c => ?_) fun H2 s2 c => ?_
 ·walk_at "";have qT : onlyN (L n) = none -> Qb true H1 := fun e => by have := q H1 (Same.refl _); rw [ya9 e] at this; exact this
  refine ⟨_, .inr h3, ?_⟩;rw [yaf];refine ite2 (fun c2 => qT (zet c2)) fun c2 => ?_;obtain ⟨R, hR⟩ : ∃ R, (L n).rs = [R] := List.length_eq_one_iff.mp (by omega);have e := zf5 hR;rw [hR] at h3;refine ⟨_, .inr h3, _, i0, R, rfl, hsm R (by rw [hR]; simp), fun H' s' => ⟨_, rfl, ?_⟩⟩;have := q H' s';rw [e] at this;exact this
 ·walk_at "";exact k _ _ s2 ⟨fun z => (by cases z), fun ⟨y, e, _⟩ => by rw [e] at c; cases c⟩
 obtain ⟨nm, hnm⟩ : ∃ nm, onlyN (L n) = some nm := by
  cases e : onlyN (L n) with
  | none => exact absurd e c
  | some y => exact ⟨y, rfl⟩
 clear c;walk_at "";have hrs : (L n).rs = [.s nm] /\ onlyN (L n) = some nm := ⟨zgB hnm, hnm⟩
 rw [hrs.1] at h3;have hnmN := zg5 hnm;have no : ∀ H', Same H1 H' -> anyN L n nm -> Q (.bl false) H' := fun H' s' h => k _ _ s' ⟨fun z => (by cases z), fun ⟨y, e, hy⟩ => by rw [hrs.2] at e; cases e; exact absurd h hy⟩;refine ⟨_, .inl ⟨s2.seq hlp, fun q hq => .inl ⟨⟨_, SqL.of zad⟩, ?_⟩⟩⟩;rw [zcO];have sq := s2.trans (zac hq (.lst (ls.take n)));refine zff (xs := ls.take n) (fun i σ H3 => ∃ u : Option V, Same H1 H3 /\ H3 q = some (.lst (ls.take n)) /\ σ = [some (.ref lp), some (.int n), some (.ref b), u] /\ ¬ anyN L i nm) ⟨_, sq, zad, rfl, fun ⟨i, hi, _⟩ => absurd hi (by omega)⟩ (fun i σ H3 _ hv => let ⟨_, _, e, _⟩ := hv; SqL.of e) (fun i x σ H3 hx hv => ?_) fun σ H3 hv => ?_
 ·obtain ⟨u, s3, hq3, rfl, hno⟩ := hv;have hin : i < n := by have := (yag.mp hx).1; rw [ya3] at this; omega
  rw [List.getElem?_take, if_pos hin] at hx;obtain ⟨ai, xi, bi, rfl, g1, g2, g3⟩ := hL i x hx;have step : ∀ {H4}, Same H1 H4 -> ¬ zcF (L i) nm -> ¬ anyN L (i + 1) nm := fun _ h => by
   rw [zf1]
   rintro (z | z)
   ·exact hno z
   ·exact h z
  have hyes : zcF (L i) nm -> anyN L n nm := fun h => ⟨i, hin, h⟩
  walk_at "";refine ⟨_, .inr (s3.seqT h3), _, i0, _, .inr (s3.seqT g1), _, i3, ?_⟩;simp only [Rf.v];refine .inr ⟨.str nm, rdt (L i).rs, .str nm, .inl (zi9 (fun R hR => (hrr i hin R hR).2) (s3.seqT g3)), ?_, _, rfl, ?_⟩
  ·have : Dt.dep (.tup (rdt (L i).rs)) <= 2 := zkt _;have e : Dt.dep (.tup (rdt (L i).rs)) = Dt.deps (rdt (L i).rs) + 1 := rfl;omega
  refine ite2 (fun c1 => no _ s3 (hyes (.inl (mem_rdt.mp (by simpa using c1))))) fun c1 => ?_;have c1' : ¬ Rf.s nm ∈ (L i).rs := fun z => c1 (by simpa using mem_rdt.mpr z);refine ⟨_, .inr (s3.seqT h3), _, i0, _, .inr (s3.seqT g1), _, i2, _, (L i).st, rfl, g2.same s3, fun S' e => ⟨((hlh i hin).2 S' e).1, ((hlh i hin).2 S' e).2.1⟩, fun _ => by decide, by decide, fun p4 H4 s4 h4 => ?_⟩;simp only [Rf.v];refine .inr ⟨.str nm, (oTms (L i).st).map Dt.str, .str nm, .inr (zdH (SqL.of h4)), zcV _, _, rfl, ?_⟩;have s34 := s3.trans s4;have hmem : (Dt.str nm ∈ (oTms (L i).st).map Dt.str) ↔ nm ∈ oTms (L i).st := by
   rw [ya6];exact ⟨fun ⟨y, h1, h2⟩ => by cases h2; exact h1, fun h => ⟨_, h, rfl⟩⟩
  refine ite2 (fun c2 => no _ s34 (hyes (.inr ?_))) fun c2 => ⟨_, s34, s4 _ _ hq3, rfl, step s34 ?_⟩
  ·have := hmem.mp (by simpa using c2);cases e : (L i).st with
   | none => rw [e] at this; cases this
   | some S => rw [e] at this; exact ⟨S, rfl, this, hnmN⟩
  ·rintro (z | ⟨S, e, z, _⟩)
   ·exact c1' z
   ·exact c2 (by simpa using hmem.mpr (by rw [e]; exact z))
 ·obtain ⟨u, s3, hq3, rfl, hno⟩ := hv;rw [ya3, Nat.min_eq_left (by omega)] at hno;walk_at "";exact k _ _ s3 ⟨fun _ => ⟨nm, hrs.2, hno⟩, fun _ => rfl⟩
def zl4 (K : W.Frag) : Sp := fun vs H Q _ => ∃ (a : Addr) (ls : List V) (L : Nat -> Ln) (rs : List Str) (g : Nat -> Nat) (n : Nat) (R : Rf), vs = [.ref a, .int n, R.v] /\ n < ls.length /\ SqL K H a ls /\ RepNs K H L ls /\ (∀ i, i < ls.length -> (L i).lev = (g i : Int) /\ (L i).ru = rs.getD i "") /\ ls.length <= 80 /\ (∀ j, j < ls.length -> o1 (rs.getD j "") <= g j) /\
 ∀ H', Same H H' -> (∀ r, tk (fun i => Qc rs g (i + 1)) n R = some r -> ∀ x, RepOS K H' (L r).st x -> Q x H') /\ (tk (fun i => Qc rs g (i + 1)) n R = none -> Q .non H')
theorem ziC (T : Tx K mg D) : FnOk P w K mg Qd CX0 2 D.a_f2 D.d_f2 ["_law_lines_here", "_law_k", "_law_ref"] (zl4 K) := by
 have G_e3 := @zes P w _ _ Qd _ T;refine T.F_f2.ok sc_f2 (fun vs H Q E h => ?_) (fun cdv A outer s H vs Q E hr h => ?_)
 ·obtain ⟨a, ls, L, rs, g, n, R, rfl, _⟩ := h; rfl
 obtain ⟨a, ls, L, rs, g, n, R, rfl, hn, hA, hL, hLg, hl, hg, k⟩ := h;have hu := hr.units;have hr_e3 : Room 1 _ := hr.mono (by decide);refine ⟨_, (zaf (za6 (PW.pt (zbz (zcr (zbm (zau (zbb K "int") (by rfl) T.z_isinstance (by rfl) (zaa (pv 2) (zaa (zbT (v := .ty "int") (by rfl) T.z_int (by rfl) (by rfl)) zae))))) (zbz (zbm (zau (zbb K "bool") (by rfl) T.z_isinstance (by rfl) (zaa (pv 2) (zaa (zbT (v := .ty "bool") (by rfl) T.z_bool (by rfl) (by rfl)) zae)))) (zbz (zan zct (pv 2) zab (zav _)) (zby (zan zk1 (pv 2) (pv 1) (zav _))))))) (zai (zaq zbA)) zat)
  (zaf (zap (i := 3) sc_f2.nd (by rfl) (by walk_at "o") (YC G_e3 hr_e3 (by rfl) T.m_e3 (zaa (pv 0) zae)))
  (zaf (za6 (zan (zcz K hu) (zaR (slB K) (zal (ixA K) (pv 3) (pv 1) (fun _ _ => rfl)) zbd (zbe (zau (zay K) (by rfl) T.z_len yap (zaa (zal (ixA K) (pv 3) (pv 2) (fun _ _ => rfl)) zae)))) (zal (ixA K) (pv 3) (pv 2) (fun _ _ => rfl)) (zav _)) (zai (zaq zbA)) zat)
  (zai (zaq (zal (ixA K) (zal (ixA K) (pv 0) (pv 2) (fun _ _ => rfl)) zab (fun _ _ => rfl))))))), ?_⟩
 walk_at "S";have k0 := k H (Same.refl H);cases R with
 | s t =>
  simp only [Rf.v];walk_at "";refine ⟨false, rfl, ?_⟩;rw [if_pos (by decide)];exact k0.2 rfl
 | o =>
  simp only [Rf.v];walk_at "";refine ⟨false, rfl, ?_⟩;rw [if_pos (by decide)];exact k0.2 rfl
 | b t =>
  simp only [Rf.v];walk_at "";refine ⟨true, rfl, ?_⟩;rw [if_neg (by decide)];refine ⟨true, rfl, ?_⟩;rw [if_pos (by decide)];exact k0.2 rfl
 | n i =>
  simp only [Rf.v];walk_at "";refine ⟨true, rfl, ?_⟩;rw [if_neg (by decide)];refine ⟨false, rfl, ?_⟩;rw [if_neg (by decide)];have tn : ¬ (0 <= i /\ i < (n : Int)) -> tk (fun i => Qc rs g (i + 1)) n (.n i) = none := fun h => by
   show (if _ then _ else _) = _;rw [if_neg fun z => h ⟨z.1, z.2.1⟩]
  refine ite2 (fun c1 => k0.2 (tn (by omega))) fun c1 => ?_;refine ite2 (fun c2 => k0.2 (tn (by omega))) fun c2 => ?_;obtain ⟨r, rfl⟩ : ∃ r : Nat, i = r := ⟨i.toNat, by omega⟩
  have hrn : r < n := by omega
  refine ⟨a, ls, rs, g, rfl, hA, RepNs.ln hL hLg, hl, hg, fun p us H1 s1 hp hul hP => ?_⟩;obtain ⟨c1, hc1, hs1⟩ := hP.at (i := n) (by omega);obtain ⟨c2, hc2, hs2⟩ := hP.at (i := r) (by omega);walk_at "t";refine ⟨_, .inl (SqL.of hp), _, zag hc1, _, .inl (SqL.of hp), _, zag hc2, ?_⟩;walk_at "t";refine ⟨_, .inr hs2, ?_⟩;rw [zcu];refine ⟨_, .inr ⟨hs1, fun q H2 s2 hq => ?_⟩⟩;rw [zcO, zcc] at hq;have hp2 : H2 p = some (.lst us) := s2 _ _ hp;refine ⟨_, .inl (SqL.of hp2), _, zag hc2, ?_⟩;walk_at "t";refine ⟨_, _, zc1 hq, zc1 (s2.seqT hs2), zeD _, ?_⟩;have hk := k H2 (s1.trans s2);have e : tk (fun i => Qc rs g (i + 1)) n (.n (r : Int)) = if (Qc rs g (n + 1)).take (Qc rs g (r + 1)).length = Qc rs g (r + 1) then some r else none := by
   show (if _ then _ else _) = _
   by_cases c : (Qc rs g (n + 1)).take (Qc rs g (r + 1)).length = Qc rs g (r + 1)
   ·rw [if_pos ⟨by omega, by omega, by simp [zfT, hrn, c]⟩, if_pos c]; simp
   ·rw [if_neg fun z => c (by simpa [zfT, hrn] using z.2.2), if_neg c]
  rw [e] at hk;refine ite2 (fun c => hk.2 (if_neg fun z => c (by rw [z]))) fun c => ?_;have c' : idt ((Qc rs g (n + 1)).take (Qc rs g (r + 1)).length) = idt (Qc rs g (r + 1)) := yax c;obtain ⟨v, hv⟩ : ∃ v, ls[r]? = some v := ⟨_, yal (by omega)⟩
  obtain ⟨ln, x, b, rfl, h1, h2, h3⟩ := hL r v hv;refine ⟨_, .inl ((s1.trans s2).seq hA), _, zag hv, ?_⟩;walk_at "t";exact ⟨_, .inr ((s1.trans s2).seqT h1), _, i2, hk.1 r (if_pos (zeC c')) _ (h2.same (s1.trans s2))⟩
def znw (K : W.Frag) : Sp := fun vs H Q _ => ∃ (lp : Addr) (ls : List V) (L : Nat -> Ln) (rs : List Str) (g : Nat -> Nat) (n : Nat) (S0 : Stm), vs = [.ref lp, .int n] /\ n < ls.length /\ LnsL K H lp ls L rs g /\ (L n).st = some S0 /\ S0.Ok /\ S0.deep <= 10 /\ (∀ i, i < ls.length -> okO (L i).st) /\ (∀ i, i < n -> ∀ R ∈ (L i).rs, R.sm /\ noB R) /\
 ∀ H', Same H H' -> Q (.bl (ansW L (fun i => Qc rs g (i + 1)) ls.length n [false, true] fOne S0)) H'
theorem ziD {L : Nat -> Ln} {f : Nat -> List Nat} {N n : Nat} {R : Rf} {S : Stm} : tkB L f N n R ≠ .st S := by
 unfold tkB;cases R with
 | n i =>
  show (if _ then _ else _) ≠ _
  split <;> (intro z; cases z)
 | _ => intro z; cases z
theorem ziE {L : Nat -> Ln} {f : Nat -> List Nat} {n : Nat} {R : Rf} {l : Ln} {e : Option Stm} : tkL L f n R ≠ .bx l e := by
 unfold tkL;cases tk f n R with
 | none => intro z; cases z
 | some r =>
  show (match (L r).st with | some S => Tk.st S | none => .non) ≠ _;cases (L r).st <;> (intro z; cases z)
theorem zjM (T : Tx K mg D) : FnOk P w K mg Qd CX0 13 D.a_f6 D.d_f6 ["_law_lines_here", "_law_k"] (znw K) := by
 have G_c0 := @zds P w _ _ Qd _ T;have G_e0 := zdh (P := P) (w := w) (Qd := Qd) T 10;have G_f7 := zeP (P := P) (w := w) (Qd := Qd) T 10;have G_g0 := @zgA P w _ _ Qd _ T;have G_f2 := @ziC P w _ _ Qd _ T;refine T.F_f6.ok sc_f6 (fun vs H Q E h => ?_) (fun cdv A outer s H vs Q E hr h => ?_)
 ·obtain ⟨lp, ls, L, rs, g, n, S0, rfl, _⟩ := h; rfl
 obtain ⟨lp, ls, L, rs, g, n, S0, rfl, hn, hA, hS0, oS, dS, hok, hrr, k⟩ := h;have hu := hr.units;have hr_c0 : Room 1 _ := hr.mono (by decide);have hr_e0 : Room 11 _ := hr.mono (by decide);have hr_f7 : Room 11 _ := hr.mono (by decide);have hr_g0 : Room 2 _ := hr.mono (by decide);have hr_f2 : Room 2 _ := hr.mono (by decide);refine ⟨_, (zaf (zap (i := 2) sc_f6.nd (by rfl) (by walk_at "o") (zal (ixA K) (zal (ixA K) (pv 0) (pv 1) (fun _ _ => rfl)) zab (fun _ _ => rfl)))
  (zaf (zap (i := 3) sc_f6.nd (by rfl) (by walk_at "o") (zal (ixA K) (zal (ixA K) (pv 0) (pv 1) (fun _ _ => rfl)) zab (fun _ _ => rfl)))
  (zaf (za6 (zan (zcz K hu) (zau (zay K) (by rfl) T.z_len yap (zaa (pv 3) zae)) zab (zav _)) (zai (zaq zcI)) zat)
  (zaf (zap (i := 4) sc_f6.nd (by rfl) (by walk_at "o") (YC G_f2 hr_f2 (by rfl) T.m_f2 (zaa (pv 0) (zaa (pv 1) (zaa (zal (ixA K) (pv 3) zab (fun _ _ => rfl)) zae)))))
  (zaf (zap (i := 5) sc_f6.nd (by rfl) (by walk_at "o") (YC G_g0 hr_g0 (by rfl) T.m_g0 (zaa (pv 0) (zaa (pv 1) (zaa (zal (ixA K) (pv 3) zab (fun _ _ => rfl)) zae)))))
  (zaf (za6 (PW.pt (zbz (zdj (zdi (pv 4))) (zbz (zan (zcz K hu) (zal (ixA K) (pv 4) zab (fun _ _ => rfl)) zas (zav _)) (zbz (zdj (zdi (pv 5))) (zby (zan (zcz K hu) (zal (ixA K) (pv 5) zab (fun _ _ => rfl)) zas (zav _))))))) (zai (zaq zcI)) zat)
  (zaf (za6 (PW.pt (zbz (zan (zcz K hu) (zau (zay K) (by rfl) T.z_len yap (zaa (zal (ixA K) (pv 5) zab (fun _ _ => rfl)) zae)) zab (zav _)) (zby (zcr (zbm (YC G_c0 hr_c0 (by rfl) T.m_c0 (zaa (zal (ixA K) (zal (ixA K) (pv 5) zab (fun _ _ => rfl)) zab (fun _ _ => rfl)) zae))))))) (zai (zaq zcI)) zat)
  (zaf (zap (i := 6) sc_f6.nd (by rfl) (by walk_at "o") (zal (ixA K) (zal (ixA K) (pv 5) zab (fun _ _ => rfl)) zab (fun _ _ => rfl)))
  (zaf (za6 (PW.pt (zbz (zan (zep K hu) (pv 6) (YC G_e0 hr_e0 (by rfl) T.m_e0 (zaa (pv 2) zae)) (by rfl)) (zbz (zan (zep K hu) (pv 6) (YC G_e0 hr_e0 (by rfl) T.m_e0 (zaa (pv 4) zae)) (by rfl)) (zby (zan (zcz K hu) (zal (ixA K) (pv 5) zab (fun _ _ => rfl)) (pv 2) (zav _)))))) (zai (zaq zcI)) zat)
  (zai (zaq (zaH (zdq K hu) (zal (ixA K) (pv 5) zab (fun _ _ => rfl)) (YC G_f7 hr_f7 (by rfl) T.m_f7 (zaa (zal (ixA K) (pv 4) zab (fun _ _ => rfl)) (zaa (zal (ixA K) (pv 4) zab (fun _ _ => rfl)) (zaa (pv 6) zae)))) (zav _))))))))))))), ?_⟩
 walk_at "S";obtain ⟨lv, hlv⟩ : ∃ v, ls[n]? = some v := ⟨_, yal hn⟩
 obtain ⟨a, x, b, rfl, h1, h2, h3⟩ := hA.n n lv hlv;rw [hS0] at h2;have rS : RepS K H S0 x := h2;clear h2;refine zaw (fun σ' H' => H' = H /\ σ' = [some (.ref lp), some (.int n), some x, none, none, none, none]) (fun N hN => ?_) fun σ' H1 hv => ?_
 ·walk_at "";refine ⟨_, .inl hA.l, _, zag hlv, ?_⟩;walk_at "t";exact ⟨_, .inr h1, _, i2, hN _ _ ⟨rfl, rfl⟩⟩
 obtain ⟨rfl, rfl⟩ := hv;refine zaw (fun σ' H' => H' = H1 /\ σ' = [some (.ref lp), some (.int n), some x, some (.ref b), none, none, none]) (fun N hN => ?_) fun σ' H2 hv => ?_
 ·walk_at "";refine ⟨_, .inl hA.l, _, zag hlv, ?_⟩;walk_at "t";exact ⟨_, .inr h1, _, i3, hN _ _ ⟨rfl, rfl⟩⟩
 obtain ⟨rfl, rfl⟩ := hv;refine zbu (c := ¬ (L n).rs.length = 2) (fun Qb q => ?_) (fun c => ?_) fun c => ?_
 ·walk_at "";refine ⟨_, .inr h3, ?_⟩;rw [yaf];have e : (!decide (((L n).rs.length : Int) = 2)) = decide (¬ (L n).rs.length = 2) := by
   by_cases h : (L n).rs.length = 2
   ·simp [h]
   ·have h' : ¬ ((L n).rs.length : Int) = 2 := by omega
    simp [h, h']
  rw [e];exact q
 ·walk_at "";have := k H2 (Same.refl _);unfold ansW at this;rw [ya8 (show ¬ (L n).rs.length = [false, true].length from c), Bool.false_and] at this;exact this
 obtain ⟨R0, R1, hR⟩ : ∃ R0 R1, (L n).rs = [R0, R1] := by
  match e : (L n).rs, c with
  | [R0, R1], _ => exact ⟨R0, R1, rfl⟩
  | [], c => exact absurd (fun z => by cases z) c
  | [_], c => exact absurd (fun z => by cases z) c
  | _ :: _ :: _ :: _, c => exact absurd (fun z => by simp at z) c
 clear c;rw [hR] at h3;have eans : ansW L (fun i => Qc rs g (i + 1)) ls.length n [false, true] fOne S0 = ((!(tkL L (fun i => Qc rs g (i + 1)) n R0).isN) && ((!(tkB L (fun i => Qc rs g (i + 1)) ls.length n R1).isN) && fOne S0 [tkL L (fun i => Qc rs g (i + 1)) n R0, tkB L (fun i => Qc rs g (i + 1)) ls.length n R1])) := by
  unfold ansW;rw [hR];show (true && (((!(tkL L (fun i => Qc rs g (i + 1)) n R0).isN) && ((!(tkB L (fun i => Qc rs g (i + 1)) ls.length n R1).isN) && true)) && fOne S0 [tkL L (fun i => Qc rs g (i + 1)) n R0, tkB L (fun i => Qc rs g (i + 1)) ls.length n R1])) = _;rw [Bool.true_and, Bool.and_true, Bool.and_assoc]
 rw [eans] at k;have hto : (tkB L (fun i => Qc rs g (i + 1)) ls.length n R1).ok := zf2 (b := true) hok hrr hn;have htl : (tkL L (fun i => Qc rs g (i + 1)) n R0).ok := zf2 (b := false) hok hrr hn;have hst : ∀ S, tkB L (fun i => Qc rs g (i + 1)) ls.length n R1 ≠ .st S := fun S => ziD;have hbx : ∀ l e, tkL L (fun i => Qc rs g (i + 1)) n R0 ≠ .bx l e := fun l e => ziE;refine zaw (fun σ' H' => Same H2 H' /\ ∃ v4, RepTk K H' (tkL L (fun i => Qc rs g (i + 1)) n R0) v4 /\ σ' = [some (.ref lp), some (.int n), some x, some (.ref b), some v4, none, none]) (fun N hN => ?_) fun σ' H3 hv => ?_
 ·walk_at "";refine ⟨_, .inr h3, _, i0, lp, ls, L, rs, g, n, R0, rfl, hn, hA.l, hA.n, hA.lv, hA.sm, hA.o, fun H3 s3 => ⟨fun r er x rx => hN _ _ ⟨s3, x, ?_, rfl⟩, fun er => hN _ _ ⟨s3, _, ?_, rfl⟩⟩⟩
  ·unfold tkL;rw [er];show RepTk K H3 (match (L r).st with | some S => .st S | none => .non) x;cases e : (L r).st with
   | some S => rw [e] at rx; exact rx
   | none => rw [e] at rx; exact rx
  ·unfold tkL;rw [er]
   rfl
 obtain ⟨s3, v4, r4, rfl⟩ := hv;refine zaw (fun σ' H' => Same H2 H' /\ RepTk K H' (tkL L (fun i => Qc rs g (i + 1)) n R0) v4 /\ ∃ v5, znt K H' (tkB L (fun i => Qc rs g (i + 1)) ls.length n R1) v5 /\ σ' = [some (.ref lp), some (.int n), some x, some (.ref b), some v4, some v5, none]) (fun N hN => ?_) fun σ' H4 hv => ?_
 ·walk_at "";exact ⟨_, .inr (s3.seqT h3), _, i1, lp, ls, L, rs, g, n, R1, rfl, hn, hA.same s3, fun H4 v s4 r => hN _ _ ⟨s3.trans s4, r4.same s4, v, r, rfl⟩⟩
 clear s3 r4;obtain ⟨s4, r4, v5, r5, rfl⟩ := hv;generalize tkL L (fun i => Qc rs g (i + 1)) n R0 = tA at r4 k htl hbx;generalize tkB L (fun i => Qc rs g (i + 1)) ls.length n R1 = tB at r5 k hto hst;replace rS := rS.same s4;cases tA with
 | bx l e => exact absurd rfl (hbx l e)
 | non =>
  cases (show v4 = .non from r4);walk_at "";exact k _ s4
 | st A =>
  have rA : RepS K H4 A v4 := r4;obtain ⟨aA, xs0, rfl, hA2⟩ := rA.tag;cases tB with
  | st S => exact absurd rfl (hst S)
  | non =>
   cases (show v5 = .non from r5);replace k : ∀ H', Same H2 H' -> Q (.bl false) H' := k;walk_at "";rw [if_neg (fun z => by cases z)];refine ⟨_, .inr hA2, _, i0, ?_⟩;walk_at "t";exact ite2 (fun _ => k _ s4) fun _ => k _ s4
  | bx l e =>
   obtain ⟨a4, y1, y2, y3, rfl, j1, j2, j3, j4⟩ := r5;replace k : ∀ H', Same H2 H' -> Q (.bl (fOne S0 [.st A, .bx l e])) H' := k;refine zbu (c := ¬ (A.tag = Str.ofString "some" /\ l.ru = Str.ofString "case")) (fun Qb q => ?_) (fun c => ?_) fun c => ?_
   ·walk_at "";rw [if_neg (fun z => by cases z)];refine ⟨_, .inr hA2, _, i0, ?_⟩;walk_at "t";refine ite2 (fun c1 => ?_) fun c1 => ?_
    ·rw [ya9 (show ¬ (A.tag = Str.ofString "some" /\ l.ru = Str.ofString "case") from fun z => c1 z.1)] at q;exact q
    rw [if_neg (fun z => by cases z)];refine ⟨_, .inl j1, _, i0, ?_⟩;walk_at "t";have e : (!decide (l.ru = Str.ofString "case")) = decide (¬ (A.tag = Str.ofString "some" /\ l.ru = Str.ofString "case")) := by
     have c1' := yax c1
     by_cases z : l.ru = Str.ofString "case" <;> simp [c1', z]
    rw [e];exact q
   ·walk_at "";have := k _ s4;rw [zfX (by
     cases A with
     | qu qq X B =>
      cases qq with
      | true => rfl
      | false =>
       refine zcU ?_;unfold zcG;rw [if_neg fun z => c ⟨rfl, z⟩]
     | _ => rfl)] at this
    exact this
   have c' : A.tag = Str.ofString "some" /\ l.ru = Str.ofString "case" := yax c;clear c;have ecn : zcG l = onlyN l := by unfold zcG; rw [if_pos c'.2]
   obtain ⟨X, B, rfl⟩ := zg6 c'.1;refine zcH (c := onlyN l = none) (fun Qb q => ?_) (fun H5 s5 c => ?_) fun H5 s5 c => ?_
   ·have qT : onlyN l = none -> Qb true H4 := fun e => by have := q H4 (Same.refl _); rw [ya9 e] at this; exact this
    walk_at "";refine ⟨_, .inl j1, _, i2, ?_⟩;walk_at "t";refine ⟨_, .inr j3, ?_⟩;rw [yaf];walk_at "t";refine ite2 (fun c2 => qT (zet c2)) fun c2 => ?_;obtain ⟨R', hR'⟩ : ∃ R, l.rs = [R] := List.length_eq_one_iff.mp (by omega);have e' := zf5 hR';rw [hR'] at j3;refine ⟨_, .inl j1, _, i2, ?_⟩;walk_at "t";refine ⟨_, .inr j3, _, i0, R', rfl, (hto.2.2 R' (by rw [hR']; simp)).1, fun H' s' => ⟨_, rfl, ?_⟩⟩;have := q H' s';rw [e'] at this;exact this
   ·walk_at "";have := k _ (s4.trans s5);rw [zfX (zcU (by rw [ecn]; exact c))] at this;exact this
   obtain ⟨nm, hnm⟩ : ∃ nm, onlyN l = some nm := by
    cases e : onlyN l with
    | none => exact absurd e c
    | some y => exact ⟨y, rfl⟩
   clear c;rw [hnm] at ecn;have hrs := zgB hnm;rw [hrs] at j3;replace j1 := s5.seq j1;replace j2 := j2.same s5;replace j3 := s5.seqT j3;replace j4 := j4.same s5;replace rS := rS.same s5;replace rA := rA.same s5;replace s4 := s4.trans s5;clear s5;refine zaw (fun σ' H' => H' = H5 /\ σ' = [some (.ref lp), some (.int n), some x, some (.ref b), some (.ref aA), some (.ref a4), some (.str nm)]) (fun N hN => ?_) fun σ' H6 hv => ?_
   ·walk_at "";refine ⟨_, .inl j1, _, i2, ?_⟩;walk_at "t";exact ⟨_, .inr j3, _, i0, hN _ _ ⟨rfl, rfl⟩⟩
   obtain ⟨rfl, rfl⟩ := hv;have mem : ∀ S : Stm, (Dt.str nm ∈ (oTms (some S)).map Dt.str) ↔ nm ∈ S.tms := fun S => by
    rw [ya6];exact ⟨fun ⟨y, h1, h2⟩ => by cases h2; exact h1, fun h => ⟨_, h, rfl⟩⟩
   have eoc : oneC S0 (.qu false X B) l = (!decide (nm ∈ S0.tms) && !decide (nm ∈ B.tms)) := by
    unfold oneC;rw [ecn]
   have epu : zdR (.qu false X B) l = some (B.put X nm) := by
    unfold zdR;rw [ecn]
   have ek : fOne S0 [.st (.qu false X B), .bx l e] = ((!decide (nm ∈ S0.tms) && !decide (nm ∈ B.tms)) && (decide (l.st = some (B.put X nm)) && decide (e = some S0))) := by
    show (oneC S0 (.qu false X B) l && (decide (l.st = zdR (.qu false X B) l) && decide (e = some S0))) = _;rw [eoc, epu]
   rw [ek] at k;refine zcH (c := nm ∈ S0.tms \/ nm ∈ B.tms \/ ¬ e = some S0) (fun Qb q => ?_) (fun H7 s7 c => ?_) fun H7 s7 c => ?_
   ·have qT : (nm ∈ S0.tms \/ nm ∈ B.tms \/ ¬ e = some S0) -> ∀ H', Same H6 H' -> Qb true H' := fun e H' s' => by have := q H' s'; rw [ya9 e] at this; exact this
    walk_at "";refine ⟨_, some S0, rfl, rS, fun S' e => (by cases e; exact ⟨oS, dS⟩), fun e => (by cases e), by decide, fun p7 H7 s7 h7 => .inr ⟨.str nm, (oTms (some S0)).map Dt.str, .str nm, .inr (zdH (SqL.of h7)), zcV _, _, rfl, ?_⟩⟩;refine ite2 (fun c1 => qT (.inl ((mem S0).mp (by simpa using c1))) _ s7) fun c1 => ?_;refine ⟨_, some (.qu false X B), rfl, RepS.same (S := .qu false X B) s7 rA, fun S' e => (by cases e; exact ⟨htl.2.1, htl.1⟩), fun e => (by cases e), by decide, fun p8 H8 s8 h8 => .inr ⟨.str nm, (oTms (some (.qu false X B))).map Dt.str, .str nm, .inr (zdH (SqL.of h8)), zcV _, _, rfl, ?_⟩⟩;have s78 := s7.trans s8;refine ite2 (fun c2 => qT (.inr (.inl ((mem (.qu false X B)).mp (by simpa using c2)))) _ s78) fun c2 => ?_;refine ⟨_, .inl (s78.seq j1), _, i3, .inr ⟨_, _, (j4.same s78).repD, (rS.same s78).repD, zeM hto.2.1, _, rfl, ?_⟩⟩;rw [zeN];have := q _ s78;have c1' : ¬ nm ∈ S0.tms := fun z => c1 (by simpa using (mem S0).mpr z);have c2' : ¬ nm ∈ B.tms := fun z => c2 (by simpa using (mem (.qu false X B)).mpr z);have e1 : decide (nm ∈ S0.tms \/ nm ∈ B.tms \/ ¬ e = some S0) = !decide (e = some S0) := by
     by_cases z : e = some S0
     ·rw [ya9 z, ya8]
      ·rfl
      ·rintro (y | y | y)
       ·exact c1' y
       ·exact c2' y
       ·exact y z
     ·rw [ya8 z, ya9 (.inr (.inr z))]; rfl
    rw [e1] at this;exact this
   ·walk_at "";have := k _ (s4.trans s7);have e1 : ((!decide (nm ∈ S0.tms) && !decide (nm ∈ B.tms)) && (decide (l.st = some (B.put X nm)) && decide (e = some S0))) = false := by
     rcases c with z | z | z
     ·rw [ya9 z]; rfl
     ·rw [ya9 z]; simp
     ·rw [ya8 z]; simp
    rw [e1] at this;exact this
   have c1 : ¬ nm ∈ S0.tms := fun z => c (.inl z);have c2 : ¬ nm ∈ B.tms := fun z => c (.inr (.inl z));have c3 : e = some S0 := yax fun z => c (.inr (.inr z));clear c;rw [ya8 c1, ya8 c2, ya9 c3, Bool.and_true] at k;obtain ⟨a', u', e0, h3', rB⟩ := rA.same s7;cases e0;have dA : B.deep + 1 <= 10 := htl.1;walk_at "";refine ⟨_, .inl (s7.seq j1), _, i1, _, .inr h3', _, i2, _, .inr h3', _, i1, _, B, X, nm, rfl, rB, by omega, htl.2.1.2, fun w H8 s8 rw' => ?_⟩;refine .inr ⟨_, _, (j2.same (s7.trans s8)).repD, rw'.repD, zeM hto.1, ?_⟩;rw [zeN];exact k _ ((s4.trans s7).trans s8)
theorem zc7 : ∀ {S : Stm}, S.Ok -> S.tms.length <= 3 * 2 ^ (S.deep - 1)
 | .is w ts, h => by show ts.length <= 3 * 2 ^ 0; have := h.2.1; omega
 | .fls, _ => yaq _
 | .neg A, h => by
  have h1 := zc7 (S := A) h;show A.tms.length <= 3 * 2 ^ A.deep;have : 2 ^ (A.deep - 1) <= 2 ^ A.deep := Nat.pow_le_pow_right (by decide) (by omega);omega
 | .bi _ A B, h => by
  have h1 := zc7 (S := A) h.1;have h2 := zc7 (S := B) h.2;have d1 := A.deep_pos;have d2 := B.deep_pos;show (A.tms ++ B.tms).length <= 3 * 2 ^ max A.deep B.deep;have p1 : 2 ^ (A.deep - 1) <= 2 ^ (max A.deep B.deep - 1) := Nat.pow_le_pow_right (by decide) (by omega);have p2 : 2 ^ (B.deep - 1) <= 2 ^ (max A.deep B.deep - 1) := Nat.pow_le_pow_right (by decide) (by omega);have p3 : 2 ^ max A.deep B.deep = 2 ^ (max A.deep B.deep - 1) * 2 := by rw [<- Nat.pow_succ]; congr 1; omega
  rw [yae, p3]; omega
 | .qu _ X A, h => by
  have h1 := zc7 (S := A) h.2;show A.tms.length <= 3 * 2 ^ A.deep;have : 2 ^ (A.deep - 1) <= 2 ^ A.deep := Nat.pow_le_pow_right (by decide) (by omega);omega
theorem zov {S : Stm} (h : StOk 5 S) : S.tms.length <= 48 := by
 have h1 := zc7 h.1;have h2 : 2 ^ (S.deep - 1) <= 2 ^ 4 := Nat.pow_le_pow_right (by decide) (by have := h.2.1; omega);omega
def StW (S : Stm) : Prop := StOk 6 S /\ S.tms.length <= 48
theorem StW.of {S : Stm} (h : StOk 5 S) : StW S := ⟨h.mono (by decide), zov h⟩
def zcq (L : Nat -> Ln) (i : Nat) : Int := if i = 0 then 0 else (L (i - 1)).lev
structure LnOk (x : Ln) : Prop where
 st : ∀ S, x.st = some S -> StW S
 nw : x.ru = "new" -> x.st = none
 rs : x.rs.length <= 3
 rf : ∀ R ∈ x.rs, R.sm /\ noB R
structure Ls7 (L : Nat -> Ln) (n : Nat) : Prop where
 ok : ∀ i, i < n -> LnOk (L i)
 lv : ∀ i, i < n -> (o1 (L i).ru : Int) <= (L i).lev /\ (L i).lev <= zcq L i + o1 (L i).ru /\ (L i).lev <= 60
def zec (L : Nat -> Ln) (n : Nat) (x : Ln) : Nat -> Ln := fun i => if i = n then x else L i
theorem zb9 {L : Nat -> Ln} {n : Nat} {x : Ln} {i : Nat} (h : i < n) : zec L n x i = L i := by unfold zec; rw [if_neg (by omega)]
theorem zbR {L : Nat -> Ln} {n : Nat} {x : Ln} : zec L n x n = x := by unfold zec; rw [if_pos rfl]
theorem zhk {L : Nat -> Ln} {n : Nat} {x : Ln} {i : Nat} (h : i <= n) : zcq (zec L n x) i = zcq L i := by
 unfold zcq
 split
 ·rfl
 ·rw [zb9 (by omega)]
theorem zbS {L : Nat -> Ln} {n : Nat} {x : Ln} : zcq (zec L n x) (n + 1) = x.lev := by
 unfold zcq;rw [if_neg (by omega), Nat.add_sub_cancel, zbR]
theorem Ls7.snoc {L : Nat -> Ln} {n : Nat} (h : Ls7 L n) (x : Ln) (h1 : LnOk x) (h4 : (o1 x.ru : Int) <= x.lev /\ x.lev <= zcq L n + o1 x.ru /\ x.lev <= 60) : Ls7 (zec L n x) (n + 1) where
 ok := fun i hi => by
  by_cases e : i = n
  ·subst e; rw [zbR]; exact h1
  ·rw [zb9 (by omega)]; exact h.ok i (by omega)
 lv := fun i hi => by
  rw [zhk (by omega)]
  by_cases e : i = n
  ·subst e; rw [zbR]; exact h4
  ·rw [zb9 (by omega)]; exact h.lv i (by omega)
theorem Ls7.room {L : Nat -> Ln} {n : Nat} (h : Ls7 L n) : 0 <= zcq L n := by
 unfold zcq
 split
 ·omega
 ·have := h.lv (n - 1) (by omega);omega
theorem RepNs.snoc {H : Hp} {L : Nat -> Ln} {ls : List V} {x : Ln} {v : V} (h : RepNs K H L ls) (hv : RepN K H x v) : RepNs K H (zec L ls.length x) (ls ++ [v]) := fun i u hu => by
 by_cases e : i < ls.length
 ·rw [zb9 e];rw [ya5 e] at hu;exact h i u hu
 ·have hi := (yag.mp hu).1;rw [yae, yas] at hi;have e' : i = ls.length := by omega
  subst e';rw [zbR];simp at hu;subst hu;exact hv
theorem RepNs.keepL {H : Hp} {p : Addr} {ys zs : List V} {L : Nat -> Ln} {ls : List V} (hp : H p = some (.lst ys)) (h : RepNs K H L ls) : RepNs K (upd H p (.lst zs)) L ls := fun i v hv => (h i v hv).keepL hp
theorem RepL.at {H : Hp} : ∀ {Ss : List Stm} {us : List V}, RepL K H Ss us -> ∀ {i : Nat} {v : V}, us[i]? = some v -> ∃ S, S ∈ Ss /\ RepS K H S v
 | _, _, .nil, i, v, h => by simp at h
 | _, _, .cons (a := S) h1 h2, 0, v, h => by simp at h; subst h; exact ⟨S, by simp, h1⟩
 | _, _, .cons h1 h2, i + 1, v, h => by
  obtain ⟨S, hS, r⟩ := RepL.at h2 (i := i) (by simpa using h);exact ⟨S, by simp [hS], r⟩
structure PL (K : W.Frag) (H H2 : Hp) (lp : Addr) (L : Nat -> Ln) (ls : List V) : Prop where
 same : Same H H2
 l0 : H lp = none
 lat : H2 lp = some (.lst ls)
 rep : RepNs K H2 L ls
 ok : Ls7 L ls.length
theorem PL.next {H H2 H3 : Hp} {lp : Addr} {L : Nat -> Ln} {ls : List V} (g : PL K H H2 lp L ls) (s : Same H2 H3) : PL K H H3 lp L ls :=
 ⟨g.same.trans s, g.l0, s _ _ g.lat, g.rep.same s, g.ok⟩
theorem PL.push {H H3 : Hp} {lp : Addr} {L : Nat -> Ln} {ls : List V} (g : PL K H H3 lp L ls) (x : Ln) {v : V} {rp : Addr} (r1 : RepOS K H3 x.st v) (r2 : SqT K H3 rp (x.rs.map Rf.v)) (o : LnOk x)
  (h4 : (o1 x.ru : Int) <= x.lev /\ x.lev <= zcq L ls.length + o1 x.ru /\ x.lev <= 60) (hl : ls.length <= 100) {q : Addr} (hq : H3 q = none) :
  upd H3 q (.tup [.int x.lev, .str x.ru, v, .ref rp]) lp = some (.lst ls) /\ ls.length < sizeLine /\
  PL K H (upd (upd H3 q (.tup [.int x.lev, .str x.ru, v, .ref rp])) lp (.lst (ls ++ [.ref q]))) lp (zec L ls.length x) (ls ++ [.ref q]) := by
 have s1 := zac hq (.tup [.int x.lev, .str x.ru, v, .ref rp]);have g1 := g.next s1;have hx : RepN K (upd H3 q (.tup [.int x.lev, .str x.ru, v, .ref rp])) x (.ref q) := ⟨q, v, rp, rfl, SqT.of zad, r1.same s1, s1.seqT r2⟩
 exact ⟨g1.lat, zaQ (by omega), g1.same.upd g1.l0, g1.l0, zad, (g1.rep.keepL g1.lat).snoc (hx.keepL g1.lat), by rw [yae]; exact g1.ok.snoc x o h4⟩
structure Pk (K : W.Frag) (H : Hp) (sa : Addr) (us : List V) (Ss : List Stm) : Prop where
 at' : SqL K H sa us
 rep : RepL K H Ss us
 pos : 0 < us.length
 few : us.length <= 10
 ok : ∀ S ∈ Ss, StW S
theorem Pk.same {H H' : Hp} {sa : Addr} {us : List V} {Ss : List Stm} (h : Pk K H sa us Ss) (e : Same H H') : Pk K H' sa us Ss := ⟨e.seq h.at', h.rep.same e, h.pos, h.few, h.ok⟩
theorem Pk.pick {H : Hp} {sa : Addr} {us : List V} {Ss : List Stm} (h : Pk K H sa us Ss) (i : Int) : ∃ u S, atI us (i % ((us.length : Nat) : Int)) = some u /\ RepS K H S u /\ StW S := by
 have hp := h.pos;have m0 := yao i (show ((us.length : Nat) : Int) ≠ 0 by omega);have m1 := yak i (show (0 : Int) < ((us.length : Nat) : Int) by omega);obtain ⟨j, hj⟩ : ∃ j : Nat, i % ((us.length : Nat) : Int) = j := ⟨(i % ((us.length : Nat) : Int)).toNat, by omega⟩
 have hju : j < us.length := by omega
 obtain ⟨S, hS, r⟩ := RepL.at h.rep (yal hju);exact ⟨us[j], S, by rw [hj]; exact zag (yal hju), r, h.ok S hS⟩
structure Dr (K : W.Frag) (H : Hp) (dp np wp : Addr) (nm wd : List Str) : Prop where
 at' : H dp = some (.lst [.ref np, .ref wp])
 nat : H np = some (.lst (nm.map V.str))
 wat : H wp = some (.lst (wd.map V.str))
 three : nm.length = 3
 three' : wd.length = 3
 ok : ∀ t ∈ nm, Nm smallS t
 wok : ∀ t ∈ wd, Nm smallS t
theorem Dr.same {H H' : Hp} {dp np wp : Addr} {nm wd : List Str} (h : Dr K H dp np wp nm wd) (e : Same H H') : Dr K H' dp np wp nm wd := ⟨e _ _ h.at', e _ _ h.nat, e _ _ h.wat, h.three, h.three', h.ok, h.wok⟩
theorem Dr.pick {H : Hp} {dp np wp : Addr} {nm wd : List Str} (h : Dr K H dp np wp nm wd) (i : Int) : ∃ t, atI (nm.map V.str) (i % 3) = some (.str t) /\ Nm smallS t := by
 have h3 := h.three;obtain ⟨z, hz, ez⟩ := zjl (ts := nm) (i := i % 3) (yao _ (by decide)) (by rw [h3]; exact yak _ (by decide));exact ⟨z, ez, h.ok z hz⟩
theorem zgC : o1 "guess" = 1 := by decide +kernel
theorem znx : o1 "new" = 1 := by decide +kernel
theorem zl5 : o1 "case" = 1 := by decide +kernel
theorem zku : o1 "any" = 0 := by decide +kernel
theorem zgD : o1 "given" = 0 := by decide +kernel
theorem zgd : o1 "each" = 0 := by decide +kernel
theorem zgE : o1 "again" = 0 := by decide +kernel
theorem zny : o1 "one" = 0 := by decide +kernel
theorem zf6 {x n : Str} (hn : zko n) : ∀ {S : Stm}, S.Ok -> (S.put x n).Ok
 | .is w ts, h => ⟨h.1, by rw [yaf]; exact h.2.1, fun t ht => by
   obtain ⟨t', h1, rfl⟩ := ya6.mp ht
   by_cases c : t' = x
   ·rw [if_pos c]; exact hn
   ·rw [if_neg c]; exact h.2.2 t' h1⟩
 | .fls, _ => trivial
 | .neg A, h => zf6 (S := A) hn h
 | .bi _ A B, h => ⟨zf6 (S := A) hn h.1, zf6 (S := B) hn h.2⟩
 | .qu q X A, h => by
  show (if X = x then Stm.qu q X A else .qu q X (A.put x n)).Ok
  by_cases c : X = x
  ·rw [if_pos c]; exact h
  ·rw [if_neg c]; exact ⟨h.1, zf6 (S := A) hn h.2⟩
theorem put_fts {x n : Str} : ∀ {S : Stm} {t : Str}, t ∈ (S.put x n).fts -> (t ∈ S.fts /\ t ≠ x) \/ t = n
 | .is w ts, t, h => by
  obtain ⟨t', h1, e⟩ := ya6.mp (show t ∈ ts.map fun t => if t = x then n else t from h)
  by_cases c : t' = x
  ·rw [if_pos c] at e; exact .inr e.symm
  ·rw [if_neg c] at e; subst e; exact .inl ⟨h1, c⟩
 | .fls, t, h => absurd h (by show ¬ t ∈ []; simp)
 | .neg A, t, h => put_fts (S := A) h
 | .bi _ A B, t, h => by
  rcases yay.mp (show t ∈ (A.put x n).fts ++ (B.put x n).fts from h) with z | z
  ·rcases put_fts (S := A) z with y | y
   ·exact .inl ⟨List.mem_append_left _ y.1, y.2⟩
   ·exact .inr y
  ·rcases put_fts (S := B) z with y | y
   ·exact .inl ⟨List.mem_append_right _ y.1, y.2⟩
   ·exact .inr y
 | .qu q X A, t, h => by
  have h' : t ∈ (if X = x then Stm.qu q X A else .qu q X (A.put x n)).fts := h
  by_cases c : X = x
  ·rw [if_pos c] at h';obtain ⟨h1, h2⟩ := List.mem_filter.mp h';exact .inl ⟨h', by rw [<- c]; exact ya7 h2⟩
  ·rw [if_neg c] at h';obtain ⟨h1, h2⟩ := List.mem_filter.mp h';rcases put_fts (S := A) h1 with y | y
   ·exact .inl ⟨List.mem_filter.mpr ⟨y.1, h2⟩, y.2⟩
   ·exact .inr y
structure InOk (X : Str) (d : Nat) (S : Stm) : Prop where
 ok : S.Ok
 dp : S.deep <= d
 ft : ∀ t ∈ S.fts, Nm smallS t \/ t = X
theorem InOk.put {X n : Str} {d : Nat} {S : Stm} (h : InOk X d S) (hn : Nm smallS n) : StOk d (S.put X n) :=
 ⟨zf6 (.inl hn) h.ok, by rw [Stm.put_deep]; exact h.dp, fun t ht => by
  rcases put_fts ht with z | z
  ·exact (h.ft t z.1).resolve_right z.2
  ·rw [z]; exact hn⟩
theorem InOk.qu {X : Str} {d : Nat} {S : Stm} (h : InOk X d S) (hX : Nm greatS X) (q : Bool) : StOk (d + 1) (.qu q X S) :=
 ⟨⟨hX, h.ok⟩, Nat.succ_le_succ h.dp, fun t ht => by
  obtain ⟨h1, h2⟩ := List.mem_filter.mp ht;exact (h.ft t h1).resolve_right (ya7 h2)⟩
theorem InOk.wst {X : Str} {S : Stm} (h : InOk X 5 S) (hX : Nm greatS X) (q : Bool) : StW (.qu q X S) := ⟨h.qu hX q, by
 have h1 := zc7 h.ok;have h2 : 2 ^ (S.deep - 1) <= 2 ^ 4 := Nat.pow_le_pow_right (by decide) (by have := h.dp; omega);show S.tms.length <= 48;omega⟩
theorem ziF : ¬ Str.ofString "each" = Str.ofString "new" := by decide +kernel
theorem zgF : ¬ Str.ofString "guess" = Str.ofString "new" := by decide +kernel
theorem zkv : ¬ Str.ofString "any" = Str.ofString "new" := by decide +kernel
theorem zjN : ¬ Str.ofString "given" = Str.ofString "new" := by decide +kernel
theorem zjO : ¬ Str.ofString "again" = Str.ofString "new" := by decide +kernel
theorem znz : ¬ Str.ofString "one" = Str.ofString "new" := by decide +kernel
theorem odd6 {j : Int} (h0 : 0 <= j) (h1 : j < 6) : ∃ R' : Rf, atI [V.str "X", .str "", .int 3, .str "not", .str "c-", .non] j = some R'.v /\ R'.sm /\ noB R' := by
 obtain ⟨j, rfl⟩ : ∃ n : Nat, j = n := ⟨j.toNat, by omega⟩
 have hj : j < 6 := by omega
 match j, hj with
 | 0, _ => exact ⟨.s "X", i0, (by decide +kernel : Str.length "X" <= 20), trivial⟩
 | 1, _ => exact ⟨.s "", i1, (by decide +kernel : Str.length "" <= 20), trivial⟩
 | 2, _ => exact ⟨.n 3, i2, trivial, trivial⟩
 | 3, _ => exact ⟨.s "not", i3, (by decide +kernel : Str.length "not" <= 20), trivial⟩
 | 4, _ => exact ⟨.s "c-", zag (j := 4) rfl, (by decide +kernel : Str.length "c-" <= 20), trivial⟩
 | 5, _ => exact ⟨.o, zag (j := 5) rfl, trivial, trivial⟩
theorem zow {j : Int} (h0 : 0 <= j) (h1 : j < 6) : ∃ ru : Str, atI [V.str "case", .str "case", .str "case", .str "case", .str "new", .str "guess"] j = some (.str ru) /\ (ru = "new" \/ ru = "case" \/ ru = "guess") := by
 obtain ⟨j, rfl⟩ : ∃ n : Nat, j = n := ⟨j.toNat, by omega⟩
 have hj : j < 6 := by omega
 match j, hj with
 | 0, _ => exact ⟨_, i0, .inr (.inl rfl)⟩
 | 1, _ => exact ⟨_, i1, .inr (.inl rfl)⟩
 | 2, _ => exact ⟨_, i2, .inr (.inl rfl)⟩
 | 3, _ => exact ⟨_, i3, .inr (.inl rfl)⟩
 | 4, _ => exact ⟨_, zag (j := 4) rfl, .inl rfl⟩
 | 5, _ => exact ⟨_, zag (j := 5) rfl, .inr (.inr rfl)⟩
theorem zox {j : Int} (h0 : 0 <= j) (h1 : j < 2) : ∃ ru : Str, atI [V.str "new", .str "case"] j = some (.str ru) /\ o1 ru = 1 := by
 obtain ⟨j, rfl⟩ : ∃ n : Nat, j = n := ⟨j.toNat, by omega⟩
 have hj : j < 2 := by omega
 match j, hj with
 | 0, _ => exact ⟨_, i0, znx⟩
 | 1, _ => exact ⟨_, i1, zl5⟩
theorem zoy {j : Int} (h0 : 0 <= j) (h1 : j < 3) : ∃ ru : Str, atI [V.str "given", .str "each", .str "again"] j = some (.str ru) /\ o1 ru = 0 /\ ¬ ru = "new" := by
 obtain ⟨j, rfl⟩ : ∃ n : Nat, j = n := ⟨j.toNat, by omega⟩
 have hj : j < 3 := by omega
 match j, hj with
 | 0, _ => exact ⟨_, i0, zgD, by decide +kernel⟩
 | 1, _ => exact ⟨_, i1, zgd, by decide +kernel⟩
 | 2, _ => exact ⟨_, i2, zgE, by decide +kernel⟩
theorem zn0 {j : Int} (h0 : 0 <= j) (h1 : j < 4) : ∃ q : Bool, atI [V.str "some", .str "some", .str "some", .str "all"] j = some (.str (qtx q)) := by
 obtain ⟨j, rfl⟩ : ∃ n : Nat, j = n := ⟨j.toNat, by omega⟩
 have hj : j < 4 := by omega
 match j, hj with
 | 0, _ => exact ⟨false, i0⟩
 | 1, _ => exact ⟨false, i1⟩
 | 2, _ => exact ⟨false, i2⟩
 | 3, _ => exact ⟨true, i3⟩
def zl6 (K : W.Frag) : Sp := fun vs H Q _ => ∃ (a dp np wp : Addr) (ns : List Int) (nm wd : List Str), vs = [.ref a, .ref dp] /\ SqL K H a (ns.map V.int) /\ ns.length <= 63 /\ Dr K H dp np wp nm wd /\
 ∀ (v : V) (q : Bool) (X : Str) (B : Stm) H', Same H H' -> RepS K H' (.qu q X B) v -> InOk X 5 B -> Nm greatS X -> Q v H'
theorem zed (T : Tx K mg D) : FnOk P w K mg Qd CX0 10 D.a_b0 D.d_b0 ["_law_script", "_law_drawn"] (zl6 K) := by
 have G_c3 := @zbx P w _ _ Qd _ T;have G_b2 := @zcB P w _ _ Qd _ T;have G_f4 := zdM (P := P) (w := w) (Qd := Qd) T 5;refine T.F_b0.ok sc_b0 (fun vs H Q E h => ?_) (fun cdv A outer s H vs Q E hr h => ?_)
 ·obtain ⟨a, dp, np, wp, ns, nm, wd, rfl, _⟩ := h; rfl
 obtain ⟨a, dp, np, wp, ns, nm, wd, rfl, hS, hl, hd, k⟩ := h;have hu := hr.units;have hr_c3 : Room 1 _ := hr.mono (by decide);have hr_b2 : Room 1 _ := hr.mono (by decide);have hr_f4 : Room 6 _ := hr.mono (by decide);have h3 := hd.three;refine ⟨_, (zaf (zap (i := 2) sc_b0.nd (by rfl) (by walk_at "o") (YC G_c3 hr_c3 (by rfl) T.m_c3 (zaa (pv 0) (zaa zab zae))))
  (zaf (zap (i := 3) sc_b0.nd (by rfl) (by walk_at "o") (YC G_b2 hr_b2 (by rfl) T.m_b2 (zaa (zao za1 (pv 2) zab) zae)))
  (zaf (zap (i := 4) sc_b0.nd (by rfl) (by walk_at "o") (zao zax (YC G_c3 hr_c3 (by rfl) T.m_c3 (zaa (pv 0) (zaa zab zae))) (zao (za3 K) (zao zjX zab zab) zab)))
  (zaf (zap (i := 5) sc_b0.nd (by rfl) (by walk_at "o") (YC G_f4 hr_f4 (by rfl) T.m_f4 (zaa (pv 4) (zaa (zao (za3 K) zab (zao zax (pv 4) zab)) (zaa (zao (za3 K) (zaR (slB K) (zal (ixA K) (pv 1) zab (fun _ _ => rfl)) (zbe zab) zbd) (zaB (zaa (pv 3) (zaa (pv 3) zae)))) (zaa (zal (ixA K) (pv 1) zab (fun _ _ => rfl)) zae))))))
  (zaf (za6 (zan (za9 K hu) (zao zax (pv 2) zab) zab (zav _)) (zai (zap (i := 5) sc_b0.nd (by rfl) (by walk_at "o") (YC G_f4 hr_f4 (by rfl) T.m_f4 (zaa (pv 4) (zaa (zao (za3 K) zab (zao zax (pv 4) zab)) (zaa (zao (za3 K) (zal (ixA K) (pv 1) zab (fun _ _ => rfl)) (zaB (zaa (pv 3) zae))) (zaa (zal (ixA K) (pv 1) zab (fun _ _ => rfl)) zae))))))) zat)
  (zai (zaq (zaE (zaa (zal (ixA K) (zaB (zaa zas (zaa zas (zaa zas (zaa zas zae))))) (zao zax (zao za1 (pv 2) zab) zab) (fun _ _ => rfl)) (zaa (pv 3) (zaa (pv 5) zae))))))))))), ?_⟩
 walk_at "S";refine zaw (fun σ' H' => H' = H /\ ∃ c : Int, 0 <= c /\ σ' = [some (.ref a), some (.ref dp), some (.int c), none, none, none]) (fun N hN => ?_) fun σ' H1 hv => ?_
 ·walk_at "";exact ⟨a, ns, _, rfl, hS, hl, by decide, fun c c0 c1 => hN _ _ ⟨rfl, c, c0, rfl⟩⟩
 obtain ⟨rfl, c, c0, rfl⟩ := hv;refine zaw (fun σ' H' => Same H1 H' /\ ∃ X : Str, Nm greatS X /\ σ' = [some (.ref a), some (.ref dp), some (.int c), some (.str X), none, none]) (fun N hN => ?_) fun σ' H2 hv => ?_
 ·walk_at "";exact ⟨cdiv, _, rfl, ya2 c0 (by decide), fun X H5 s5 hX => hN _ _ ⟨s5, X, hX, rfl⟩⟩
 obtain ⟨s2, X, hX, rfl⟩ := hv;refine zaw (fun σ' H' => H' = H2 /\ ∃ m : Int, 0 <= m /\ σ' = [some (.ref a), some (.ref dp), some (.int c), some (.str X), some (.int m), none]) (fun N hN => ?_) fun σ' H3 hv => ?_
 ·walk_at "";refine ⟨a, ns, _, rfl, s2.seq hS, hl, by decide, fun c c0 c1 => ?_⟩;walk_at "t";exact ⟨⟨by decide, by decide, by decide⟩, by decide, hN _ _ ⟨rfl, _, yao _ (by decide), rfl⟩⟩
 obtain ⟨rfl, m, m0, rfl⟩ := hv;have e0 := yao m (show (4 : Int) ≠ 0 by decide);have e1 := yak m (show (0 : Int) < 4 by decide);obtain ⟨n0, n1, n2, rfl⟩ : ∃ n0 n1 n2, nm = [n0, n1, n2] := by
  match nm, h3 with
  | [n0, n1, n2], _ => exact ⟨n0, n1, n2, rfl⟩
 have ecut : cutV ([n0, n1, n2].map V.str) (some 1) none = [n1, n2].map V.str := zeE _ _;have mk : ∀ {H : Hp} {p : Addr} {ts : List Str} {Q : VK}, Same H1 H -> H p = some (.lst (ts.map V.str)) -> ts ≠ [] -> ts.length <= 10 -> (∀ t ∈ ts, Nm smallS t \/ t = X) -> (∀ (v : V) (B : Stm) H', Same H1 H' -> RepS K H' B v -> InOk X 5 B -> Q v H') -> zkp K 5 [.int m, .int (1 + m % 4), .ref p, .ref wp] H Q E0 := fun {H p ts Q} sH hp hne hle ht kk =>
  ⟨m, (1 + m % 4).toNat, p, wp, ts, wd, by rw [show ((1 + m % 4).toNat : Int) = 1 + m % 4 by omega], m0, by omega, hp, SqL.of (sH _ _ hd.wat), hne, by omega, fun t h => (ht t h).elim .inl fun e => .inr (by rw [e]; exact hX), hd.three', hd.wok, fun S v H' s' rS oS dS fS => kk v S H' (sH.trans s') rS ⟨oS, by omega, fun t h => ht t (fS t h)⟩⟩
 refine zaw (fun σ' H' => Same H1 H' /\ ∃ (v : V) (B : Stm), RepS K H' B v /\ InOk X 5 B /\ σ' = [some (.ref a), some (.ref dp), some (.int c), some (.str X), some (.int m), some v]) (fun N hN => ?_) fun σ' H4 hv => ?_
 ·walk_at "";have hd2 := hd.same s2;refine ⟨by decide, _, .inl (SqL.of hd2.at'), _, i0, ?_⟩;rw [zik];refine ⟨_, .inl ⟨SqL.of hd2.nat, fun p1 hp1 => ⟨zar (show 2 <= 100000 by decide), fun p2 hp2 => ?_⟩⟩⟩;rw [zeA, ecut];have t1 := zac hp1 (.lst ([n1, n2].map V.str));have t2 := zac hp2 (.lst [V.str X, V.str X]);refine ⟨_, _, .inl ⟨zbv hp2 zad, zad, zar (show 4 <= 100000 by decide), fun p3 hp3 => ?_⟩⟩;have t3 := zac hp3 (.lst ([n1, n2].map V.str ++ [V.str X, V.str X]));have t := (t1.trans t2).trans t3;refine ⟨_, .inl (SqL.of (t _ _ hd2.at')), _, i1, ?_⟩;exact mk (H := _) (ts := [n1, n2, X, X]) (s2.trans t) zad (by simp) (by simp) (fun y hy => by
   simp only [List.mem_cons, List.not_mem_nil, or_false] at hy;rcases hy with rfl | rfl | rfl | rfl
   ·exact .inl (hd.ok _ (by simp))
   ·exact .inl (hd.ok _ (by simp))
   ·exact .inr rfl
   ·exact .inr rfl) fun v B H' s' r o => hN _ _ ⟨s', v, B, r, o, rfl⟩
 obtain ⟨s4, v, B, rB, oB, rfl⟩ := hv;refine zaw (fun σ' H' => Same H1 H' /\ ∃ (v : V) (B : Stm), RepS K H' B v /\ InOk X 5 B /\ σ' = [some (.ref a), some (.ref dp), some (.int c), some (.str X), some (.int m), some v]) (fun N hN => ?_) fun σ' H5 hv => ?_
 ·walk_at "";refine ⟨by decide, ite2 (fun _ => ?_) fun _ => hN _ _ ⟨s4, v, B, rB, oB, rfl⟩⟩;have hd2 := hd.same s4;refine ⟨by decide, _, .inl (SqL.of hd2.at'), _, i0, zar (show 1 <= 100000 by decide), fun p2 hp2 => ?_⟩;rw [zeA];have t2 := zac hp2 (.lst [V.str X]);refine ⟨_, _, .inl ⟨t2 _ _ hd2.nat, zad, zar (show 4 <= 100000 by decide), fun p3 hp3 => ?_⟩⟩;have t3 := zac hp3 (.lst ([n0, n1, n2].map V.str ++ [V.str X]));have t := t2.trans t3;refine ⟨_, .inl (SqL.of (t _ _ hd2.at')), _, i1, ?_⟩;exact mk (H := _) (ts := [n0, n1, n2, X]) (s4.trans t) zad (by simp) (by simp) (fun y hy => by
   simp only [List.mem_cons, List.not_mem_nil, or_false] at hy;rcases hy with rfl | rfl | rfl | rfl
   ·exact .inl (hd.ok _ (by simp))
   ·exact .inl (hd.ok _ (by simp))
   ·exact .inl (hd.ok _ (by simp))
   ·exact .inr rfl) fun v B H' s' r o => hN _ _ ⟨s', v, B, r, o, rfl⟩
 clear rB oB s4;obtain ⟨s5, v, B, rB, oB, rfl⟩ := hv;walk_at "";obtain ⟨q, eq⟩ := zn0 (yao (c / 2) (show (4 : Int) ≠ 0 by decide)) (yak (c / 2) (show (0 : Int) < 4 by decide));refine ⟨zar (show 4 <= 100000 by decide), fun p hp => ⟨cdiv, by decide, _, .inl (SqL.of zad), _, eq, zar (show 3 <= 100000 by decide), fun p2 hp2 => ?_⟩⟩;have sp := (zac hp (.lst [V.str "some", .str "some", .str "some", .str "all"])).trans (zac hp2 (.tup [V.str (qtx q), .str X, v]));exact k _ q X B _ (s5.trans sp) ⟨p2, v, rfl, SqT.of zad, rB.same sp⟩ oB hX
abbrev sY (a sa dp : Addr) (v : V) (l : St) : St := some (.ref a) :: some (.ref sa) :: some (.ref dp) :: some v :: l
def zn1 (K : W.Frag) : Sp := fun vs H Q _ => ∃ (a sa dp np wp : Addr) (wv : V) (ns : List Int) (us : List V) (Ss : List Stm) (nm wd : List Str) (q : Bool) (X : Str) (B : Stm), vs = [.ref a, .ref sa, .ref dp, wv] /\ SqL K H a (ns.map V.int) /\ ns.length <= 63 /\ Pk K H sa us Ss /\ Dr K H dp np wp nm wd /\ RepS K H (.qu q X B) wv /\ InOk X 5 B /\ Nm greatS X /\
 ∀ (p : Addr) (x : Ln) H', Same H H' -> RepN K H' x (.ref p) -> LnOk x -> x.lev = 1 -> opn x.ru = true -> (¬ x.ru = "new" -> x.st ≠ none) -> Q (.ref p) H'
theorem ziG (T : Tx K mg D) : FnOk P w K mg Qd CX0 10 D.a_e8 D.d_e8 ["_law_script", "_law_some_here", "_law_drawn", "_law_whole"] (zn1 K) := by
 have G_c3 := @zbx P w _ _ Qd _ T;have G_f7 := zeP (P := P) (w := w) (Qd := Qd) T 5;refine T.F_e8.ok sc_e8 (fun vs H Q E h => ?_) (fun cdv A outer s H vs Q E hr h => ?_)
 ·obtain ⟨a, sa, dp, np, wp, wv, ns, us, Ss, nm, wd, q, X, B, rfl, _⟩ := h; rfl
 obtain ⟨a, sa, dp, np, wp, wv, ns, us, Ss, nm, wd, q, X, B, rfl, hS, hl, hk, hd, rW, oB, hX, k⟩ := h;have hu := hr.units;have hr_c3 : Room 1 _ := hr.mono (by decide);have hr_f7 : Room 6 _ := hr.mono (by decide);have hpos := hk.pos;have h3 := hd.three;refine ⟨_, (zaf (zap (i := 4) sc_e8.nd (by rfl) (by walk_at "o") (YC G_c3 hr_c3 (by rfl) T.m_c3 (zaa (pv 0) (zaa zab zae))))
  (zaf (zap (i := 5) sc_e8.nd (by rfl) (by walk_at "o") (zal (ixA K) (zal (ixA K) (pv 2) zab (fun _ _ => rfl)) zab (fun _ _ => rfl)))
  (zaf (za6 (zan (za9 K hu) (zao zax (pv 4) zab) zab (zav _)) (zai (zap (i := 5) sc_e8.nd (by rfl) (by walk_at "o") (zal (ixA K) (zal (ixA K) (pv 2) zab (fun _ _ => rfl)) (zao zax (zao za1 (pv 4) zab) zab) (fun _ _ => rfl)))) zat)
  (zaf (zap (i := 6) sc_e8.nd (by rfl) (by walk_at "o") (zal (ixA K) (zaB (zaa zas (zaa zas (zaa zas (zaa zas (zaa zas (zaa zas zae))))))) (zao zax (zao za1 (pv 4) zab) zab) (fun _ _ => rfl)))
  (zaf (zap (i := 7) sc_e8.nd (by rfl) (by walk_at "o") (YC G_f7 hr_f7 (by rfl) T.m_f7 (zaa (zal (ixA K) (pv 3) zab (fun _ _ => rfl)) (zaa (zal (ixA K) (pv 3) zab (fun _ _ => rfl)) (zaa (pv 5) zae)))))
  (zaf (za6 (zan (za9 K hu) (zao zax (zao za1 (pv 4) zab) zab) zab (zav _)) (zai (zap (i := 7) sc_e8.nd (by rfl) (by walk_at "o") (zal (ixA K) (pv 1) (zao zax (zao za1 (pv 4) zab) (zau (zay K) (by rfl) T.z_len yap (zaa (pv 1) zae))) (fun _ _ => rfl)))) zat)
  (zaf (za6 (zan (za9 K hu) (zao zax (zao za1 (pv 4) zab) zab) zab (zav _)) (zai (zap (i := 5) sc_e8.nd (by rfl) (by walk_at "o") (zal (ixA K) (zaB (zaa zas (zaa zas (zaa zab (zaa zas (zaa zas (zaa zbA zae))))))) (zao zax (zao za1 (pv 4) zab) zab) (fun _ _ => rfl)))) zat)
  (zaf (zap (i := 8) sc_e8.nd (by rfl) (by walk_at "o") (zal (ixA K) (zaB (zaa (pv 7) (zaa zbA zae))) (zaF zcM (by rfl) T.z_int (by rfl) (zaa (zaH (za9 K hu) (pv 6) zas (zav _)) zae)) (fun _ _ => rfl)))
  (zaf (zap (i := 9) sc_e8.nd (by rfl) (by walk_at "o") (zaE (zaa (pv 5) zae)))
  (zaf (za6 (PW.pt (zbz (zan (za9 K hu) (pv 6) zas (zav _)) (zby (zan (za9 K hu) (zao zax (zao za1 (pv 4) zab) zab) zab (zav _))))) (zai (zap (i := 9) sc_e8.nd (by rfl) (by walk_at "o") (zal (ixA K) (zaB (zaa (zaE zae) (zaa (zaE (zaa (pv 5) (zaa (pv 5) zae))) zae))) (zao zax (pv 4) zab) (fun _ _ => rfl)))) zat)
  (zai (zaq (zaE (zaa zab (zaa (pv 6) (zaa (pv 8) (zaa (pv 9) zae))))))))))))))))), ?_⟩
 walk_at "S";refine zaw (fun σ' H' => H' = H /\ ∃ c : Int, 0 <= c /\ σ' = sY a sa dp wv [some (.int c), none, none, none, none, none]) (fun N hN => ?_) fun σ' H1 hv => ?_
 ·walk_at "";exact ⟨a, ns, _, rfl, hS, hl, by decide, fun c c0 c1 => hN _ _ ⟨rfl, c, c0, rfl⟩⟩
 obtain ⟨rfl, c, c0, rfl⟩ := hv;refine zaw (fun σ' H' => H' = H1 /\ ∃ t : Str, Nm smallS t /\ σ' = sY a sa dp wv [some (.int c), some (.str t), none, none, none, none]) (fun N hN => ?_) fun σ' H2 hv => ?_
 ·walk_at "";obtain ⟨t, et, tl⟩ := hd.pick 0;rw [show (0 : Int) % 3 = 0 from rfl] at et;refine ⟨_, .inl (SqL.of hd.at'), _, i0, ?_⟩;walk_at "t";exact ⟨_, .inl (SqL.of hd.nat), _, et, hN _ _ ⟨rfl, t, tl, rfl⟩⟩
 obtain ⟨rfl, t, ht, rfl⟩ := hv;refine zaw (fun σ' H' => H' = H2 /\ ∃ t : Str, Nm smallS t /\ σ' = sY a sa dp wv [some (.int c), some (.str t), none, none, none, none]) (fun N hN => ?_) fun σ' H3 hv => ?_
 ·walk_at "";refine ⟨by decide, ite2 (fun _ => ?_) fun _ => hN _ _ ⟨rfl, t, ht, rfl⟩⟩;obtain ⟨t, et, tl⟩ := hd.pick (c / 6);refine ⟨_, .inl (SqL.of hd.at'), _, i0, cdiv, by decide, ?_⟩;walk_at "t";exact ⟨_, .inl (SqL.of hd.nat), _, et, hN _ _ ⟨rfl, t, tl, rfl⟩⟩
 clear ht t;obtain ⟨rfl, t, ht, rfl⟩ := hv;refine zaw (fun σ' H' => Same H3 H' /\ ∃ ru : Str, (ru = "new" \/ ru = "case" \/ ru = "guess") /\ σ' = sY a sa dp wv [some (.int c), some (.str t), some (.str ru), none, none, none]) (fun N hN => ?_) fun σ' H4 hv => ?_
 ·walk_at "";refine ⟨zar (show 6 <= 100000 by decide), fun p hp => ⟨cdiv, by decide, ?_⟩⟩;obtain ⟨ru, eR, h1⟩ := zow (yao (c / 18) (show (6 : Int) ≠ 0 by decide)) (yak (c / 18) (show (0 : Int) < 6 by decide));exact ⟨_, .inl (SqL.of zad), _, eR, hN _ _ ⟨zac hp _, ru, h1, rfl⟩⟩
 obtain ⟨s4, ru, hru, rfl⟩ := hv;refine zaw (fun σ' H' => Same H3 H' /\ ∃ (v : V) (S : Stm), RepS K H' S v /\ StW S /\ σ' = sY a sa dp wv [some (.int c), some (.str t), some (.str ru), some v, none, none]) (fun N hN => ?_) fun σ' H5 hv => ?_
 ·obtain ⟨a', u, e0, g2, g3⟩ := rW.same s4;cases e0;walk_at "";refine ⟨_, .inr g2, _, i2, _, .inr g2, _, i1, _, B, X, t, rfl, g3, oB.dp, oB.ok, fun w' H5 s5 r5 => hN _ _ ⟨s4.trans s5, w', _, r5, .of (oB.put ht), rfl⟩⟩
 clear s4;obtain ⟨s5, v, S, rv, oS, rfl⟩ := hv;have hk5 := hk.same s5;refine zaw (fun σ' H' => H' = H5 /\ ∃ (v : V) (S : Stm), RepS K H' S v /\ StW S /\ σ' = sY a sa dp wv [some (.int c), some (.str t), some (.str ru), some v, none, none]) (fun N hN => ?_) fun σ' H6 hv => ?_
 ·walk_at "";refine ⟨cdiv, by decide, ite2 (fun _ => ?_) fun _ => hN _ _ ⟨rfl, v, S, rv, oS, rfl⟩⟩;obtain ⟨u, S, e, r, o⟩ := hk5.pick (c / 648);exact ⟨cdiv, _, .inl hk5.at', by omega, _, .inl hk5.at', _, e, hN _ _ ⟨rfl, u, S, r, o, rfl⟩⟩
 clear rv oS S v;obtain ⟨rfl, v, S, rv, oS, rfl⟩ := hv;refine zaw (fun σ' H' => Same H6 H' /\ ∃ R : Rf, R.sm /\ noB R /\ σ' = sY a sa dp wv [some (.int c), some R.v, some (.str ru), some v, none, none]) (fun N hN => ?_) fun σ' H7 hv => ?_
 ·walk_at "";refine ⟨cdiv, by decide, ite2 (fun _ => ?_) fun _ => hN _ _ ⟨Same.refl _, .s t, yat ht.len.1 (by decide), trivial, rfl⟩⟩;refine ⟨zar (show 6 <= 100000 by decide), fun p hp => ⟨cdiv, by decide, ?_⟩⟩;obtain ⟨R', eR, h1, h2⟩ := odd6 (yao (c / 648) (show (6 : Int) ≠ 0 by decide)) (yak (c / 648) (show (0 : Int) < 6 by decide));exact ⟨_, .inl (SqL.of zad), _, eR, hN _ _ ⟨zac hp _, R', h1, h2, rfl⟩⟩
 obtain ⟨s7, R, hR, hnB, rfl⟩ := hv;refine zaw (fun σ' H' => Same H6 H' /\ ∃ (o : Option Stm) (v' : V), RepOS K H' o v' /\ (∀ S, o = some S -> StW S) /\ (ru = "new" -> o = none) /\ (¬ ru = "new" -> o ≠ none) /\ σ' = sY a sa dp wv [some (.int c), some R.v, some (.str ru), some v, some v', none]) (fun N hN => ?_) fun σ' H8 hv => ?_
 ·walk_at "";refine ⟨zar (show 2 <= 100000 by decide), fun p hp => ⟨_, .inl (SqL.of zad), ?_⟩⟩;have sp := s7.trans (zac hp (.lst [v, V.non]))
  by_cases c : ru = "new"
  ·rw [if_pos c];exact ⟨_, i1, hN _ _ ⟨sp, none, _, rfl, fun S e => (by cases e), fun _ => rfl, fun z => absurd c z, rfl⟩⟩
  ·rw [if_neg c];exact ⟨_, i0, hN _ _ ⟨sp, some S, _, RepS.same (S := S) sp rv, fun S e => (by cases e; exact oS), fun z => absurd z c, fun _ => by simp, rfl⟩⟩
 clear s7 rv oS;obtain ⟨s8, o, v', rv, ho, hn1, hn2, rfl⟩ := hv;refine zaw (fun σ' H' => Same H6 H' /\ RepOS K H' o v' /\ ∃ (rp : Addr) (Rs : List Rf), SqT K H' rp (Rs.map Rf.v) /\ Rs.length <= 3 /\ (∀ R ∈ Rs, R.sm /\ noB R) /\ σ' = sY a sa dp wv [some (.int c), some R.v, some (.str ru), some v, some v', some (.ref rp)]) (fun N hN => ?_) fun σ' H9 hv => ?_
 ·walk_at "";exact ⟨zar (show 1 <= 100000 by decide), fun p hp => hN _ _ ⟨s8.trans (zac hp _), rv.same (zac hp _), p, [R], SqT.of zad, by simp, fun R' hR' => by rw [yah.mp hR']; exact ⟨hR, hnB⟩, rfl⟩⟩
 clear s8 rv;obtain ⟨s9, rv, rp, Rs, hrp, hRl, hRs, rfl⟩ := hv;refine zaw (fun σ' H' => Same H6 H' /\ RepOS K H' o v' /\ ∃ (rp : Addr) (Rs : List Rf), SqT K H' rp (Rs.map Rf.v) /\ Rs.length <= 3 /\ (∀ R ∈ Rs, R.sm /\ noB R) /\ σ' = sY a sa dp wv [some (.int c), some R.v, some (.str ru), some v, some v', some (.ref rp)]) (fun N hN => ?_) fun σ' H10 hv => ?_
 ·walk_at "";have fin : ∀ p, H9 p = none -> ∀ q, upd H9 p (.tup []) q = none -> ∀ r, upd (upd H9 p (.tup [])) q (.tup [R.v, R.v]) r = none -> ∃ xs, (SqL K (upd (upd (upd H9 p (.tup [])) q (.tup [R.v, R.v])) r (.lst [.ref p, .ref q])) r xs \/ SqT K (upd (upd (upd H9 p (.tup [])) q (.tup [R.v, R.v])) r (.lst [.ref p, .ref q])) r xs) /\ ∃ v1, atI xs (c % 2) = some v1 /\ N [some (.ref a), some (.ref sa), some (.ref dp), some wv, some (.int c), some R.v, some (.str ru), some v, some v', some v1] (upd (upd (upd H9 p (.tup [])) q (.tup [R.v, R.v])) r (.lst [.ref p, .ref q])) := fun p hp q hq r hr => by
   have t1 := zac hp (.tup []);have t2 := zac hq (.tup [R.v, R.v]);have t3 := zac hr (.lst [V.ref p, .ref q]);have t := (t1.trans t2).trans t3;refine ⟨_, .inl (SqL.of zad), ?_⟩;have v0 := yao c (show (2 : Int) ≠ 0 by decide);have v1 := yak c (show (0 : Int) < 2 by decide);obtain e | e : c % 2 = 0 \/ c % 2 = 1 := by omega
   ·rw [e];exact ⟨_, i0, hN _ _ ⟨s9.trans t, rv.same t, p, [], (t2.trans t3).seqT (SqT.of zad), by simp, by simp, rfl⟩⟩
   ·rw [e];refine ⟨_, i1, hN _ _ ⟨s9.trans t, rv.same t, q, [R, R], t3.seqT (SqT.of zad), by simp, fun R' hR' => ?_, rfl⟩⟩;have e' : R' = R := by simpa using hR'
    rw [e'];exact ⟨hR, hnB⟩
  refine ite2 (fun _ => ?_) fun _ => ⟨cdiv, by decide, ite2 (fun _ => ?_) fun _ => hN _ _ ⟨s9, rv, rp, Rs, hrp, hRl, hRs, rfl⟩⟩
  all_goals exact ⟨yaq _, fun p hp => ⟨zar (show 2 <= 100000 by decide), fun q hq => ⟨zar (show 2 <= 100000 by decide), fun r hr => ⟨by decide, fin p hp q hq r hr⟩⟩⟩⟩
 clear s9 rv hrp hRl hRs Rs rp;obtain ⟨s10, rv, rp, Rs, hrp, hRl, hRs, rfl⟩ := hv;walk_at "";refine ⟨zar (show 4 <= 100000 by decide), fun p hp => ?_⟩;have sp := zac hp (.tup [V.int 1, .str ru, v', .ref rp]);exact k p ⟨1, ru, o, Rs⟩ _ ((s5.trans s10).trans sp) ⟨p, v', rp, rfl, SqT.of zad, rv.same sp, sp.seqT hrp⟩ ⟨ho, hn1, hRl, hRs⟩ rfl (by show opn ru = true; rcases hru with rfl | rfl | rfl <;> decide +kernel) hn2
def zjP (K : W.Frag) : Sp := fun vs H Q _ => ∃ (a sa dp np wp : Addr) (wv : V) (ns : List Int) (us : List V) (Ss : List Stm) (nm wd : List Str) (q : Bool) (X : Str) (B : Stm), vs = [.ref a, .ref sa, .ref dp, wv] /\ SqL K H a (ns.map V.int) /\ ns.length <= 63 /\ Pk K H sa us Ss /\ Dr K H dp np wp nm wd /\ RepS K H (.qu q X B) wv /\ InOk X 5 B /\ Nm greatS X /\
 ∀ (r lp : Addr) (L : Nat -> Ln) (ls : List V) (b : Nat) (m : Int) H', PL K H H' lp L ls -> SqL K H' r [.ref lp, .int b, .int m] -> b < ls.length -> ls.length <= 16 -> opn (L b).ru = true -> (L b).lev = 1 -> (¬ (L b).ru = "new" -> (L b).st ≠ none) -> Q (.ref r) H'
theorem zhl (T : Tx K mg D) : FnOk P w K mg Qd CX0 11 D.a_e4 D.d_e4 ["_law_script", "_law_some_here", "_law_drawn", "_law_whole"] (zjP K) := by
 have G_c3 := @zbx P w _ _ Qd _ T;have G_e8 := @ziG P w _ _ Qd _ T;refine T.F_e4.ok sc_e4 (fun vs H Q E h => ?_) (fun cdv A outer s H vs Q E hr h => ?_)
 ·obtain ⟨a, sa, dp, np, wp, wv, ns, us, Ss, nm, wd, q, X, B, rfl, _⟩ := h; rfl
 obtain ⟨a, sa, dp, np, wp, wv, ns, us, Ss, nm, wd, q, X, B, rfl, hS, hl, hk, hd, rW, oB, hX, k⟩ := h;have hu := hr.units;have hr_c3 : Room 1 _ := hr.mono (by decide);have hr_e8 : Room 10 _ := hr.mono (by decide);have hpos := hk.pos;refine ⟨_, (zaf (zap (i := 4) sc_e4.nd (by rfl) (by walk_at "o") (zaB zae))
  (zaf (zcd PassesOwn.never (by rfl) (zb0 (by rfl) T.z_range (zaa (zao zax (YC G_c3 hr_c3 (by rfl) T.m_c3 (zaa (pv 0) (zaa zab zae))) zab) zae)) (zaG (i := 5) sc_e4.nd (by rfl) (by walk_at "o"))
   (zaf (zap (i := 6) sc_e4.nd (by rfl) (by walk_at "o") (YC G_c3 hr_c3 (by rfl) T.m_c3 (zaa (pv 0) (zaa (zao (za3 K) zab (pv 5)) zae))))
  (zaf (zap (i := 7) sc_e4.nd (by rfl) (by walk_at "o") (zaE zae))
  (zaf (za6 (zan (za9 K hu) (zao zax (pv 6) zab) zab (zav _)) (zai (zap (i := 7) sc_e4.nd (by rfl) (by walk_at "o") (zaE (zaa zab (zaa (zal (ixA K) (zal (ixA K) (pv 2) zab (fun _ _ => rfl)) (zao zax (zao za1 (pv 6) zab) zab) (fun _ _ => rfl)) zae))))) zat)
  (zai (za6 (zan (za9 K hu) (zao zax (zao za1 (pv 6) zab) zab) zab (zav _)) (zaf (za6 (zan (za9 K hu) (zao zax (zao za1 (pv 6) zab) zab) zab (zav _)) (zai (zbl (zb1 K yar PySem.F.slot_list_append yaw zaP (pv 4) (zaa (zaE (zaa zab (zaa (zal (ixA K) (zaB (zaa zas (zaa zas zae))) (zao zax (zao za1 (pv 6) zab) zab) (fun _ _ => rfl)) (zaa zbA (zaa (zaE (zaa (zal (ixA K) (zal (ixA K) (pv 2) zab (fun _ _ => rfl)) (zao zax (zao za1 (pv 6) zab) zab) (fun _ _ => rfl)) zae)) zae))))) zae)))) (zai (zbl (zb1 K yar PySem.F.slot_list_append yaw zaP (pv 4) (zaa (zaE (zaa zab (zaa zas (zaa (zal (ixA K) (pv 1) (zao zax (zao za1 (pv 6) zab) (zau (zay K) (by rfl) T.z_len yap (zaa (pv 1) zae))) (fun _ _ => rfl)) (zaa (zaE zae) zae))))) zae)))))
  (zai (zbl (zb1 K yar PySem.F.slot_list_append yaw zaP (pv 4) (zaa (zaE (zaa zab (zaa zas (zaa (zal (ixA K) (pv 1) (zao zax (zao za1 (pv 6) zab) (zau (zay K) (by rfl) T.z_len yap (zaa (pv 1) zae))) (fun _ _ => rfl)) (zaa (pv 7) zae))))) zae))))) (zai (zbl (zb1 K yar PySem.F.slot_list_append yaw zaP (pv 4) (zaa (zaE (zaa zab (zaa (zal (ixA K) (zaB (zaa zas (zaa zas (zaa zas zae)))) (zao zax (zao za1 (pv 6) zab) zab) (fun _ _ => rfl)) (zaa (zal (ixA K) (pv 1) (zao zax (zao za1 (pv 6) zab) (zau (zay K) (by rfl) T.z_len yap (zaa (pv 1) zae))) (fun _ _ => rfl)) (zaa (pv 7) zae))))) zae))))))))))
  (zaf (zap (i := 8) sc_e4.nd (by rfl) (by walk_at "o") (zaH (za9 K hu) (zao zax (YC G_c3 hr_c3 (by rfl) T.m_c3 (zaa (pv 0) (zaa zab zae))) zab) zab (zav _)))
  (zaf (za6 (zcr (zbm (pv 8))) (zai (zbl (zb1 K yar PySem.F.slot_list_append yaw zaP (pv 4) (zaa (zaE (zaa zab (zaa zas (zaa (pv 3) (zaa (zaE zae) zae))))) zae)))) zat)
  (zaf (zap (i := 9) sc_e4.nd (by rfl) (by walk_at "o") (zau (zay K) (by rfl) T.z_len yap (zaa (pv 4) zae)))
  (zaf (zbl (zb1 K yar PySem.F.slot_list_append yaw zaP (pv 4) (zaa (YC G_e8 hr_e8 (by rfl) T.m_e8 (zaa (pv 0) (zaa (pv 1) (zaa (pv 2) (zaa (pv 3) zae))))) zae)))
  (zaf (zcd PassesOwn.never (by rfl) (zb0 (by rfl) T.z_range (zaa (zao zax (YC G_c3 hr_c3 (by rfl) T.m_c3 (zaa (pv 0) (zaa zab zae))) zab) zae)) (zaG (i := 5) sc_e4.nd (by rfl) (by walk_at "o"))
   (zaf (zap (i := 6) sc_e4.nd (by rfl) (by walk_at "o") (YC G_c3 hr_c3 (by rfl) T.m_c3 (zaa (pv 0) (zaa (zao (za3 K) zab (pv 5)) zae))))
  (zaf (za6 (zan (za9 K hu) (zao zax (pv 6) zab) zab (zav _)) (zai (zbl (zb1 K yar PySem.F.slot_list_append yaw zaP (pv 4) (zaa (zaE (zaa zab (zaa zas (zaa (zal (ixA K) (pv 1) (zao zax (zao za1 (pv 6) zab) (zau (zay K) (by rfl) T.z_len yap (zaa (pv 1) zae))) (fun _ _ => rfl)) (zaa (zaE zae) zae))))) zae)))) zat)
  (zai (zbl (zb1 K yar PySem.F.slot_list_append yaw zaP (pv 4) (zaa (zaE (zaa (zao (za3 K) zab (zaF zcM (by rfl) T.z_int (by rfl) (zaa (zaH (za9 K hu) (zao zax (pv 6) zab) zab (zav _)) zae))) (zaa zas (zaa (zal (ixA K) (pv 1) (zao zax (zao za1 (pv 6) zab) (zau (zay K) (by rfl) T.z_len yap (zaa (pv 1) zae))) (fun _ _ => rfl)) (zaa (zaE zae) zae))))) zae)))))))
  (zaf (za6 (zbm (pv 8)) (zai (zbl (zb1 K yar PySem.F.slot_list_append yaw zaP (pv 4) (zaa (zaE (zaa zab (zaa zas (zaa (pv 3) (zaa (zaE (zaa zab zae)) zae))))) zae)))) zat)
  (zai (zaq (zaB (zaa (pv 4) (zaa (pv 9) (zaa (zal (ixA K) (zaB (zaa (zao zbU (pv 9) zab) (zaa (zao zbU (zau (zay K) (by rfl) T.z_len yap (zaa (pv 4) zae)) zab) zae))) (zaF zcM (by rfl) T.z_int (by rfl) (zaa (pv 8) zae)) (fun _ _ => rfl)) zae)))))))))))))), ?_⟩
 walk_at "S";refine zaw (fun σ' H' => ∃ lp, PL K H H' lp (fun _ => ⟨0, "", none, []⟩) [] /\ σ' = sY a sa dp wv [some (.ref lp), none, none, none, none, none]) (fun N hN => ?_) fun σ' H1 hv => ?_
 ·walk_at "";exact ⟨yaq _, fun lp hlp => hN _ _ ⟨lp, ⟨zac hlp _, hlp, zad, fun i v hv => by simp at hv, ⟨fun i hi => absurd hi (by simp), fun i hi => absurd hi (by simp)⟩⟩, rfl⟩⟩
 obtain ⟨lp, g1, rfl⟩ := hv;refine zaw (fun σ' H' => ∃ L ls u4 u5 u6, PL K H H' lp L ls /\ ls.length <= 6 /\ σ' = sY a sa dp wv [some (.ref lp), u4, u5, u6, none, none]) (fun N hN => ?_) fun σ' H2 hv => ?_
 ·walk_at "";refine ⟨a, ns, _, rfl, g1.same.seq hS, hl, by decide, fun c c0 c1 => ?_⟩;walk_at "t";have m0 := yao c (show (4 : Int) ≠ 0 by decide);have m1 := yak c (show (0 : Int) < 4 by decide);generalize c % 4 = cn at m0 m1;refine ⟨by decide, by omega, by omega, ?_⟩;refine zbw (fun i σ' H' => ∃ L ls u4 u5 u6, PL K H H' lp L ls /\ ls.length <= 2 * i /\ σ' = sY a sa dp wv [some (.ref lp), u4, u5, u6, none, none]) ⟨_, _, _, _, _, g1, by simp, rfl⟩ (fun i σ' H' hi hv => ?_) fun σ' H' hv => ?_
  ·obtain ⟨L, ls, u4, u5, u6, g, hll, rfl⟩ := hv;refine zaw (fun σ2 H8 => H8 = H' /\ ∃ c : Int, 0 <= c /\ c < 2147483647 /\ σ2 = sY a sa dp wv [some (.ref lp), some (.int i), some (.int c), u6, none, none]) (fun N hN => ?_) fun σ2 H8 hv => ?_
   ·walk_at "";refine ⟨a, ns, _, rfl, g.same.seq hS, hl, by omega, fun c c0 c1 => ?_⟩;rw [Int.zero_add];exact hN _ _ ⟨rfl, c, c0, c1, rfl⟩
   obtain ⟨rfl, c, c0, c1, rfl⟩ := hv;refine zaw (fun σ2 H9 => ∃ (rp : Addr) (Rs : List Rf), PL K H H9 lp L ls /\ SqT K H9 rp (Rs.map Rf.v) /\ Rs.length <= 3 /\ (∀ R ∈ Rs, R.sm /\ noB R) /\ σ2 = sY a sa dp wv [some (.ref lp), some (.int i), some (.int c), some (.ref rp), none, none]) (fun N hN => ?_) fun σ2 H9 hv => ?_
   ·walk_at "";exact ⟨yaq _, fun p hp => hN _ _ ⟨p, [], g.next (zac hp _), SqT.of zad, by simp, by simp, rfl⟩⟩
   obtain ⟨rp, Rs, g9, hrp, hRl, hRs, rfl⟩ := hv;refine zaw (fun σ2 H9 => ∃ (rp : Addr) (Rs : List Rf), PL K H H9 lp L ls /\ SqT K H9 rp (Rs.map Rf.v) /\ Rs.length <= 3 /\ (∀ R ∈ Rs, R.sm /\ noB R) /\ σ2 = sY a sa dp wv [some (.ref lp), some (.int i), some (.int c), some (.ref rp), none, none]) (fun N hN => ?_) fun σ2 H10 hv => ?_
   ·walk_at "";refine ⟨by decide, ite2 (fun _ => ?_) fun _ => hN _ _ ⟨rp, Rs, g9, hrp, hRl, hRs, rfl⟩⟩;have hd9 := hd.same g9.same;obtain ⟨t, et, tl⟩ := hd9.pick (c / 5);refine ⟨_, .inl (SqL.of hd9.at'), _, i0, cdiv, by decide, ?_⟩;walk_at "t";refine ⟨_, .inl (SqL.of hd9.nat), _, et, zar (show 2 <= 100000 by decide), fun p hp => hN _ _ ⟨p, [.n 0, .s t], g9.next (zac hp _), SqT.of zad, by simp, ?_, rfl⟩⟩;intro R hR;simp only [List.mem_cons, List.not_mem_nil, or_false] at hR;rcases hR with rfl | rfl
    ·exact ⟨trivial, trivial⟩
    ·exact ⟨yat tl.len.1 (by decide), trivial⟩
   clear g hrp hRl hRs rp Rs g9;obtain ⟨rp, Rs, g, hrp, hRl, hRs, rfl⟩ := hv;have hk' := hk.same g.same;have hd' := hd.same g.same;have hi3 : i < 3 := by omega
   have hrm := g.ok.room;walk_at "";refine ⟨cdiv, by decide, ite2 (fun _ => ⟨cdiv, by decide, ite2 (fun _ => ⟨⟨_, SqL.of g.lat⟩, zar (show 2 <= 100000 by decide), fun p hp => ⟨cdiv, by decide, ?_⟩⟩) fun _ => ⟨⟨_, SqL.of g.lat⟩, ?_⟩⟩) fun _ => ⟨⟨_, SqL.of g.lat⟩, ?_⟩⟩
   ·obtain ⟨ru, er, o1r⟩ := zox (yao (c / 2430) (show (2 : Int) ≠ 0 by decide)) (yak (c / 2430) (show (0 : Int) < 2 by decide));obtain ⟨t, et, tl⟩ := hd'.pick (c / 4860);have s1 := zac hp (.lst [V.str "new", V.str "case"]);refine ⟨_, .inl (SqL.of zad), _, er, _, .inl (s1.seq (SqL.of hd'.at')), _, i0, cdiv, by decide, ?_⟩;rw [zdt];refine ⟨_, .inl (s1.seq (SqL.of hd'.nat)), _, et, zar (show 1 <= 100000 by decide), fun p2 hp2 => ⟨zar (show 4 <= 100000 by decide), fun q hq => ?_⟩⟩;have s2 := s1.trans (zac hp2 (.tup [V.str t]));obtain ⟨z1, z2, z3⟩ := (g.next s2).push ⟨1, ru, none, [.s t]⟩ (v := .non) (rp := p2) rfl (SqT.of zad) ⟨fun S e => (by cases e), fun _ => rfl, by simp, fun R hR => by rw [yah.mp hR]; exact ⟨yat tl.len.1 (by decide), trivial⟩⟩ (by show (o1 ru : Int) <= 1 /\ (1 : Int) <= _ + (o1 ru : Int) /\ (1 : Int) <= 60; rw [o1r]; omega) (by omega) hq;have hrp2 := ((s2.trans (zac hq _)).seqT hrp).keepL (zs := ls ++ [V.ref q]) z1;have hk2 := hk.same z3.same;obtain ⟨u, S, e, r, o⟩ := hk2.pick (c / 45);refine ⟨ls, z1, z2, ⟨_, SqL.of z3.lat⟩, cdiv, _, .inl hk2.at', by omega, _, .inl hk2.at', _, e, zar (show 4 <= 100000 by decide), fun q2 hq2 => ?_⟩;obtain ⟨y1, y2, y3⟩ := z3.push ⟨1, "each", some S, Rs⟩ r hrp2 ⟨fun S' e' => (by cases e'; exact o), fun z => absurd z ziF, hRl, hRs⟩ (by rw [yae, yas, zbS]; show (o1 "each" : Int) <= 1 /\ (1 : Int) <= 1 + (o1 "each" : Int) /\ (1 : Int) <= 60; rw [zgd]; decide) (by simp; omega) hq2;exact ⟨_, y1, y2, _, _, _, _, _, y3, by simp; omega, rfl⟩
   ·obtain ⟨u0, S0, e0, r0, o0⟩ := hk'.pick (c / 405);refine ⟨cdiv, _, .inl hk'.at', by omega, _, .inl hk'.at', _, e0, yaq _, fun p2 hp2 => ⟨zar (show 4 <= 100000 by decide), fun q hq => ?_⟩⟩;have s2 := zac hp2 (.tup []);obtain ⟨z1, z2, z3⟩ := (g.next s2).push ⟨1, "guess", some S0, []⟩ (v := u0) (rp := p2) (RepS.same (S := S0) s2 r0) (SqT.of zad) ⟨fun S e => (by cases e; exact o0), fun z => absurd z zgF, by simp, by simp⟩ (by show (o1 "guess" : Int) <= 1 /\ (1 : Int) <= _ + (o1 "guess" : Int) /\ (1 : Int) <= 60; rw [zgC]; omega) (by omega) hq;have hrp2 := ((s2.trans (zac hq _)).seqT hrp).keepL (zs := ls ++ [V.ref q]) z1;have hk2 := hk.same z3.same;obtain ⟨u, S, e, r, o⟩ := hk2.pick (c / 45);refine ⟨ls, z1, z2, ⟨_, SqL.of z3.lat⟩, cdiv, _, .inl hk2.at', by omega, _, .inl hk2.at', _, e, zar (show 4 <= 100000 by decide), fun q2 hq2 => ?_⟩;obtain ⟨y1, y2, y3⟩ := z3.push ⟨1, "each", some S, Rs⟩ r hrp2 ⟨fun S' e' => (by cases e'; exact o), fun z => absurd z ziF, hRl, hRs⟩ (by rw [yae, yas, zbS]; show (o1 "each" : Int) <= 1 /\ (1 : Int) <= 1 + (o1 "each" : Int) /\ (1 : Int) <= 60; rw [zgd]; decide) (by simp; omega) hq2;exact ⟨_, y1, y2, _, _, _, _, _, y3, by simp; omega, rfl⟩
   ·obtain ⟨ru, er, o1r, rn⟩ := zoy (yao (c / 15) (show (3 : Int) ≠ 0 by decide)) (yak (c / 15) (show (0 : Int) < 3 by decide));refine ⟨zar (show 3 <= 100000 by decide), fun p hp => ?_⟩;have s1 := zac hp (.lst [V.str "given", V.str "each", V.str "again"]);have hk2 := hk'.same s1;obtain ⟨u, S, e, r, o⟩ := hk2.pick (c / 45);refine ⟨cdiv, by decide, _, .inl (SqL.of zad), _, er, cdiv, _, .inl hk2.at', by omega, _, .inl hk2.at', _, e, zar (show 4 <= 100000 by decide), fun q2 hq2 => ?_⟩;obtain ⟨y1, y2, y3⟩ := (g.next s1).push ⟨0, ru, some S, Rs⟩ r (s1.seqT hrp) ⟨fun S' e' => (by cases e'; exact o), fun z => absurd z rn, hRl, hRs⟩ (by show (o1 ru : Int) <= 0 /\ (0 : Int) <= _ + (o1 ru : Int) /\ (0 : Int) <= 60; rw [o1r]; omega) (by omega) hq2;exact ⟨_, y1, y2, _, _, _, _, _, y3, by simp; omega, rfl⟩
  ·obtain ⟨L, ls, u4, u5, u6, g, hll, rfl⟩ := hv;exact hN _ _ ⟨L, ls, u4, u5, u6, g, by omega, rfl⟩
 clear g1;obtain ⟨L, ls, u4, u5, u6, g, hl6, rfl⟩ := hv;have oW := oB.wst hX q;refine zaw (fun σ' H' => H' = H2 /\ ∃ lt : Bool, σ' = sY a sa dp wv [some (.ref lp), u4, u5, u6, some (.bl lt), none]) (fun N hN => ?_) fun σ' H3 hv => ?_
 ·walk_at "";refine ⟨a, ns, _, rfl, g.same.seq hS, hl, by decide, fun c c0 c1 => ?_⟩;walk_at "t";exact ⟨by decide, hN _ _ ⟨rfl, _, rfl⟩⟩
 obtain ⟨rfl, lt, rfl⟩ := hv;refine zaw (fun σ' H' => ∃ L ls, PL K H H' lp L ls /\ ls.length <= 7 /\ σ' = sY a sa dp wv [some (.ref lp), u4, u5, u6, some (.bl lt), none]) (fun N hN => ?_) fun σ' H4 hv => ?_
 ·cases lt with
  | true =>
   walk_at "";exact hN _ _ ⟨L, ls, g, by omega, rfl⟩
  | false =>
   walk_at "";have hrm := g.ok.room;refine ⟨⟨_, SqL.of g.lat⟩, yaq _, fun p2 hp2 => ⟨zar (show 4 <= 100000 by decide), fun q2 hq2 => ?_⟩⟩;have s2 := zac hp2 (.tup []);obtain ⟨z1, z2, z3⟩ := (g.next s2).push ⟨0, "given", some (.qu q X B), []⟩ (v := wv) (rp := p2) (RepS.same (S := .qu q X B) (g.same.trans s2) rW) (SqT.of zad) ⟨fun S e => (by cases e; exact oW), fun z => absurd z zjN, by simp, by simp⟩ (by show (o1 "given" : Int) <= 0 /\ (0 : Int) <= _ + (o1 "given" : Int) /\ (0 : Int) <= 60; rw [zgD]; omega) (by omega) hq2;exact ⟨_, z1, z2, hN _ _ ⟨_, _, z3, by simp; omega, rfl⟩⟩
 clear g hl6 ls L;obtain ⟨L, ls, g, hl7, rfl⟩ := hv;refine zaw (fun σ' H' => H' = H4 /\ σ' = sY a sa dp wv [some (.ref lp), u4, u5, u6, some (.bl lt), some (.int ls.length)]) (fun N hN => ?_) fun σ' H5 hv => ?_
 ·walk_at "";exact ⟨_, .inl (SqL.of g.lat), hN _ _ ⟨rfl, rfl⟩⟩
 obtain ⟨rfl, rfl⟩ := hv;have hrm := g.ok.room;refine zaw (fun σ' H' => ∃ L' ls' x, PL K H H' lp L' ls' /\ ls'.length = ls.length + 1 /\ zcq L' ls'.length = 1 /\ L' ls.length = x /\ x.lev = 1 /\ opn x.ru = true /\ (¬ x.ru = "new" -> x.st ≠ none) /\ σ' = sY a sa dp wv [some (.ref lp), u4, u5, u6, some (.bl lt), some (.int ls.length)]) (fun N hN => ?_) fun σ' H11 hv => ?_
 ·walk_at "";refine ⟨⟨_, SqL.of g.lat⟩, a, sa, dp, np, wp, wv, ns, us, Ss, nm, wd, q, X, B, rfl, g.same.seq hS, hl, hk.same g.same, hd.same g.same, rW.same g.same, oB, hX, fun p x H6 s6 rx ox xl xo xn => ?_⟩;have g6 := g.next s6;have hlo : o1 x.ru = 1 := by unfold o1; rw [if_pos xo]
  refine ⟨ls, g6.lat, zaQ (by omega), hN _ _ ⟨zec L ls.length x, ls ++ [.ref p], x, ⟨g6.same.upd g6.l0, g6.l0, zad, (g6.rep.keepL g6.lat).snoc (rx.keepL g6.lat), by rw [yae]; exact g6.ok.snoc x ox (by rw [hlo, xl]; omega)⟩, by simp, by rw [yae, yas, zbS]; exact xl, zbR, xl, xo, xn, rfl⟩⟩
 clear hrm;obtain ⟨L1, ls1, x, g1, l1, r1, hb1, xl, xo, xn, rfl⟩ := hv;refine zaw (fun σ' H' => ∃ L' ls' u4 u5, PL K H H' lp L' ls' /\ ls'.length <= 15 /\ ls.length < ls'.length /\ L' ls.length = x /\ σ' = sY a sa dp wv [some (.ref lp), u4, u5, u6, some (.bl lt), some (.int ls.length)]) (fun N hN => ?_) fun σ' H12 hv => ?_
 ·walk_at "";refine ⟨a, ns, _, rfl, g1.same.seq hS, hl, by decide, fun c' _ _ => ?_⟩;walk_at "t";have m0 := yao c' (show (3 : Int) ≠ 0 by decide);have m1 := yak c' (show (0 : Int) < 3 by decide);generalize c' % 3 = cn at m0 m1;refine ⟨by decide, by omega, by omega, ?_⟩;refine zbw (fun i σ' H' => ∃ L' ls' u4 u5, PL K H H' lp L' ls' /\ ls'.length <= ls.length + 1 + 2 * i /\ ls.length < ls'.length /\ 1 <= zcq L' ls'.length /\ L' ls.length = x /\ σ' = sY a sa dp wv [some (.ref lp), u4, u5, u6, some (.bl lt), some (.int ls.length)]) ⟨L1, ls1, _, _, g1, by omega, by omega, by omega, hb1, rfl⟩ (fun i σ' H' hi hv => ?_) fun σ' H' hv => ?_
  ·clear g1 l1 r1 hb1 L1 ls1;obtain ⟨L1, ls1, u4, u5, g1, l1, l2, r1, hb1, rfl⟩ := hv;refine zaw (fun σ2 H8 => H8 = H' /\ ∃ c : Int, 0 <= c /\ c < 2147483647 /\ σ2 = sY a sa dp wv [some (.ref lp), some (.int i), some (.int c), u6, some (.bl lt), some (.int ls.length)]) (fun N hN => ?_) fun σ2 H8 hv => ?_
   ·walk_at "";refine ⟨a, ns, _, rfl, g1.same.seq hS, hl, by omega, fun c c0 c1 => ?_⟩;rw [Int.zero_add];exact hN _ _ ⟨rfl, c, c0, c1, rfl⟩
   obtain ⟨rfl, c, c0, c1, rfl⟩ := hv;refine zaw (fun σ2 H9 => ∃ L' ls', PL K H H9 lp L' ls' /\ ls'.length <= ls.length + 1 + 2 * i + 1 /\ ls.length < ls'.length /\ 1 <= zcq L' ls'.length /\ (c % 6 = 1 -> 2 <= zcq L' ls'.length) /\ L' ls.length = x /\ σ2 = sY a sa dp wv [some (.ref lp), some (.int i), some (.int c), u6, some (.bl lt), some (.int ls.length)]) (fun N hN => ?_) fun σ2 H9 hv => ?_
   ·walk_at "";refine ⟨by decide, ite2 (fun z => ?_) fun z => hN _ _ ⟨L1, ls1, g1, by omega, l2, r1, fun z' => absurd z' z, hb1, rfl⟩⟩;have hk2 := hk.same g1.same;obtain ⟨u, S, e, r, o'⟩ := hk2.pick (c / 6);refine ⟨⟨_, SqL.of g1.lat⟩, cdiv, _, .inl hk2.at', by omega, _, .inl hk2.at', _, e, yaq _, fun p2 hp2 => ⟨zar (show 4 <= 100000 by decide), fun q hq => ?_⟩⟩;have s2 := zac hp2 (.tup []);obtain ⟨z1, z2, z3⟩ := (g1.next s2).push ⟨2, "guess", some S, []⟩ (v := u) (rp := p2) (RepS.same (S := S) s2 r) (SqT.of zad) ⟨fun S e => (by cases e; exact o'), fun z => absurd z zgF, by simp, by simp⟩ (by show (o1 "guess" : Int) <= 2 /\ (2 : Int) <= _ + (o1 "guess" : Int) /\ (2 : Int) <= 60; rw [zgC]; omega) (by omega) hq;exact ⟨_, z1, z2, hN _ _ ⟨_, _, z3, by simp; omega, by simp; omega, by rw [yae, yas, zbS]; exact (by decide : (1 : Int) <= 2), fun _ => by rw [yae, yas, zbS]; exact Int.le_refl 2, by rw [zb9 l2]; exact hb1, rfl⟩⟩
   clear g1 l1 l2 r1 hb1 L1 ls1;obtain ⟨L1, ls1, g1, l1, l2, r1, r2, hb1, rfl⟩ := hv;have hk2 := hk.same g1.same;obtain ⟨u, S, e, r, o'⟩ := hk2.pick (c / 12);have fin : ∀ {lev : Int}, 0 <= lev -> lev <= zcq L1 ls1.length -> 1 <= lev -> lev <= 60 -> ∀ p2, H9 p2 = none -> ∀ q, upd H9 p2 (.tup []) q = none -> ∃ xs, upd (upd H9 p2 (.tup [])) q (.tup [.int lev, .str "any", u, .ref p2]) lp = some (.lst xs) /\ xs.length < sizeLine /\ ∃ L' ls' u4 u5, PL K H (upd (upd (upd H9 p2 (.tup [])) q (.tup [.int lev, .str "any", u, .ref p2])) lp (.lst (xs ++ [.ref q]))) lp L' ls' /\ ls'.length <= ls.length + 1 + 2 * (i + 1) /\ ls.length < ls'.length /\ 1 <= zcq L' ls'.length /\ L' ls.length = x /\ sY a sa dp wv [some (.ref lp), some (.int i), some (.int c), u6, some (.bl lt), some (.int ls.length)] = sY a sa dp wv [some (.ref lp), u4, u5, u6, some (.bl lt), some (.int ls.length)] := fun {lev} q0 q1 q2 q3 p2 hp2 q hq => by
    have s2 := zac hp2 (.tup []);obtain ⟨z1, z2, z3⟩ := (g1.next s2).push ⟨lev, "any", some S, []⟩ (v := u) (rp := p2) (RepS.same (S := S) s2 r) (SqT.of zad) ⟨fun S e => (by cases e; exact o'), fun z => absurd z zkv, by simp, by simp⟩ (by show (o1 "any" : Int) <= lev /\ lev <= _ + (o1 "any" : Int) /\ lev <= 60; rw [zku]; omega) (by omega) hq;exact ⟨_, z1, z2, _, _, _, _, z3, by simp; omega, by simp; omega, by rw [yae, yas, zbS]; exact q2, by rw [zb9 l2]; exact hb1, rfl⟩
   walk_at "";refine ⟨⟨_, SqL.of g1.lat⟩, by decide, cdiv, _, .inl hk2.at', by omega, _, .inl hk2.at', _, e, yaq _, fun p2 hp2 => ⟨zar (show 4 <= 100000 by decide), fun q hq => ?_⟩⟩
   by_cases z2 : c % 12 = 1
   ·have := r2 (by omega);rw [if_pos z2];exact fin (by decide) (by omega) (by decide) (by decide) p2 hp2 q hq
   ·rw [if_neg z2];exact fin (by decide) (by omega) (by decide) (by decide) p2 hp2 q hq
  ·clear g1 l1 r1 hb1 L1 ls1;obtain ⟨L1, ls1, u4, u5, g1, l1, l2, r1, hb1, rfl⟩ := hv;exact hN _ _ ⟨L1, ls1, _, _, g1, by omega, l2, hb1, rfl⟩
 clear g1 l1 r1 hb1 L1 ls1;obtain ⟨L1, ls1, u4, u5, g1, l1, l2, hb1, rfl⟩ := hv;refine zaw (fun σ' H' => ∃ L' ls', PL K H H' lp L' ls' /\ ls'.length <= 16 /\ ls.length < ls'.length /\ L' ls.length = x /\ σ' = sY a sa dp wv [some (.ref lp), u4, u5, u6, some (.bl lt), some (.int ls.length)]) (fun N hN => ?_) fun σ' H13 hv => ?_
 ·cases lt with
  | false =>
   walk_at "";exact hN _ _ ⟨L1, ls1, g1, by omega, l2, hb1, rfl⟩
  | true =>
   walk_at "";have hrm := g1.ok.room;refine ⟨⟨_, SqL.of g1.lat⟩, zar (show 1 <= 100000 by decide), fun p2 hp2 => ⟨zar (show 4 <= 100000 by decide), fun q2 hq2 => ?_⟩⟩;have s2 := zac hp2 (.tup [V.int 0]);obtain ⟨z1, z2, z3⟩ := (g1.next s2).push ⟨0, "again", some (.qu q X B), [.n 0]⟩ (v := wv) (rp := p2) (RepS.same (S := .qu q X B) (g1.same.trans s2) rW) (SqT.of zad) ⟨fun S e => (by cases e; exact oW), fun z => absurd z zjO, by simp, fun R hR => by rw [yah.mp hR]; exact ⟨trivial, trivial⟩⟩ (by show (o1 "again" : Int) <= 0 /\ (0 : Int) <= _ + (o1 "again" : Int) /\ (0 : Int) <= 60; rw [zgE]; omega) (by omega) hq2;exact ⟨_, z1, z2, hN _ _ ⟨_, _, z3, by simp; omega, by simp; omega, by rw [zb9 l2]; exact hb1, rfl⟩⟩
 clear g1 l1 l2 hb1 L1 ls1;obtain ⟨L1, ls1, g1, l1, l2, hb1, rfl⟩ := hv;walk_at "";obtain ⟨m, em⟩ : ∃ m : Int, atI [V.int ((ls.length : Int) - 1), V.int ((ls1.length : Int) - 1)] (if lt = true then 1 else 0) = some (.int m) := by
  cases lt
  ·exact ⟨_, i0⟩
  ·exact ⟨_, i1⟩
 refine ⟨_, .inl (SqL.of g1.lat), zar (show 2 <= 100000 by decide), fun p hp => ⟨_, .inl (SqL.of zad), _, em, zar (show 3 <= 100000 by decide), fun r hr => ?_⟩⟩;have sr := (zac hp (.lst [V.int ((ls.length : Int) - 1), V.int ((ls1.length : Int) - 1)])).trans (zac hr (.lst [V.ref lp, V.int ls.length, .int m]));exact k r lp L1 ls1 ls.length m _ (g1.next sr) (SqL.of zad) l2 l1 (by rw [hb1]; exact xo) (by rw [hb1]; exact xl) (by rw [hb1]; exact xn)
section
open PySem.Spec PyProof.Rows
variable {X : Cx}
theorem ziH {p : Addr} {u : Value} (h : RelV (.ref p) u) : u = .ref p := by cases h; rfl
def rEqI (K : W.Frag) : R2 := fun x y H Q => ∃ a b xs, x = .ref a /\ y = .ref b /\ SqT K H a xs /\ SqT K H b xs /\ (∀ x ∈ xs, ∃ p, x = V.ref p) /\ Q (.bl true) H
theorem zn2 (hu : X.A.units + 64 < cLine) : OpR X (compareOp .Eq) (rEqI X.K) := by
 unfold OpR;intro Qa s σ H x y v u Q I rx ry ⟨a, b, xs, e1, e2, ha, hb, hx, k⟩;subst e1 e2;cases rx;cases ry;obtain ⟨its, r1, p1, _⟩ := I.tuple ha;obtain ⟨its2, r2, p2, _⟩ := I.tuple hb;have l1 : its.toArray.size = xs.length := by rw [yad]; exact r1.length.symm
 have l2 : its2.toArray.size = xs.length := by rw [yad]; exact r2.length.symm
 have key := SeqAt.RcAt.tuples (A := X.A) (e := fun _ => true) p1 p2 (by omega) (fun j h1 h2 => by
  obtain ⟨x, ex, rx⟩ := getD_some r1 h1;obtain ⟨y, ey, ry⟩ := getD_some r2 h2;rw [ex] at ey;cases ey;obtain ⟨p, rfl⟩ := hx x (ya1 ex);rw [ziH rx, ziH ry];exact SeqAt.EqAt.same _)
 rw [l1, l2] at key;have e : ((List.range (min xs.length xs.length)).all (fun _ => true) && xs.length == xs.length) = true := by simp
 rw [e] at key;exact key X.prog X.w X.xe _ ⟨.bl true, H, I, rfl, k⟩
def rEqY (K : W.Frag) : R2 := fun x y H Q => znh K x y H Q \/ rEqI K x y H Q
theorem ziI (K : W.Frag) (hu : X.A.units + 64 < cLine) (hK : X.K = K := by rfl) : OpR X (compareOp .Eq) (rEqY K) := hK ▸ (OpR.or (zlo hu) (zn2 hu) : OpR X (compareOp .Eq) (rEqY X.K))
end
def LvL (L : Nat -> Ln) (n : Nat) : Prop := ∀ i, i < n -> (o1 (L i).ru : Int) <= (L i).lev /\ (L i).lev <= zcq L i + o1 (L i).ru /\ (L i).lev <= 60
def Qg (L : Nat -> Ln) (n : Nat) : List Str := (List.range n).map fun i => (L i).ru
def Qf (L : Nat -> Ln) (i : Nat) : Nat := (L i).lev.toNat
theorem zd1 {L : Nat -> Ln} {n i : Nat} (h : i < n) : (Qg L n).getD i "" = (L i).ru := by
 simp [Qg, List.getD_eq_getElem?_getD, h]
theorem LvL.ok {L : Nat -> Ln} {n : Nat} (h : LvL L n) : LvOk (Qg L n) (Qf L) n := fun j hj => by
 obtain ⟨h1, h2, h3⟩ := h j hj;rw [zd1 hj];have er : ((room (Qf L) j : Nat) : Int) = zcq L j := by
  unfold room zcq
  split
  ·rfl
  ·have := h (j - 1) (by omega);unfold Qf;omega
 have ej : ((Qf L j : Nat) : Int) = (L j).lev := by unfold Qf; omega
 omega
theorem LvL.at {L : Nat -> Ln} {n i : Nat} (h : LvL L n) (hi : i < n) : (L i).lev = (Qf L i : Int) /\ (L i).ru = (Qg L n).getD i "" := by
 obtain ⟨h1, _⟩ := h i hi;rw [zd1 hi];unfold Qf;refine ⟨?_, rfl⟩;omega
theorem zkw {H : Hp} {a : Addr} {ls : List V} {L : Nat -> Ln} (h : SqL K H a ls) (r : RepNs K H L ls) (hv : LvL L ls.length) (hl : ls.length <= 80) : LnsL K H a ls L (Qg L ls.length) (Qf L) :=
 ⟨h, r, fun i hi => hv.at hi, hl, fun j hj => (hv.ok j hj).1⟩
theorem zn3 {L : Nat -> Ln} {N n b : Nat} (hb : b < n) (hn : n < N) (ho : opn (L b).ru = true) (hl : (L b).lev = 1) (h0 : (L n).lev = 0) (hr : opn (L n).ru = false) : tkB L (fun i => Qc (Qg L N) (Qf L) (i + 1)) N n (.n (b : Int)) = .bx (L b) (L (endF (fun i => Qc (Qg L N) (Qf L) (i + 1)) N b)).st := by
 have e1 : Qc (Qg L N) (Qf L) (n + 1) = [] := by
  show nxt _ _ _ _ = _;unfold nxt;rw [zd1 hn, hr];unfold Qf;rw [h0];simp
 have e2 : Qc (Qg L N) (Qf L) (b + 1) = [b] := by
  rw [zbf _ _ (by rw [zd1 (by omega)]; exact ho)];unfold Qf;rw [hl];simp
 show (if _ then _ else _) = _;rw [if_pos]
 ·simp
 ·refine ⟨by omega, by omega, by simpa using ho, ?_⟩;show zbY _ n ((b : Int)).toNat = true;rw [ya4];unfold zbY;simp only [e1, e2];simp [hb]
structure Z8 (K : W.Frag) (H : Hp) (lp : Addr) (L : Nat -> Ln) (ls : List V) (n b : Nat) (S0 : Stm) : Prop where
 at' : SqL K H lp ls
 rep : RepNs K H L ls
 len : ls.length = n + 1
 few : n <= 20
 bn : b < n
 lv : LvL L ls.length
 ok : ∀ i, i < n + 1 -> LnOk (L i)
 ru : (L n).ru = "one"
 st : (L n).st = some S0
 ob : opn (L b).ru = true
 nb : ¬ (L b).ru = "new" -> (L b).st ≠ none
theorem Z8.same {H H' : Hp} {lp : Addr} {L : Nat -> Ln} {ls : List V} {n b : Nat} {S0 : Stm} (h : Z8 K H lp L ls n b S0) (e : Same H H') : Z8 K H' lp L ls n b S0 :=
 ⟨e.seq h.at', h.rep.same e, h.len, h.few, h.bn, h.lv, h.ok, h.ru, h.st, h.ob, h.nb⟩
def tellB (L : Nat -> Ln) (b : Nat) (t : Bool) : Prop := if (L b).ru = "new" then newB L b t else fixB L b t
theorem tellB.one {L : Nat -> Ln} {n : Nat} {b c : Bool} (h1 : tellB L n b) (h2 : tellB L n c) : b = c := by
 unfold tellB at h1 h2
 by_cases e : (L n).ru = "new"
 ·rw [if_pos e] at h1 h2; exact h1.one h2
 ·rw [if_neg e] at h1 h2; exact h1.one h2
theorem opn_three {r : Str} (h : opn r = true) : r = "new" \/ r = "case" \/ r = "guess" := by
 unfold opn at h;have := zdy r ["guess", "new", "case"];rw [show (["guess", "new", "case"] : List Str).map V.str = [V.str "guess", V.str "new", V.str "case"] from rfl] at this;rw [this] at h;have := ya7 h;simp only [List.mem_cons, List.not_mem_nil, or_false] at this;rcases this with z | z | z
 ·exact .inr (.inr z)
 ·exact .inl z
 ·exact .inr (.inl z)
theorem Z8.okO {H : Hp} {lp : Addr} {L : Nat -> Ln} {ls : List V} {n b : Nat} {S0 : Stm} (h : Z8 K H lp L ls n b S0) : ∀ i, i < ls.length -> K36.okO (L i).st := fun i hi S e => by
 have := (h.ok i (by have := h.len; omega)).st S e;exact ⟨yat this.1.2.1 (by decide), this.1.1, yat this.2 (by decide)⟩
theorem Z8.rr {H : Hp} {lp : Addr} {L : Nat -> Ln} {ls : List V} {n b : Nat} {S0 : Stm} (h : Z8 K H lp L ls n b S0) : ∀ i, i < n -> ∀ R ∈ (L i).rs, R.sm /\ noB R := fun i hi => (h.ok i (by omega)).rf
theorem Z8.lnH {H : Hp} {lp : Addr} {L : Nat -> Ln} {ls : List V} {n b : Nat} {S0 : Stm} (h : Z8 K H lp L ls n b S0) {m : Nat} (hm : m <= n) : K36.lnH L m := fun i hi => by
 have o := h.ok i (by omega);exact ⟨yat o.rs (by decide), fun S e => ⟨(o.st S e).1.1, yat (o.st S e).1.2.1 (by decide), yat (o.st S e).2 (by decide)⟩⟩
theorem all2 (F G : Bool) : ((List.range [F, G].length).all fun i => [F, G].getD i false == [F, G].getD i false) = true := by cases F <;> cases G <;> rfl
abbrev sZ (a dp sa r lp : Addr) (b c : Int) (bp : Addr) (v : V) (rp : Addr) (l : St) : St := some (.ref a) :: some (.ref dp) :: some (.ref sa) :: some (.ref r) :: some (.ref lp) :: some (.int b) :: some (.int c) :: some (.ref bp) :: some v :: some (.ref rp) :: l
theorem ok_law (T : Tx K mg D) : FnOk P w K mg Qd CX0 60 D.a_g5 D.d_g5 ["_law_script"] (zhQ K) := by
 have G_c3 := @zbx P w _ _ Qd _ T;have G_f0 := @zi0 P w _ _ Qd _ T;have G_e7 := @zi1 P w _ _ Qd _ T;have G_b0 := @zed P w _ _ Qd _ T;have G_e4 := @zhl P w _ _ Qd _ T;have G_g0 := @zgA P w _ _ Qd _ T;have G_f9 := @zjF P w _ _ Qd _ T;have G_d6 := @zhj P w _ _ Qd _ T;have G_f6 := @zjM P w _ _ Qd _ T;have G_g2 := @zjL P w _ _ Qd _ T;refine T.F_g5.ok sc_g5 (fun vs H Q E h => ?_) (fun cdv A outer s H vs Q E hr h => ?_)
 ·obtain ⟨a, ns, rfl, _⟩ := h; rfl
 obtain ⟨a, ns, rfl, hS, hl, k⟩ := h;have hu := hr.units;have hr_c3 : Room 1 _ := hr.mono (by decide);have hr_f0 : Room 2 _ := hr.mono (by decide);have hr_e7 : Room 10 _ := hr.mono (by decide);have hr_b0 : Room 10 _ := hr.mono (by decide);have hr_e4 : Room 11 _ := hr.mono (by decide);have hr_g0 : Room 2 _ := hr.mono (by decide);have hr_f9 : Room 4 _ := hr.mono (by decide);have hr_d6 : Room 25 _ := hr.mono (by decide);have hr_f6 : Room 13 _ := hr.mono (by decide);have hr_g2 : Room 12 _ := hr.mono (by decide);refine ⟨_, (zaf (zap (i := 1) sc_g5.nd (by rfl) (by walk_at "o") (YC G_f0 hr_f0 (by rfl) T.m_f0 (zaa (pv 0) (zaa zab zae))))
  (zaf (zap (i := 2) sc_g5.nd (by rfl) (by walk_at "o") (zao (za3 K) (YC G_e7 hr_e7 (by rfl) T.m_e7 (zaa (pv 0) (zaa zab (zaa (zaB (zaa (zaR (slB K) (zal (ixA K) (pv 1) zab (fun _ _ => rfl)) (zbe zab) zbd) (zaa (zal (ixA K) (pv 1) zab (fun _ _ => rfl)) zae))) (zaa zab zae))))) (YC G_e7 hr_e7 (by rfl) T.m_e7 (zaa (pv 0) (zaa zab (zaa (pv 1) (zaa zab zae)))))))
  (zaf (zap (i := 3) sc_g5.nd (by rfl) (by walk_at "o") (YC G_e4 hr_e4 (by rfl) T.m_e4 (zaa (pv 0) (zaa (pv 2) (zaa (pv 1) (zaa (YC G_b0 hr_b0 (by rfl) T.m_b0 (zaa (pv 0) (zaa (pv 1) zae))) zae))))))
  (zaf (zap (i := 4) sc_g5.nd (by rfl) (by walk_at "o") (zal (ixA K) (pv 3) zab (fun _ _ => rfl)))
  (zaf (zap (i := 5) sc_g5.nd (by rfl) (by walk_at "o") (zal (ixA K) (pv 3) zab (fun _ _ => rfl)))
  (zaf (zap (i := 6) sc_g5.nd (by rfl) (by walk_at "o") (YC G_c3 hr_c3 (by rfl) T.m_c3 (zaa (pv 0) (zaa zab zae))))
  (zaf (zap (i := 7) sc_g5.nd (by rfl) (by walk_at "o") (YC G_g0 hr_g0 (by rfl) T.m_g0 (zaa (zao (za3 K) (pv 4) (zaB (zaa (zaE (zaa zab (zaa zas (zaa (zal (ixA K) (pv 2) zab (fun _ _ => rfl)) (zaa (zaE zae) zae))))) zae))) (zaa (zau (zay K) (by rfl) T.z_len yap (zaa (pv 4) zae)) (zaa (pv 5) zae)))))
  (zaf (zap (i := 8) sc_g5.nd (by rfl) (by walk_at "o") (zal (ixA K) (pv 7) zab (fun _ _ => rfl)))
  (zaf (za6 (PW.pt (zbz (zdj (zdi (pv 8))) (zby (zan (zdq K hu) (zao zax (pv 6) zab) zab (zav _))))) (zai (zap (i := 8) sc_g5.nd (by rfl) (by walk_at "o") (zal (ixA K) (pv 2) (zao zax (zao za1 (pv 6) zab) (zau (zay K) (by rfl) T.z_len yap (zaa (pv 2) zae))) (fun _ _ => rfl)))) zat)
  (zaf (zap (i := 9) sc_g5.nd (by rfl) (by walk_at "o") (zaB (zaa (zal (ixA K) (pv 3) zab (fun _ _ => rfl)) (zaa (pv 5) zae))))
  (zaf (za6 (zan (zdq K hu) (zao zax (zao za1 (pv 6) zab) zab) zab (zav _)) (zai (zap (i := 9) sc_g5.nd (by rfl) (by walk_at "o") (zaB (zaa (zao zbU (zao zax (YC G_c3 hr_c3 (by rfl) T.m_c3 (zaa (pv 0) (zaa zab zae))) (zao (za3 K) (zau (zay K) (by rfl) T.z_len yap (zaa (pv 4) zae)) zab)) zab) (zaa (zao zbU (zao zax (YC G_c3 hr_c3 (by rfl) T.m_c3 (zaa (pv 0) (zaa zab zae))) (zao (za3 K) (zau (zay K) (by rfl) T.z_len yap (zaa (pv 4) zae)) zab)) zab) zae))))) zat)
  (zaf (za6 (zan (zdq K hu) (zao zax (zao za1 (pv 6) zab) zab) zab (zav _)) (zai (zap (i := 9) sc_g5.nd (by rfl) (by walk_at "o") (zal (ixA K) (zaB (zaa (zaB (zaa (zal (ixA K) (pv 3) zab (fun _ _ => rfl)) zae)) (zaa (zaB (zaa (pv 5) (zaa (zal (ixA K) (pv 3) zab (fun _ _ => rfl)) zae))) (zaa (zaB (zaa (zal (ixA K) (pv 3) zab (fun _ _ => rfl)) (zaa (zal (ixA K) (zal (ixA K) (pv 1) zab (fun _ _ => rfl)) zab (fun _ _ => rfl)) zae))) (zaa (zaB (zaa (zal (ixA K) (pv 3) zab (fun _ _ => rfl)) (zaa (pv 5) (zaa (pv 5) zae)))) zae))))) (zao zax (zao za1 (pv 6) zab) zab) (fun _ _ => rfl)))) zat)
  (zaf (zbl (zb1 K yar PySem.F.slot_list_append yaw zaP (pv 4) (zaa (zaE (zaa zab (zaa zas (zaa (pv 8) (zaa (zaF (zaX K) (by rfl) T.z_tuple (by rfl) (zaa (pv 9) zae)) zae))))) zae)))
  (zaf (zap (i := 10) sc_g5.nd (by rfl) (by walk_at "o") (zaF (zaX K) (by rfl) T.z_tuple (by rfl) (zaa (pv 4) zae)))
  (zaf (zap (i := 11) sc_g5.nd (by rfl) (by walk_at "o") (YC G_f9 hr_f9 (by rfl) T.m_f9 (zaa (pv 10) zae)))
  (zaf (zap (i := 12) sc_g5.nd (by rfl) (by walk_at "o") (zao zbU (zau (zay K) (by rfl) T.z_len yap (zaa (pv 4) zae)) zab))
  (zaf (zap (i := 13) sc_g5.nd (by rfl) (by walk_at "o") (zaB (zaa (YC G_d6 hr_d6 (by rfl) T.m_d6 (zaa (pv 10) (zaa (pv 11) (zaa (pv 12) zae)))) (zaa (YC G_d6 hr_d6 (by rfl) T.m_d6 (zaa (pv 10) (zaa (pv 11) (zaa (pv 5) zae)))) zae))))
  (zaf (zap (i := 14) sc_g5.nd (by rfl) (by walk_at "o") (zaB (zaa (YC G_f6 hr_f6 (by rfl) T.m_f6 (zaa (pv 4) (zaa (pv 12) zae))) (zaa (YC G_g2 hr_g2 (by rfl) T.m_g2 (zaa (pv 4) (zaa (pv 5) zae))) zae))))
  (zaf (za6 (zan (zcz K hu) (zal (ixA K) (zal (ixA K) (pv 4) (pv 5) (fun _ _ => rfl)) zab (fun _ _ => rfl)) zas (zav _)) (zai (zap (i := 14) sc_g5.nd (by rfl) (by walk_at "o") (zao (za3 K) (zaR (slB K) (pv 14) zbd (zbe zab)) (zaR (slB K) (pv 13) (zbe zab) zbd)))) zat)
  (zaf (zap (i := 15) sc_g5.nd (by rfl) (by walk_at "o") (zaB (zaa (YC G_d6 hr_d6 (by rfl) T.m_d6 (zaa (pv 10) (zaa (pv 11) (zaa (pv 12) zae)))) (zaa (YC G_d6 hr_d6 (by rfl) T.m_d6 (zaa (pv 10) (zaa (pv 11) (zaa (pv 5) zae)))) zae))))
  (zai (zaq (zbB (zau (zdD K (by rfl)) (by rfl) T.z_all (by rfl) (zaa (zca 1 [] ["_law_one_here"] ⟨by rfl, by rfl, by rfl, by rfl, by rfl, by rfl, by rfl⟩ (by rfl) (zbF K (pv 13)) (fun _ _ _ _ => zaG (i := 0) (show List.Nodup (["_law_one_here"] : List Str) by decide +kernel) (by rfl) (Or.inl (by rfl)) (Or.inr (by rfl))) (zaO (by decide)) (fun _ _ _ _ => zbZ) (fun _ _ _ _ => (zau (zbb K "bool") (by rfl) T.z_isinstance (by rfl) (zaa (pv 0) (zaa (zbT (v := .ty "bool") (by rfl) T.z_bool (by rfl) (by rfl)) zae))))) zae)) (zbB (zaH (ziI K hu) (pv 13) (pv 14) (zav _)) (zbB (zaH (ziI K hu) (pv 15) (pv 14) (zav _)) (zcx (zaH (ziI K hu) (pv 10) (zaF (zaX K) (by rfl) T.z_tuple (by rfl) (zaa (pv 4) zae)) (zav _)))))))))))))))))))))))))))), ?_⟩
 walk_at "S";refine zaw (fun σ' H' => ∃ (dp np wp : Addr) (nm wd : List Str), Same H H' /\ Dr K H' dp np wp nm wd /\ σ' = [some (.ref a), some (.ref dp), none, none, none, none, none, none, none, none, none, none, none, none, none, none]) (fun N hN => ?_) fun σ' H1 hv => ?_
 ·walk_at "";exact ⟨a, ns, _, rfl, hS, hl, by decide, fun p np wp nm wd H1 s1 h1 h2 h3 h4 h5 h6 h7 => hN _ _ ⟨p, np, wp, nm, wd, s1, ⟨h1, h2, h3, h4, h5, h6, h7⟩, rfl⟩⟩
 obtain ⟨dp, np, wp, nm, wd, s1, hd, rfl⟩ := hv;refine zaw (fun σ' H' => ∃ (sa : Addr) (us : List V) (Ss : List Stm), Same H1 H' /\ Pk K H' sa us Ss /\ σ' = [some (.ref a), some (.ref dp), some (.ref sa), none, none, none, none, none, none, none, none, none, none, none, none, none]) (fun N hN => ?_) fun σ' H2 hv => ?_
 ·walk_at "";obtain ⟨n0, n1, n2, rfl⟩ : ∃ n0 n1 n2, nm = [n0, n1, n2] := by
   match nm, hd.three with
   | [n0, n1, n2], _ => exact ⟨n0, n1, n2, rfl⟩
  have ecut : cutV ([n0, n1, n2].map V.str) (some 1) none = [n1, n2].map V.str := zeE _ _;refine ⟨_, .inl (SqL.of hd.at'), _, i0, ?_⟩;rw [zik];refine ⟨_, .inl ⟨SqL.of hd.nat, fun p1 hp1 => ?_⟩⟩;rw [ecut];have t1 := zac hp1 (.lst ([n1, n2].map V.str));refine ⟨_, .inl (t1.seq (SqL.of hd.at')), _, i1, zar (show 2 <= 100000 by decide), fun p2 hp2 => ?_⟩;have t2 := zac hp2 (.lst [V.ref p1, .ref wp]);have t12 := t1.trans t2;refine ⟨a, p2, p1, wp, ns, _, _, [n1, n2], wd, rfl, (s1.trans t12).seq hS, hl, by decide, by decide, by decide, zad, zbv hp2 zad, t12 _ _ hd.wat, by simp, hd.three', fun t h => hd.ok t (List.mem_cons_of_mem _ h), hd.wok, fun q1 S1 u1 H2 s2 h1 r1 l1 o1 => ?_⟩;have t := t12.trans s2;have hd2 := hd.same t;refine ⟨a, dp, np, wp, ns, _, _, [n0, n1, n2], wd, rfl, (s1.trans t).seq hS, hl, by decide, by decide, by decide, hd2.at', hd2.nat, hd2.wat, by simp, hd.three', hd.ok, hd.wok, fun q2 S2 u2 H3 s3 h2 r2 l2 o2 => ?_⟩;show zha K (.ref q1) (.ref q2) H3 _;rw [zeA];have e1 := Paired.length r1;have e2 := Paired.length r2;have l1' : S1.length = 2 := l1;have l2' : S2.length = 1 := l2;refine ⟨_, _, .inl ⟨s3 _ _ h1, h2, zar (by omega), fun q3 hq3 => ?_⟩⟩;have t3 := zac hq3 (.lst (u1 ++ u2));have happ : ∀ {A B : List Stm} {x y : List V} {H : Hp}, RepL K H A x -> RepL K H B y -> RepL K H (A ++ B) (x ++ y) := fun {A B x y H} ha hb => by
   induction ha with
   | nil => exact hb
   | cons h _ ih => exact .cons h ih
  refine hN _ _ ⟨q3, u1 ++ u2, S1 ++ S2, (t.trans s3).trans t3, ⟨SqL.of zad, happ (r1.same (s3.trans t3)) (r2.same t3), by rw [yae]; omega, by rw [yae]; omega, fun S h => ?_⟩, rfl⟩;rcases yay.mp h with z | z
  ·exact .of (o1 S z)
  ·exact .of (o2 S z)
 obtain ⟨sa, us, Ss, s2, hk, rfl⟩ := hv;replace hd := hd.same s2;replace s2 := s1.trans s2;clear s1;have hpos := hk.pos;refine zaw (fun σ' H' => ∃ (r lp : Addr) (L : Nat -> Ln) (ls : List V) (b : Nat) (m : Int), PL K H2 H' lp L ls /\ SqL K H' r [.ref lp, .int b, .int m] /\ b < ls.length /\ ls.length <= 16 /\ opn (L b).ru = true /\ (L b).lev = 1 /\ (¬ (L b).ru = "new" -> (L b).st ≠ none) /\ σ' = [some (.ref a), some (.ref dp), some (.ref sa), some (.ref r), none, none, none, none, none, none, none, none, none, none, none, none]) (fun N hN => ?_) fun σ' H3 hv => ?_
 ·walk_at "";refine ⟨a, dp, np, wp, ns, nm, wd, rfl, s2.seq hS, hl, hd, fun v q X B H3 s3 rv oB hX => ?_⟩;exact ⟨a, sa, dp, np, wp, v, ns, us, Ss, nm, wd, q, X, B, rfl, (s2.trans s3).seq hS, hl, hk.same s3, hd.same s3, rv, oB, hX, fun r lp L ls b m H' g h1 h2 h3 h4 h5 h6 => hN _ _ ⟨r, lp, L, ls, b, m, ⟨s3.trans g.same, (by
   cases e : H2 lp with
   | none => rfl
   | some z => have := s3 _ _ e; rw [g.l0] at this; cases this), g.lat, g.rep, g.ok⟩, h1, h2, h3, h4, h5, h6, rfl⟩⟩
 obtain ⟨r, lp, L, ls, b, m, g3, hr3, hb, hl16, hop, hlev, hst, rfl⟩ := hv;refine zaw (fun σ' H' => H' = H3 /\ σ' = [some (.ref a), some (.ref dp), some (.ref sa), some (.ref r), some (.ref lp), none, none, none, none, none, none, none, none, none, none, none]) (fun N hN => ?_) fun σ' H4 hv => ?_
 ·walk_at "";exact ⟨_, .inl hr3, _, i0, hN _ _ ⟨rfl, rfl⟩⟩
 obtain ⟨rfl, rfl⟩ := hv;refine zaw (fun σ' H' => H' = H4 /\ σ' = [some (.ref a), some (.ref dp), some (.ref sa), some (.ref r), some (.ref lp), some (.int b), none, none, none, none, none, none, none, none, none, none]) (fun N hN => ?_) fun σ' H5 hv => ?_
 ·walk_at "";exact ⟨_, .inl hr3, _, i1, hN _ _ ⟨rfl, rfl⟩⟩
 obtain ⟨rfl, rfl⟩ := hv;refine zaw (fun σ' H' => H' = H5 /\ ∃ c : Int, 0 <= c /\ σ' = [some (.ref a), some (.ref dp), some (.ref sa), some (.ref r), some (.ref lp), some (.int b), some (.int c), none, none, none, none, none, none, none, none, none]) (fun N hN => ?_) fun σ' H6 hv => ?_
 ·walk_at "";exact ⟨a, ns, _, rfl, (s2.trans g3.same).seq hS, hl, by decide, fun c c0 c1 => hN _ _ ⟨rfl, c, c0, rfl⟩⟩
 obtain ⟨rfl, c, c0, rfl⟩ := hv;have hk1 := hk.same g3.same;refine zaw (fun σ' H' => Same H6 H' /\ ∃ (bp : Addr) (x1 x2 x3 v : V) (o : Option Stm), SqL K H' bp [x1, x2, x3, v] /\ RepOS K H' o v /\ (∀ S, o = some S -> StW S) /\ σ' = [some (.ref a), some (.ref dp), some (.ref sa), some (.ref r), some (.ref lp), some (.int b), some (.int c), some (.ref bp), none, none, none, none, none, none, none, none]) (fun N hN => ?_) fun σ' H7 hv => ?_
 ·walk_at "";obtain ⟨u, S, e, r, o⟩ := hk1.pick 0;rw [Int.zero_emod] at e;refine ⟨_, .inl hk1.at', _, e, yaq _, fun p1 hp1 => ⟨zar (show 4 <= 100000 by decide), fun p2 hp2 => ⟨zar (show 1 <= 100000 by decide), fun p3 hp3 => ?_⟩⟩⟩;have t1 := zac hp1 (.tup []);have t2 := zac hp2 (.tup [V.int 0, .str "any", u, .ref p1]);have t3 := zac hp3 (.lst [V.ref p2]);have t13 := (t1.trans t2).trans t3;refine ⟨_, _, .inl ⟨t13 _ _ g3.lat, zad, zar (by simp; omega), fun p4 hp4 => ?_⟩⟩;have t4 := zac hp4 (.lst (ls ++ [V.ref p2]));have t14 := t13.trans t4;have hrm := g3.ok.room;have hL := g3.ok.snoc ⟨0, "any", some S, []⟩ ⟨fun S e => (by cases e; exact o), fun z => absurd z zkv, by simp, by simp⟩ (by show (o1 "any" : Int) <= 0 /\ (0 : Int) <= _ + (o1 "any" : Int) /\ (0 : Int) <= 60; rw [zku]; omega);have hx : RepN K (upd (upd (upd (upd H6 p1 (.tup [])) p2 (.tup [V.int 0, .str "any", u, .ref p1])) p3 (.lst [V.ref p2])) p4 (.lst (ls ++ [V.ref p2]))) ⟨0, "any", some S, []⟩ (.ref p2) := ⟨p2, u, p1, rfl, (t3.trans t4).seqT (SqT.of zad), RepS.same (S := S) t14 r, ((t2.trans t3).trans t4).seqT (SqT.of zad)⟩
  have hl2 : (ls ++ [V.ref p2]).length = ls.length + 1 := by simp
  have hA := zkw (K := K) (H := upd (upd (upd (upd H6 p1 (.tup [])) p2 (.tup [V.int 0, .str "any", u, .ref p1])) p3 (.lst [V.ref p2])) p4 (.lst (ls ++ [V.ref p2]))) (a := p4) (SqL.of zad) ((g3.rep.same t14).snoc hx) (by rw [hl2]; exact hL.lv) (by rw [hl2]; omega);refine ⟨_, .inl (t14.seq (SqL.of g3.lat)), ?_⟩;refine ⟨p4, ls ++ [V.ref p2], _, _, _, ls.length, .n b, rfl, by rw [hl2]; omega, hA, fun H5 v s5 hv => ?_⟩;rw [hl2, zn3 hb (by omega) (by rw [zb9 hb]; exact hop) (by rw [zb9 hb]; exact hlev) (by rw [zbR]) (by rw [zbR]; show opn "any" = false; decide +kernel)] at hv;obtain ⟨bp, x1, x3, y, rfl, h1, h2, h3, h4⟩ := hv;refine hN _ _ ⟨t14.trans s5, bp, _, _, _, _, _, h1, h4, fun S' e' => (hL.ok _ ?_).st S' e', rfl⟩;exact zd0 _ _ _ _ _ _ _ (by omega) (by omega)
 obtain ⟨s7, bp, x1, x2, x3, v, o, hbp, rv, hos, rfl⟩ := hv;refine zaw (fun σ' H' => H' = H7 /\ σ' = [some (.ref a), some (.ref dp), some (.ref sa), some (.ref r), some (.ref lp), some (.int b), some (.int c), some (.ref bp), some v, none, none, none, none, none, none, none]) (fun N hN => ?_) fun σ' H8 hv => ?_
 ·walk_at "";exact ⟨_, .inl hbp, _, i3, hN _ _ ⟨rfl, rfl⟩⟩
 obtain ⟨rfl, rfl⟩ := hv;have hk8 := hk1.same s7;refine zaw (fun σ' H' => H' = H8 /\ ∃ (S : Stm) (v : V), RepS K H' S v /\ StW S /\ σ' = [some (.ref a), some (.ref dp), some (.ref sa), some (.ref r), some (.ref lp), some (.int b), some (.int c), some (.ref bp), some v, none, none, none, none, none, none, none]) (fun N hN => ?_) fun σ' H9 hv => ?_
 ·walk_at "";have pk : CDiv c 6 /\ ∃ xs, (SqL K H8 sa xs \/ SqT K H8 sa xs) /\ 0 < (xs.length : Int) /\ ∃ xs1, (SqL K H8 sa xs1 \/ SqT K H8 sa xs1) /\ ∃ v1, atI xs1 (c / 6 % (xs.length : Int)) = some v1 /\ N [some (.ref a), some (.ref dp), some (.ref sa), some (.ref r), some (.ref lp), some (.int b), some (.int c), some (.ref bp), some v1, none, none, none, none, none, none, none] H8 := by
   obtain ⟨u, S, e, r, o⟩ := hk8.pick (c / 6);exact ⟨cdiv, _, .inl hk8.at', by omega, _, .inl hk8.at', _, e, hN _ _ ⟨rfl, S, u, r, o, rfl⟩⟩
  cases o with
  | none =>
   cases (show v = .non from rv);rw [if_pos rfl];exact pk
  | some S =>
   have rS : RepS K H8 S v := rv;have hvn : ¬ v = .non := fun z => by obtain ⟨aa, xs, e, _⟩ := rS.tag; rw [z] at e; cases e
   rw [if_neg hvn];exact ⟨by decide, ite2 (fun _ => pk) fun _ => hN _ _ ⟨rfl, S, v, rS, hos S rfl, rfl⟩⟩
 clear rv hos hbp o v;obtain ⟨rfl, S0, v, rS, oS, rfl⟩ := hv;have g9 := g3.next s7;replace hr3 := s7.seq hr3;refine zaw (fun σ' H' => Same H9 H' /\ ∃ (rp : Addr) (Rs : List Rf), SqL K H' rp (Rs.map Rf.v) /\ Rs.length <= 3 /\ (∀ R ∈ Rs, R.sm /\ noB R) /\ σ' = sZ a dp sa r lp b c bp v rp [none, none, none, none, none, none]) (fun N hN => ?_) fun σ' H10 hv => ?_
 ·walk_at "";exact ⟨_, .inl hr3, _, i2, zar (show 2 <= 100000 by decide), fun p hp => hN _ _ ⟨zac hp _, p, [.n m, .n b], SqL.of zad, by simp, by simp [Rf.sm, noB], rfl⟩⟩
 obtain ⟨s10, rp, Rs, hrp, hRl, hRs, rfl⟩ := hv;refine zaw (fun σ' H' => Same H9 H' /\ ∃ (rp : Addr) (Rs : List Rf), SqL K H' rp (Rs.map Rf.v) /\ Rs.length <= 3 /\ (∀ R ∈ Rs, R.sm /\ noB R) /\ σ' = sZ a dp sa r lp b c bp v rp [none, none, none, none, none, none]) (fun N hN => ?_) fun σ' H11 hv => ?_
 ·walk_at "";refine ⟨cdiv, by decide, ite2 (fun _ => ?_) fun _ => hN _ _ ⟨s10, rp, Rs, hrp, hRl, hRs, rfl⟩⟩;have hS10 := ((s2.trans g9.same).trans s10).seq hS;refine ⟨a, ns, _, rfl, hS10, hl, by decide, fun c1 _ _ => ⟨_, .inl (SqL.of (s10 _ _ g9.lat)), ?_⟩⟩;walk_at "t";refine ⟨by omega, a, ns, _, rfl, hS10, hl, by decide, fun c2 _ _ => ⟨_, .inl (SqL.of (s10 _ _ g9.lat)), ?_⟩⟩;walk_at "t";exact ⟨by omega, zar (show 2 <= 100000 by decide), fun p hp => hN _ _ ⟨s10.trans (zac hp _), p, [.n _, .n _], SqL.of zad, by simp, by simp [Rf.sm, noB], rfl⟩⟩
 clear s10 hrp hRl hRs Rs rp;obtain ⟨s11, rp, Rs, hrp, hRl, hRs, rfl⟩ := hv;refine zaw (fun σ' H' => Same H9 H' /\ ∃ (rp : Addr) (Rs : List Rf), SqL K H' rp (Rs.map Rf.v) /\ Rs.length <= 3 /\ (∀ R ∈ Rs, R.sm /\ noB R) /\ σ' = sZ a dp sa r lp b c bp v rp [none, none, none, none, none, none]) (fun N hN => ?_) fun σ' H12 hv => ?_
 ·walk_at "";refine ⟨cdiv, by decide, ite2 (fun _ => ?_) fun _ => hN _ _ ⟨s11, rp, Rs, hrp, hRl, hRs, rfl⟩⟩;have hr11 := s11.seq hr3;have hd11 := hd.same (g9.same.trans s11);obtain ⟨t, et, tl⟩ := hd.pick 0;rw [show (0 : Int) % 3 = 0 from rfl] at et;refine ⟨_, .inl hr11, _, i2, zar (show 1 <= 100000 by decide), fun p1 hp1 => ?_⟩;have t1 := zac hp1 (.lst [V.int m]);refine ⟨_, .inl (t1.seq hr11), _, i2, zar (show 2 <= 100000 by decide), fun p2 hp2 => ?_⟩;have t2 := zac hp2 (.lst [V.int b, .int m]);have t12 := t1.trans t2;refine ⟨_, .inl (t12.seq hr11), _, i2, _, .inl (SqL.of (t12 _ _ hd11.at')), _, i0, ?_⟩;rw [zdt];refine ⟨_, .inl (SqL.of (t12 _ _ hd11.nat)), _, et, zar (show 2 <= 100000 by decide), fun p3 hp3 => ?_⟩;have t3 := zac hp3 (.lst [V.int m, .str t]);have t13 := t12.trans t3;refine ⟨_, .inl (t13.seq hr11), _, i2, zar (show 3 <= 100000 by decide), fun p4 hp4 => ⟨zar (show 4 <= 100000 by decide), fun p5 hp5 => ⟨cdiv, by decide, _, .inl (SqL.of zad), ?_⟩⟩⟩;have t4 := zac hp4 (.lst [V.int m, .int b, .int b]);have t5 := zac hp5 (.lst [V.ref p1, .ref p2, .ref p3, .ref p4]);have t15 := (t13.trans t4).trans t5;have v0 := yao (c / 108) (show (4 : Int) ≠ 0 by decide);have v1 := yak (c / 108) (show (0 : Int) < 4 by decide);generalize c / 108 % 4 = j at v0 v1;obtain rfl | rfl | rfl | rfl : j = 0 \/ j = 1 \/ j = 2 \/ j = 3 := by omega
  ·exact ⟨_, i0, hN _ _ ⟨s11.trans t15, p1, [.n m], (((t2.trans t3).trans t4).trans t5).seq (SqL.of zad), by simp, by simp [Rf.sm, noB], rfl⟩⟩
  ·exact ⟨_, i1, hN _ _ ⟨s11.trans t15, p2, [.n b, .n m], ((t3.trans t4).trans t5).seq (SqL.of zad), by simp, by simp [Rf.sm, noB], rfl⟩⟩
  ·refine ⟨_, i2, hN _ _ ⟨s11.trans t15, p3, [.n m, .s t], (t4.trans t5).seq (SqL.of zad), by simp, fun R hR => ?_, rfl⟩⟩;simp only [List.mem_cons, List.not_mem_nil, or_false] at hR;rcases hR with rfl | rfl
   ·exact ⟨trivial, trivial⟩
   ·exact ⟨yat tl.len.1 (by decide), trivial⟩
  ·exact ⟨_, i3, hN _ _ ⟨s11.trans t15, p4, [.n m, .n b, .n b], t5.seq (SqL.of zad), by simp, by simp [Rf.sm, noB], rfl⟩⟩
 clear s11 hrp hRl hRs Rs rp;obtain ⟨s12, rp, Rs, hrp, hRl, hRs, rfl⟩ := hv;have g12 := g9.next s12;replace rS := rS.same s12;refine zaw (fun σ' H' => Same H2 H' /\ ∃ L ls n S0, Z8 K H' lp L ls n b S0 /\ σ' = sZ a dp sa r lp b c bp v rp [none, none, none, none, none, none]) (fun N hN => ?_) fun σ' H13 hv => ?_
 ·walk_at "";refine ⟨⟨_, SqL.of g12.lat⟩, _, .inl ⟨hrp, fun p hp => ⟨zar (show 4 <= 100000 by decide), fun q hq => ?_⟩⟩⟩;have t1 := zac hp (.tup (Rs.map Rf.v));have hrm := g12.ok.room;obtain ⟨z1, z2, z3⟩ := (g12.next t1).push ⟨0, "one", some S0, Rs⟩ (v := v) (rp := p) (RepS.same (S := S0) t1 rS) (SqT.of zad) ⟨fun S e => (by cases e; exact oS), fun z => absurd z znz, hRl, hRs⟩ (by show (o1 "one" : Int) <= 0 /\ (0 : Int) <= _ + (o1 "one" : Int) /\ (0 : Int) <= 60; rw [zny]; omega) (by omega) hq;refine ⟨_, z1, z2, hN _ _ ⟨z3.same, _, _, ls.length, S0, ⟨SqL.of z3.lat, z3.rep, by simp, by omega, hb, z3.ok.lv, fun i hi => z3.ok.ok i (by simpa using hi), by rw [zbR], by rw [zbR], by rw [zb9 hb]; exact hop, by rw [zb9 hb]; exact hst⟩, rfl⟩⟩
 clear g12 g9 rS hrp hRl hRs s12 oS g3 hr3 hb hl16 hop hlev hst L ls S0 hk1 hk8 s7;obtain ⟨s13, L, ls, n, S0, hZ, rfl⟩ := hv;have hlv : LvL L ls.length := hZ.lv;have hvo := hlv.ok;have Qe := hZ.len;have hfew := hZ.few;have hbn := hZ.bn;refine zaw (fun σ' H' => Same H13 H' /\ ∃ hp, SqT K H' hp ls /\ σ' = sZ a dp sa r lp b c bp v rp [some (.ref hp), none, none, none, none, none]) (fun N hN => ?_) fun σ' H14 hv => ?_
 ·walk_at "";exact ⟨_, .inl ⟨hZ.at', fun l hl' => hN _ _ ⟨zac hl' _, l, SqT.of zad, rfl⟩⟩⟩
 obtain ⟨s14, hp, hhp, rfl⟩ := hv;replace hZ := hZ.same s14;clear s14 s13 s2 hk hd hS;refine zaw (fun σ' H' => Same H14 H' /\ ∃ ba ps, LnsAt K H' hp ba ls ps L (Qg L ls.length) (Qf L) /\ σ' = sZ a dp sa r lp b c bp v rp [some (.ref hp), some (.ref ba), none, none, none, none]) (fun N hN => ?_) fun σ' H7 hv => ?_
 ·walk_at "";have hfit : ∀ i, i <= ls.length -> zbJ (fun i => ((Qf L i : Int), (Qg L ls.length).getD i "")) i = some (Qc (Qg L ls.length) (Qf L) i) := fun i hi => zg0 hvo i hi fun j _ => rfl;refine ⟨hp, ls, _, rfl, hhp, RepNs.ln hZ.rep fun i hi => hlv.at hi, by omega, by rw [hfit _ (yai _)]; simp, fun b ps H' s' hb hpl hP => hN _ _ ⟨s', b, ps, ⟨s'.seqT hhp, hZ.rep.same s', hb, fun i u hu => ?_, hpl.symm, fun i hi => (hlv.at (by omega)).2, fun i hi => (hZ.ok i (by omega)).nw, by omega⟩, rfl⟩⟩;have hi : i < ls.length := by have := (yag.mp hu).1; omega
  obtain ⟨aa, e, hs⟩ := hP i u hu;refine ⟨aa, e, ?_⟩;have e2 : (zbJ (fun i => ((Qf L i : Int), (Qg L ls.length).getD i "")) (i + 1)).getD [] = Qc (Qg L ls.length) (Qf L) (i + 1) := by rw [hfit (i + 1) (by omega)]; rfl
  show SqT K H' aa (iv (Qc (Qg L ls.length) (Qf L) (i + 1)));rw [<- e2];exact hs
 obtain ⟨s7, ba, ps, hA, rfl⟩ := hv;replace hZ := hZ.same s7;clear s7 hhp;have hpl : ps.length = ls.length := hA.len.symm;have oN := hZ.ok n (by omega);have oS := oN.st S0 hZ.st;obtain ⟨F, hF⟩ : ∃ F, ansW L (fun i => Qc (Qg L ls.length) (Qf L) (i + 1)) ls.length n [false, true] fOne S0 = F := ⟨_, rfl⟩
 have hokO : ∀ i, i < ps.length -> okO (L i).st := fun i hi => hZ.okO i (by omega);have hfolK : ∀ (H' : Hp) (Q' : VK), Same H7 H' -> (∀ H2, Same H' H2 -> Q' (.bl F) H2) -> zdT D K [.ref hp, .ref ba, .int n] H' Q' E0 := fun H' Q' s' kk =>
  ⟨n, hp, ba, ls, ps, L, _, _, rfl, hA.same s', by omega, yat oN.rs (by decide), fun R' hR' => (oN.rf R' hR').1, hokO, hZ.rr, hZ.lnH (yai _), .inl ⟨hZ.ru, S0, hZ.st, oS.1.mono (by decide), yat oS.2 (by decide), fun H2 s2 => by rw [hpl, hF]; exact kk H2 s2⟩⟩
 have hfolB : ∀ (H' : Hp) (Q' : VK), Same H7 H' -> (∀ t H2, Same H' H2 -> tellB L b t -> Q' (.bl t) H2) -> zdT D K [.ref hp, .ref ba, .int b] H' Q' E0 := fun H' Q' s' kk => by
  have ob := hZ.ok b (by omega);refine ⟨b, hp, ba, ls, ps, L, _, _, rfl, hA.same s', by omega, yat ob.rs (by decide), fun R' hR' => (ob.rf R' hR').1, hokO, fun i hi => hZ.rr i (by omega), hZ.lnH (by omega), .inr ?_⟩;rcases opn_three hZ.ob with z | z
  ·exact .inl ⟨z, ob.nw z, fun t H2 s2 ht => kk t H2 s2 (by unfold tellB; rw [if_pos z]; exact ht)⟩
  ·have hn : ¬ (L b).ru = "new" := by rcases z with z | z <;> (rw [z]; decide +kernel)
   refine .inr ⟨z, ?_, fun t H2 s2 ht => kk t H2 s2 (by unfold tellB; rw [if_neg hn]; exact ht)⟩;cases e : (L b).st with
   | none => exact absurd e (hZ.nb hn)
   | some S => exact ⟨S, rfl, (ob.st S e).1.mono (by decide)⟩
 refine zaw (fun σ' H' => H' = H7 /\ σ' = sZ a dp sa r lp b c bp v rp [some (.ref hp), some (.ref ba), some (.int n), none, none, none]) (fun N hN => ?_) fun σ' H8 hv => ?_
 ·walk_at "";refine ⟨_, .inl hZ.at', ?_⟩;rw [Qe, show ((n + 1 : Nat) : Int) - 1 = (n : Int) by omega];exact hN _ _ ⟨rfl, rfl⟩
 obtain ⟨rfl, rfl⟩ := hv;refine zaw (fun σ' H' => Same H8 H' /\ ∃ (fp : Addr) (B : Bool), H' fp = some (.lst ([F, B].map V.bl)) /\ tellB L b B /\ σ' = sZ a dp sa r lp b c bp v rp [some (.ref hp), some (.ref ba), some (.int n), some (.ref fp), none, none]) (fun N hN => ?_) fun σ' H10 hv => ?_
 ·walk_at "";exact hfolK H8 _ (Same.refl _) fun H10 s10 => hfolB H10 _ s10 fun B H11 s11 hB => ⟨zar (show 2 <= 100000 by decide), fun p hp' => hN _ _ ⟨(s10.trans s11).trans (zac hp' _), p, B, zad, hB, rfl⟩⟩
 obtain ⟨s10, fp, B, hfp, hB, rfl⟩ := hv;refine zaw (fun σ' H' => Same H10 H' /\ ∃ (dp' : Addr) (G : Bool), H' dp' = some (.lst ([F, G].map V.bl)) /\ newB L b G /\ σ' = sZ a dp sa r lp b c bp v rp [some (.ref hp), some (.ref ba), some (.int n), some (.ref fp), some (.ref dp'), none]) (fun N hN => ?_) fun σ' H11 hv => ?_
 ·walk_at "";have hZ10 := hZ.same s10;refine ⟨lp, ls, L, _, _, n, S0, rfl, by omega, zkw hZ10.at' hZ10.rep hlv (by omega), hZ.st, oS.1.1, yat oS.1.2.1 (by decide), hZ.okO, hZ.rr, fun H9 s9 => ?_⟩;rw [hF];have hZ9 := hZ10.same s9;refine ⟨lp, ls, L, b, rfl, hZ9.at', hZ9.rep, by omega, by omega, fun R' hR' => ((hZ.ok b (by omega)).rf R' hR').1, fun i hi => hZ.rr i (by omega), hZ.lnH (by omega), fun G H12 s12 hG => ⟨zar (show 2 <= 100000 by decide), fun p hp' => ?_⟩⟩;exact hN _ _ ⟨(s9.trans s12).trans (zac hp' _), p, G, zad, hG, rfl⟩
 obtain ⟨s11, dq, G, hdq, hG, rfl⟩ := hv;replace hfp := s11 _ _ hfp;replace s11 := s10.trans s11;clear s10;obtain ⟨lv, hlvb⟩ : ∃ v, ls[b]? = some v := ⟨_, yal (by omega)⟩
 obtain ⟨a0, x0, b0, rfl, q1, q2, q3⟩ := hZ.rep b lv hlvb;refine zaw (fun σ' H' => Same H11 H' /\ ∃ (dq : Addr), H' dq = some (.lst ([F, B].map V.bl)) /\ σ' = sZ a dp sa r lp b c bp v rp [some (.ref hp), some (.ref ba), some (.int n), some (.ref fp), some (.ref dq), none]) (fun N hN => ?_) fun σ' H12 hv => ?_
 ·walk_at "";refine ⟨_, .inl (s11.seq hZ.at'), _, zag hlvb, ?_⟩;walk_at "t";refine ⟨_, .inr (s11.seqT q1), _, i1, ?_⟩;walk_at "t";refine ite2 (fun c => ?_) fun c => ?_
  ·refine ⟨_, .inl ⟨SqL.of hdq, fun p1 hp1 => ⟨_, .inl ⟨(zac hp1 _).seq (SqL.of hfp), fun p2 hp2 => ?_⟩⟩⟩⟩;refine ⟨_, _, .inl ⟨zbv hp2 zad, zad, zar (show 2 <= 100000 by decide), fun p3 hp3 => hN _ _ ⟨((zac hp1 _).trans (zac hp2 _)).trans (zac hp3 _), p3, ?_, rfl⟩⟩⟩;rw [zad]
   rfl
  ·have e : G = B := by
    have z : (L b).ru = "case" := yax c;unfold tellB fixB at hB;rw [if_neg (by rw [z]; decide +kernel), if_neg (by rw [z]; decide +kernel)] at hB;exact hG.one hB
   rw [e] at hdq;exact hN _ _ ⟨Same.refl _, dq, hdq, rfl⟩
 clear hdq hG G;obtain ⟨s12, dq, hdq, rfl⟩ := hv;replace hfp := s12 _ _ hfp;replace s11 := s11.trans s12;clear s12;refine zaw (fun σ' H' => Same H12 H' /\ ∃ (gp : Addr), H' gp = some (.lst ([F, B].map V.bl)) /\ σ' = sZ a dp sa r lp b c bp v rp [some (.ref hp), some (.ref ba), some (.int n), some (.ref fp), some (.ref dq), some (.ref gp)]) (fun N hN => ?_) fun σ' H15 hv => ?_
 ·walk_at "";exact hfolK H12 _ s11 fun H13 s13 => hfolB H13 _ (s11.trans s13) fun B' H14 s14 hB' => ⟨zar (show 2 <= 100000 by decide), fun p hp' => hN _ _ ⟨(s13.trans s14).trans (zac hp' _), p, by rw [hB'.one hB]; exact zad, rfl⟩⟩
 obtain ⟨s12, gp, hgp, rfl⟩ := hv;walk_at "";refine .inl ⟨⟨_, SqL.of (s12 _ _ hfp)⟩, ?_⟩;refine zcL (xs := [F, B].map V.bl) (fun i acc H' => Same H15 H' /\ acc = ((List.range i).map fun _ => true).map V.bl) ⟨Same.refl _, rfl⟩ (fun i acc H' _ hv => SqL.of ((s12.trans hv.1) _ _ hfp)) (fun i x acc H' hx hv => ?_) fun acc H' hv p hp' => ?_
 ·obtain ⟨s13, rfl⟩ := hv;have hi : i < 2 := (yag.mp hx).1;obtain ⟨t, rfl⟩ : ∃ t, x = .bl t := ⟨_, zln (H := H) hx⟩
  refine ⟨zaQ (by rw [yaf, yaf, List.length_range]; omega), ?_⟩;walk_at "T";walk_at "";refine ⟨true, rfl, s13, ?_⟩;rw [List.range_succ, ya0, ya0]
  rfl
 ·obtain ⟨s13, rfl⟩ := hv;walk_at "t";have s14' := s13.trans (zac hp' (.lst (((List.range ([F, B].map V.bl).length).map fun _ => true).map V.bl)));have s14 := s12.trans s14';refine ⟨_, SqL.of zad, ?_⟩;have ea : (((List.range ([F, B].map V.bl).length).map fun _ => true).all id) = true := rfl;rw [ea, if_pos rfl];refine .inl ⟨fp, dq, [F, B], [F, B], rfl, rfl, SqL.of (s14 _ _ hfp), SqL.of (s14 _ _ hdq), rfl, true, by rw [all2], ?_⟩;rw [if_pos rfl];refine .inl ⟨gp, dq, [F, B], [F, B], rfl, rfl, SqL.of (s14' _ _ hgp), SqL.of (s14 _ _ hdq), rfl, true, by rw [all2], ?_⟩;rw [if_pos rfl];have s15 := s11.trans s14;refine ⟨ls, .inl ⟨s15.seq hZ.at', fun l hl' => .inr ⟨hp, l, ls, rfl, rfl, (s15.trans (zac hl' _)).seqT hA.l, SqT.of zad, fun x hx => ?_, k _⟩⟩⟩;obtain ⟨i, hi⟩ := List.getElem?_of_mem hx;obtain ⟨aa, _, _, e, _⟩ := hZ.rep i x hi;exact ⟨aa, e⟩
end
local macro_rules | `(tactic| walk_at "b1") => `(tactic| exact fun _ _ _ _ _ _ us hl => match us, hl with | [_], _ => rfl)
local macro_rules | `(tactic| walk_at "b2") => `(tactic| exact fun _ _ _ _ _ _ us hl => match us, hl with | [_, _], _ => rfl)
local macro_rules | `(tactic| walk_at "b3") => `(tactic| exact fun _ _ _ _ _ _ us hl => match us, hl with | [_, _, _], _ => rfl)
local macro_rules | `(tactic| walk_at "b4") => `(tactic| exact fun _ _ _ _ _ _ us hl => match us, hl with | [_, _, _, _], _ => rfl)
abbrev LK (K : W.Frag) (f : Addr) (oc : Value) (od : Option Addr) (n q : Str) (s : Stmt) (kV dc pm : Value) (an : Option Addr) (cd ct : Value) (sl : Array (Option Value)) : Prop := K.lookup f = some ⟨oc, od, .func (W.fnOf n q (zak s) (zaj s) (zah s) .none kV dc pm an cd ct), sl⟩
theorem TQ {K : W.Frag} {a x y : Addr} {d n s} (h : K.lookup a = some ⟨.type "tuple", d, .seq #[.ref x, .ref y] n, s⟩) (H : Hp) : SqT K H a [.ref x, .ref y] := .inr ⟨_, _, _, h, rfl, rfl, (by show 2 <= sizeLine; decide), .cons rfl (.cons rfl .nil)⟩
theorem TV1 {K : W.Frag} {a : Addr} {x : Str} {u : Tok} {d n s} (h : K.lookup a = some ⟨.type "tuple", d, .seq #[Value.str x u] n, s⟩) (H : Hp) : SqT K H a [.str x] := .inr ⟨_, _, _, h, rfl, rfl, (by show 1 <= sizeLine; decide), (.cons ⟨_, rfl⟩ .nil)⟩
theorem TV2 {K : W.Frag} {a : Addr} {x y : Str} {u v : Tok} {d n s} (h : K.lookup a = some ⟨.type "tuple", d, .seq #[Value.str x u, Value.str y v] n, s⟩) (H : Hp) : SqT K H a [.str x, .str y] := .inr ⟨_, _, _, h, rfl, rfl, (by show 2 <= sizeLine; decide), (.cons ⟨_, rfl⟩ (.cons ⟨_, rfl⟩ .nil))⟩
theorem TV3 {K : W.Frag} {a : Addr} {x y z : Str} {u v w : Tok} {d n s} (h : K.lookup a = some ⟨.type "tuple", d, .seq #[Value.str x u, Value.str y v, Value.str z w] n, s⟩) (H : Hp) : SqT K H a [.str x, .str y, .str z] := .inr ⟨_, _, _, h, rfl, rfl, (by show 3 <= sizeLine; decide), (.cons ⟨_, rfl⟩ (.cons ⟨_, rfl⟩ (.cons ⟨_, rfl⟩ .nil)))⟩
abbrev NI (K : W.Frag) (n : Str) (f : Addr) : Prop := W.nsIn K mainGlobals n = some (some (.ref f))
abbrev CI (K : W.Frag) (c : Value) (n : Str) : Prop := W.codeIn K c n = true
abbrev KI (K : W.Frag) (f : Addr) : Prop := W.keepIn K (.ref f) = true
abbrev TL (K : W.Frag) (a : Addr) (d : Option Addr) (x : Array Value) (n : Nat) (s : Array (Option Value)) : Prop := K.lookup a = some ⟨.type "tuple", d, .seq x n, s⟩
theorem all_mk {l : W.OpenLaw} {w : World} {K : W.Frag} {h : Heap} {mg : Str -> Option Value} {fa : Addr} (X : K.In h) (G : h.Ns mainGlobals mg) (hfa : mg "law" = some (.ref fa)) 
  {oC_Ahead : Addr} (oa_Ahead : NI K "Ahead" oC_Ahead)
  (a0 : NI K "seen" f0) (l0 : LK K f0 oc0 od0 "seen" "seen" zcQ kV0 dc0 pm0 an0 cd0 ct0 sl0) (c0 : CI K cd0 "seen") (k0 : KI K f0)
  (a1 : NI K "box_seen" f1) (l1 : LK K f1 oc1 od1 "box_seen" "box_seen" zbo kV1 dc1 pm1 an1 cd1 ct1 sl1) (c1 : CI K cd1 "box_seen") (k1 : KI K f1)
  (a2 : NI K "begins_with" f2) (l2 : LK K f2 oc2 od2 "begins_with" "begins_with" zaS kV2 dc2 pm2 an2 cd2 ct2 sl2) (c2 : CI K cd2 "begins_with") (k2 : KI K f2)
  (a3 : NI K "end_of" f3) (l3 : LK K f3 oc3 od3 "end_of" "end_of" zbK kV3 dc3 pm3 an3 cd3 ct3 sl3) (c3 : CI K cd3 "end_of") (k3 : KI K f3)
  (a4 : NI K "opens" f4) (l4 : LK K f4 oc4 od4 "opens" "opens" zcj kV4 dc4 pm4 an4 cd4 ct4 sl4) (c4 : CI K cd4 "opens") (k4 : KI K f4)
  (a5 : NI K "boxes" f5) (l5 : LK K f5 oc5 od5 "boxes" "boxes" zck kV5 dc5 pm5 an5 cd5 ct5 sl5) (c5 : CI K cd5 "boxes") (k5 : KI K f5)
  (a6 : NI K "fitting_boxes" f6) (l6 : LK K f6 oc6 od6 "fitting_boxes" "fitting_boxes" zaJ kV6 dc6 pm6 an6 cd6 ct6 sl6) (c6 : CI K cd6 "fitting_boxes") (k6 : KI K f6)
  (a7 : NI K "boxes_behind" f7) (l7 : LK K f7 oc7 od7 "boxes_behind" "boxes_behind" zaM kV7 dc7 pm7 an7 cd7 ct7 sl7) (c7 : CI K cd7 "boxes_behind") (k7 : KI K f7)
  (a8 : NI K "begins_and_goes_on" f8) (l8 : LK K f8 oc8 od8 "begins_and_goes_on" "begins_and_goes_on" za2 kV8 dc8 pm8 an8 cd8 ct8 sl8) (c8 : CI K cd8 "begins_and_goes_on") (k8 : KI K f8)
  (a9 : NI K "is_name" f9) (l9 : LK K f9 oc9 od9 "is_name" "is_name" zb3 kV9 dc9 pm9 an9 cd9 ct9 sl9) (c9 : CI K cd9 "is_name") (k9 : KI K f9)
  (a10 : NI K "is_letter" f10) (l10 : LK K f10 oc10 od10 "is_letter" "is_letter" zbg kV10 dc10 pm10 an10 cd10 ct10 sl10) (c10 : CI K cd10 "is_letter") (k10 : KI K f10)
  (a11 : NI K "parts" f11) (l11 : LK K f11 oc11 od11 "parts" "parts" zcl kV11 dc11 pm11 an11 cd11 ct11 sl11) (c11 : CI K cd11 "parts") (k11 : KI K f11)
  (a12 : NI K "terms_in" f12) (l12 : LK K f12 oc12 od12 "terms_in" "terms_in" zbp kV12 dc12 pm12 an12 cd12 ct12 sl12) (c12 : CI K cd12 "terms_in") (k12 : KI K f12)
  (a13 : NI K "names_in" f13) (l13 : LK K f13 oc13 od13 "names_in" "names_in" zbq kV13 dc13 pm13 an13 cd13 ct13 sl13) (c13 : CI K cd13 "names_in") (k13 : KI K f13)
  (a14 : NI K "free_terms_in" f14) (l14 : LK K f14 oc14 od14 "free_terms_in" "free_terms_in" zaK kV14 dc14 pm14 an14 cd14 ct14 sl14) (c14 : CI K cd14 "free_terms_in") (k14 : KI K f14)
  (a15 : NI K "free_in" f15) (l15 : LK K f15 oc15 od15 "free_in" "free_in" zb4 kV15 dc15 pm15 an15 cd15 ct15 sl15) (c15 : CI K cd15 "free_in") (k15 : KI K f15)
  (a16 : NI K "put" f16) (l16 : LK K f16 oc16 od16 "put" "put" zeG kV16 dc16 pm16 an16 cd16 ct16 sl16) (c16 : CI K cd16 "put") (k16 : KI K f16)
  (a17 : NI K "by_one" f17) (l17 : LK K f17 oc17 od17 "by_one" "by_one" zbL kV17 dc17 pm17 an17 cd17 ct17 sl17) (c17 : CI K cd17 "by_one") (k17 : KI K f17)
  (a18 : NI K "opened_with" f18) (l18 : LK K f18 oc18 od18 "opened_with" "opened_with" zaT kV18 dc18 pm18 an18 cd18 ct18 sl18) (c18 : CI K cd18 "opened_with") (k18 : KI K f18)
  (a19 : NI K "only_name" f19) (l19 : LK K f19 oc19 od19 "only_name" "only_name" zbh kV19 dc19 pm19 an19 cd19 ct19 sl19) (c19 : CI K cd19 "only_name") (k19 : KI K f19)
  (a20 : NI K "name_for" f20) (l20 : LK K f20 oc20 od20 "name_for" "name_for" zbr kV20 dc20 pm20 an20 cd20 ct20 sl20) (c20 : CI K cd20 "name_for") (k20 : KI K f20)
  (a21 : NI K "names_of" f21) (l21 : LK K f21 oc21 od21 "names_of" "names_of" zbs kV21 dc21 pm21 an21 cd21 ct21 sl21) (c21 : CI K cd21 "names_of") (k21 : KI K f21)
  (a22 : NI K "follows" f22) (l22 : LK K f22 oc22 od22 "follows" "follows" zb5 kV22 dc22 pm22 an22 cd22 ct22 sl22) (c22 : CI K cd22 "follows") (k22 : KI K f22)
  (a23 : NI K "follows_behind" f23) (l23 : LK K f23 oc23 od23 "follows_behind" "follows_behind" zaC kV23 dc23 pm23 an23 cd23 ct23 sl23) (c23 : CI K cd23 "follows_behind") (k23 : KI K f23)
  (a24 : NI K "fits_its_rule" f24) (l24 : LK K f24 oc24 od24 "fits_its_rule" "fits_its_rule" zaL kV24 dc24 pm24 an24 cd24 ct24 sl24) (c24 : CI K cd24 "fits_its_rule") (k24 : KI K f24)
  (a25 : NI K "follows_by" f25) (l25 : LK K f25 oc25 od25 "follows_by" "follows_by" zaY kV25 dc25 pm25 an25 cd25 ct25 sl25) (c25 : CI K cd25 "follows_by") (k25 : KI K f25)
  (a26 : NI K "stands_for" f26) (l26 : LK K f26 oc26 od26 "stands_for" "stands_for" zaZ kV26 dc26 pm26 an26 cd26 ct26 sl26) (c26 : CI K cd26 "stands_for") (k26 : KI K f26)
  (a27 : NI K "is_number_ahead" f27) (l27 : LK K f27 oc27 od27 "is_number_ahead" "is_number_ahead" zaA kV27 dc27 pm27 an27 cd27 ct27 sl27) (c27 : CI K cd27 "is_number_ahead") (k27 : KI K f27)
  (a28 : NI K "seen_box" f28) (l28 : LK K f28 oc28 od28 "seen_box" "seen_box" zbt kV28 dc28 pm28 an28 cd28 ct28 sl28) (c28 : CI K cd28 "seen_box") (k28 : KI K f28)
  (a29 : NI K "statement_of" f29) (l29 : LK K f29 oc29 od29 "statement_of" "statement_of" zaN kV29 dc29 pm29 an29 cd29 ct29 sl29) (c29 : CI K cd29 "statement_of") (k29 : KI K f29)
  (a30 : NI K "_law_cell_at" f30) (l30 : LK K f30 oc30 od30 "_law_cell_at" "_law_cell_at" zbi kV30 dc30 pm30 an30 cd30 ct30 sl30) (c30 : CI K cd30 "_law_cell_at") (k30 : KI K f30)
  (a31 : NI K "_law_name_by" f31) (l31 : LK K f31 oc31 od31 "_law_name_by" "_law_name_by" zbj kV31 dc31 pm31 an31 cd31 ct31 sl31) (c31 : CI K cd31 "_law_name_by") (k31 : KI K f31)
  (a32 : NI K "_law_letter_by" f32) (l32 : LK K f32 oc32 od32 "_law_letter_by" "_law_letter_by" zaU kV32 dc32 pm32 an32 cd32 ct32 sl32) (c32 : CI K cd32 "_law_letter_by") (k32 : KI K f32)
  (a33 : NI K "_law_made" f33) (l33 : LK K f33 oc33 od33 "_law_made" "_law_made" zbM kV33 dc33 pm33 an33 cd33 ct33 sl33) (c33 : CI K cd33 "_law_made") (k33 : KI K f33)
  (a34 : NI K "_law_draw" f34) (l34 : LK K f34 oc34 od34 "_law_draw" "_law_draw" zbN kV34 dc34 pm34 an34 cd34 ct34 sl34) (c34 : CI K cd34 "_law_draw") (k34 : KI K f34)
  (a35 : NI K "_law_some" f35) (l35 : LK K f35 oc35 od35 "_law_some" "_law_some" zbO kV35 dc35 pm35 an35 cd35 ct35 sl35) (c35 : CI K cd35 "_law_some") (k35 : KI K f35)
  (a36 : NI K "_law_paths" f36) (l36 : LK K f36 oc36 od36 "_law_paths" "_law_paths" zb6 kV36 dc36 pm36 an36 cd36 ct36 sl36) (c36 : CI K cd36 "_law_paths") (k36 : KI K f36)
  (a37 : NI K "_law_line" f37) (l37 : LK K f37 oc37 od37 "_law_line" "_law_line" zbP kV37 dc37 pm37 an37 cd37 ct37 sl37) (c37 : CI K cd37 "_law_line") (k37 : KI K f37)
  (a38 : NI K "_law_box" f38) (l38 : LK K f38 oc38 od38 "_law_box" "_law_box" zcm kV38 dc38 pm38 an38 cd38 ct38 sl38) (c38 : CI K cd38 "_law_box") (k38 : KI K f38)
  (a39 : NI K "_law_put" f39) (l39 : LK K f39 oc39 od39 "_law_put" "_law_put" zcn kV39 dc39 pm39 an39 cd39 ct39 sl39) (c39 : CI K cd39 "_law_put") (k39 : KI K f39)
  (a40 : NI K "_law_is_name" f40) (l40 : LK K f40 oc40 od40 "_law_is_name" "_law_is_name" zbk kV40 dc40 pm40 an40 cd40 ct40 sl40) (c40 : CI K cd40 "_law_is_name") (k40 : KI K f40)
  (a41 : NI K "_law_names" f41) (l41 : LK K f41 oc41 od41 "_law_names" "_law_names" zb7 kV41 dc41 pm41 an41 cd41 ct41 sl41) (c41 : CI K cd41 "_law_names") (k41 : KI K f41)
  (a42 : NI K "_law_new" f42) (l42 : LK K f42 oc42 od42 "_law_new" "_law_new" zco kV42 dc42 pm42 an42 cd42 ct42 sl42) (c42 : CI K cd42 "_law_new") (k42 : KI K f42)
  (a43 : NI K "_law_one" f43) (l43 : LK K f43 oc43 od43 "_law_one" "_law_one" zcp kV43 dc43 pm43 an43 cd43 ct43 sl43) (c43 : CI K cd43 "_law_one") (k43 : KI K f43)
  (a44 : NI K "_law_some_line" f44) (l44 : LK K f44 oc44 od44 "_law_some_line" "_law_some_line" zaV kV44 dc44 pm44 an44 cd44 ct44 sl44) (c44 : CI K cd44 "_law_some_line") (k44 : KI K f44)
  (a45 : NI K "_law_open" f45) (l45 : LK K f45 oc45 od45 "_law_open" "_law_open" zbQ kV45 dc45 pm45 an45 cd45 ct45 sl45) (c45 : CI K cd45 "_law_open") (k45 : KI K f45)
  (a46 : NI K "_law_lines" f46) (l46 : LK K f46 oc46 od46 "_law_lines" "_law_lines" zb8 kV46 dc46 pm46 an46 cd46 ct46 sl46) (c46 : CI K cd46 "_law_lines") (k46 : KI K f46)
  (a47 : NI K "law" f47) (l47 : LK K f47 oc47 od47 "law" "law" zeH kV47 dc47 pm47 an47 cd47 ct47 sl47) (c47 : CI K cd47 "law") (k47 : KI K f47)
  (a48 : W.findIn K (.ref oC_Ahead) "__init__" = some (some (.ref f48))) (i48 : W.isFn K (.ref f48) = true) (l48 : LK K f48 oc48 od48 "__init__" "Ahead.__init__" zba kV48 dc48 pm48 an48 cd48 ct48 sl48) (c48 : CI K cd48 "Ahead.__init__") (k48 : KI K f48)
  (a49 : W.findIn K (.ref oC_Ahead) "only_givens" = some (some (.ref f49))) (i49 : W.isFn K (.ref f49) = true) (l49 : LK K f49 oc49 od49 "only_givens" "Ahead.only_givens" za4 kV49 dc49 pm49 an49 cd49 ct49 sl49) (c49 : CI K cd49 "Ahead.only_givens") (k49 : KI K f49)
  (a50 : W.findIn K (.ref oC_Ahead) "has_name" = some (some (.ref f50))) (i50 : W.isFn K (.ref f50) = true) (l50 : LK K f50 oc50 od50 "has_name" "Ahead.has_name" zaD kV50 dc50 pm50 an50 cd50 ct50 sl50) (c50 : CI K cd50 "Ahead.has_name") (k50 : KI K f50)
  (g0 : W.nsIn K mainGlobals "OPENING_RULES" = some (some (.ref p0))) (q0 : TL K p0 dd0 #[Value.str "guess" u0_0, Value.str "new" u0_1, Value.str "case" u0_2] nn0 ss0)
  (g1 : W.nsIn K mainGlobals "SMALL" = some (some (.str "abcdefghijklmnopqrstuvwxyz" t1)))
  (g2 : W.nsIn K mainGlobals "GREAT" = some (some (.str "ABCDEFGHIJKLMNOPQRSTUVWXYZ" t2)))
  (g3 : W.nsIn K mainGlobals "SMALL_OR_FIGURE" = some (some (.str "abcdefghijklmnopqrstuvwxyz0123456789" t3)))
  (g4 : W.nsIn K mainGlobals "KEPT_WORDS" = some (some (.ref p4))) (q4 : TL K p4 dd4 #[Value.str "not" u4_0, Value.str "and" u4_1, Value.str "or" u4_2, Value.str "then" u4_3, Value.str "all" u4_4, Value.str "some" u4_5, Value.str "false" u4_6] nn4 ss4)
  (g5 : W.nsIn K mainGlobals "MOST_SIGNS" = some (some (.int 8 t5)))
  (g6 : W.nsIn K mainGlobals "QUANTIFIERS" = some (some (.ref p6))) (q6 : TL K p6 dd6 #[Value.str "all" u6_0, Value.str "some" u6_1] nn6 ss6)
  (g7 : W.nsIn K mainGlobals "FALSE" = some (some (.ref p7))) (q7 : TL K p7 dd7 #[Value.str "false" u7_0] nn7 ss7)
  {p_RULES : Addr} {nn_RULES : Nat} (g_RULES : W.nsIn K mainGlobals "RULES" = some (some (.ref p_RULES))) (q_RULES : K.lookup p_RULES = some ⟨.type "dict", none, .dict #[⟨th0, .str "again" tt0, .ref tr0⟩, ⟨th1, .str "both" tt1, .ref tr1⟩, ⟨th2, .str "left" tt2, .ref tr2⟩, ⟨th3, .str "right" tt3, .ref tr3⟩, ⟨th4, .str "either" tt4, .ref tr4⟩, ⟨th5, .str "cases" tt5, .ref tr5⟩, ⟨th6, .str "then" tt6, .ref tr6⟩, ⟨th7, .str "use" tt7, .ref tr7⟩, ⟨th8, .str "deny" tt8, .ref tr8⟩, ⟨th9, .str "clash" tt9, .ref tr9⟩, ⟨th10, .str "absurd" tt10, .ref tr10⟩, ⟨th11, .str "any" tt11, .ref tr11⟩, ⟨th12, .str "each" tt12, .ref tr12⟩, ⟨th13, .str "every" tt13, .ref tr13⟩, ⟨th14, .str "some" tt14, .ref tr14⟩, ⟨th15, .str "one" tt15, .ref tr15⟩] nn_RULES, #[]⟩) (e_RULES : (p_RULES == sysModules) = false)
  {tn0 tm0 : Nat} (tq0 : TL K tr0 td0 #[.ref tw0, .ref f51] tn0 ts0) (tv0 : TL K tw0 te0 #[Value.str "line" tu0_0] tm0 tz0)
  {tn1 tm1 : Nat} (tq1 : TL K tr1 td1 #[.ref tw1, .ref f52] tn1 ts1) (tv1 : TL K tw1 te1 #[Value.str "line" tu1_0, Value.str "line" tu1_1] tm1 tz1)
  {tn2 tm2 : Nat} (tq2 : TL K tr2 td2 #[.ref tw2, .ref f53] tn2 ts2) (tv2 : TL K tw2 te2 #[Value.str "line" tu2_0] tm2 tz2)
  {tn3 tm3 : Nat} (tq3 : TL K tr3 td3 #[.ref tw3, .ref f54] tn3 ts3) (tv3 : TL K tw3 te3 #[Value.str "line" tu3_0] tm3 tz3)
  {tn4 tm4 : Nat} (tq4 : TL K tr4 td4 #[.ref tw4, .ref f55] tn4 ts4) (tv4 : TL K tw4 te4 #[Value.str "line" tu4_0] tm4 tz4)
  {tn5 tm5 : Nat} (tq5 : TL K tr5 td5 #[.ref tw5, .ref f56] tn5 ts5) (tv5 : TL K tw5 te5 #[Value.str "line" tu5_0, Value.str "box" tu5_1, Value.str "box" tu5_2] tm5 tz5)
  {tn6 tm6 : Nat} (tq6 : TL K tr6 td6 #[.ref tw6, .ref f57] tn6 ts6) (tv6 : TL K tw6 te6 #[Value.str "box" tu6_0] tm6 tz6)
  {tn7 tm7 : Nat} (tq7 : TL K tr7 td7 #[.ref tw7, .ref f58] tn7 ts7) (tv7 : TL K tw7 te7 #[Value.str "line" tu7_0, Value.str "line" tu7_1] tm7 tz7)
  {tn8 tm8 : Nat} (tq8 : TL K tr8 td8 #[.ref tw8, .ref f59] tn8 ts8) (tv8 : TL K tw8 te8 #[Value.str "box" tu8_0] tm8 tz8)
  {tn9 tm9 : Nat} (tq9 : TL K tr9 td9 #[.ref tw9, .ref f60] tn9 ts9) (tv9 : TL K tw9 te9 #[Value.str "line" tu9_0, Value.str "line" tu9_1] tm9 tz9)
  {tn10 tm10 : Nat} (tq10 : TL K tr10 td10 #[.ref tw10, .ref f61] tn10 ts10) (tv10 : TL K tw10 te10 #[Value.str "box" tu10_0] tm10 tz10)
  {tn11 tm11 : Nat} (tq11 : TL K tr11 td11 #[.ref tw11, .ref f62] tn11 ts11) (tv11 : TL K tw11 te11 #[Value.str "line" tu11_0] tm11 tz11)
  {tn12 tm12 : Nat} (tq12 : TL K tr12 td12 #[.ref tw12, .ref f63] tn12 ts12) (tv12 : TL K tw12 te12 #[Value.str "line" tu12_0, Value.str "name" tu12_1] tm12 tz12)
  {tn13 tm13 : Nat} (tq13 : TL K tr13 td13 #[.ref tw13, .ref f64] tn13 ts13) (tv13 : TL K tw13 te13 #[Value.str "box" tu13_0] tm13 tz13)
  {tn14 tm14 : Nat} (tq14 : TL K tr14 td14 #[.ref tw14, .ref f65] tn14 ts14) (tv14 : TL K tw14 te14 #[Value.str "line" tu14_0, Value.str "name" tu14_1] tm14 tz14)
  {tn15 tm15 : Nat} (tq15 : TL K tr15 td15 #[.ref tw15, .ref f17] tn15 ts15) (tv15 : TL K tw15 te15 #[Value.str "line" tu15_0, Value.str "box" tu15_1] tm15 tz15)
  (og_Ahead : W.plainGet K oC_Ahead Str.empty = true) (oh_Ahead : W.hasDictIn K oC_Ahead = true) (op_Ahead : W.plainOver K oC_Ahead = true) (os_Ahead : W.findIn K (.ref oC_Ahead) "__setattr__" = some (some (.builtin "object.__setattr__"))) (om_Ahead : W.makesIn K oC_Ahead = true) (ok_Ahead : W.keepIn K (.ref oC_Ahead) = true)
  (on_Ahead_lines : W.findIn K (.ref oC_Ahead) "lines" = some none)
  (on_Ahead_givens : W.findIn K (.ref oC_Ahead) "givens" = some none)
  (on_Ahead_named : W.findIn K (.ref oC_Ahead) "named" = some none)
  (on_Ahead_first_places : W.findIn K (.ref oC_Ahead) "first_places" = some none)
  {xnm0 xq0 : Str} {xC0 xN0 : Addr} {xbs0 : List Value} {xh0 : Bool} {xsn0 : List Str} {xsu0 : List Value} {xab0 : Bool} {xco0 : Option Bool} {xdd0 xod0 : Option Addr} {xka0 xkb0 xkc0 xkd0 xke0 : Option Value} {xoc0 : Value} {xes0 : List DictEntry} {xep0 : Nat} {xsl0 : Array (Option Value)}
  (xa0 : W.nsIn K mainGlobals "BoxError" = some (some (.ref xC0))) (xl0 : K.lookup xC0 = some (excClassObj xnm0 xq0 xC0 xN0 xbs0 ([.type "ValueError", .type "Exception", .type "BaseException", .type "object"]) xh0 xsn0 xsu0 xab0 xco0 xdd0 xka0 xkb0 xkc0 xkd0 xke0 "ValueError.__new__"))
  (xn0 : K.lookup xN0 = some ⟨xoc0, xod0, .dict (List.toArray xes0) xep0, xsl0⟩) (xy0 : (xes0.all fun e => match e.key with | .str _ _ => true | _ => false) = true) (xp0 : W.nsIn K xN0 "__init__" = some none) (xr0 : W.nsIn K xN0 "__getattribute__" = some none) (xu0 : W.nsIn K xN0 "__getattr__" = some none) (xv0 : W.nsIn K xN0 "__class__" = some none)
  {xnm1 xq1 : Str} {xC1 xN1 : Addr} {xbs1 : List Value} {xh1 : Bool} {xsn1 : List Str} {xsu1 : List Value} {xab1 : Bool} {xco1 : Option Bool} {xdd1 xod1 : Option Addr} {xka1 xkb1 xkc1 xkd1 xke1 : Option Value} {xoc1 : Value} {xes1 : List DictEntry} {xep1 : Nat} {xsl1 : Array (Option Value)}
  (xa1 : W.nsIn K mainGlobals "NoBox" = some (some (.ref xC1))) (xl1 : K.lookup xC1 = some (excClassObj xnm1 xq1 xC1 xN1 xbs1 (Value.ref xC0 :: [.type "ValueError", .type "Exception", .type "BaseException", .type "object"]) xh1 xsn1 xsu1 xab1 xco1 xdd1 xka1 xkb1 xkc1 xkd1 xke1 "ValueError.__new__"))
  (xn1 : K.lookup xN1 = some ⟨xoc1, xod1, .dict (List.toArray xes1) xep1, xsl1⟩) (xy1 : (xes1.all fun e => match e.key with | .str _ _ => true | _ => false) = true) (xp1 : W.nsIn K xN1 "__init__" = some none) (xr1 : W.nsIn K xN1 "__getattribute__" = some none) (xu1 : W.nsIn K xN1 "__getattr__" = some none) (xv1 : W.nsIn K xN1 "__class__" = some none)
  (z_all : W.nsIn K mainGlobals "all" = some none)
  (z_bool : W.nsIn K mainGlobals "bool" = some none)
  (z_enumerate : W.nsIn K mainGlobals "enumerate" = some none)
  (z_int : W.nsIn K mainGlobals "int" = some none)
  (z_isinstance : W.nsIn K mainGlobals "isinstance" = some none)
  (z_len : W.nsIn K mainGlobals "len" = some none)
  (z_list : W.nsIn K mainGlobals "list" = some none)
  (z_range : W.nsIn K mainGlobals "range" = some none)
  (z_set : W.nsIn K mainGlobals "set" = some none)
  (z_sorted : W.nsIn K mainGlobals "sorted" = some none)
  (z_str : W.nsIn K mainGlobals "str" = some none)
  (z_tuple : W.nsIn K mainGlobals "tuple" = some none)
  (z_zip : W.nsIn K mainGlobals "zip" = some none)
  (OK : ∀ (P : Program) (D : Defs) (base : Heap), Tx K mg D -> FnOk P w K mg base CX0 60 D.a_g5 D.d_g5 ["_law_script"] (zhQ K)) :
  ∃ fd : FuncData, (∀ (s : Shared) (v : Value), BindsTo s fd ⟨[v], []⟩ [("_law_script", v)]) /\ ∀ base : Heap, K.In base -> base.Ns mainGlobals mg -> FnOk l.prog w K mg base CX0 60 fa fd ["_law_script"] (zhQ K) := by
 have e := hfa.symm.trans (W.mg_of X G a47);cases e;have F0 := za5 (st := zcQ) l0 c0 k0;have F1 := za5 (st := zbo) l1 c1 k1;have F2 := za5 (st := zaS) l2 c2 k2;have F3 := za5 (st := zbK) l3 c3 k3;have F4 := za5 (st := zcj) l4 c4 k4;have F5 := za5 (st := zck) l5 c5 k5;have F6 := za5 (st := zaJ) l6 c6 k6;have F7 := za5 (st := zaM) l7 c7 k7;have F8 := za5 (st := za2) l8 c8 k8;have F9 := za5 (st := zb3) l9 c9 k9;have F10 := za5 (st := zbg) l10 c10 k10;have F11 := za5 (st := zcl) l11 c11 k11;have F12 := za5 (st := zbp) l12 c12 k12;have F13 := za5 (st := zbq) l13 c13 k13;have F14 := za5 (st := zaK) l14 c14 k14;have F15 := za5 (st := zb4) l15 c15 k15;have F16 := za5 (st := zeG) l16 c16 k16;have F17 := za5 (st := zbL) l17 c17 k17;have F18 := za5 (st := zaT) l18 c18 k18;have F19 := za5 (st := zbh) l19 c19 k19;have F20 := za5 (st := zbr) l20 c20 k20;have F21 := za5 (st := zbs) l21 c21 k21;have F22 := za5 (st := zb5) l22 c22 k22;have F23 := za5 (st := zaC) l23 c23 k23;have F24 := za5 (st := zaL) l24 c24 k24;have F25 := za5 (st := zaY) l25 c25 k25;have F26 := za5 (st := zaZ) l26 c26 k26;have b26 := F26.binds (ps := ["want", "ref", "lines", "paths", "k"]) fun _ _ _ _ _ _ us hl => match us, hl with | [_, _, _, _, _], _ => rfl
 have F27 := za5 (st := zaA) l27 c27 k27;have F28 := za5 (st := zbt) l28 c28 k28;have F29 := za5 (st := zaN) l29 c29 k29;have F30 := za5 (st := zbi) l30 c30 k30;have F31 := za5 (st := zbj) l31 c31 k31;have F32 := za5 (st := zaU) l32 c32 k32;have F33 := za5 (st := zbM) l33 c33 k33;have F34 := za5 (st := zbN) l34 c34 k34;have F35 := za5 (st := zbO) l35 c35 k35;have F36 := za5 (st := zb6) l36 c36 k36;have F37 := za5 (st := zbP) l37 c37 k37;have F38 := za5 (st := zcm) l38 c38 k38;have F39 := za5 (st := zcn) l39 c39 k39;have F40 := za5 (st := zbk) l40 c40 k40;have F41 := za5 (st := zb7) l41 c41 k41;have F42 := za5 (st := zco) l42 c42 k42;have F43 := za5 (st := zcp) l43 c43 k43;have F44 := za5 (st := zaV) l44 c44 k44;have F45 := za5 (st := zbQ) l45 c45 k45;have F46 := za5 (st := zb8) l46 c46 k46;have F47 := za5 (st := zeH) l47 c47 k47;have F48 := za5 (st := zba) l48 c48 k48;have F49 := za5 (st := za4) l49 c49 k49;have F50 := za5 (st := zaD) l50 c50 k50;have T : Tx K mg ⟨f0, _, f1, _, f2, _, f3, _, f4, _, f5, _, f6, _, f7, _, f8, _, f9, _, f10, _, f11, _, f12, _, f13, _, f14, _, f15, _, f16, _, f17, _, f18, _, f19, _, f20, _, f21, _, f22, _, f23, _, f24, _, f25, _, f26, _, f27, _, f28, _, f29, _, f30, _, f31, _, f32, _, f33, _, f34, _, f35, _, f36, _, f37, _, f38, _, f39, _, f40, _, f41, _, f42, _, f43, _, f44, _, f45, _, f46, _, f47, _, f48, _, f49, _, f50, _, f51, f52, f53, f54, f55, f56, f57, f58, f59, f60, f61, f62, f63, f64, f65, p0, p4, p6, p7, p_RULES, tr0, tw0, tr1, tw1, tr2, tw2, tr3, tw3, tr4, tw4, tr5, tw5, tr6, tw6, tr7, tw7, tr8, tw8, tr9, tw9, tr10, tw10, tr11, tw11, tr12, tw12, tr13, tw13, tr14, tw14, tr15, tw15, xC0, xC1, oC_Ahead⟩ := ⟨F0, ⟨W.mg_of X G a0, k0, F0.binds (by walk_at "b3")⟩, F1, ⟨W.mg_of X G a1, k1, F1.binds (by walk_at "b3")⟩, F2, ⟨W.mg_of X G a2, k2, F2.binds (by walk_at "b2")⟩, F3, ⟨W.mg_of X G a3, k3, F3.binds (by walk_at "b2")⟩, F4, ⟨W.mg_of X G a4, k4, F4.binds (by walk_at "b1")⟩, F5, ⟨W.mg_of X G a5, k5, F5.binds (by walk_at "b1")⟩, F6, ⟨W.mg_of X G a6, k6, F6.binds (by walk_at "b1")⟩, F7, ⟨W.mg_of X G a7, k7, F7.binds (by walk_at "b3")⟩, F8, ⟨W.mg_of X G a8, k8, F8.binds (by walk_at "b2")⟩, F9, ⟨W.mg_of X G a9, k9, F9.binds (by walk_at "b1")⟩, F10, ⟨W.mg_of X G a10, k10, F10.binds (by walk_at "b1")⟩, F11, ⟨W.mg_of X G a11, k11, F11.binds (by walk_at "b1")⟩, F12, ⟨W.mg_of X G a12, k12, F12.binds (by walk_at "b1")⟩, F13, ⟨W.mg_of X G a13, k13, F13.binds (by walk_at "b1")⟩, F14, ⟨W.mg_of X G a14, k14, F14.binds (by walk_at "b1")⟩, F15, ⟨W.mg_of X G a15, k15, F15.binds (by walk_at "b1")⟩, F16, ⟨W.mg_of X G a16, k16, F16.binds (by walk_at "b3")⟩, F17, ⟨W.mg_of X G a17, k17, F17.binds (by walk_at "b2")⟩, F18, ⟨W.mg_of X G a18, k18, F18.binds (by walk_at "b2")⟩, F19, ⟨W.mg_of X G a19, k19, F19.binds (by walk_at "b1")⟩, F20, ⟨W.mg_of X G a20, k20, F20.binds (by walk_at "b1")⟩, F21, ⟨W.mg_of X G a21, k21, F21.binds (by walk_at "b1")⟩, F22, ⟨W.mg_of X G a22, k22, F22.binds (by walk_at "b3")⟩, F23, ⟨W.mg_of X G a23, k23, F23.binds (by walk_at "b4")⟩, F24, ⟨W.mg_of X G a24, k24, F24.binds (by walk_at "b2")⟩, F25, ⟨W.mg_of X G a25, k25, F25.binds (by walk_at "b4")⟩, F26, ⟨W.mg_of X G a26, k26, b26⟩, F27, ⟨W.mg_of X G a27, k27, F27.binds (by walk_at "b2")⟩, F28, ⟨W.mg_of X G a28, k28, F28.binds (by walk_at "b4")⟩, F29, ⟨W.mg_of X G a29, k29, F29.binds (by walk_at "b1")⟩, F30, ⟨W.mg_of X G a30, k30, F30.binds (by walk_at "b2")⟩, F31, ⟨W.mg_of X G a31, k31, F31.binds (by walk_at "b3")⟩, F32, ⟨W.mg_of X G a32, k32, F32.binds (by walk_at "b1")⟩, F33, ⟨W.mg_of X G a33, k33, F33.binds (by walk_at "b4")⟩, F34, ⟨W.mg_of X G a34, k34, F34.binds (by walk_at "b2")⟩, F35, ⟨W.mg_of X G a35, k35, F35.binds (by walk_at "b4")⟩, F36, ⟨W.mg_of X G a36, k36, F36.binds (by walk_at "b1")⟩, F37, ⟨W.mg_of X G a37, k37, F37.binds (by walk_at "b3")⟩, F38, ⟨W.mg_of X G a38, k38, F38.binds (by walk_at "b3")⟩, F39, ⟨W.mg_of X G a39, k39, F39.binds (by walk_at "b3")⟩, F40, ⟨W.mg_of X G a40, k40, F40.binds (by walk_at "b1")⟩, F41, ⟨W.mg_of X G a41, k41, F41.binds (by walk_at "b1")⟩, F42, ⟨W.mg_of X G a42, k42, F42.binds (by walk_at "b2")⟩, F43, ⟨W.mg_of X G a43, k43, F43.binds (by walk_at "b2")⟩, F44, ⟨W.mg_of X G a44, k44, F44.binds (by walk_at "b2")⟩, F45, ⟨W.mg_of X G a45, k45, F45.binds (by walk_at "b4")⟩, F46, ⟨W.mg_of X G a46, k46, F46.binds (by walk_at "b4")⟩, F47, ⟨W.mg_of X G a47, k47, F47.binds (by walk_at "b1")⟩, F48, ⟨a48, i48, k48⟩, F48.binds (by walk_at "b2"), F49, ⟨a49, i49, k49⟩, F49.binds (by walk_at "b2"), F50, ⟨a50, i50, k50⟩, F50.binds (by walk_at "b3"), W.mg_of X G g0, fun H => .inr ⟨_, _, _, q0, rfl, rfl, (by show 3 <= sizeLine; decide), (.cons ⟨_, rfl⟩ (.cons ⟨_, rfl⟩ (.cons ⟨_, rfl⟩ .nil)))⟩, ⟨_, W.mg_of X G g1⟩, ⟨_, W.mg_of X G g2⟩, ⟨_, W.mg_of X G g3⟩, W.mg_of X G g4, fun H => .inr ⟨_, _, _, q4, rfl, rfl, (by show 7 <= sizeLine; decide), (.cons ⟨_, rfl⟩ (.cons ⟨_, rfl⟩ (.cons ⟨_, rfl⟩ (.cons ⟨_, rfl⟩ (.cons ⟨_, rfl⟩ (.cons ⟨_, rfl⟩ (.cons ⟨_, rfl⟩ .nil)))))))⟩, ⟨_, W.mg_of X G g5⟩, W.mg_of X G g6, fun H => .inr ⟨_, _, _, q6, rfl, rfl, (by show 2 <= sizeLine; decide), (.cons ⟨_, rfl⟩ (.cons ⟨_, rfl⟩ .nil))⟩, W.mg_of X G g7, fun H => .inr ⟨_, _, _, q7, rfl, rfl, (by show 1 <= sizeLine; decide), (.cons ⟨_, rfl⟩ .nil)⟩, W.mg_of X G g_RULES, TabK.mk q_RULES e_RULES (.cons rfl rfl (.cons rfl rfl (.cons rfl rfl (.cons rfl rfl (.cons rfl rfl (.cons rfl rfl (.cons rfl rfl (.cons rfl rfl (.cons rfl rfl (.cons rfl rfl (.cons rfl rfl (.cons rfl rfl (.cons rfl rfl (.cons rfl rfl (.cons rfl rfl (.cons rfl rfl .nil)))))))))))))))), TQ tq0, TV1 tv0, TQ tq1, TV2 tv1, TQ tq2, TV1 tv2, TQ tq3, TV1 tv3, TQ tq4, TV1 tv4, TQ tq5, TV3 tv5, TQ tq6, TV1 tv6, TQ tq7, TV2 tv7, TQ tq8, TV1 tv8, TQ tq9, TV2 tv9, TQ tq10, TV1 tv10, TQ tq11, TV1 tv11, TQ tq12, TV2 tv12, TQ tq13, TV1 tv13, TQ tq14, TV2 tv14, TQ tq15, TV2 tv15, W.mg_none_of X G z_all, W.mg_none_of X G z_bool, W.mg_none_of X G z_enumerate, W.mg_none_of X G z_int, W.mg_none_of X G z_isinstance, W.mg_none_of X G z_len, W.mg_none_of X G z_list, W.mg_none_of X G z_range, W.mg_none_of X G z_set, W.mg_none_of X G z_sorted, W.mg_none_of X G z_str, W.mg_none_of X G z_tuple, W.mg_none_of X G z_zip, znU (W.mg_of X G xa0) xl0 ⟨⟨_, _, _, _, _, xn0, xy0⟩, xp0, xr0, xu0, xv0⟩, znV (W.mg_of X G xa1) xl1 ⟨⟨_, _, _, _, _, xn1, xy1⟩, xp1, xr1, xu1, xv1⟩ xl0 ⟨⟨_, _, _, _, _, xn0, xy0⟩, xp0, xr0, xu0, xv0⟩, W.mg_of X G oa_Ahead, ⟨og_Ahead, oh_Ahead, op_Ahead, os_Ahead⟩, ⟨om_Ahead, a48, i48, ok_Ahead⟩, on_Ahead_lines, on_Ahead_givens, on_Ahead_named, on_Ahead_first_places⟩
 exact ⟨_, fun s v => .of_eq rfl, fun base _ _ => OK l.prog _ base T⟩
theorem walk {l : W.OpenLaw} {q : Program} {loose : List Str} {XP : (Str -> Option Value) -> Heap -> Prop} {YP : World -> Heap -> Prop} {d : DefRec} {K : Params -> W.Frag} (hn : l.most = some 63) (hdf : d.params.defaults = [])
  (hY : ∀ (w : World) (h : Heap), YP w h -> (K w.params).In h)
  (F : ∀ (w : World) (mg : Str -> Option Value) (fa : Addr) (h : Heap), (K w.params).In h -> h.Ns mainGlobals mg -> mg d.name = some (.ref fa) ->
   ∃ fd : FuncData, (∀ (s : Shared) (u : Value), BindsTo s fd ⟨[u], []⟩ [("_law_script", u)]) /\ ∀ base : Heap, (K w.params).In base -> base.Ns mainGlobals mg -> FnOk l.prog w (K w.params) mg base CX0 60 fa fd ["_law_script"] (zhQ (K w.params))) :
  W.WalkO q loose XP YP l.row.toRowW d [] (fun f vs => PySem.call f vs) :=
 L2.walk_of (n := 63) (k := 60) (x := "_law_script") (CX := fun _ => CX0) (sp := fun w => zhQ (K w.params)) hn (by decide) hdf ⟨rfl, by decide, by decide, rfl⟩ hY F (fun _ _ a ns hl _ hS => ⟨a, ns, rfl, hS, hl, fun _ => rfl⟩) fun _ _ _ _ _ z => z
end K36
namespace PySem.W.Fast
def tw11148620136037879407:=0
def tw9075803436326660485:=0
def tw13969629358621769164:=0
def tw12597798408857030122:=0
def tw5426432442063337723:=0
def tw13057560378997860869:=0
def tw14692098285245716769:=0
def tw10202745638293449819:=0
def tw5101597106729935862:=0
def tw6005322124475879151:=0
def tw10037215189407028924:=0
def tw2737035038682084814:=0
def tw9326560880166396139:=0
def tw11689595677790746655:=0
def tw15403766453607180530:=0
def tw13369636540678895785:=0
def tw17160246668228207147:=0
def tw16793929431377987080:=0
def tw1332654130991076469:=0
def tw5869742291260062494:=0
def tw15556043418237232197:=0
def tw12169209454584265358:=0
def tw13986513336535556191:=0
def tw9815633390503015027:=0
def tw1372163101916413403:=0
def tw1735928698336399094:=0
def tw16957478900448889800:=0
def tw18059486861949425583:=0
def tw16963855280901339297:=0
def tw4192863146294855972:=0
def tw3209610351575864456:=0
def tw14894450153595859416:=0
def tw14737245278527868852:=0
def tw16841299036287931982:=0
def tw9559287365409082048:=0
def tw2476750289493123143:=0
def tw12394606297213533302:=0
def tw12520595839755737261:=0
def tw6351691528709850734:=0
def tw12679902609576991309:=0
def tw10096167976741668456:=0
def tw11883969824076530963:=0
def tw3452162873245715914:=0
def tw11361356579505650414:=0
def tw2377344954370248277:=0
def tw9073736475114620822:=0
def tw15637777667620414668:=0
def tw9600199567759788812:=0
def tw16025165006620330157:=0
def tw6932121971198015583:=0
def tw9875880183927843125:=0
def tw10063259960792468058:=0
def tw9546909695629355911:=0
def tw4886799904890992110:=0
def tw6884929721902943530:=0
def tw12215432257905485466:=0
def tw13759317839020734276:=0
def tw6157352091944025837:=0
def tw17271461970274963390:=0
def tw12089738787269531822:=0
def tw16556098600325455595:=0
def tw3911743962888609308:=0
def tw13549030054767679542:=0
def tw10311695197478562305:=0
def tw9276779784925931086:=0
def tw14218894800118474176:=0
def tw6892763962027281703:=0
def tw3961042143059739742:=0
def tw6046797390358871971:=0
def tw14367777355786127862:=0
def tw2604972889163692546:=0
def tw7694279184071841026:=0
def tw10612614504384270710:=0
def tw1644097051899377596:=0
def tw11855215064903451733:=0
def tw14273511552291168867:=0
def tw11101127384093997231:=0
def tw16703190491047522497:=0
def tw7251648537468198917:=0
def tw6058662451542509612:=0
def tw9501608039990963326:=0
def tw11074050629539355331:=0
def tw14798597158456372187:=0
def tw1476598050366979856:=0
def tw15319212201937964529:=0
def tw4728427096086436776:=0
def tw16681297762966596655:=0
def tw1969378977349975697:=0
def tw15671023426106819712:=0
def tw7190771048055315120:=0
def tw13866448903114199947:=0
def tw8294156155157548825:=0
def tw9261795678490248409:=0
def tw14575063008103251554:=0
def tw5894724381440504927:=0
def tw2427488653932505430:=0
def tw4079615988234135629:=0
def tw3312936816660063281:=0
def tw16858737327992879987:=0
def tw11571143198232533984:=0
def tw8889833579504926034:=0
def tw11688740482977669596:=0
def tw10917860113804340075:=0
def tw4107771763504950668:=0
def tw3525801533640433575:=0
def tw3460391298338374076:=0
def tw1907256672663171473:=0
def tw723565786260989536:=0
def tw2666468349365779770:=0
def tw5616263106022201243:=0
def tw15987264956149689070:=0
def tw114289874043008209:=0
def tw1118743154773448330:=0
def tw871891707652628828:=0
def tw12808021484924511021:=0
def tw1333172413904878274:=0
def tw8491054960258854416:=0
def tw12012449881881802110:=0
def tw7505820901114685462:=0
def tw18187836105918294412:=0
def tw8103008984600822111:=0
def tw13436614969751644964:=0
def tw1618577582682438269:=0
def tw4089035285568899271:=0
def tw6933006686575467656:=0
def tw15795092640958651375:=0
def tw8694588183921076806:=0
def tw6016441294732748643:=0
def tw7543266856081147646:=0
def tw2857397214424399732:=0
def tw3392318960601757301:=0
def tw8183553400561391690:=0
def tw13540785250927059608:=0
def tw4060996711337138316:=0
def tw9793553752796250834:=0
def tw4751865532596332142:=0
def tw627809669392836437:=0
def tw11916395343462373643:=0
def tw8529238827389484270:=0
def tw2156251918457514136:=0
def tw13998072583317646314:=0
def tw12455958432504852153:=0
def tw12087137912822579213:=0
def tw2165175436607280735:=0
def tw15061326118848004604:=0
def tw17063124855493916043:=0
def tw17873970027489430529:=0
def tw8849288803760525463:=0
def tw18040745938565769345:=0
def tw6357740526846851596:=0
def tw10179711927020584949:=0
def tw9329576624770080058:=0
def tw15863804541454218665:=0
def tw9119203956769223171:=0
def tw16639561663695038064:=0
def tw15415446977452344525:=0
def tw645881881144880660:=0
def tw15114302170217252187:=0
def tw5708271478220835801:=0
def tw16699386622699652611:=0
def tw6266999341543934730:=0
def tw11533442818976525188:=0
def tw6101128196963654427:=0
def tw16524187200299813359:=0
def tw1315318003719761914:=0
def tw4305254932886336140:=0
def tw11408461094716842627:=0
def tw1728981015381433029:=0
def tw9751120513313278227:=0
def tw4448200185779922279:=0
def tw298435061258077524:=0
def tw17409539966502599143:=0
def tw17842388481969831548:=0
def tw2300795547290683477:=0
def tw12523869193845892259:=0
def tw5705239176174202538:=0
def tw14825418391048967812:=0
def tw1845195631907835094:=0
def tw9127056218862656862:=0
def tw10543034231589568500:=0
def tw12371184954876718885:=0
def tw1707740270251803348:=0
def tw14433923170786438398:=0
def tw12282802026837416442:=0
def tw11781488417325588549:=0
def tw8774892407901035350:=0
def tw1435637363436781235:=0
def tw11480256692983274481:=0
def tw13529407486044381010:=0
def tw9226666655480877008:=0
def tw8395101105539647235:=0
def tw5587298225307668004:=0
def tw15116582706718868614:=0
def tw15440826759803087343:=0
def tw15769353687621784352:=0
def tw17153203047810289760:=0
def tw4235496902988097749:=0
def tw8263268641014067866:=0
def tw9722116750132541115:=0
def tw2328139492095963860:=0
def tw17965054926517701511:=0
def tw2168996794731076721:=0
def tw13927078876886329342:=0
def tw3953150735247689492:=0
def tw9026338160892334224:=0
def tw10439207144705743311:=0
def tw18009089468481244296:=0
def tw6328973716954116650:=0
def tw1090128354186823739:=0
def tw4880830116096931655:=0
def tw8160204166188515995:=0
def tw10535605197871087067:=0
def tw328200776951539899:=0
def tw9017200277411337741:=0
def tw673836269909882935:=0
def tw14727691988971809379:=0
def tw17179080432479441566:=0
def tw13092929737748055005:=0
def tw11737488275799587500:=0
def tw4105602167682952572:=0
def tw2104811448115116924:=0
def tw13244088929420391979:=0
def tw12075930368648213756:=0
def tw903220961374411331:=0
def tw531571128471027693:=0
def tw8761771157432729053:=0
end PySem.W.Fast
open PySem PySem.W PyProof.Rows
set_option maxRecDepth 100000 in
set_option maxHeartbeats 0 in
theorem PySem.Challenge.cw_boxproof_k36_case_and_one_holds : PySem.Challenge.rw_boxproof_k36_case_and_one.Holds := by
 w_on; o_law; k_head; (case hw => w_witness2)
 k_fill
 refine K36.walk (l := PySem.Challenge.rw_boxproof_k36_case_and_one) rfl rfl (fun w h Y => W.kIn_of Y) ?F
 case F =>
  intro w mg fa h KX G hmg;refine' K36.all_mk KX G hmg ?Xoa_Ahead ?Xa0 ?Xl0 ?Xc0 ?Xk0 ?Xa1 ?Xl1 ?Xc1 ?Xk1 ?Xa2 ?Xl2 ?Xc2 ?Xk2 ?Xa3 ?Xl3 ?Xc3 ?Xk3 ?Xa4 ?Xl4 ?Xc4 ?Xk4 ?Xa5 ?Xl5 ?Xc5 ?Xk5 ?Xa6 ?Xl6 ?Xc6 ?Xk6 ?Xa7 ?Xl7 ?Xc7 ?Xk7 ?Xa8 ?Xl8 ?Xc8 ?Xk8 ?Xa9 ?Xl9 ?Xc9 ?Xk9 ?Xa10 ?Xl10 ?Xc10 ?Xk10 ?Xa11 ?Xl11 ?Xc11 ?Xk11 ?Xa12 ?Xl12 ?Xc12 ?Xk12 ?Xa13 ?Xl13 ?Xc13 ?Xk13 ?Xa14 ?Xl14 ?Xc14 ?Xk14 ?Xa15 ?Xl15 ?Xc15 ?Xk15 ?Xa16 ?Xl16 ?Xc16 ?Xk16 ?Xa17 ?Xl17 ?Xc17 ?Xk17 ?Xa18 ?Xl18 ?Xc18 ?Xk18 ?Xa19 ?Xl19 ?Xc19 ?Xk19 ?Xa20 ?Xl20 ?Xc20 ?Xk20 ?Xa21 ?Xl21 ?Xc21 ?Xk21 ?Xa22 ?Xl22 ?Xc22 ?Xk22 ?Xa23 ?Xl23 ?Xc23 ?Xk23 ?Xa24 ?Xl24 ?Xc24 ?Xk24 ?Xa25 ?Xl25 ?Xc25 ?Xk25 ?Xa26 ?Xl26 ?Xc26 ?Xk26 ?Xa27 ?Xl27 ?Xc27 ?Xk27 ?Xa28 ?Xl28 ?Xc28 ?Xk28 ?Xa29 ?Xl29 ?Xc29 ?Xk29 ?Xa30 ?Xl30 ?Xc30 ?Xk30 ?Xa31 ?Xl31 ?Xc31 ?Xk31 ?Xa32 ?Xl32 ?Xc32 ?Xk32 ?Xa33 ?Xl33 ?Xc33 ?Xk33 ?Xa34 ?Xl34 ?Xc34 ?Xk34 ?Xa35 ?Xl35 ?Xc35 ?Xk35 ?Xa36 ?Xl36 ?Xc36 ?Xk36 ?Xa37 ?Xl37 ?Xc37 ?Xk37 ?Xa38 ?Xl38 ?Xc38 ?Xk38 ?Xa39 ?Xl39 ?Xc39 ?Xk39 ?Xa40 ?Xl40 ?Xc40 ?Xk40 ?Xa41 ?Xl41 ?Xc41 ?Xk41 ?Xa42 ?Xl42 ?Xc42 ?Xk42 ?Xa43 ?Xl43 ?Xc43 ?Xk43 ?Xa44 ?Xl44 ?Xc44 ?Xk44 ?Xa45 ?Xl45 ?Xc45 ?Xk45 ?Xa46 ?Xl46 ?Xc46 ?Xk46 ?Xa47 ?Xl47 ?Xc47 ?Xk47 ?Xa48 ?Xi48 ?Xl48 ?Xc48 ?Xk48 ?Xa49 ?Xi49 ?Xl49 ?Xc49 ?Xk49 ?Xa50 ?Xi50 ?Xl50 ?Xc50 ?Xk50 ?Xg0 ?Xq0 ?Xg1 ?Xg2 ?Xg3 ?Xg4 ?Xq4 ?Xg5 ?Xg6 ?Xq6 ?Xg7 ?Xq7 ?Xg_RULES ?Xq_RULES ?Xe_RULES ?Xtq0 ?Xtv0 ?Xtq1 ?Xtv1 ?Xtq2 ?Xtv2 ?Xtq3 ?Xtv3 ?Xtq4 ?Xtv4 ?Xtq5 ?Xtv5 ?Xtq6 ?Xtv6 ?Xtq7 ?Xtv7 ?Xtq8 ?Xtv8 ?Xtq9 ?Xtv9 ?Xtq10 ?Xtv10 ?Xtq11 ?Xtv11 ?Xtq12 ?Xtv12 ?Xtq13 ?Xtv13 ?Xtq14 ?Xtv14 ?Xtq15 ?Xtv15 ?Xog_Ahead ?Xoh_Ahead ?Xop_Ahead ?Xos_Ahead ?Xom_Ahead ?Xok_Ahead ?Xon_Ahead_lines ?Xon_Ahead_givens ?Xon_Ahead_named ?Xon_Ahead_first_places ?Xxa0 ?Xxl0 ?Xxn0 ?Xxy0 ?Xxp0 ?Xxr0 ?Xxu0 ?Xxv0 ?Xxa1 ?Xxl1 ?Xxn1 ?Xxy1 ?Xxp1 ?Xxr1 ?Xxu1 ?Xxv1 ?Xz_all ?Xz_bool ?Xz_enumerate ?Xz_int ?Xz_isinstance ?Xz_len ?Xz_list ?Xz_range ?Xz_set ?Xz_sorted ?Xz_str ?Xz_tuple ?Xz_zip ?XOK
  case Xoa_Ahead|Xa0|Xa1|Xa2|Xa3|Xa4|Xa5|Xa6|Xa7|Xa8|Xa9|Xa10|Xa11|Xa12|Xa13|Xa14|Xa15|Xa16|Xa17|Xa18|Xa19|Xa20|Xa21|Xa22|Xa23|Xa24|Xa25|Xa26|Xa27|Xa28|Xa29|Xa30|Xa31|Xa32|Xa33|Xa34|Xa35|Xa36|Xa37|Xa38|Xa39|Xa40|Xa41|Xa42|Xa43|Xa44|Xa45|Xa46|Xa47=>(unfold K36.NI;k_is)
  case Xa48|Xa49|Xa50=>k_is
  case Xl0|Xl1|Xl2|Xl3|Xl4|Xl5|Xl6|Xl7|Xl8|Xl9|Xl10|Xl11|Xl12|Xl13|Xl14|Xl15|Xl16|Xl17|Xl18|Xl19|Xl20|Xl21|Xl22|Xl23|Xl24|Xl25|Xl26|Xl27|Xl28|Xl29|Xl30|Xl31|Xl32|Xl33|Xl34|Xl35|Xl36|Xl37|Xl38|Xl39|Xl40|Xl41|Xl42|Xl43|Xl44|Xl45|Xl46|Xl47|Xl48|Xl49|Xl50=>(unfold K36.LK;k_is)
  case Xc0|Xc1|Xc2|Xc3|Xc4|Xc5|Xc6|Xc7|Xc8|Xc9|Xc10|Xc11|Xc12|Xc13|Xc14|Xc15|Xc16|Xc17|Xc18|Xc19|Xc20|Xc21|Xc22|Xc23|Xc24|Xc25|Xc26|Xc27|Xc28|Xc29|Xc30|Xc31|Xc32|Xc33|Xc34|Xc35|Xc36|Xc37|Xc38|Xc39|Xc40|Xc41|Xc42|Xc43|Xc44|Xc45|Xc46|Xc47|Xc48|Xc49|Xc50=>(unfold K36.CI;k_is)
  case Xk0|Xk1|Xk2|Xk3|Xk4|Xk5|Xk6|Xk7|Xk8|Xk9|Xk10|Xk11|Xk12|Xk13|Xk14|Xk15|Xk16|Xk17|Xk18|Xk19|Xk20|Xk21|Xk22|Xk23|Xk24|Xk25|Xk26|Xk27|Xk28|Xk29|Xk30|Xk31|Xk32|Xk33|Xk34|Xk35|Xk36|Xk37|Xk38|Xk39|Xk40|Xk41|Xk42|Xk43|Xk44|Xk45|Xk46|Xk47|Xk48|Xk49|Xk50=>(unfold K36.KI;k_is)
  case Xi48|Xi49|Xi50|Xg0|Xg1|Xg2|Xg3|Xg4|Xg5|Xg6|Xg7|Xg_RULES|Xq_RULES|Xog_Ahead|Xoh_Ahead|Xop_Ahead|Xos_Ahead|Xom_Ahead|Xok_Ahead|Xon_Ahead_lines|Xon_Ahead_givens|Xon_Ahead_named|Xon_Ahead_first_places|Xxa0|Xxl0|Xxn0|Xxp0|Xxr0|Xxu0|Xxv0|Xxa1|Xxl1|Xxn1|Xxp1|Xxr1|Xxu1|Xxv1|Xz_all|Xz_bool|Xz_enumerate|Xz_int|Xz_isinstance|Xz_len|Xz_list|Xz_range|Xz_set|Xz_sorted|Xz_str|Xz_tuple|Xz_zip=>k_is
  case Xq0|Xq4|Xq6|Xq7|Xtq0|Xtv0|Xtq1|Xtv1|Xtq2|Xtv2|Xtq3|Xtv3|Xtq4|Xtv4|Xtq5|Xtv5|Xtq6|Xtv6|Xtq7|Xtv7|Xtq8|Xtv8|Xtq9|Xtv9|Xtq10|Xtv10|Xtq11|Xtv11|Xtq12|Xtv12|Xtq13|Xtv13|Xtq14|Xtv14|Xtq15|Xtv15=>(unfold K36.TL;k_is)
  (case Xe_RULES => rfl)
  (case Xxy0 => rfl)
  (case Xxy1 => rfl)
  case XOK => exact fun P D base T => K36.ok_law T
#print axioms PySem.Challenge.cw_boxproof_k36_case_and_one_holds