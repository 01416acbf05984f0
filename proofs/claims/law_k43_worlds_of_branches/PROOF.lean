import PyProof.Rows.All
import Wide.All
import OpenK.AllK
import Wide.FinOn
import Lean
import PyProof.EqAt
import PyProof.EqKinds
import PyProof.TupleCall
import PyProof.Rows.SortShellK
import PyProof.Rows.SortStr
import PyProof.NeKinds
import PyProof.FactsAll.tuple_2
import PyProof.DictRoadsH
import PyProof.StrCalls
import PyProof.StrCalls2
import PyProof.FitsReplace
import PyProof.StrOps2
import PyProof.StrCalls6
import PyProof.ToksMono
import PyProof.StationsW
import PyProof.PassesOwn
import PyProof.Rows.CatchOwn
import PyProof.Rows.CatchBare
import PyProof.Rows.Own
import PyProof.ExcAttrAll.ValueError
import PyProof.ExcBaseAll.ValueError
import KE.RegKIsAll
import PyProof.FString4
import PyProof.StrLawsRepr
import PyProof.StrLawsReplace
import PyProof.ConsumeWalk
import PyProof.SumWalkG
import PyProof.ListRange
import KE.KTab
import PyProof.EnumFor
import PyProof.EnumStmt
import PyProof.EnumMake
import PyProof.TupleIter
import PyProof.ZipIter
import PyProof.Rows.ZipGen
import PyProof.MeetsDict
import PyProof.DictList
import PyProof.FactsAll.dict
import PyProof.DictIter
import PyProof.DictWalks
import PyProof.MeetsDictList
import PyProof.AutoListH
import PyProof.AttrMissHeap
import PyProof.WalksMore
import KE.KDictOf
import PyProof.CollectIter
import PyProof.TupleOfGen
import PyProof.FactsAll.list
import PyProof.SliceSyntax
import PySem.Challenge.RW_boxproof_k43_worlds_of_branches
set_option Elab.async false
set_option linter.all false
set_option maxRecDepth 100000
set_option maxHeartbeats 4000000
set_option compiler.extract_closed false
abbrev ZQ := PySem.Value -> PySem.Shared -> Prop
abbrev ZP := List (PySem.Addr × PySem.Obj)
theorem ω {p : Prop} (h : p := by omega) : p := h
theorem δ {p : Prop} (h : p := by decide) : p := h
theorem ς {p : Prop} (h : p := by simp) : p := h
theorem ρ {p : Prop} (h : p := by rfl) : p := h
namespace L2
open PySem PySem.Spec PyProof.Rows
def _root_.yaa := @wpAny_bind
def _root_.yab := @wpAny_pure
def _root_.yac := @Heap.get?_push_of_some
def _root_.yad := @List.size_toArray
def _root_.yae := @List.length_append
def _root_.yaf := @List.length_map
def _root_.yag := @List.getElem?_eq_some_iff
def _root_.yah := @List.mem_singleton
def _root_.yai := @Nat.le_refl
def _root_.yaj := @Heap.get?_push_size
def _root_.yak := @Int.emod_lt_of_pos
def _root_.yal := @List.getElem?_eq_getElem
def _root_.yam := @Bool.false_ne_true
def _root_.yan := @Heap.lt_size
def _root_.yao := @Int.emod_nonneg
def _root_.yap := @PySem.boot_len
def _root_.yaq := @Nat.zero_le
def _root_.yar := @PySem.F.plainAttrs_list
def _root_.yas := @List.length_singleton
def _root_.yat := @Nat.le_trans
def _root_.yau := @List.mem_cons
def _root_.yav := @List.getElem?_map
def _root_.yaw := @PySem.F.type_list_append
def _root_.yax := @Classical.byContradiction
def _root_.yay := @List.mem_append
def _root_.ya0 := @List.map_append
def _root_.ya1 := @List.mem_of_getElem?
def _root_.ya3 := @List.length_take
def _root_.ya4 := @Int.toNat_natCast
def _root_.ya5 := @List.getElem?_append_left
def _root_.ya6 := @List.mem_map
def _root_.ya8 := @decide_eq_false
def _root_.ya9 := @decide_eq_true
abbrev Key := Sum Int Str
def zjA : Key -> Value -> Bool
 | .inl k, v => Value.isInt k v
 | .inr x, v => Value.isStrOf x v
def keyH (w : World) : Key -> Int
 | .inl k => hashInt k
 | .inr x => hashStr w x
theorem keyIs_shape : ∀ {k : Key} {v : Value}, zjA k v = true -> (∃ i t, k = Sum.inl i /\ v = Value.int i t) \/ (∃ x t, k = Sum.inr x /\ v = Value.str x t)
 | .inl i, v, h => by
  obtain ⟨t, e⟩ := Value.isInt_shape (k := i) (v := v) h;exact .inl ⟨i, t, rfl, e⟩
 | .inr x, v, h => by
  obtain ⟨t, e⟩ := Value.isStrOf_shape (x := x) (v := v) h;exact .inr ⟨x, t, rfl, e⟩
theorem ze9 (x : Str) (t : Tok) : zjA (.inr x) (.str x t) = true := by simp [zjA, Value.isStrOf]
theorem zmt (a b : Int) : decide ((Sum.inl a : Key) = Sum.inl b) = (a == b) := by
 by_cases e : a = b
 ·subst e; simp
 ·have h : ¬ (Sum.inl a : Key) = Sum.inl b := fun q => e (Sum.inl.inj q);rw [ya8 h];exact (beq_eq_false_iff_ne.mpr e).symm
theorem zmu (a b : Str) : decide ((Sum.inr a : Key) = Sum.inr b) = decide (a = b) := by
 by_cases e : a = b
 ·subst e; simp
 ·have h : ¬ (Sum.inr a : Key) = Sum.inr b := fun q => e (Sum.inr.inj q);rw [ya8 h, ya8 e]
theorem zmv (a : Int) (b : Str) : decide ((Sum.inl a : Key) = Sum.inr b) = false := ya8 (fun q => nomatch q)
theorem zmw (a : Str) (b : Int) : decide ((Sum.inr a : Key) = Sum.inl b) = false := ya8 (fun q => nomatch q)
def mixKind (prog : Program) (w : World) : PySem.KeyKind prog w Key where
 is := zjA
 hash := keyH w
 inj := fun v a b ha hb => by
  rcases keyIs_shape ha with ⟨i, t, rfl, rfl⟩ | ⟨x, t, rfl, rfl⟩
  ·rcases keyIs_shape hb with ⟨j, u, rfl, e⟩ | ⟨y, u, rfl, e⟩
   ·injection e with e1 _; rw [e1]
   ·exact nomatch e
  ·rcases keyIs_shape hb with ⟨j, u, rfl, e⟩ | ⟨y, u, rfl, e⟩
   ·exact nomatch e
   ·injection e with e1 _; rw [e1]
 byValue := fun k v h => by
  rcases keyIs_shape h with ⟨i, t, rfl, rfl⟩ | ⟨x, t, rfl, rfl⟩ <;> rfl
 pyHash := fun hv h => by
  rcases keyIs_shape hv with ⟨i, t, rfl, rfl⟩ | ⟨x, t, rfl, rfl⟩
  ·exact wpAny_pyHash_int h
  ·exact wpAny_pyHash_str h
 eqBool := fun hu hv h => by
  rcases keyIs_shape hu with ⟨i, t, rfl, rfl⟩ | ⟨x, t, rfl, rfl⟩
  ·rcases keyIs_shape hv with ⟨j, u, rfl, rfl⟩ | ⟨y, u, rfl, rfl⟩
   ·rw [zmt] at h; exact wpAny_eqBool_int h
   ·rw [zmv] at h; exact SeqAt.EqAt.int_str i t y u _ _ _ _ h
  ·rcases keyIs_shape hv with ⟨j, u, rfl, rfl⟩ | ⟨y, u, rfl, rfl⟩
   ·rw [zmw] at h; exact SeqAt.EqAt.str_int x t j u _ _ _ _ h
   ·rw [zmu] at h; exact wpAny_eqBool_str h
 «strs» := fun k x t v h => by
  rcases keyIs_shape h with ⟨i, u, rfl, e⟩ | ⟨y, u, rfl, e⟩
  ·exact nomatch e
  ·injection e with e1 _
   subst e1;cases v <;> rfl
theorem zde (prog : Program) (w : World) (x : Str) (t : Tok) : (mixKind prog w).is (.inr x) (.str x t) = true := ze9 x t
inductive V where
 | non | bl (b : Bool) | int (i : Int) | str (x : Str) | byt (b : Array UInt8) | flt (b : UInt64) | ref (a : Addr) | ty (n : String)
 deriving DecidableEq
def RelV : V -> Value -> Prop
 | .non, u => u = Value.none
 | .bl b, u => u = Value.bool b
 | .int i, u => ∃ t, u = Value.int i t
 | .str x, u => ∃ t, u = Value.str x t
 | .byt b, u => ∃ t, u = Value.bytes b t
 | .flt b, u => ∃ t, u = Value.float b t
 | .ref a, u => u = Value.ref a
 | .ty n, u => u = Value.type n
abbrev Vals : List V -> List Value -> Prop := Paired RelV
theorem Vals.length {xs : List V} {us : List Value} (r : Vals xs us) : xs.length = us.length := Paired.length r
theorem Vals.get : ∀ {xs : List V} {us : List Value} {i : Nat} {x : V}, Vals xs us -> xs[i]? = some x -> ∃ u, us[i]? = some u /\ RelV x u
 | _, _, _, _, .nil, e => by simp at e
 | _, _, 0, _, .cons r _, e => by simp at e; subst e; exact ⟨_, rfl, r⟩
 | _, _, i + 1, x, .cons _ t, e => by
  obtain ⟨u, h1, h2⟩ := Vals.get (i := i) (x := x) t (by simpa using e);exact ⟨u, by simpa using h1, h2⟩
theorem Vals.append : ∀ {xs ys : List V} {us ws : List Value}, Vals xs us -> Vals ys ws -> Vals (xs ++ ys) (us ++ ws)
 | _, _, _, _, .nil, s => s
 | _, _, _, _, .cons r t, s => .cons r (Vals.append t s)
theorem Vals.take : ∀ {xs : List V} {us : List Value} (n : Nat), Vals xs us -> Vals (xs.take n) (us.take n)
 | _, _, 0, _ => .nil
 | _, _, _ + 1, .nil => .nil
 | _, _, n + 1, .cons r t => .cons r (Vals.take n t)
theorem Vals.drop : ∀ {xs : List V} {us : List Value} (n : Nat), Vals xs us -> Vals (xs.drop n) (us.drop n)
 | _, _, 0, r => r
 | _, _, _ + 1, .nil => .nil
 | _, _, n + 1, .cons _ t => Vals.drop n t
def RelO : Option V -> Option Value -> Prop
 | some v, some u => RelV v u
 | none, none => True
 | _, _ => False
def KV {κ : Type} : List (κ × V) -> List (κ × Value) -> Prop := Paired fun (p : κ × V) (q : κ × Value) => p.1 = q.1 /\ RelV p.2 q.2
def kV : Key -> V
 | .inl i => .int i
 | .inr x => .str x
inductive HO where
 | lst (xs : List V)
 | tup (xs : List V)
 | dK (kvs : List (Key × V)) | dT (kvs : List (List Key × V))
 | set (S : Int -> Bool) (n : Nat)
 | ins (C dx : Addr) (fs : List (Str × V))
 | own (x : Addr)
 | xd (fs : List (Str × V))
 | met (f x : Addr)
 | rng (lo hi : Int)
 | frz (o : Obj) (u : HO)
 | tbl (ps : Array Value)
 | ext (φ : Heap -> Prop)
abbrev Hp := Addr -> Option HO
def upd (H : Hp) (a : Addr) (o : HO) : Hp := fun b => if b = a then some o else H b
theorem zac {H : Hp} {a : Addr} {o : HO} : upd H a o a = some o := by unfold upd; rw [if_pos rfl]
theorem zaE {H : Hp} {a b : Addr} {o : HO} (h : b ≠ a) : upd H a o b = H b := by unfold upd; rw [if_neg h]
theorem zaD {H : Hp} {a b : Addr} {o : HO} (h : H a = some o) (h' : H b = none) : a ≠ b := by
 intro e; subst e; rw [h] at h'; cases h'
section
variable (P : Program) (w : World)
def ObjOk (H : Hp) (h : Heap) (a : Addr) : HO -> Prop
 | .lst xs => xs.length <= sizeLine /\ ∃ (its : List Value) (n : Nat), Vals xs its /\ h.get? a = some { cls := .type "list", data := .seq its.toArray n }
 | .tup xs => xs.length <= sizeLine /\ ∃ its : List Value, Vals xs its /\ IsTup h a its.toArray
 | .dK kvs => kvs.length <= sizeLine /\ (a == sysModules) = false /\ ∃ vs, KV kvs vs /\ h.DictOf (mixKind P w) a vs
 | .dT kvs => kvs.length <= sizeLine /\ (a == sysModules) = false /\ ∃ xs : List (List Key × Addr × Value),
   Paired (fun (p : List Key × V) (q : List Key × Addr × Value) => p.1 = q.1 /\ H q.2.1 = some (.tup (p.1.map kV)) /\ RelV p.2 q.2.2) kvs xs /\
   ∃ o es ep, h.get? a = some o /\ o.ExactDict /\ o.data = .dict es ep /\ es.toList = xs.map (entryOfKey (tupleKind (mixKind P w))) /\ (xs.map (·.1)).Nodup
 | .set S n => h.SetOf (intKind P w) a S n
 | .ins C dx fs => H dx = some (.own a) /\ fs.length <= 1000 /\ dx ≠ a /\ h.get? a = some (W.instObj C dx) /\
   ∃ mA, h.Ns1 dx mA /\ (∀ f, RelO (fs.lookup f) (mA f)) /\ PySem.Within mA (fs.map (·.1))
 | .own _ => ∃ o, h.get? a = some o
 | .xd fs => ∃ mA, h.Ns1 a mA /\ ∀ f, RelO (fs.lookup f) (mA f)
 | .rng lo hi => ∃ t u v, h.get? a = some { cls := .type "range", data := .fields #[.int lo t, .int hi u, .int 1 v] }
 | .frz o u => h.get? a = some o /\ ObjOk H h a u
 | .tbl ps => h.get? a = some { cls := .none, data := .fields ps }
 | .met f x => h.get? a = some (W.methodObj (.ref f) (.ref x))
 | .ext φ => φ h /\ (∃ o, h.get? a = some o) /\ ∀ h1 h2 : Heap, φ h1 -> (∀ o, h1.get? a = some o -> h2.get? a = some o) -> φ h2
def HOk (H : Hp) (h : Heap) : Prop := ∀ a o, H a = some o -> ObjOk P w H h a o
end
section
variable {P : Program} {w : World} {H H' : Hp} {h h' : Heap} {a : Addr} {o : HO}
theorem ObjOk.lt (x : ObjOk P w H h a o) : a < h.objs.size := by
 cases o with
 | lst xs => obtain ⟨_, _, _, _, e⟩ := x; exact yan e
 | tup xs => obtain ⟨_, _, _, p⟩ := x; exact p.lt
 | dK kvs => obtain ⟨_, _, _, _, o, _, _, e, _⟩ := x; exact yan e
 | dT kvs => obtain ⟨_, _, _, _, o, _, _, e, _⟩ := x; exact yan e
 | set S n => obtain ⟨o, _, _, _, e, _⟩ := x; exact yan e
 | ins C dx fs => obtain ⟨_, _, _, e, _⟩ := x; exact yan e
 | own y => obtain ⟨_, e⟩ := x; exact yan e
 | xd fs => obtain ⟨_, ⟨_, _, _, e, _⟩, _⟩ := x; exact yan e
 | rng lo hi => obtain ⟨_, _, _, e⟩ := x; exact yan e
 | frz ob u => obtain ⟨e, _⟩ := x; exact yan e
 | tbl ps => exact yan (show h.get? a = some _ from x)
 | met f y => exact yan (show h.get? a = some _ from x)
 | ext φ => obtain ⟨_, ⟨_, e⟩, _⟩ := x; exact yan e
theorem Paired.mapP {α β : Type} {F G : α -> β -> Prop} : ∀ {l₁ : List α} {l₂ : List β}, Paired F l₁ l₂ -> (∀ a b, F a b -> G a b) -> Paired G l₁ l₂
 | _, _, .nil, _ => .nil
 | _, _, .cons r t, f => .cons (f _ _ r) (Paired.mapP t f)
theorem ObjOk.stay (x : ObjOk P w H h a o) (k : ∀ b u, (b = a \/ H b = some (.own a)) -> h.get? b = some u -> h'.get? b = some u)
  (ho : ∀ b, H b = some (.own a) -> H' b = some (.own a)) (ht : ∀ b xs, H b = some (.tup xs) -> H' b = some (.tup xs)) : ObjOk P w H' h' a o := by
 induction o with
 | lst xs => obtain ⟨z, its, n, r, e⟩ := x; exact ⟨z, its, n, r, k _ _ (.inl rfl) e⟩
 | tup xs => obtain ⟨z, its, r, ob, e, c⟩ := x; exact ⟨z, its, r, ob, k _ _ (.inl rfl) e, c⟩
 | dK kvs => obtain ⟨z, y, vs, r, ob, es, ep, e, c⟩ := x; exact ⟨z, y, vs, r, ob, es, ep, k _ _ (.inl rfl) e, c⟩
 | dT kvs =>
  obtain ⟨z, y, xs, r, ob, es, ep, e, c⟩ := x;exact ⟨z, y, xs, Paired.mapP r fun p q z => ⟨z.1, ht _ _ z.2.1, z.2.2⟩, ob, es, ep, k _ _ (.inl rfl) e, c⟩
 | set S n => obtain ⟨ob, es, ep, t, e, c⟩ := x; exact ⟨ob, es, ep, t, k _ _ (.inl rfl) e, c⟩
 | ins C dx fs =>
  obtain ⟨d, z, ne, e, mA, ⟨od, es, ep, e2, c⟩, r⟩ := x;exact ⟨ho _ d, z, ne, k _ _ (.inl rfl) e, mA, ⟨od, es, ep, k _ _ (.inr d) e2, c⟩, r⟩
 | own y => obtain ⟨ob, e⟩ := x; exact ⟨ob, k _ _ (.inl rfl) e⟩
 | xd fs => obtain ⟨mA, ⟨od, es, ep, e, c⟩, r⟩ := x; exact ⟨mA, ⟨od, es, ep, k _ _ (.inl rfl) e, c⟩, r⟩
 | rng lo hi => obtain ⟨t, u, v, e⟩ := x; exact ⟨t, u, v, k _ _ (.inl rfl) e⟩
 | frz ob u ih => obtain ⟨e, q⟩ := x; exact ⟨k _ _ (.inl rfl) e, ih q⟩
 | tbl ps =>
  have e : h.get? a = some { cls := .none, data := .fields ps } := x;show h'.get? a = some { cls := .none, data := .fields ps };exact k a _ (.inl rfl) e
 | met f y =>
  have e : h.get? a = some (W.methodObj (.ref f) (.ref y)) := x;show h'.get? a = some (W.methodObj (.ref f) (.ref y));exact k a _ (.inl rfl) e
 | ext φ => obtain ⟨p, ⟨o, e⟩, st⟩ := x; exact ⟨st _ _ p fun o q => k _ _ (.inl rfl) q, ⟨o, k _ _ (.inl rfl) e⟩, st⟩
theorem HOk.lt (x : HOk P w H h) (e : H a = some o) : a < h.objs.size := (x a o e).lt
theorem HOk.fresh (x : HOk P w H h) (e : h.objs.size <= a) : H a = none := by
 cases q : H a with
 | none => rfl
 | some u => exact absurd (Nat.lt_of_lt_of_le (x.lt q) e) (Nat.lt_irrefl _)
theorem HOk.kept (x : HOk P w H h) (k : ∀ b u, h.get? b = some u -> h'.get? b = some u) : HOk P w H h' := fun a o e =>
 (x a o e).stay (fun b u _ q => k b u q) (fun _ q => q) fun _ _ q => q
theorem HOk.laid (x : HOk P w H h) (k : ∀ b u, h.get? b = some u -> h'.get? b = some u) (hp : h.objs.size <= a) (new : ObjOk P w (upd H a o) h' a o) : HOk P w (upd H a o) h' := fun b u e => by
 have hn := x.fresh hp
 by_cases hb : b = a
 ·subst hb; rw [zac] at e; cases e; exact new
 ·rw [zaE hb] at e;exact (x b u e).stay (fun c v _ q => k c v q) (fun c q => by rw [zaE (zaD q hn)]; exact q) fun c xs q => by rw [zaE (zaD q hn)]; exact q
end
def Rd (H : Hp) (a : Addr) (u : HO) : Prop := H a = some u \/ ∃ o, H a = some (.frz o u)
theorem Rd.ok {P : Program} {w : World} {H : Hp} {h : Heap} {a : Addr} {u : HO} (r : Rd H a u) (x : HOk P w H h) : ObjOk P w H h a u := by
 rcases r with r | ⟨o, r⟩
 ·exact x a u r
 ·obtain ⟨_, q⟩ := x a _ r;exact q
def Mut : Option HO -> Prop
 | some (.lst _) => True
 | some (.dK _) => True
 | some (.dT _) => True
 | some (.set _ _) => True
 | some (.ins _ _ _) => True
 | some (.ext _) => True
 | _ => False
section
variable {P : Program} {w : World} {H : Hp} {h h' : Heap} {x e : Addr} {o' : HO}
theorem HOk.write (ok : HOk P w H h) (mu : Mut (H x)) (he : e = x \/ H e = some (.own x)) (k : ∀ b u, b ≠ e -> h.get? b = some u -> h'.get? b = some u) (heo : ∃ u, h'.get? e = some u)
  (new : ObjOk P w (upd H x o') h' x o') : HOk P w (upd H x o') h' := fun b u q => by
 have nown : ∀ c y, H c = some (.own y) -> c ≠ x := fun c y r z => by subst z; rw [r] at mu; exact mu
 have ntup : ∀ c xs, H c = some (.tup xs) -> c ≠ x := fun c xs r z => by subst z; rw [r] at mu; exact mu
 by_cases hb : b = x
 ·subst hb; rw [zac] at q; cases q; exact new
 ·rw [zaE hb] at q
  by_cases hbe : b = e
  ·have q' : H b = some (.own x) := by
    rcases he with z | z
    ·exact absurd (hbe.trans z) hb
    ·rw [hbe]; exact z
   rw [q] at q'; cases q';obtain ⟨v, hv⟩ := heo;exact ⟨v, by rw [hbe]; exact hv⟩
  ·refine (ok b u q).stay (fun c v hc r => k c v ?_ r) (fun c r => by rw [zaE (nown c b r)]; exact r) fun c xs r => by rw [zaE (ntup c xs r)]; exact r
   rcases hc with rfl | hc
   ·exact hbe
   ·rintro rfl
    rcases he with z | z
    ·exact nown c b hc z
    ·rw [hc] at z; cases z; exact hb rfl
end
structure Un (fs ex : List Addr) (H H' : Hp) (h h' : Heap) : Prop where
 keep : ∀ b o, h.get? b = some o -> H b = none -> b ∉ fs -> b ∉ ex -> h'.get? b = some o
 slot : ∀ b o, h.get? b = some o -> H b = none -> b ∈ fs -> b ∉ ex -> ∃ sl, h'.get? b = some { o with slots := sl }
 free : ∀ b o, h.get? b = some o -> H b = none -> b ∉ ex -> H' b = none
 there : ∀ b o, h.get? b = some o -> b ∉ ex -> ∃ o', h'.get? b = some o'
 tups : ∀ b xs, H b = some (.tup xs) -> H' b = some (.tup xs)
 frzs : ∀ b o u, H b = some (.frz o u) -> H' b = some (.frz o u)
 tbls : ∀ b ps, H b = some (.tbl ps) -> ∃ more, H' b = some (.tbl (ps ++ more))
section
variable {fs fs' ex ex' : List Addr} {H H1 H2 : Hp} {h h1 h2 h' : Heap} {a x e : Addr} {o : HO}
theorem Un.any (u : Un fs ex H H1 h h1) {b : Addr} {ob : Obj} (q : h.get? b = some ob) (n : H b = none) (hx : b ∉ ex) : ∃ sl, h1.get? b = some { ob with slots := sl } := by
 by_cases hb : b ∈ fs
 ·exact u.slot b ob q n hb hx
 ·exact ⟨ob.slots, u.keep b ob q n hb hx⟩
theorem Un.kept (k : ∀ b u, h.get? b = some u -> h'.get? b = some u) : Un fs ex H H h h' :=
 ⟨fun b ob q _ _ _ => k b ob q, fun b ob q _ _ _ => ⟨ob.slots, k b ob q⟩, fun _ _ _ n _ => n, fun b ob q _ => ⟨ob, k b ob q⟩, fun _ _ q => q, fun _ _ _ q => q, fun _ ps q => ⟨#[], by rw [q]; simp⟩⟩
theorem Un.refl : Un fs ex H H h h := Un.kept fun _ _ q => q
theorem Un.laid (k : ∀ b u, h.get? b = some u -> h'.get? b = some u) (hp : h.objs.size <= a) (hn : H a = none) : Un fs ex H (upd H a o) h h' where
 keep := fun b u q _ _ _ => k b u q
 slot := fun b u q _ _ _ => ⟨u.slots, k b u q⟩
 free := fun b u q n _ => by rw [zaE (Nat.ne_of_lt (Nat.lt_of_lt_of_le (yan q) hp))]; exact n
 there := fun b u q _ => ⟨u, k b u q⟩
 tups := fun b xs q => by rw [zaE (zaD q hn)]; exact q
 frzs := fun b u xs q => by rw [zaE (zaD q hn)]; exact q
 tbls := fun b ps q => ⟨#[], by rw [zaE (zaD q hn), q]; simp⟩
theorem Un.write (mu : Mut (H x)) (he : e = x \/ H e = some (.own x)) (k : ∀ b u, b ≠ e -> h.get? b = some u -> h'.get? b = some u) (heo : ∃ u, h'.get? e = some u) : Un fs ex H (upd H x o) h h' := by
 have hx : ∀ b, H b = none -> b ≠ x := fun b n z => by subst z; rw [n] at mu; exact mu
 have hb : ∀ b, H b = none -> b ≠ e := fun b n z => by
  subst z;rcases he with r | r
  ·exact hx b n r
  ·rw [n] at r; cases r
 have hm : ∀ b u, H b = some u -> ¬ Mut (some u) -> b ≠ x := fun b u q nm z => by subst z; rw [q] at mu; exact nm mu
 refine ⟨fun b u q n _ _ => k b u (hb b n) q, fun b u q n _ _ => ⟨u.slots, k b u (hb b n) q⟩, fun b u q n _ => by rw [zaE (hx b n)]; exact n, fun b u q _ => ?_,
  fun b xs q => by rw [zaE (hm b _ q fun z => z)]; exact q, fun b u xs q => by rw [zaE (hm b _ q fun z => z)]; exact q, fun b ps q => ⟨#[], by rw [zaE (hm b _ q fun z => z), q]; simp⟩⟩
 by_cases hbe : b = e
 ·subst hbe; exact heo
 ·exact ⟨u, k b u hbe q⟩
end
def trk (h : Heap) (H : Hp) : List Addr := (List.range h.objs.size).filter fun a => (H a).isSome
def hidT (h : Heap) (H : Hp) : Heap := W.hideAll h (trk h H)
theorem zhL (h : Heap) (H : Hp) : (hidT h H).objs.size = h.objs.size := W.hideAll_size _ _
theorem zjB {h : Heap} {H : Hp} {b : Addr} {o : Obj} (e : h.get? b = some o) (n : H b = none) : (hidT h H).get? b = some o :=
 W.hideAll_get _ e fun hm => by
  have q : (H b).isSome = true := (List.mem_filter.mp hm).2;rw [n] at q; simp at q
theorem zkZ {h : Heap} {H : Hp} {b : Addr} {o : Obj} (e : (hidT h H).get? b = some o) : h.get? b = some o /\ H b = none := by
 have e' : h.get? b = some o := W.of_hideAll (trk h H) e;refine ⟨e', ?_⟩;cases q : H b with
 | none => rfl
 | some x =>
  have hm : b ∈ trk h H := List.mem_filter.mpr ⟨List.mem_range.mpr (yan e'), by simp [q]⟩;have z : (hidT h H).get? b = none := W.hideAll_none (trk h H) hm;rw [z] at e; cases e
structure Mod (K : W.Frag) (mg : Str -> Option Value) (base : Heap) : Prop where
 kin : K.In base
 glob : base.Ns mainGlobals mg
 blt : ∃ mb, base.Ns builtinsNs mb /\ ∀ x : Str, x ≠ "__name__" -> mb x = bootBuiltins x
 nolimit : base.NoLimit
structure Cx where
 prog : Program
 w : World
 K : W.Frag
 mg : Str -> Option Value
 base : Heap
 A : Around
 N : List Str
 s₀ : Shared
 H₀ : Hp
 env : Env
 outer : List Env
 stack : List Env
 ex : List Addr
 fn : Str -> Bool
 calm : Bool
 pn : ZP
 xe : ZQ
def frs (l : List Env) : List Addr := l.filterMap (·.frame)
abbrev Cx.fs (X : Cx) : List Addr := frs X.outer
def Vis (sc : Scope) (x : Str) : Prop := sc.names.lookup x = some .local \/ sc.names.lookup x = some .cell \/ sc.names.lookup x = some .free
def Loc (sc : Scope) (x : Str) : Prop := sc.names.lookup x = some .local \/ sc.names.lookup x = some .cell
def Look (env : Env) (h : Heap) (m : Str -> Option Value) (x : Str) (u : Value) : Prop :=
 (env.kindOf x = some .local /\ m x = some u) \/ ((env.kindOf x = some .cell \/ env.kindOf x = some .free) /\ ∃ c, env.cells.lookup x = some c /\ h.IsCell c (some u))
structure Cx.Ok (X : Cx) : Prop where
 mod : Mod X.K X.mg X.base
 kind : X.env.scope.kind = .function
 glob : X.env.globals = mainGlobals
 blt : X.env.builtins = builtinsNs
 above : X.s₀.heap.objs.size <= X.env.locals
 inj : ∀ x y c, X.env.cells.lookup x = some c -> X.env.cells.lookup y = some c -> x = y
 has : ∀ x, (X.env.kindOf x = some .cell \/ X.env.kindOf x = some .free) -> ∃ c, X.env.cells.lookup x = some c
 cab : ∀ x c, X.fn x = true -> X.env.cells.lookup x = some c -> X.s₀.heap.objs.size <= c
 hd : X.calm = true -> X.A.handled = none
 frames : X.A.frames = some X.stack
 stk : X.stack = X.outer \/ (X.stack = X.env :: X.outer /\ X.env.frame = some X.env.locals)
 exf : ∀ b ∈ X.ex, b ≠ X.env.locals /\ ∀ x c, X.env.cells.lookup x = some c -> c ≠ b
 bs : ∀ b o, X.base.get? b = some o -> X.s₀.heap.get? b = some o /\ X.H₀ b = none
 bsz : X.base.objs.size <= X.s₀.heap.objs.size
 noex : ∀ b o, X.base.get? b = some o -> b ∉ X.ex
 exfs : ∀ b ∈ X.ex, b ∉ X.fs
 funs : X.s₀.heap.FunFrames X.base X.outer
 frf : ∀ b ∈ X.fs, X.H₀ b = none
structure Inv (X : Cx) (Qa : ZP) (σ : List (Option V)) (H : Hp) (s : Shared) : Prop where
 ok : X.Ok
 os : s.os = X.s₀.os
 bare : AllBare s.gens
 base : Un X.fs X.ex X.H₀ H X.s₀.heap s.heap
 loc : ∃ m, s.heap.Ns X.env.locals m /\ ∀ (i : Nat) (x : Str) (v : V), X.N[i]? = some x -> σ[i]? = some (some v) -> Vis X.env.scope x -> ∃ u, RelV v u /\ Look X.env s.heap m x u
 cell : ∀ x c, X.env.cells.lookup x = some c -> ∃ v, s.heap.IsCell c v
 free : H X.env.locals = none
 freeC : ∀ x c, X.env.cells.lookup x = some c -> H c = none
 pin : ∀ p ∈ X.pn ++ Qa, s.heap.get? p.1 = some p.2 /\ H p.1 = none /\ p.1 ≠ X.env.locals /\ p.1 ∉ X.fs /\ ∀ v, p.2.data ≠ .cell v
 hok : HOk X.prog X.w H s.heap
 len : σ.length = X.N.length
section
variable {X : Cx} {Qa : ZP} {σ : List (Option V)} {H H' : Hp} {s : Shared} {h' : Heap}
theorem Cx.Ok.nofr (ok : X.Ok) {b : Addr} {o : Obj} (e : X.base.get? b = some o) : b ∉ X.fs := fun hb => by
 have := (ok.funs.mem hb).1;rw [e] at this; cases this
theorem Inv.bs (I : Inv X Qa σ H s) : ∀ b o, X.base.get? b = some o -> s.heap.get? b = some o /\ H b = none := fun b o e =>
 ⟨I.base.keep b o (I.ok.bs b o e).1 (I.ok.bs b o e).2 (I.ok.nofr e) (I.ok.noex b o e), I.base.free b o (I.ok.bs b o e).1 (I.ok.bs b o e).2 (I.ok.noex b o e)⟩
theorem Inv.bk (I : Inv X Qa σ H s) : ∀ b o, X.base.get? b = some o -> s.heap.get? b = some o := fun b o e => (I.bs b o e).1
theorem Inv.mod (I : Inv X Qa σ H s) : Mod X.K X.mg X.base := I.ok.mod
theorem Inv.kIn (I : Inv X Qa σ H s) : X.K.In s.heap := I.ok.mod.kin.keeps I.bk
theorem Inv.fr (I : Inv X Qa σ H s) : ∃ m, Fr X.base X.env.locals s.heap m :=
 let ⟨m, hn, _⟩ := I.loc
 ⟨m, hn, I.bk, yat I.ok.bsz I.ok.above⟩
theorem Inv.lt (I : Inv X Qa σ H s) : X.env.locals < s.heap.objs.size := let ⟨_, hn, _⟩ := I.loc; hn.lt
theorem Inv.sz (I : Inv X Qa σ H s) : X.s₀.heap.objs.size <= s.heap.objs.size := yat I.ok.above (Nat.le_of_lt I.lt)
theorem Inv.nofs (I : Inv X Qa σ H s) {a : Addr} (h : s.heap.objs.size <= a) : a ∉ X.fs := fun hb => by
 obtain ⟨_, o, ho, _⟩ := I.ok.funs.mem hb;exact absurd (Nat.lt_of_lt_of_le (yan ho) (yat I.sz h)) (Nat.lt_irrefl _)
theorem Inv.cne (I : Inv X Qa σ H s) : ∀ x c, X.env.cells.lookup x = some c -> c ≠ X.env.locals := fun x c e z => by
 obtain ⟨v, o, ho, hd⟩ := I.cell x c e;obtain ⟨m, ⟨o', es, ep, ho', hd', _⟩, _⟩ := I.loc;rw [z, ho'] at ho; cases ho; rw [hd'] at hd; cases hd
theorem Inv.funs (I : Inv X Qa σ H s) : s.heap.FunFrames X.base X.outer := by
 have all : ∀ (l : List Env), (∀ b ∈ frs l, b ∈ X.fs) -> X.s₀.heap.FunFrames X.base l -> s.heap.FunFrames X.base l := by
  intro l
  induction l with
  | nil => intro _ _; trivial
  | cons env r ih =>
   intro hs hl;obtain ⟨hk, ⟨L, o, hf, hn, ho, hd⟩, hr⟩ := hl;have hL : L ∈ X.fs := hs L (by unfold frs; rw [List.filterMap_cons, hf]; exact List.mem_cons_self);obtain ⟨sl, e⟩ := I.base.slot L o ho (I.ok.frf L hL) hL fun z => I.ok.exfs L z hL;exact ⟨hk, ⟨L, _, hf, hn, e, hd⟩, ih (fun b hb => hs b (by unfold frs; rw [List.filterMap_cons, hf]; exact List.mem_cons_of_mem _ hb)) hr⟩
 exact all X.outer (fun _ hb => hb) I.ok.funs
theorem Inv.stack (I : Inv X Qa σ H s) : s.heap.FunFrames X.base X.stack := by
 rcases I.ok.stk with e | ⟨e, hf⟩
 ·rw [e]; exact I.funs
 ·rw [e];obtain ⟨m, hn, _⟩ := I.loc;refine .cons (by rw [I.ok.kind]; decide) hf hn ?_ I.funs;exact Heap.get?_none_of_le (yat I.ok.bsz I.ok.above)
theorem Inv.stkSub (I : Inv X Qa σ H s) : ∀ b ∈ frs X.stack, b ∈ X.env.locals :: X.fs := fun b hb => by
 rcases I.ok.stk with e | ⟨e, hf⟩
 ·rw [e] at hb; exact List.mem_cons_of_mem _ hb
 ·rw [e] at hb;unfold frs at hb;rw [List.filterMap_cons, hf] at hb;exact hb
theorem Inv.stkFree (I : Inv X Qa σ H s) : ∀ b ∈ frs X.stack, H b = none := fun b hb => by
 rcases yau.mp (I.stkSub b hb) with e | hb
 ·rw [e]; exact I.free
 ·obtain ⟨_, o, ho, _⟩ := I.ok.funs.mem hb;exact I.base.free b o ho (I.ok.frf b hb) fun z => I.ok.exfs b z hb
theorem Inv.step {g' : Array GenState} {t' : Nat} {d' : Drawn} {ch : List Addr} (I : Inv X Qa σ H s)
  (hch : ∀ b ∈ ch, (b ∈ X.ex \/ X.s₀.heap.objs.size <= b) /\ b ≠ X.env.locals /\ (∀ x c, X.env.cells.lookup x = some c -> c ≠ b) /\ ∀ p ∈ X.pn ++ Qa, p.1 ≠ b)
  (keep : ∀ b o, b ≠ X.env.locals -> b ∉ X.fs -> b ∉ ch -> s.heap.get? b = some o -> H b = none -> h'.get? b = some o)
  (slot : ∀ b o, b ≠ X.env.locals -> b ∈ X.fs -> b ∉ ch -> s.heap.get? b = some o -> H b = none -> ∃ sl, h'.get? b = some { o with slots := sl }) (free : ∀ b o, b ∉ ch -> s.heap.get? b = some o -> H b = none -> H' b = none)
  (there : ∀ b o, b ∉ ch -> s.heap.get? b = some o -> ∃ o', h'.get? b = some o')
  (tups : ∀ b xs, H b = some (.tup xs) -> H' b = some (.tup xs)) (frzs : ∀ b o u, H b = some (.frz o u) -> H' b = some (.frz o u)) (tbls : ∀ b ps, H b = some (.tbl ps) -> ∃ more, H' b = some (.tbl (ps ++ more)))
  (ns : ∀ m, s.heap.Ns X.env.locals m -> h'.Ns X.env.locals m) (hok : HOk X.prog X.w H' h') (hg : AllBare g') :
  Inv X Qa σ H' { s with heap := h', gens := g', drawn := d', toks := t' } := by
 have neL : ∀ b o, X.s₀.heap.get? b = some o -> b ≠ X.env.locals := fun b o e => Nat.ne_of_lt (Nat.lt_of_lt_of_le (yan e) I.ok.above);have neC : ∀ b o, X.s₀.heap.get? b = some o -> b ∉ X.ex -> b ∉ ch := fun b o e hx hb => by
  rcases (hch b hb).1 with z | z
  ·exact hx z
  ·exact absurd (Nat.lt_of_lt_of_le (yan e) z) (Nat.lt_irrefl _)
 have cellK : ∀ x c, X.env.cells.lookup x = some c -> ∀ v, s.heap.IsCell c v -> h'.IsCell c v := fun x c e v ⟨o, ho, hd⟩ => by
  have nch : c ∉ ch := fun z => (hch c z).2.2.1 x c e rfl
  by_cases hc : c ∈ X.fs
  ·obtain ⟨sl, q⟩ := slot c o (I.cne x c e) hc nch ho (I.freeC x c e);exact ⟨_, q, hd⟩
  ·exact ⟨o, keep c o (I.cne x c e) hc nch ho (I.freeC x c e), hd⟩
 refine ⟨I.ok, I.os, hg, ⟨fun b o e n hb hx => ?_, fun b o e n hb hx => ?_, fun b o e n hx => ?_, fun b o e hx => ?_, fun b xs e => tups b xs (I.base.tups b xs e), fun b o xs e => frzs b o xs (I.base.frzs b o xs e), fun b ps e => ?_⟩, ?_, fun x c e => ?_, ?_, fun x c e => ?_, fun p hp => ?_, hok, I.len⟩
 ·exact keep b o (neL b o e) hb (neC b o e hx) (I.base.keep b o e n hb hx) (I.base.free b o e n hx)
 ·obtain ⟨sl, e1⟩ := I.base.slot b o e n hb hx;obtain ⟨sl', e2⟩ := slot b _ (neL b o e) hb (neC b o e hx) e1 (I.base.free b o e n hx);exact ⟨sl', e2⟩
 ·obtain ⟨o', e1⟩ := I.base.there b o e hx;exact free b o' (neC b o e hx) e1 (I.base.free b o e n hx)
 ·obtain ⟨o', e1⟩ := I.base.there b o e hx;exact there b o' (neC b o e hx) e1
 ·obtain ⟨m1, e1⟩ := I.base.tbls b ps e;obtain ⟨m2, e2⟩ := tbls b _ e1;exact ⟨m1 ++ m2, by rw [e2, Array.append_assoc]⟩
 ·obtain ⟨m, hn, hl⟩ := I.loc;refine ⟨m, ns m hn, fun i x v e1 e2 e3 => ?_⟩;obtain ⟨u, r, l⟩ := hl i x v e1 e2 e3;refine ⟨u, r, ?_⟩;rcases l with l | ⟨k, c, e, z⟩
  ·exact .inl l
  ·exact .inr ⟨k, c, e, cellK x c e _ z⟩
 ·obtain ⟨v, z⟩ := I.cell x c e;exact ⟨v, cellK x c e v z⟩
 ·obtain ⟨m, ⟨o, _, _, ho, _⟩, _⟩ := I.loc;exact free _ o (fun z => (hch _ z).2.1 rfl) ho I.free
 ·obtain ⟨v, o, ho, hd⟩ := I.cell x c e;exact free c o (fun z => (hch c z).2.2.1 x c e rfl) ho (I.freeC x c e)
 ·obtain ⟨e, n, ne, nf, d⟩ := I.pin p hp;have nch : p.1 ∉ ch := fun z => (hch p.1 z).2.2.2 p hp rfl;exact ⟨keep p.1 p.2 ne nf nch e n, free p.1 p.2 nch e n, ne, nf, d⟩
theorem Inv.un {t' : Nat} (I : Inv X Qa σ H s) (u : Un X.fs [] H H' s.heap h') (hok : HOk X.prog X.w H' h') : Inv X Qa σ H' { s with heap := h', toks := t' } := by
 obtain ⟨m, ⟨o, es, ep, ho, r⟩, _⟩ := id I.loc;obtain ⟨sl, hL⟩ := u.any ho I.free ς;exact I.step (g' := s.gens) (d' := s.drawn) (ch := []) (fun _ z => nomatch z) (fun b o _ hb _ e n => u.keep b o e n hb ς) (fun b o _ hb _ e n => u.slot b o e n hb ς) (fun b o _ e n => u.free b o e n ς) (fun b o _ e => u.there b o e ς) u.tups u.frzs u.tbls (fun m' hm => by
  obtain ⟨o', es', ep', ho', r'⟩ := hm;rw [ho] at ho'; cases ho';exact ⟨_, es', ep', hL, r'⟩) hok I.bare
theorem Inv.call {g' : Array GenState} {t' : Nat} {d' : Drawn} {ch : List Addr} (I : Inv X Qa σ H s) (u : Un (frs X.stack) ch H H' s.heap h') (hok : HOk X.prog X.w H' h') (hg : AllBare g')
  (hch : ∀ b ∈ ch, (b ∈ X.ex \/ X.s₀.heap.objs.size <= b) /\ b ≠ X.env.locals /\ (∀ x c, X.env.cells.lookup x = some c -> c ≠ b) /\ ∀ p ∈ X.pn ++ Qa, p.1 ≠ b) :
  Inv X Qa σ H' { s with heap := h', gens := g', drawn := d', toks := t' } := by
 obtain ⟨m, ⟨o, es, ep, ho, r⟩, _⟩ := id I.loc;obtain ⟨sl, hL⟩ := u.any ho I.free fun z => (hch _ z).2.1 rfl;exact I.step (ch := ch) hch (fun b o hL hb hc e n => u.keep b o e n (fun z => (yau.mp (I.stkSub b z)).elim hL hb) hc) (fun b o _ _ hc e n => u.any e n hc) (fun b o hc e n => u.free b o e n hc) (fun b o hc e => u.there b o e hc) u.tups u.frzs u.tbls (fun m' hm => by
  obtain ⟨o', es', ep', ho', r'⟩ := hm;rw [ho] at ho'; cases ho';exact ⟨_, es', ep', hL, r'⟩) hok hg
theorem Inv.turned {t' : Nat} {it : Addr} (I : Inv X Qa σ H s) (k : ∀ b o, b ≠ it -> s.heap.get? b = some o -> h'.get? b = some o) (hn : H it = none) (hL : it ≠ X.env.locals)
  (h1 : it ∈ X.ex \/ X.s₀.heap.objs.size <= it) (h2 : ∀ x c, X.env.cells.lookup x = some c -> c ≠ it) (h3 : ∀ p ∈ X.pn ++ Qa, p.1 ≠ it) : Inv X Qa σ H { s with heap := h', toks := t' } := by
 have nit : ∀ b u, H b = some u -> b ≠ it := fun b u e z => by rw [z, hn] at e; cases e
 refine I.step (g' := s.gens) (d' := s.drawn) (ch := [it]) (fun b hb => ?_) (fun b o _ _ hc e _ => k b o (fun z => hc (by simp [z])) e) (fun b o _ _ hc e _ => ⟨o.slots, k b o (fun z => hc (by simp [z])) e⟩) (fun _ _ _ _ n => n)
  (fun b o hc e => ⟨o, k b o (fun z => hc (by simp [z])) e⟩) (fun _ _ e => e) (fun _ _ _ e => e) (fun b ps e => ⟨#[], by rw [e]; simp⟩) (fun m hm => ?_) (fun b u e => ?_) I.bare
 ·have e : b = it := by simpa using hb
  subst e;exact ⟨h1, hL, h2, h3⟩
 ·obtain ⟨o, es, ep, ho, r⟩ := hm;exact ⟨o, es, ep, k _ o (Ne.symm hL) ho, r⟩
 ·refine (I.hok b u e).stay (fun c v hc q => k c v ?_ q) (fun _ q => q) fun _ _ q => q;rcases hc with z | z
  ·rw [z]; exact nit b u e
  ·exact nit c _ z
theorem Inv.tok (I : Inv X Qa σ H s) (t : Nat) : Inv X Qa σ H { s with toks := t } := I.un (h' := s.heap) (t' := t) Un.refl I.hok
theorem Inv.kept {t' : Nat} (I : Inv X Qa σ H s) (k : ∀ b u, s.heap.get? b = some u -> h'.get? b = some u) : Inv X Qa σ H { s with heap := h', toks := t' } := I.un (Un.kept k) (I.hok.kept k)
theorem Inv.laid {a : Addr} {o : HO} {t' : Nat} (I : Inv X Qa σ H s) (k : ∀ b u, s.heap.get? b = some u -> h'.get? b = some u) (hp : s.heap.objs.size <= a) (new : ObjOk X.prog X.w (upd H a o) h' a o) :
  Inv X Qa σ (upd H a o) { s with heap := h', toks := t' } := I.un (Un.laid k hp (I.hok.fresh hp)) (I.hok.laid k hp new)
theorem Inv.write {x e : Addr} {o : HO} {t' : Nat} (I : Inv X Qa σ H s) (mu : Mut (H x)) (he : e = x \/ H e = some (.own x)) (k : ∀ b u, b ≠ e -> s.heap.get? b = some u -> h'.get? b = some u) (heo : ∃ u, h'.get? e = some u)
  (new : ObjOk X.prog X.w (upd H x o) h' x o) : Inv X Qa σ (upd H x o) { s with heap := h', toks := t' } := I.un (Un.write mu he k heo) (I.hok.write mu he k heo new)
theorem Inv.weak {σ' : List (Option V)} (I : Inv X Qa σ H s) (hl : σ'.length = σ.length) (w : ∀ (i : Nat) v, σ'[i]? = some (some v) -> σ[i]? = some (some v)) : Inv X Qa σ' H s :=
 ⟨I.ok, I.os, I.bare, I.base, let ⟨m, hn, hl'⟩ := I.loc; ⟨m, hn, fun i x v e1 e2 e3 => hl' i x v e1 (w i v e2) e3⟩, I.cell, I.free, I.freeC, I.pin, I.hok, hl.trans I.len⟩
theorem Inv.pins_of {pins' : ZP} (I : Inv X Qa σ H s) (h : ∀ p ∈ pins', s.heap.get? p.1 = some p.2 /\ H p.1 = none /\ p.1 ≠ X.env.locals /\ p.1 ∉ X.fs /\ ∀ v, p.2.data ≠ .cell v) : Inv X pins' σ H s :=
 ⟨I.ok, I.os, I.bare, I.base, I.loc, I.cell, I.free, I.freeC, fun p hp => (yay.mp hp).elim (fun z => I.pin p (List.mem_append_left _ z)) (h p), I.hok, I.len⟩
theorem zgx {N : List Str} (hN : N.Nodup) {i j : Nat} {x : Str} (a : N[i]? = some x) (b : N[j]? = some x) : i = j := by
 obtain ⟨h1, e1⟩ := yag.mp a;obtain ⟨h2, e2⟩ := yag.mp b;exact (List.getElem_inj hN).mp (e1.trans e2.symm)
theorem zeA {M : Model} {A : Around} {E : ZQ} {i : Nat} {x : Str} {v : V} {u : Value} {Q : Unit -> Shared -> Prop} (I : Inv X Qa σ H s) (hN : X.N.Nodup) (hi : X.N[i]? = some x) (hx : Loc X.env.scope x) (r : RelV v u)
  (h : ∀ s', Inv X Qa (σ.set i (some v)) H s' -> (∃ a, Heap.SameBut a s.heap s'.heap /\ (a = X.env.locals \/ X.env.cells.lookup x = some a)) -> Q () s') (hf : X.fn x = true \/ X.env.scope.names.lookup x = some .local := by first | exact .inl rfl | exact .inr rfl | assumption) : wpAny M A (storeName X.env x u) Q E s := by
 obtain ⟨m, hn, hl⟩ := id I.loc;have hcls : (X.env.scope.kind == .class || (X.env.scope.kind == .module && X.env.locals != X.env.globals)) = false := by rw [I.ok.kind]; rfl
 have hiσ : i < σ.length := by rw [I.len]; exact (yag.mp hi).1
 have cne := I.cne;have tracked : ∀ {a : Addr} {h' : Heap}, (∃ o, s.heap.get? a = some o /\ H a = none) -> Heap.SameBut a s.heap h' -> HOk X.prog X.w H h' := fun {a h'} ha hs b ob e => by
  obtain ⟨_, _, hfree⟩ := ha;refine (I.hok b ob e).stay (fun c w' hc q => (hs.2 c ?_).trans q) (fun _ q => q) fun _ _ q => q
  rintro rfl
  rcases hc with rfl | hc
  ·rw [hfree] at e; cases e
  ·rw [hfree] at hc; cases hc
 rcases hx with hk | hk
 ·refine wpAny_storeName_local hk hn (fun h' hn' hs => ?_) hcls;obtain ⟨oL, _, _, hoL, _⟩ := id hn;refine h _ ⟨I.ok, I.os, I.bare, ⟨fun b o e n hb hx => ?_, fun b o e n hb hx => ?_, I.base.free, fun b o e hx => ?_, I.base.tups, I.base.frzs, I.base.tbls⟩, ⟨_, hn', fun j y v' e1 e2 e3 => ?_⟩, fun y c e => ?_, I.free, I.freeC, fun p hp => ?_, tracked ⟨oL, hoL, I.free⟩ hs, by simpa using I.len⟩ ⟨_, hs, .inl rfl⟩
  ·exact (hs.2 b (Nat.ne_of_lt (Nat.lt_of_lt_of_le (yan e) I.ok.above))).trans (I.base.keep b o e n hb hx)
  ·obtain ⟨sl, e1⟩ := I.base.slot b o e n hb hx;exact ⟨sl, (hs.2 b (Nat.ne_of_lt (Nat.lt_of_lt_of_le (yan e) I.ok.above))).trans e1⟩
  ·obtain ⟨o', e1⟩ := I.base.there b o e hx;exact ⟨o', (hs.2 b (Nat.ne_of_lt (Nat.lt_of_lt_of_le (yan e) I.ok.above))).trans e1⟩
  ·by_cases hj : j = i
   ·subst hj;rw [hi] at e1; cases e1;rw [List.getElem?_set_self hiσ] at e2;cases e2;exact ⟨u, r, .inl ⟨hk,ς⟩⟩
   ·rw [List.getElem?_set_ne (Ne.symm hj)] at e2;obtain ⟨u', r', q⟩ := hl j y v' e1 e2 e3;refine ⟨u', r', ?_⟩;rcases q with ⟨k, e⟩ | ⟨k, c, e, z⟩
    ·refine .inl ⟨k, ?_⟩;have : y ≠ x := fun e => hj (zgx hN e1 (e ▸ hi));simp [this, e]
    ·exact .inr ⟨k, c, e, z.sameBut hs (cne y c e)⟩
  ·obtain ⟨w', z⟩ := I.cell y c e;exact ⟨w', z.sameBut hs (cne y c e)⟩
  ·obtain ⟨e, n, ne, nf, d⟩ := I.pin p hp;exact ⟨(hs.2 p.1 ne).trans e, n, ne, nf, d⟩
 ·have hfn : X.fn x = true := by
   rcases hf with z | z
   ·exact z
   ·rw [z] at hk; cases hk
  obtain ⟨c, hc⟩ := I.ok.has x (.inl hk);obtain ⟨w', z⟩ := I.cell x c hc;refine wpAny_storeName_cell I.ok.kind hk hc z (fun h' hc' hs => ?_);obtain ⟨oc, hoc, hocd⟩ := id z;refine h { s with heap := h' } ⟨I.ok, I.os, I.bare, ⟨fun b o e n hb hx => ?_, fun b o e n hb hx => ?_, I.base.free, fun b o e hx => ?_, I.base.tups, I.base.frzs, I.base.tbls⟩, ⟨m, hn.sameBut hs (Ne.symm (cne x c hc)), fun j y v' e1 e2 e3 => ?_⟩, fun y c' e => ?_, I.free, I.freeC, fun p hp => ?_, tracked ⟨oc, hoc, I.freeC x c hc⟩ hs, by simpa using I.len⟩ ⟨c, hs, .inr hc⟩
  ·exact (hs.2 b (Nat.ne_of_lt (Nat.lt_of_lt_of_le (yan e) (I.ok.cab x c hfn hc)))).trans (I.base.keep b o e n hb hx)
  ·obtain ⟨sl, e1⟩ := I.base.slot b o e n hb hx;exact ⟨sl, (hs.2 b (Nat.ne_of_lt (Nat.lt_of_lt_of_le (yan e) (I.ok.cab x c hfn hc)))).trans e1⟩
  ·obtain ⟨o', e1⟩ := I.base.there b o e hx;exact ⟨o', (hs.2 b (Nat.ne_of_lt (Nat.lt_of_lt_of_le (yan e) (I.ok.cab x c hfn hc)))).trans e1⟩
  ·by_cases hj : j = i
   ·subst hj;rw [hi] at e1; cases e1;rw [List.getElem?_set_self hiσ] at e2;cases e2;exact ⟨u, r, .inr ⟨.inl hk, c, hc, hc'⟩⟩
   ·rw [List.getElem?_set_ne (Ne.symm hj)] at e2;obtain ⟨u', r', q⟩ := hl j y v' e1 e2 e3;refine ⟨u', r', ?_⟩;rcases q with q | ⟨k, c', e, z'⟩
    ·exact .inl q
    ·refine .inr ⟨k, c', e, z'.sameBut hs ?_⟩
     rintro rfl
     exact hj (zgx hN e1 (I.ok.inj _ _ _ e hc ▸ hi))
  ·by_cases hcc : c' = c
   ·subst hcc; exact ⟨_, hc'⟩
   ·obtain ⟨w2, z2⟩ := I.cell y c' e;exact ⟨w2, z2.sameBut hs hcc⟩
  ·obtain ⟨e, n, ne, nf, d⟩ := I.pin p hp;refine ⟨(hs.2 p.1 ?_).trans e, n, ne, nf, d⟩;intro q;rw [q, hoc] at e;have q' : oc = p.2 := Option.some.inj e;exact d w' (by rw [<- q']; exact hocd)
theorem zgy {M : Model} {A : Around} {E : ZQ} {i : Nat} {x : Str} {v : V} {u : Value} {Q : Unit -> Shared -> Prop} (I : Inv X Qa σ H s) (hN : X.N.Nodup) (hi : X.N[i]? = some x) (hx : Loc X.env.scope x) (r : RelV v u)
  (h : ∀ s', Inv X Qa (σ.set i (some v)) H s' -> Q () s') (hf : X.fn x = true \/ X.env.scope.names.lookup x = some .local := by first | exact .inl rfl | exact .inr rfl | assumption) : wpAny M A (storeName X.env x u) Q E s :=
 zeA I hN hi hx r (fun s' I' _ => h s' I') hf
theorem Inv.call' {s' : Shared} {ch : List Addr} (I : Inv X Qa σ H s) (ho : s'.os = s.os) (u : Un (frs X.stack) ch H H' s.heap s'.heap) (hok : HOk X.prog X.w H' s'.heap) (hg : AllBare s'.gens)
  (hch : ∀ b ∈ ch, (b ∈ X.ex \/ X.s₀.heap.objs.size <= b) /\ b ≠ X.env.locals /\ (∀ x c, X.env.cells.lookup x = some c -> c ≠ b) /\ ∀ p ∈ X.pn ++ Qa, p.1 ≠ b) : Inv X Qa σ H' s' := by
 obtain ⟨h', g', d', t', o'⟩ := s';have e : o' = s.os := ho;subst e;exact I.call (g' := g') (t' := t') (d' := d') u hok hg hch
end
abbrev XK := Value -> Option Addr -> Hp -> Prop
abbrev St := List (Option V)
abbrev VK := V -> Hp -> Prop
abbrev TE := St -> Hp -> VK -> Prop
abbrev TT := St -> Hp -> (Bool -> Hp -> Prop) -> Prop
abbrev TA := St -> Hp -> (List V -> Hp -> Prop) -> Prop
structure Ends where
 nx : St -> Hp -> Prop
 rt : VK
 bk : St -> Hp -> Prop := fun _ _ => False
 ct : St -> Hp -> Prop := fun _ _ => False
abbrev TS := Ends -> St -> Hp -> Prop
def EP (X : Cx) (Qa : ZP) (σ : St) (Q : VK) (u : Value) (s' : Shared) : Prop := ∃ v H', Inv X Qa σ H' s' /\ RelV v u /\ Q v H'
def TP (X : Cx) (Qa : ZP) (σ : St) (Q : Bool -> Hp -> Prop) (b : Bool) (s' : Shared) : Prop := ∃ H', Inv X Qa σ H' s' /\ Q b H'
def AP (X : Cx) (Qa : ZP) (σ : St) (Q : List V -> Hp -> Prop) (us : List Value) (s' : Shared) : Prop := ∃ vs H', Inv X Qa σ H' s' /\ Vals vs us /\ Q vs H'
def SP (X : Cx) (Qa : ZP) (D : Ends) (f : Flow) (s' : Shared) : Prop :=
 match f with
 | .next => ∃ σ' H', Inv X Qa σ' H' s' /\ D.nx σ' H'
 | .brk => ∃ σ' H', Inv X Qa σ' H' s' /\ D.bk σ' H'
 | .cont => ∃ σ' H', Inv X Qa σ' H' s' /\ D.ct σ' H'
 | .ret u => ∃ v σ' H', Inv X Qa σ' H' s' /\ RelV v u /\ D.rt v H'
def PE (X : Cx) (e : Expr) (t : TE) : Prop :=
 ∀ (Qa : ZP) (s : Shared) (σ : St) (H : Hp) (Q : VK), Inv X Qa σ H s -> t σ H Q -> wpAny (model X.prog X.w) X.A (eval e X.env) (EP X Qa σ Q) X.xe s
def PT (X : Cx) (e : Expr) (t : TT) : Prop :=
 ∀ (Qa : ZP) (s : Shared) (σ : St) (H : Hp) (Q : Bool -> Hp -> Prop), Inv X Qa σ H s -> t σ H Q -> wpAny (model X.prog X.w) X.A (isTrue e X.env (eval e X.env)) (TP X Qa σ Q) X.xe s
def PW (X : Cx) (e : Expr) (t : TT) : Prop :=
 ∀ (whole : Sem Value) (Qa : ZP) (s : Shared) (σ : St) (H : Hp) (Q : Bool -> Hp -> Prop), Inv X Qa σ H s -> t σ H Q -> wpAny (model X.prog X.w) X.A (isTrue e X.env whole) (TP X Qa σ Q) X.xe s
theorem PW.pt {X : Cx} {e : Expr} {t : TT} (h : PW X e t) : PT X e t := h _
def PA (X : Cx) (es : List Expr) (t : TA) : Prop :=
 ∀ (pos : Pos) (Qa : ZP) (s : Shared) (σ : St) (H : Hp) (Q : List V -> Hp -> Prop), Inv X Qa σ H s -> t σ H Q -> wpAny (model X.prog X.w) X.A (spliced (backTo pos (starEach es X.env))) (AP X Qa σ Q) X.xe s
def PS (X : Cx) (st : Stmt) (t : TS) : Prop :=
 ∀ (Qa : ZP) (s : Shared) (σ : St) (H : Hp) (D : Ends), Inv X Qa σ H s -> t D σ H -> wpAny (model X.prog X.w) X.A (exec st X.env) (SP X Qa D) X.xe s
def PSs (X : Cx) (st : List Stmt) (t : TS) : Prop :=
 ∀ (Qa : ZP) (s : Shared) (σ : St) (H : Hp) (D : Ends), Inv X Qa σ H s -> t D σ H -> wpAny (model X.prog X.w) X.A (execs st X.env) (SP X Qa D) X.xe s
theorem thn {α : Type} {t : Sem α} {Q Q' : α -> Shared -> Prop} {M : Model} {A : Around} {E : ZQ} {s : Shared} (h : wpAny M A t Q E s) (hQ : ∀ a s, Q a s -> Q' a s) : wpAny M A t Q' E s := wpAny_mono h hQ fun _ _ x => x
section
variable {X : Cx}
theorem bin {a b : Expr} {ta tb : TE} (ha : PE X a ta) (hb : PE X b tb) {Qa : ZP} {s : Shared} {σ : St} {H : Hp} {R : V -> V -> Hp -> Prop} (I : Inv X Qa σ H s) (h : ta σ H fun x H1 => tb σ H1 fun y H2 => R x y H2)
  {α : Type} {Q : α -> Shared -> Prop} {f : Value -> Value -> Sem α}
  (hf : ∀ v u s2 x y H2, Inv X Qa σ H2 s2 -> RelV x v -> RelV y u -> R x y H2 -> wpAny (model X.prog X.w) X.A (f v u) Q X.xe s2) :
  wpAny (model X.prog X.w) X.A (eval a X.env) (fun v s₁ => wpAny (model X.prog X.w) X.A (eval b X.env) (fun u s₂ => wpAny (model X.prog X.w) X.A (f v u) Q X.xe s₂) X.xe s₁) X.xe s := by
 refine thn (ha Qa s σ H _ I h) fun v s1 ⟨x, H1, I1, r1, q1⟩ => ?_;refine thn (hb Qa s1 σ H1 _ I1 q1) fun u s2 ⟨y, H2, I2, r2, q2⟩ => ?_;exact hf v u s2 x y H2 I2 r1 r2 q2
def tVar (i : Nat) : TE := fun σ H Q => ∃ v, σ[i]? = some (some v) /\ Q v H
def tC (v : V) : TE := fun _ H Q => Q v H
theorem zmx {i : Nat} {x : Str} {pos : Pos} (hN : X.N[i]? = some x) (hv : Vis X.env.scope x) (hd : (x == ("__debug__" : Str)) = false := by decide) (hcd : (x == ("__classdict__" : Str)) = false := by decide) : PE X (.Name x pos) (tVar i) := by
 intro Qa s σ H Q I h;obtain ⟨v, e, h⟩ := h;obtain ⟨m, hn, hl⟩ := I.loc;obtain ⟨u, r, l⟩ := hl i x v hN e hv;have fin : EP X Qa σ Q u s := ⟨v, H, I, r, h⟩
 rcases l with ⟨hk, hm⟩ | ⟨hk, c, hc, hcell⟩
 ·exact wpAny_Name (wpAny_loadName_local I.ok.kind hk hn hm fin) hd
 ·rcases hk with hk | hk
  ·exact wpAny_Name (wpAny_loadName_cell I.ok.kind hk hc hcell fin) hd
  ·exact wpAny_Name (wpAny_loadName_free I.ok.kind hk hc hcell fin hcd) hd
theorem zaf {i j pos} : PE X (.Constant (.int i) j pos) (tC (.int i)) := fun _ _ _ H _ I h => wpAny_Constant_int ⟨.int i, H, I.tok _, ⟨_, rfl⟩, h⟩
theorem zhb {b j pos} : PE X (.Constant (.bool b) j pos) (tC (.bl b)) := fun _ _ _ H _ I h => Constant_bool ⟨.bl b, H, I, rfl, h⟩
theorem zat {x j pos} : PE X (.Constant (.str x) j pos) (tC (.str x)) := fun _ _ _ H _ I h => Calls.Constant_str ⟨.str x, H, I.tok _, ⟨_, rfl⟩, h⟩
def Gl (X : Cx) (x : Str) : Prop := X.env.kindOf x = some .globalImplicit
theorem zhM {E : ZQ} {Qa : ZP} {s : Shared} {σ : St} {H : Hp} {x : Str} {u : Value} {pos : Pos} {Q : ZQ} (I : Inv X Qa σ H s) (hg : Gl X x) (hm : X.mg x = some u) (h : Q u s)
  (hd : (x == ("__debug__" : Str)) = false := by decide) : wpAny (model X.prog X.w) X.A (eval (.Name x pos) X.env) Q E s :=
 Calls.Name_function_global I.ok.kind hg (Calls.loadGlobal_global (by rw [I.ok.glob]; exact I.mod.glob.keeps I.bk) hm h) hd
theorem zdN {E : ZQ} {Qa : ZP} {s : Shared} {σ : St} {H : Hp} {x : Str} {u : Value} {pos : Pos} {Q : ZQ} (I : Inv X Qa σ H s) (hg : Gl X x) (hm : X.mg x = none) (hv : bootBuiltins x = some u) (h : Q u s)
  (hn : x ≠ "__name__" := by decide) (hd : (x == ("__debug__" : Str)) = false := by decide) : wpAny (model X.prog X.w) X.A (eval (.Name x pos) X.env) Q E s := by
 obtain ⟨mb, h1, h2⟩ := I.mod.blt;exact Calls.Name_function_global I.ok.kind hg (Calls.loadGlobal_builtin (by rw [I.ok.glob]; exact I.mod.glob.keeps I.bk) hm (by rw [I.ok.blt]; exact h1.keeps I.bk) ((h2 x hn).trans hv) h) hd
theorem zcB {x : Str} {v : V} {u : Value} {pos : Pos} (hg : Gl X x) (hm : X.mg x = some u) (r : RelV v u) (hd : (x == ("__debug__" : Str)) = false := by decide) : PE X (.Name x pos) (tC v) :=
 fun _ _ _ H _ I h => zhM I hg hm ⟨v, H, I, r, h⟩ hd
theorem zla {x : Str} {v : V} {u : Value} {pos : Pos} (hg : Gl X x) (hm : X.mg x = none) (hv : bootBuiltins x = some u) (r : RelV v u) (hn : x ≠ "__name__" := by decide) (hd : (x == ("__debug__" : Str)) = false := by decide) : PE X (.Name x pos) (tC v) :=
 fun _ _ _ H _ I h => zdN I hg hm hv ⟨v, H, I, r, h⟩ hn hd
variable {a b : Expr} {ta tb : TE} {pos : Pos}
def PC (X : Cx) (op : CmpOp) (a b : Expr) (t : TE) : Prop :=
 ∀ (Qa : ZP) (s : Shared) (σ : St) (H : Hp) (Q : VK), Inv X Qa σ H s -> t σ H Q ->
  wpAny (model X.prog X.w) X.A (eval a X.env) (fun v s₁ => wpAny (model X.prog X.w) X.A (eval b X.env) (fun u s₂ => wpAny (model X.prog X.w) X.A (compareOp op v u) (EP X Qa σ Q) X.xe s₂) X.xe s₁) X.xe s
theorem zjC (b : Expr) {op : CmpOp} (h : op ≠ .In) (h2 : op ≠ .NotIn) : behindInMarks op b = false := by
 have e1 : (op == CmpOp.In) = false := by cases op <;> first | rfl | exact absurd rfl h
 have e2 : (op == CmpOp.NotIn) = false := by cases op <;> first | rfl | exact absurd rfl h2
 cases b <;> simp [behindInMarks, e1, e2]
def tB (t : TE) : TT := fun σ H Q => t σ H fun x H1 => ∃ c, x = .bl c /\ Q c H1
theorem zoX {op : CmpOp} {t : TE} (h : PC X op a b t) (h1 : behindInMarks op b = false := by first | exact zjC _ δ δ | rfl) : PT X (.Compare a [op] [b] pos) (tB t) := by
 intro Qa s σ H Q I hw;refine wpAny_isTrue_Compare1 (thn (h Qa s σ H _ I hw) fun v s1 h1 => thn h1 fun u s2 h2 => thn h2 fun c s3 ⟨x, H1, I1, r1, q1⟩ => ?_) h1;obtain ⟨d, rfl, q⟩ := q1;cases r1;exact wpAny_truthy_bool ⟨H1, I1, q⟩
theorem zdO {e : Expr} {t : TE} (h : PE X e t) (he : ∀ whole, isTrue e X.env whole = (do let v <- whole; standAt e.pos; holding [v] (truthy v)) := by intro _; rfl) : PT X e (tB t) := by
 intro Qa s σ H Q I hw;refine isTrue_plain (thn (h Qa s σ H _ I hw) fun v s1 ⟨x, H1, I1, r1, q1⟩ => ?_) (he _);obtain ⟨d, rfl, q⟩ := q1;cases r1;exact wpAny_truthy_bool ⟨H1, I1, q⟩
variable {tA tB' : TT} {rest : List Expr}
def tAnd (t u : TT) : TT := fun σ H Q => t σ H fun c H1 => if c = true then u σ H1 Q else Q false H1
def tOr (t u : TT) : TT := fun σ H Q => t σ H fun c H1 => if c = true then Q true H1 else u σ H1 Q
def tNot (t : TT) : TT := fun σ H Q => t σ H fun c H1 => Q (!c) H1
theorem zdf (ha : PT X a tA) : PW X (.BoolOp .And [a] pos) tA := by
 intro wh Qa s σ H Q I h;refine isTrue_and (thn (ha Qa s σ H Q I h) fun c s1 e => ?_);cases c with
 | true => exact isTrue_and_nil e
 | false => exact e
theorem zeB (ha : PT X a tA) : PW X (.BoolOp .Or [a] pos) tA := by
 intro wh Qa s σ H Q I h;refine isTrue_or (thn (ha Qa s σ H Q I h) fun c s1 e => ?_);cases c with
 | false => exact isTrue_or_nil e
 | true => exact e
theorem zeC (ha : PT X a tA) (hb : PW X (.BoolOp .And (b :: rest) pos) tB') : PW X (.BoolOp .And (a :: b :: rest) pos) (tAnd tA tB') := by
 intro wh Qa s σ H Q I h;refine isTrue_and (thn (ha Qa s σ H _ I h) fun c s1 ⟨H1, I1, q1⟩ => ?_);cases c with
 | true => exact hb wh Qa s1 σ H1 Q I1 q1
 | false => exact ⟨H1, I1, q1⟩
theorem zfE (ha : PT X a tA) (hb : PW X (.BoolOp .Or (b :: rest) pos) tB') : PW X (.BoolOp .Or (a :: b :: rest) pos) (tOr tA tB') := by
 intro wh Qa s σ H Q I h;refine isTrue_or (thn (ha Qa s σ H _ I h) fun c s1 ⟨H1, I1, q1⟩ => ?_);cases c with
 | true => exact ⟨H1, I1, q1⟩
 | false => exact hb wh Qa s1 σ H1 Q I1 q1
theorem zeD (ha : PT X a tA) : PT X (.UnaryOp .Not a pos) (tNot tA) := by
 intro Qa s σ H Q I h;exact isTrue_not (ha Qa s σ H (fun c H1 => Q (!c) H1) I h)
def zmy (ta tb : TE) : TE := fun σ H Q => ta σ H fun x H1 => ∃ c, x = .bl c /\ if c = true then tb σ H1 Q else Q (.bl false) H1
def tOrV (ta tb : TE) : TE := fun σ H Q => ta σ H fun x H1 => ∃ c, x = .bl c /\ if c = true then Q (.bl true) H1 else tb σ H1 Q
theorem zeE {op} {t : TE} (h : PE X a t) : PE X (.BoolOp op [a] pos) t := fun Qa s σ H Q I hw => BoolOp_one (h Qa s σ H Q I hw)
theorem zdg (ha : PE X a ta) (hb : PE X (.BoolOp .And (b :: rest) pos) tb) : PE X (.BoolOp .And (a :: b :: rest) pos) (zmy ta tb) := by
 intro Qa s σ H Q I h;refine BoolOp_and (thn (ha Qa s σ H _ I h) fun v s1 ⟨x, H1, I1, r1, q1⟩ => ?_);obtain ⟨c, rfl, q1⟩ := q1;cases r1;refine wpAny_truthy_bool ?_;cases c with
 | true => exact hb Qa s1 σ H1 Q I1 q1
 | false => exact ⟨.bl false, H1, I1, rfl, q1⟩
theorem zoj (ha : PE X a ta) (hb : PE X (.BoolOp .Or (b :: rest) pos) tb) : PE X (.BoolOp .Or (a :: b :: rest) pos) (tOrV ta tb) := by
 intro Qa s σ H Q I h;refine BoolOp_or (thn (ha Qa s σ H _ I h) fun v s1 ⟨x, H1, I1, r1, q1⟩ => ?_);obtain ⟨c, rfl, q1⟩ := q1;cases r1;refine wpAny_truthy_bool ?_;cases c with
 | false => exact hb Qa s1 σ H1 Q I1 q1
 | true => exact ⟨.bl true, H1, I1, rfl, q1⟩
end
def SqL (K : W.Frag) (H : Hp) (a : Addr) (xs : List V) : Prop :=
 Rd H a (.lst xs) \/
  ∃ (o : Obj) (its : Array Value) (n : Nat), K.lookup a = some o /\ o.cls = .type "list" /\ o.dict = none /\ o.data = .seq its n /\ its.size <= sizeLine /\ Vals xs its.toList
def SqT (K : W.Frag) (H : Hp) (a : Addr) (xs : List V) : Prop :=
 Rd H a (.tup xs) \/
  ∃ (o : Obj) (its : Array Value) (n : Nat), K.lookup a = some o /\ o.cls = .type "tuple" /\ o.data = .seq its n /\ its.size <= sizeLine /\ Vals xs its.toList
def absV : Value -> Option V
 | .none => some .non
 | .bool b => some (.bl b)
 | .int i _ => some (.int i)
 | .str x _ => some (.str x)
 | .bytes b _ => some (.byt b)
 | .float b _ => some (.flt b)
 | .ref a => some (.ref a)
 | .type n => some (.ty n)
 | _ => none
theorem RelV.abs {x : V} {u : Value} (r : RelV x u) : absV u = some x := by
 cases x with
 | non => cases r; rfl
 | bl _ => cases r; rfl
 | int _ => obtain ⟨t, rfl⟩ := r; rfl
 | str _ => obtain ⟨t, rfl⟩ := r; rfl
 | byt _ => obtain ⟨t, rfl⟩ := r; rfl
 | flt _ => obtain ⟨t, rfl⟩ := r; rfl
 | ref _ => cases r; rfl
 | ty _ => cases r; rfl
theorem RelV.inj {x y : V} {u : Value} (r : RelV x u) (q : RelV y u) : x = y := Option.some.inj (r.abs.symm.trans q.abs)
theorem Vals.inj : ∀ {xs ys : List V} {us : List Value}, Vals xs us -> Vals ys us -> xs = ys
 | _, _, _, .nil, .nil => rfl
 | _, _, _, .cons r t, .cons r' t' => by rw [r.inj r', Vals.inj t t']
section
variable {X : Cx} {Qa : ZP} {σ : St} {H : Hp} {s : Shared} {a : Addr} {xs ys : List V}
theorem SqL.of {K : W.Frag} (h : H a = some (.lst xs)) : SqL K H a xs := .inl (.inl h)
theorem SqT.of {K : W.Frag} (h : H a = some (.tup xs)) : SqT K H a xs := .inl (.inl h)
theorem Inv.list (I : Inv X Qa σ H s) (h : SqL X.K H a xs) : ∃ its : List Value, Vals xs its /\ PlainL s.heap a its.toArray /\ xs.length <= sizeLine := by
 rcases h with h | ⟨o, its, n, hk, hc, hd, hs, hz, r⟩
 ·obtain ⟨z, its, n, r, e⟩ := h.ok I.hok;exact ⟨its, r, ⟨_, n, e, rfl, rfl, rfl⟩, z⟩
 ·refine ⟨its.toList, r, ⟨o, n, I.kIn a o hk, hc, hd, by simpa using hs⟩, ?_⟩;have e := r.length;simp only [Array.length_toList] at e;omega
theorem Inv.tuple (I : Inv X Qa σ H s) (h : SqT X.K H a xs) : ∃ its : List Value, Vals xs its /\ IsTup s.heap a its.toArray /\ xs.length <= sizeLine := by
 rcases h with h | ⟨o, its, n, hk, hc, hs, hz, r⟩
 ·obtain ⟨z, its, r, p⟩ := h.ok I.hok;exact ⟨its, r, p, z⟩
 ·refine ⟨its.toList, r, ⟨o, I.kIn a o hk, hc, n, by simpa using hs⟩, ?_⟩;have e := r.length;simp only [Array.length_toList] at e;omega
theorem Inv.list_inj (I : Inv X Qa σ H s) (h : SqL X.K H a xs) (h' : SqL X.K H a ys) : xs = ys := by
 obtain ⟨its, r, ⟨o, n, e, _, _, d⟩, _⟩ := I.list h;obtain ⟨its', r', ⟨o', n', e', _, _, d'⟩, _⟩ := I.list h';rw [e] at e'; cases e';rw [d] at d'
 injection d' with d1 _
 have : its = its' := by simpa using congrArg Array.toList d1
 subst this;exact r.inj r'
theorem Inv.tuple_inj (I : Inv X Qa σ H s) (h : SqT X.K H a xs) (h' : SqT X.K H a ys) : xs = ys := by
 obtain ⟨its, r, ⟨o, e, _, n, d⟩, _⟩ := I.tuple h;obtain ⟨its', r', ⟨o', e', _, n', d'⟩, _⟩ := I.tuple h';rw [e] at e'; cases e';rw [d] at d'
 injection d' with d1 _
 have : its = its' := by simpa using congrArg Array.toList d1
 subst this;exact r.inj r'
end
abbrev Cx.wish (X : Cx) (E : ZQ) : Cx := { X with xe := E }
abbrev Cx.nox (X : Cx) : Cx := X.wish fun _ _ => False
theorem Cx.Ok.wish {X : Cx} (ok : X.Ok) (E : ZQ) : (X.wish E).Ok :=
 ⟨ok.mod, ok.kind, ok.glob, ok.blt, ok.above, ok.inj, ok.has, ok.cab, ok.hd, ok.frames, ok.stk, ok.exf, ok.bs, ok.bsz, ok.noex, ok.exfs, ok.funs, ok.frf⟩
theorem Cx.Ok.unwish {X : Cx} {E : ZQ} (ok : (X.wish E).Ok) : X.Ok :=
 ⟨ok.mod, ok.kind, ok.glob, ok.blt, ok.above, ok.inj, ok.has, ok.cab, ok.hd, ok.frames, ok.stk, ok.exf, ok.bs, ok.bsz, ok.noex, ok.exfs, ok.funs, ok.frf⟩
section
variable {X : Cx} {Qa : ZP} {σ : St} {H : Hp} {s : Shared} {E : ZQ}
theorem Inv.wish (I : Inv X Qa σ H s) (E : ZQ) : Inv (X.wish E) Qa σ H s := ⟨I.ok.wish E, I.os, I.bare, I.base, I.loc, I.cell, I.free, I.freeC, I.pin, I.hok, I.len⟩
theorem Inv.unwish (I : Inv (X.wish E) Qa σ H s) : Inv X Qa σ H s := ⟨I.ok.unwish, I.os, I.bare, I.base, I.loc, I.cell, I.free, I.freeC, I.pin, I.hok, I.len⟩
theorem SP.unwish {D : Ends} {f : Flow} {s' : Shared} (h : SP (X.wish E) Qa D f s') : SP X Qa D f s' := by
 cases f with
 | next => obtain ⟨σ', H', I, q⟩ := h; exact ⟨σ', H', I.unwish, q⟩
 | brk => obtain ⟨σ', H', I, q⟩ := h; exact ⟨σ', H', I.unwish, q⟩
 | cont => obtain ⟨σ', H', I, q⟩ := h; exact ⟨σ', H', I.unwish, q⟩
 | ret u => obtain ⟨v, σ', H', I, r, q⟩ := h; exact ⟨v, σ', H', I.unwish, r, q⟩
theorem PSs.nox {st : List Stmt} {t : TS} (h : PSs X.nox st t) : PSs X st t := fun Qa s σ H D I hw =>
 wpAny_mono (h Qa s σ H D (I.wish _) hw) (fun _ _ q => q.unwish) fun _ _ z => False.elim z
end
section
variable {X : Cx} {st : Stmt} {rest : List Stmt} {t u : TS} {e : Expr} {te : TE} {pos : Pos}
def zlb : TS := fun D σ H => D.nx σ H
def tSeq (t u : TS) : TS := fun D σ H => t { D with nx := u D } σ H
theorem zaG : PSs X [] zlb := fun _ _ σ H _ I h => wpAny_execs_nil ⟨σ, H, I, h⟩
theorem zag (h1 : PS X st t) (h2 : PSs X rest u) : PSs X (st :: rest) (tSeq t u) := by
 intro Qa s σ H D I h;refine wpAny_execs_cons (thn (h1 Qa s σ H { D with nx := u D } I h) fun f s1 q => ?_);cases f with
 | next =>
  obtain ⟨σ', H', I', q⟩ := q;exact h2 Qa s1 σ' H' D I' q
 | ret v => exact q
 | brk => exact q
 | cont => exact q
theorem zah (h1 : PS X st t) : PSs X [st] t := by
 intro Qa s σ H D I h;refine wpAny_execs_cons (thn (h1 Qa s σ H D I h) fun f s1 q => ?_);cases f with
 | next => exact wpAny_execs_nil q
 | ret v => exact q
 | brk => exact q
 | cont => exact q
theorem Inv.quiet {Qa : ZP} {σ : St} {H : Hp} {s : Shared} (I : Inv X Qa σ H s) : interactive X.env = false := by simp [interactive, I.ok.kind]
def zmz (te : TE) : TS := fun D σ H => te σ H fun _ H1 => D.nx σ H1
theorem zbU (he : PE X e te) (hs : swapsWith e none pos.line X.env = pure false := by rfl) : PS X (.Expr e pos) (zmz te) := by
 intro Qa s σ H D I h;exact wpAny_Expr_any (thn (he Qa s σ H _ I h) fun v s1 ⟨x, H1, I1, r1, q1⟩ => ⟨σ, H1, I1, q1⟩) I.quiet hs
def tRet (te : TE) : TS := fun D σ H => te σ H D.rt
theorem zap (he : PE X e te) : PS X (.Return (some e) pos) (tRet te) := by
 intro Qa s σ H D I h;exact wpAny_Return_some (thn (he Qa s σ H _ I h) fun v s1 ⟨x, H1, I1, r1, q1⟩ => ⟨x, σ, H1, I1, r1, q1⟩)
def tIfS (c : TT) (t u : TS) : TS := fun D σ H => c σ H fun b H1 => if b = true then t D σ H1 else u D σ H1
theorem zbv {c : Expr} {a b : List Stmt} {tc : TT} (hc : PT X c tc) (ha : PSs X a t) (hb : PSs X b u) : PS X (.If c a b pos) (tIfS tc t u) := by
 intro Qa s σ H D I h;refine wpAny_If (thn (hc Qa s σ H _ I h) fun d s1 ⟨H1, I1, q1⟩ => ?_);cases d with
 | true => exact ha Qa s1 σ H1 D I1 q1
 | false => exact hb Qa s1 σ H1 D I1 q1
end
abbrev TG := V -> St -> Hp -> (St -> Hp -> Prop) -> Prop
abbrev TGs := List V -> St -> Hp -> (St -> Hp -> Prop) -> Prop
def PG (X : Cx) (target : Expr) (t : TG) : Prop :=
 ∀ (Qa : ZP) (s : Shared) (σ : St) (H : Hp) (v : V) (u : Value) (Q : St -> Hp -> Prop), Inv X Qa σ H s -> RelV v u -> t v σ H Q ->
  wpAny (model X.prog X.w) X.A (assign target X.env u) (fun _ s' => ∃ σ' H', Inv X Qa σ' H' s' /\ Q σ' H') X.xe s
def PGs (X : Cx) (ts : List Expr) (t : TGs) : Prop :=
 ∀ (Qa : ZP) (s : Shared) (σ : St) (H : Hp) (vs : List V) (us : List Value) (Q : St -> Hp -> Prop), Inv X Qa σ H s -> Vals vs us -> t vs σ H Q ->
  wpAny (model X.prog X.w) X.A (assignInOrder ((assignEach ts X.env).map (·.2)) us) (fun _ s' => ∃ σ' H', Inv X Qa σ' H' s' /\ Q σ' H') X.xe s
abbrev TIp := V -> V -> Hp -> VK -> Prop
section
variable {X : Cx} {pos : Pos}
def zdG (i : Nat) : TG := fun v σ H Q => Q (σ.set i (some v)) H
theorem zar {i : Nat} {x : Str} (hN : X.N.Nodup) (hi : X.N[i]? = some x) (hx : Loc X.env.scope x) (hf : X.fn x = true \/ X.env.scope.names.lookup x = some .local := by first | exact .inl rfl | exact .inr rfl | assumption) : PG X (.Name x pos) (zdG i) := by
 intro Qa s σ H v u Q I r h;exact wpAny_assign_Name (zgy I hN hi hx r (fun s' I' => ⟨_, H, I', h⟩) hf)
def gNil : TGs := fun vs σ H Q => vs = [] /\ Q σ H
def zhc (t : TG) (u : TGs) : TGs := fun vs σ H Q => ∃ v r, vs = v :: r /\ t v σ H fun σ' H' => u r σ' H' Q
theorem zfF : PGs X [] gNil := by
 intro Qa s σ H vs us Q I r h;obtain ⟨e, h⟩ := h;subst e;cases r;exact assignInOrder_nil ⟨σ, H, I, h⟩
theorem zcf {e : Expr} {es : List Expr} {t : TG} {u : TGs} (h1 : PG X e t) (h2 : PGs X es u)
  (hs : (assignEach (e :: es) X.env).map (·.2) = assign e X.env :: (assignEach es X.env).map (·.2) := by rfl) : PGs X (e :: es) (zhc t u) := by
 intro Qa s σ H vs us Q I r h;obtain ⟨v, vr, e1, h⟩ := h;subst e1;cases r with
 | cons r rr =>
  rw [hs];refine assignInOrder_cons (thn (h1 Qa s σ H _ _ _ I r h) fun _ s1 ⟨σ1, H1, I1, q1⟩ => ?_);exact h2 Qa s1 σ1 H1 _ _ Q I1 rr q1
def gTup (K : W.Frag) (n : Nat) (t : TGs) : TG := fun v σ H Q => ∃ a xs, v = .ref a /\ SqT K H a xs /\ xs.length = n /\ t xs σ H Q
theorem zhN {es : List Expr} {k : Nat} {t : TGs} {n : Nat} (hc : X.calm = true) (h : PGs X es t)
  (hn : (assignEach es X.env).length = n := by rfl) (hst : (assignEach es X.env).findIdx? (·.1) = none := by rfl) : PG X (.Tuple es k pos) (gTup X.K n t) := by
 intro Qa s σ H v u Q I r hw;obtain ⟨a, xs, e1, hq, hl, hw⟩ := hw;subst e1;cases r;obtain ⟨its, rv, ht, hz⟩ := I.tuple hq;refine assign_Tuple_tuple (I.ok.hd hc) ht (by simp [hn, <- hl, rv.length]) hst fun h' hx => ?_;have I1 : Inv X Qa σ H { s with heap := h' } := I.kept (t' := s.toks) fun b o e => hx b o (Nat.ne_of_lt (yan e)) e;exact h Qa _ σ H xs _ Q I1 (by simpa using rv) hw
def tAsg (te : TE) (g : TG) : TS := fun D σ H => te σ H fun x H1 => g x σ H1 D.nx
theorem zau {i : Nat} {x : Str} {e : Expr} {te : TE} {pos' : Pos} (hN : X.N.Nodup) (hi : X.N[i]? = some x) (hx : Loc X.env.scope x) (he : PE X e te) (hs : swapsWith e (some (.Name x pos')) pos.line X.env = pure false := by rfl) (hf : X.fn x = true \/ X.env.scope.names.lookup x = some .local := by first | exact .inl rfl | exact .inr rfl | assumption) :
  PS X (.Assign [.Name x pos'] e pos) (tAsg te (zdG i)) := by
 intro Qa s σ H D I h;refine wpAny_Assign_Name (thn (he Qa s σ H _ I h) fun v s1 ⟨y, H1, I1, r1, q1⟩ => ?_) hs;exact zgy I1 hN hi hx r1 (fun s2 I2 => ⟨_, H1, I2, q1⟩) hf
def ipI (f : Int -> Int -> Int) : TIp := fun x y H Q => ∃ i j, x = .int i /\ y = .int j /\ Q (.int (f i j)) H
def zk8 (c : TT) (tb : TS) : TS := fun D σ H => ∃ W : Nat -> St -> Hp -> Prop, (∃ m, W m σ H) /\ ∀ m σ H, W m σ H ->
 c σ H fun b H1 => if b = true then ∃ N : St -> Hp -> Prop, (∀ σ' H', N σ' H' -> ∃ m', m' < m /\ W m' σ' H') /\ tb { D with nx := N, ct := N, bk := D.nx } σ H1 else D.nx σ H1
theorem zjD {c : Expr} {body : List Stmt} {tc : TT} {tb : TS} (hp : PassesOwn (model X.prog X.w) X.A X.env X.xe) (hc : PT X c tc) (hb : PSs X body tb) : PS X (.While c body [] pos) (zk8 tc tb) := by
 intro Qa s σ H D I h;obtain ⟨W, ⟨m0, w0⟩, turn⟩ := h;refine wpAny_While (codeAny_whileLoop (fun n s' => ∃ σ' H', Inv X Qa σ' H' s' /\ W n σ' H') ?_ m0 ⟨σ, H, I, w0⟩)
 rintro n s1 ⟨σ1, H1, I1, w1⟩
 refine wpAny_passesOwn hp (thn (hc Qa s1 σ1 H1 _ I1 (turn n σ1 H1 w1)) fun b s2 ⟨H2, I2, q2⟩ => ?_);cases b with
 | true =>
  obtain ⟨N, hN, q2⟩ := q2;rw [if_pos rfl];refine wpAny_passesOwn hp (thn (hb Qa s2 σ1 H2 _ I2 q2) fun f s3 q3 => ?_);cases f with
  | next =>
   obtain ⟨σ3, H3, I3, n3⟩ := q3;obtain ⟨m', hm, w3⟩ := hN σ3 H3 n3;exact ⟨m', hm, σ3, H3, I3, w3⟩
  | cont =>
   obtain ⟨σ3, H3, I3, n3⟩ := q3;obtain ⟨m', hm, w3⟩ := hN σ3 H3 n3;exact ⟨m', hm, σ3, H3, I3, w3⟩
  | brk => exact q3
  | ret v => exact q3
 | false =>
  rw [if_neg yam];exact wpAny_execs_nil ⟨σ1, H2, I2, q2⟩
end
structure It where
 go : Nat -> Hp -> Prop
 yld : Nat -> Hp -> V -> Hp -> Prop
 stop : Nat -> Hp -> Prop
def FpOk (X : Cx) (Qa : ZP) (H : Hp) (b : Addr) : Prop :=
 H b = none /\ b ≠ X.env.locals /\ b ∉ X.fs /\ (b ∈ X.ex \/ X.s₀.heap.objs.size <= b) /\ (∀ x c, X.env.cells.lookup x = some c -> c ≠ b) /\ ∀ p ∈ X.pn ++ Qa, p.1 ≠ b
theorem Inv.fpOk {X : Cx} {Qa : ZP} {σ : St} {H H' : Hp} {s : Shared} {b : Addr} (I : Inv X Qa σ H s) (hb : s.heap.objs.size <= b) (hn : H' b = none) : FpOk X Qa H' b := by
 refine ⟨hn, Nat.ne_of_gt (Nat.lt_of_lt_of_le I.lt hb), I.nofs hb, .inr (yat I.sz hb), fun x c e z => ?_, fun p hp z => ?_⟩
 ·obtain ⟨v, q⟩ := I.cell x c e;exact absurd (Nat.lt_of_lt_of_le q.lt (by rw [z]; exact hb)) (Nat.lt_irrefl _)
 ·exact absurd (Nat.lt_of_lt_of_le (yan (I.pin p hp).1) (by rw [z]; exact hb)) (Nat.lt_irrefl _)
structure Turn (P : Program) (w : World) (K : W.Frag) (tg : Expr) (J : It) (fp : List Addr) (it : Addr) (tn : Nat -> Heap -> Prop) : Prop where
 mem : it ∈ fp
 obj : ∀ i h, tn i h -> ∀ b ∈ fp, ∃ o, h.get? b = some o /\ ∀ v, o.data ≠ .cell v
 keep : ∀ i h h', tn i h -> (∀ b ∈ fp, ∀ o, h.get? b = some o -> h'.get? b = some o) -> tn i h'
 item : ∀ (X : Cx), X.prog = P -> X.w = w -> X.K = K -> X.calm = true -> ∀ (i : Nat) (Qa : ZP) (s : Shared) (σ : St) (H : Hp) (E : ZQ), Inv X Qa σ H s -> (∀ b ∈ fp, FpOk X Qa H b) -> tn i s.heap -> J.go i H ->
  wpAny (model P w) X.A (pyNext (.ref it)) (fun r s1 => ∃ u, r = some u /\
   wpAny (model P w) X.A (letOwnedTupleGo tg (.ref it) u) (fun _ s2 => ∃ x H', Inv X Qa σ H' s2 /\ RelV x u /\ J.yld i H x H' /\ tn (i + 1) s2.heap /\ ∀ b ∈ fp, H' b = none) E s1) E s
 done : ∀ (X : Cx), X.prog = P -> X.w = w -> X.K = K -> X.calm = true -> ∀ (i : Nat) (Qa : ZP) (s : Shared) (σ : St) (H : Hp) (E : ZQ), Inv X Qa σ H s -> (∀ b ∈ fp, FpOk X Qa H b) -> tn i s.heap -> J.stop i H ->
  wpAny (model P w) X.A (pyNext (.ref it)) (fun r s1 => r = none /\ Inv X Qa σ H s1) E s
 self : ∀ (A : Around) (i : Nat) (s : Shared) (Q : ZQ) (E : ZQ), tn i s.heap -> Q (.ref it) s -> wpAny (model P w) A (pyIter (.ref it)) Q E s
abbrev TI := St -> Hp -> (It -> Hp -> Prop) -> Prop
def PIE (X : Cx) (Qa : ZP) (σ : St) (tg : Expr) (R : It -> Hp -> Prop) (itv : Value) (s2 : Shared) : Prop :=
 ∃ (it : Addr) (fp : List Addr) (tn : Nat -> Heap -> Prop) (J : It) (H' : Hp), itv = .ref it /\ Inv X Qa σ H' s2 /\ Turn X.prog X.w X.K tg J fp it tn /\ tn 0 s2.heap /\ (∀ b ∈ fp, FpOk X Qa H' b) /\ R J H'
def PI (X : Cx) (tg iter : Expr) (wi : TI) : Prop :=
 ∀ (Qa : ZP) (s : Shared) (σ : St) (H : Hp) (R : It -> Hp -> Prop), Inv X Qa σ H s -> wi σ H R ->
  wpAny (model X.prog X.w) X.A (eval iter X.env) (fun v s1 => wpAny (model X.prog X.w) X.A (pyIter v) (PIE X Qa σ tg R) X.xe s1) X.xe s
theorem zhO {M : Model} {A : Around} {E : ZQ} {s : Shared} {tg : Expr} {it : Addr} {u : Value} {o : Obj} {n : String} {vs : Array Value} {Q : Unit -> Shared -> Prop} (ho : s.heap.get? it = some o) (hc : o.cls = .type n) (hd : o.data = .fields vs)
    (hn : ["enumerate", "zip", "dict_itemiterator", "dict_reverseitemiterator", "odict_iterator", "itertools.zip_longest", "itertools.pairwise"].contains n = false) (hQ : Q () s) : wpAny M A (letOwnedTupleGo tg (.ref it) u) Q E s := by
  unfold letOwnedTupleGo;cases tg <;> first
    | exact yab hQ
    | (cases u <;> first
        | exact yab hQ
        | (refine yaa (wpAny_load ho ?_)
           rw [hc, hd];show wpAny M A (if (["enumerate", "zip", "dict_itemiterator", "dict_reverseitemiterator", "odict_iterator", "itertools.zip_longest", "itertools.pairwise"].contains n && vs[0]? == some (rawInt _)) = true then _ else _) Q E s;rw [if_neg (by intro h; rw [hn, Bool.false_and] at h; cases h)];exact yab hQ))
def Itl (K : W.Frag) (a : Addr) : It :=
 ⟨fun i H => ∃ xs x, SqL K H a xs /\ xs[i]? = some x, fun i H x H' => H' = H /\ ∀ xs, SqL K H a xs -> xs[i]? = some x, fun i H => ∃ xs, SqL K H a xs /\ xs.length <= i⟩
def Itt (K : W.Frag) (a : Addr) : It :=
 ⟨fun i H => ∃ xs x, SqT K H a xs /\ xs[i]? = some x, fun i H x H' => H' = H /\ ∀ xs, SqT K H a xs -> xs[i]? = some x, fun i H => ∃ xs, SqT K H a xs /\ xs.length <= i⟩
def Itr (lo : Int) (n : Nat) : It := ⟨fun i _ => i < n, fun i H x H' => H' = H /\ x = .int (lo + i), fun i _ => n <= i⟩
theorem zhP {P : Program} {w : World} {K : W.Frag} {tg : Expr} (a it : Addr) : Turn P w K tg (Itl K a) [it] it (fun i h => h.IsListIter it a i) where
 mem := by simp
 obj := fun i h st b hb => by
  have e : b = it := by simpa using hb
  subst e;obtain ⟨o, e, c, d⟩ := st;exact ⟨o, e, fun v z => by rw [d] at z; cases z⟩
 keep := fun i h h' st k => st.at fun o e => k it ς o e
 item := by
  intro X hP hw hK hc i Qa s σ H E I hf st hg;subst hP hw hK;obtain ⟨xs, x, hq, hx⟩ := hg;obtain ⟨its, rv, p, hz⟩ := I.list hq;obtain ⟨u, hu, ru⟩ := rv.get hx;obtain ⟨f0, f1, f2, f3, f4, f5⟩ := hf it ς;refine wpAny_pyNext_list_item st p.isList (x := u) (by simpa using hu) fun h' st' sb => ?_;have I1 : Inv X Qa σ H { s with heap := h' } := I.turned (t' := s.toks) (fun b o hb e => (sb.2 b hb).trans e) f0 f1 f3 f4 f5;obtain ⟨o, e, c, d⟩ := id st';exact ⟨u, rfl, zhO (s := { s with heap := h' }) e c d δ ⟨x, H, I1, ru, ⟨rfl, fun ys hy => by rw [I.list_inj hy hq]; exact hx⟩, st', fun b hb => (hf b hb).1⟩⟩
 done := by
  intro X hP hw hK hc i Qa s σ H E I hf st hg;subst hP hw hK;obtain ⟨xs, hq, hx⟩ := hg;obtain ⟨its, rv, p, hz⟩ := I.list hq;obtain ⟨f0, f1, f2, f3, f4, f5⟩ := hf it ς;have hl := rv.length;exact wpAny_pyNext_list_end (I.ok.hd hc) st p.isList (by simp; omega) fun h' eb => ⟨rfl, I.turned (t' := s.toks) (fun b o hb e => eb b o hb e) f0 f1 f3 f4 f5⟩
 self := fun _ _ _ _ _ st h => wpAny_pyIter_listiter st h
theorem zhd {P : Program} {w : World} {K : W.Frag} {tg : Expr} (a it : Addr) : Turn P w K tg (Itt K a) [it] it (fun i h => h.IsTupleIter it a i) where
 mem := by simp
 obj := fun i h st b hb => by
  have e : b = it := by simpa using hb
  subst e;obtain ⟨o, e, c, d⟩ := st;exact ⟨o, e, fun v z => by rw [d] at z; cases z⟩
 keep := fun i h h' st k => st.at fun o e => k it ς o e
 item := by
  intro X hP hw hK hc i Qa s σ H E I hf st hg;subst hP hw hK;obtain ⟨xs, x, hq, hx⟩ := hg;obtain ⟨its, rv, p, hz⟩ := I.tuple hq;obtain ⟨u, hu, ru⟩ := rv.get hx;obtain ⟨f0, f1, f2, f3, f4, f5⟩ := hf it ς;refine wpAny_pyNext_tuple_item st (show s.heap.IsTuple a its.toArray from p) (x := u) (by simpa using hu) fun h' st' sb => ?_;have I1 : Inv X Qa σ H { s with heap := h' } := I.turned (t' := s.toks) (fun b o hb e => (sb.2 b hb).trans e) f0 f1 f3 f4 f5;obtain ⟨o, e, c, d⟩ := id st';exact ⟨u, rfl, zhO (s := { s with heap := h' }) e c d δ ⟨x, H, I1, ru, ⟨rfl, fun ys hy => by rw [I.tuple_inj hy hq]; exact hx⟩, st', fun b hb => (hf b hb).1⟩⟩
 done := by
  intro X hP hw hK hc i Qa s σ H E I hf st hg;subst hP hw hK;obtain ⟨xs, hq, hx⟩ := hg;obtain ⟨its, rv, p, hz⟩ := I.tuple hq;obtain ⟨f0, f1, f2, f3, f4, f5⟩ := hf it ς;have hl := rv.length;exact wpAny_pyNext_tuple_end (I.ok.hd hc) st (show s.heap.IsTuple a its.toArray from p) (by simp; omega) fun h' eb => ⟨rfl, I.turned (t' := s.toks) (fun b o hb e => eb b o hb e) f0 f1 f3 f4 f5⟩
 self := fun _ _ _ _ _ st h => wpAny_pyIter_tupleiter st h
theorem zhe {P : Program} {w : World} {K : W.Frag} {tg : Expr} (it : Addr) (lo : Int) (n : Nat) : Turn P w K tg (Itr lo n) [it] it (fun i h => IsRangeIter h it (lo + (i : Nat) * 1) ((n : Int) - (i : Nat)) 1) where
 mem := by simp
 obj := fun i h st b hb => by
  have e : b = it := by simpa using hb
  subst e;exact ⟨_, st, fun v z => by
   have z' : Data.fields _ = Data.cell v := z;cases z'⟩
 keep := fun i h h' st k => k it ς _ st
 item := by
  intro X hP hw hK hc i Qa s σ H E I hf st hg;subst hP hw hK;obtain ⟨f0, f1, f2, f3, f4, f5⟩ := hf it ς;have W := Walks.range (prog := X.prog) (w := X.w) (I.ok.hd hc) it lo 1 n;refine W.item i s _ _ hg st fun v h' tk hv st' kk => ?_;obtain ⟨t, rfl⟩ := hv;have I1 : Inv X Qa σ H { s with heap := h', toks := tk } := I.turned (fun b o hb e => kk b o (by simpa using hb) e) f0 f1 f3 f4 f5;refine ⟨_, rfl, zhO (s := { s with heap := h', toks := tk }) (n := "range_iterator") st' rfl rfl δ ⟨.int (lo + i), H, I1, ⟨t, ?_⟩, ⟨rfl, rfl⟩, st', fun b hb => (hf b hb).1⟩⟩;rw [Int.mul_one]
 done := by
  intro X hP hw hK hc i Qa s σ H E I hf st hg;subst hP hw hK;obtain ⟨f0, f1, f2, f3, f4, f5⟩ := hf it ς;exact wpAny_pyNext_range_end (I.ok.hd hc) st (by have : n <= i := hg; omega) fun h' eb => ⟨rfl, I.turned (t' := s.toks) (fun b o hb e => eb b o hb e) f0 f1 f3 f4 f5⟩
 self := fun _ _ _ _ _ st h => wpAny_pyIter_rangeiter st h
section
variable {X : Cx} {tg : Expr}
theorem zgz {Qa : ZP} {σ : St} {H : Hp} {s : Shared} {R : It -> Hp -> Prop} {E : ZQ} {lo hi : Int} {t u v : Tok} {tk : Nat} (I : Inv X Qa σ H s) (h1 : -(2 ^ 62) <= lo) (h2 : lo < 2 ^ 62) (h3 : -(2 ^ 62) <= hi) (h4 : hi < 2 ^ 62)
  (q : R (Itr lo (hi - lo).toNat) H) : wpAny (model X.prog X.w) X.A (pyIter (.ref s.heap.objs.size)) (PIE X Qa σ tg R) E { s with heap := s.heap.push { cls := .type "range", data := .fields #[.int lo t, .int hi u, .int 1 v] }, toks := tk } := by
 refine wpAny_pyIter_range (IsRange.new ..) (small_one h1 h2 h3 h4) ?_;have I1 : Inv X Qa σ H { s with heap := s.heap.push { cls := .type "range", data := .fields #[.int lo t, .int hi u, .int 1 v] }, toks := tk } := I.kept fun b o e => yac _ e;refine ⟨(s.heap.push { cls := .type "range", data := .fields #[.int lo t, .int hi u, .int 1 v] }).objs.size, [(s.heap.push { cls := .type "range", data := .fields #[.int lo t, .int hi u, .int 1 v] }).objs.size], _, _, H, rfl,
  I1.kept (t' := tk) fun b o e => yac _ e, zhe _ lo (hi - lo).toNat, ?_, fun b hb => ?_, q⟩
 ·have e1 : lo + ((0 : Nat) : Int) * 1 = lo := by simp
  have e2 : (((hi - lo).toNat : Nat) : Int) - ((0 : Nat) : Int) = Builtin.Range.rangeSize lo hi 1 := by rw [rangeSize_one]; split <;> omega
  show IsRangeIter _ _ (lo + ((0 : Nat) : Int) * 1) ((((hi - lo).toNat : Nat) : Int) - ((0 : Nat) : Int)) 1;rw [e1, e2];exact yaj _ rfl
 ·have e : b = (s.heap.push { cls := .type "range", data := .fields #[.int lo t, .int hi u, .int 1 v] }).objs.size := by simpa using hb
  subst e;exact I1.fpOk (yai _) (I1.hok.fresh (yai _))
def zm0 (ta : TA) : TI := fun σ H R => ta σ H fun vs H1 => ∃ j : Int, vs = [.int j] /\ -(2 ^ 62) <= j /\ j < 2 ^ 62 /\ R (Itr 0 j.toNat) H1
def zm1 (ta : TA) : TI := fun σ H R => ta σ H fun vs H1 => ∃ i j : Int, vs = [.int i, .int j] /\ (-(2 ^ 62) <= i /\ i < 2 ^ 62 /\ -(2 ^ 62) <= j /\ j < 2 ^ 62) /\ R (Itr i (j - i).toNat) H1
theorem zbJ {a : Expr} {ta : TA} {p pos : Pos} (hg : Gl X "range") (hm : X.mg "range" = none) (ha : PA X [a] ta) (hs : starEach [a] X.env = [(false, eval a X.env)] := by rfl) : PI X tg (.Call (.Name "range" p) [a] [] pos) (zm0 ta) := by
 intro Qa s σ H R I h;refine Call_ (zdN I hg hm boot_range (PyProof.Rows.callWith_type1 (thn (ha pos Qa s σ H _ I h) fun us s1 ⟨vs, H1, I1, r1, q1⟩ => ?_) hs rfl));obtain ⟨j, e, q1, q2, q⟩ := q1;subst e;cases r1 with
 | cons r rr =>
  cases rr;obtain ⟨t, rfl⟩ := r;exact call_range_1 (zgz I1 ω ω q1 q2 (by simpa using q))
theorem zhQ {a b : Expr} {ta : TA} {p pos : Pos} (hg : Gl X "range") (hm : X.mg "range" = none) (ha : PA X [a, b] ta) (hs : starEach [a, b] X.env = [(false, eval a X.env), (false, eval b X.env)] := by rfl) (hs2 : starEach [b] X.env = [(false, eval b X.env)] := by rfl) :
  PI X tg (.Call (.Name "range" p) [a, b] [] pos) (zm1 ta) := by
 intro Qa s σ H R I h;refine Call_ (zdN I hg hm boot_range (PyProof.Rows.callWith_type1 (thn (ha pos Qa s σ H _ I h) fun us s1 ⟨vs, H1, I1, r1, q1⟩ => ?_) (by rw [hs, hs2]) (by rw [hs2]; rfl)));obtain ⟨i, j, e, ⟨q1, q2, q3, q4⟩, q⟩ := q1;subst e;cases r1 with
 | cons r rr =>
  cases rr with
  | cons r' rr =>
   cases rr;obtain ⟨t, rfl⟩ := r;obtain ⟨t', rfl⟩ := r';exact call_range_2 (zgz I1 q1 q2 q3 q4 q)
def tFor (wi : TI) (g : TG) (tb : TS) : TS := fun D σ H => wi σ H fun J H1 => ∃ W : Nat -> Nat -> St -> Hp -> Prop, (∃ m, W 0 m σ H1) /\ ∀ i m σ H, W i m σ H ->
 (J.stop i H /\ D.nx σ H) \/ (J.go i H /\ ∃ N : St -> Hp -> Prop, (∀ σ' H', N σ' H' -> ∃ m', m' < m /\ W (i + 1) m' σ' H') /\ ∀ x H', J.yld i H x H' -> g x σ H' fun σ2 H2 => tb { D with nx := N, ct := N, bk := D.nx } σ2 H2)
def zeF (fp : List Addr) (h : Heap) : ZP := fp.filterMap fun b => (h.get? b).map fun o => (b, o)
theorem zcg {fp : List Addr} {h : Heap} {b : Addr} {o : Obj} (hb : b ∈ fp) (e : h.get? b = some o) : (b, o) ∈ zeF fp h := List.mem_filterMap.mpr ⟨b, hb, by rw [e]; rfl⟩
theorem zhR {fp : List Addr} {h : Heap} {p : Addr × Obj} (hp : p ∈ zeF fp h) : p.1 ∈ fp /\ h.get? p.1 = some p.2 := by
 obtain ⟨b, hb, e⟩ := List.mem_filterMap.mp hp;cases q : h.get? b with
 | none => rw [q] at e; cases e
 | some o =>
  rw [q] at e;have e' : (b, o) = p := Option.some.inj e;subst e';exact ⟨hb, q⟩
theorem Inv.pinned {Qa : ZP} {σ : St} {H : Hp} {s : Shared} {fp : List Addr} (I : Inv X Qa σ H s) (hf : ∀ b ∈ fp, FpOk X Qa H b) (ho : ∀ b ∈ fp, ∃ o, s.heap.get? b = some o /\ ∀ v, o.data ≠ .cell v) : Inv X (Qa ++ zeF fp s.heap) σ H s :=
 I.pins_of fun p hp => (yay.mp hp).elim (fun z => I.pin p (List.mem_append_right _ z)) fun z => by
  obtain ⟨hb, e⟩ := zhR z;obtain ⟨f0, f1, f2, _⟩ := hf p.1 hb;obtain ⟨o, e', d⟩ := ho p.1 hb;rw [e] at e'; cases e';exact ⟨e, f0, f1, f2, d⟩
theorem Inv.unpinned {Qa pl : ZP} {σ : St} {H : Hp} {s : Shared} (I : Inv X (Qa ++ pl) σ H s) : Inv X Qa σ H s := I.pins_of fun p hp => I.pin p (List.mem_append_right _ (List.mem_append_left _ hp))
theorem zb6 {iter : Expr} {body : List Stmt} {wi : TI} {g : TG} {tb : TS} {pos : Pos} (hp : PassesOwn (model X.prog X.w) X.A X.env X.xe) (hc : X.calm = true) (hi : PI X tg iter wi) (hg : PG X tg g) (hb : PSs X body tb)
  (hs : ∀ x, foldedSetIterable iter X.env x = pure x := by intro _; rfl) : PS X (.For tg iter body [] pos) (tFor wi g tb) := by
 intro Qa s σ H D I h;refine wpAny_For (thn (hi Qa s σ H _ I h) fun v s1 h1 => thn h1 fun itv s2 h2 => ?_) hs;obtain ⟨it, fp, tn, J, H2, e, I2, T, st2, f2, W, ⟨m0, w0⟩, turn⟩ := h2;subst e;have stat : ∀ {H' : Hp}, (∀ b ∈ fp, H' b = none) -> ∀ b ∈ fp, FpOk X Qa H' b := fun hn b hb => ⟨hn b hb, (f2 b hb).2⟩
 refine codeAny_forLoop_any (fun n s' => ∃ i σ' H', Inv X Qa σ' H' s' /\ tn i s'.heap /\ (∀ b ∈ fp, H' b = none) /\ W i n σ' H') ?_ m0 ⟨0, σ, H2, I2, st2, fun b hb => (f2 b hb).1, w0⟩
 rintro n s3 ⟨i, σ3, H3, I3, st3, fr3, w3⟩
 rcases turn i n σ3 H3 w3 with ⟨stop, qn⟩ | ⟨go, N, hN, step⟩
 ·refine wpAny_passesOwn hp (thn (T.done X rfl rfl rfl hc i Qa s3 σ3 H3 X.xe I3 (stat fr3) st3 stop) fun r s4 ⟨hr, I4⟩ => ?_);subst hr;exact wpAny_execs_nil ⟨σ3, H3, I4, qn⟩
 ·refine wpAny_passesOwn hp (thn (T.item X rfl rfl rfl hc i Qa s3 σ3 H3 X.xe I3 (stat fr3) st3 go) fun r s4 ⟨u, hr, h4⟩ => ?_);subst hr;refine wpAny_passesOwn hp (thn h4 fun _ s5 ⟨x, H5, I5, r5, y5, st5, fr5⟩ => ?_);have I5' := I5.pinned (stat fr5) (T.obj _ _ st5);refine wpAny_passesOwn hp (thn (hg _ s5 σ3 H5 x u _ I5' r5 (step x H5 y5)) fun _ s6 ⟨σ6, H6, I6, q6⟩ => ?_);refine wpAny_passesOwn hp (thn (hb _ s6 σ6 H6 _ I6 q6) fun f s7 q7 => ?_);have again : ∀ {σ7 : St} {H7 : Hp}, Inv X (Qa ++ zeF fp s5.heap) σ7 H7 s7 -> N σ7 H7 -> ∃ m, m < n /\ ∃ i σ' H', Inv X Qa σ' H' s7 /\ tn i s7.heap /\ (∀ b ∈ fp, H' b = none) /\ W i m σ' H' := fun {σ7 H7} I7 n7 => by
   obtain ⟨m', hm, w7⟩ := hN σ7 H7 n7;refine ⟨m', hm, i + 1, σ7, H7, I7.unpinned, T.keep _ _ _ st5 fun b hb o e => (I7.pin (b, o) (List.mem_append_right _ (List.mem_append_right _ (zcg hb e)))).1, fun b hb => ?_, w7⟩;obtain ⟨o, e, d⟩ := T.obj _ _ st5 b hb;exact (I7.pin (b, o) (List.mem_append_right _ (List.mem_append_right _ (zcg hb e)))).2.1
  cases f with
  | next => obtain ⟨σ7, H7, I7, n7⟩ := q7; exact again I7 n7
  | cont => obtain ⟨σ7, H7, I7, n7⟩ := q7; exact again I7 n7
  | brk => obtain ⟨σ7, H7, I7, q7⟩ := q7; exact ⟨σ7, H7, I7.unpinned, q7⟩
  | ret v => obtain ⟨x7, σ7, H7, I7, r7, q7⟩ := q7; exact ⟨x7, σ7, H7, I7.unpinned, r7, q7⟩
end
theorem zjE {K : W.Frag} {a : Addr} {xs : List V} {g : TG} {tb : TS} {D : Ends} {σ : St} {H : Hp} (Pv : Nat -> St -> Hp -> Prop) (h0 : Pv 0 σ H) (hl : ∀ i σ H, i <= xs.length -> Pv i σ H -> SqL K H a xs)
  (hs : ∀ i x σ H, xs[i]? = some x -> Pv i σ H -> g x σ H fun σ2 H2 => tb { D with nx := Pv (i + 1), ct := Pv (i + 1), bk := D.nx } σ2 H2) (hd : ∀ σ H, Pv xs.length σ H -> D.nx σ H) :
  ∃ W : Nat -> Nat -> St -> Hp -> Prop, (∃ m, W 0 m σ H) /\ ∀ i m σ H, W i m σ H ->
   ((Itl K a).stop i H /\ D.nx σ H) \/ ((Itl K a).go i H /\ ∃ N : St -> Hp -> Prop, (∀ σ' H', N σ' H' -> ∃ m', m' < m /\ W (i + 1) m' σ' H') /\ ∀ x H', (Itl K a).yld i H x H' -> g x σ H' fun σ2 H2 => tb { D with nx := N, ct := N, bk := D.nx } σ2 H2) := by
 refine ⟨fun i m σ H => m = xs.length - i /\ i <= xs.length /\ Pv i σ H, ⟨xs.length,ς, yaq _, h0⟩, ?_⟩
 rintro i m σ H ⟨rfl, hi, p⟩
 have q := hl i σ H hi p
 by_cases hlt : i < xs.length
 ·refine .inr ⟨⟨xs, xs[i], q, by simp [hlt]⟩, Pv (i + 1), fun σ' H' p' => ⟨xs.length - (i + 1),ω, rfl, hlt, p'⟩, fun x H' y => ?_⟩;obtain ⟨e, y⟩ := y;subst e;exact hs i x σ _ (y xs q) p
 ·have e : i = xs.length := by omega
  subst e;exact .inl ⟨⟨xs, q, yai _⟩, hd σ H p⟩
theorem zlc {K : W.Frag} {a : Addr} {xs : List V} {g : TG} {tb : TS} {D : Ends} {σ : St} {H : Hp} (Pv : Nat -> St -> Hp -> Prop) (h0 : Pv 0 σ H) (hl : ∀ i σ H, i <= xs.length -> Pv i σ H -> SqT K H a xs)
  (hs : ∀ i x σ H, xs[i]? = some x -> Pv i σ H -> g x σ H fun σ2 H2 => tb { D with nx := Pv (i + 1), ct := Pv (i + 1), bk := D.nx } σ2 H2) (hd : ∀ σ H, Pv xs.length σ H -> D.nx σ H) :
  ∃ W : Nat -> Nat -> St -> Hp -> Prop, (∃ m, W 0 m σ H) /\ ∀ i m σ H, W i m σ H ->
   ((Itt K a).stop i H /\ D.nx σ H) \/ ((Itt K a).go i H /\ ∃ N : St -> Hp -> Prop, (∀ σ' H', N σ' H' -> ∃ m', m' < m /\ W (i + 1) m' σ' H') /\ ∀ x H', (Itt K a).yld i H x H' -> g x σ H' fun σ2 H2 => tb { D with nx := N, ct := N, bk := D.nx } σ2 H2) := by
 refine ⟨fun i m σ H => m = xs.length - i /\ i <= xs.length /\ Pv i σ H, ⟨xs.length,ς, yaq _, h0⟩, ?_⟩
 rintro i m σ H ⟨rfl, hi, p⟩
 have q := hl i σ H hi p
 by_cases hlt : i < xs.length
 ·refine .inr ⟨⟨xs, xs[i], q, by simp [hlt]⟩, Pv (i + 1), fun σ' H' p' => ⟨xs.length - (i + 1),ω, rfl, hlt, p'⟩, fun x H' y => ?_⟩;obtain ⟨e, y⟩ := y;subst e;exact hs i x σ _ (y xs q) p
 ·have e : i = xs.length := by omega
  subst e;exact .inl ⟨⟨xs, q, yai _⟩, hd σ H p⟩
theorem zhS {lo : Int} {n : Nat} {g : TG} {tb : TS} {D : Ends} {σ : St} {H : Hp} (Pv : Nat -> St -> Hp -> Prop) (h0 : Pv 0 σ H)
  (hs : ∀ i σ H, i < n -> Pv i σ H -> g (.int (lo + i)) σ H fun σ2 H2 => tb { D with nx := Pv (i + 1), ct := Pv (i + 1), bk := D.nx } σ2 H2) (hd : ∀ σ H, Pv n σ H -> D.nx σ H) :
  ∃ W : Nat -> Nat -> St -> Hp -> Prop, (∃ m, W 0 m σ H) /\ ∀ i m σ H, W i m σ H ->
   ((Itr lo n).stop i H /\ D.nx σ H) \/ ((Itr lo n).go i H /\ ∃ N : St -> Hp -> Prop, (∀ σ' H', N σ' H' -> ∃ m', m' < m /\ W (i + 1) m' σ' H') /\ ∀ x H', (Itr lo n).yld i H x H' -> g x σ H' fun σ2 H2 => tb { D with nx := N, ct := N, bk := D.nx } σ2 H2) := by
 refine ⟨fun i m σ H => m = n - i /\ i <= n /\ Pv i σ H, ⟨n,ς, yaq _, h0⟩, ?_⟩
 rintro i m σ H ⟨rfl, hi, p⟩
 by_cases hlt : i < n
 ·refine .inr ⟨hlt, Pv (i + 1), fun σ' H' p' => ⟨n - (i + 1),ω, rfl, hlt, p'⟩, fun x H' y => ?_⟩;obtain ⟨e, y⟩ := y;subst e y;exact hs i σ _ hlt p
 ·have e : i = n := by omega
  subst e;exact .inl ⟨yai _, hd σ H p⟩
abbrev R2 := V -> V -> Hp -> VK -> Prop
def OpR (X : Cx) (f : Value -> Value -> Sem Value) (r : R2) : Prop :=
 ∀ (Qa : ZP) (s : Shared) (σ : St) (H : Hp) (x y : V) (v u : Value) (Q : VK), Inv X Qa σ H s -> RelV x v -> RelV y u -> r x y H Q ->
  wpAny (model X.prog X.w) X.A (f v u) (EP X Qa σ Q) X.xe s
def UnR (X : Cx) (f : Value -> Sem Value) (r : V -> Hp -> VK -> Prop) : Prop :=
 ∀ (Qa : ZP) (s : Shared) (σ : St) (H : Hp) (x : V) (v : Value) (Q : VK), Inv X Qa σ H s -> RelV x v -> r x H Q ->
  wpAny (model X.prog X.w) X.A (f v) (EP X Qa σ Q) X.xe s
def zaN (X : Cx) (f : Value) (r : List V -> Hp -> VK -> Prop) : Prop :=
 ∀ (Qa : ZP) (s : Shared) (σ : St) (H : Hp) (xs : List V) (us : List Value) (Q : VK), Inv X Qa σ H s -> Vals xs us -> r xs H Q ->
  wpAny (model X.prog X.w) X.A (call f us) (EP X Qa σ Q) X.xe s
def TruR (X : Cx) (r : V -> Hp -> (Bool -> Hp -> Prop) -> Prop) : Prop :=
 ∀ (Qa : ZP) (s : Shared) (σ : St) (H : Hp) (x : V) (v : Value) (Q : Bool -> Hp -> Prop), Inv X Qa σ H s -> RelV x v -> r x H Q ->
  wpAny (model X.prog X.w) X.A (truthy v) (TP X Qa σ Q) X.xe s
def tOp (r : R2) (ta tb : TE) : TE := fun σ H Q => ta σ H fun x H1 => tb σ H1 fun y H2 => r x y H2 Q
def tUn (r : V -> Hp -> VK -> Prop) (ta : TE) : TE := fun σ H Q => ta σ H fun x H1 => r x H1 Q
def rI (C : Int -> Int -> Prop) (g : Int -> Int -> V) : R2 := fun x y H Q => ∃ i j, x = .int i /\ y = .int j /\ C i j /\ Q (g i j) H
def rI0 (g : Int -> Int -> V) : R2 := fun x y H Q => ∃ i j, x = .int i /\ y = .int j /\ Q (g i j) H
def rU (g : Int -> V) : V -> Hp -> VK -> Prop := fun x H Q => ∃ i, x = .int i /\ Q (g i) H
section
variable {X : Cx} {a b c : Expr} {ta tb tc : TE} {pos : Pos}
theorem binT (ha : PE X a ta) (hb : PE X b tb) {Qa : ZP} {s : Shared} {σ : St} {H : Hp} {R : V -> V -> Hp -> Prop} (I : Inv X Qa σ H s)
  (h : ta σ H fun x H1 => tb σ H1 fun y H2 => R x y H2) {Q : ZQ} {f : Value -> Value -> Sem Value}
  (hf : ∀ v u s2 x y H2, Inv X Qa σ H2 s2 -> RelV x v -> RelV y u -> R x y H2 -> wpAny (model X.prog X.w) X.A (f v u) Q X.xe s2) :
  wpAny (model X.prog X.w) X.A (eval a X.env) (fun v s₁ => wpAny (model X.prog X.w) X.A (eval b X.env) (fun u s₂ => wpAny (model X.prog X.w) X.A (f v u) Q X.xe s₂) X.xe s₁) X.xe s := by
 refine thn (ha Qa s σ H _ I h) fun v s1 ⟨x, H1, I1, r1, q1⟩ => ?_;refine thn (hb Qa s1 σ H1 _ I1 q1) fun u s2 ⟨y, H2, I2, r2, q2⟩ => ?_;exact hf v u s2 x y H2 I2 r1 r2 q2
theorem zan {op : Operator} {r : R2} (ho : OpR X (binaryOp op) r) (ha : PE X a ta) (hb : PE X b tb) : PE X (.BinOp a op b pos) (tOp r ta tb) := by
 intro Qa s σ H Q I h;exact wpAny_BinOp (binT ha hb I h fun v u s2 x y H2 I2 rx ry q => ho Qa s2 σ H2 x y v u Q I2 rx ry q)
theorem zeg {op : UnaryOp} {r : V -> Hp -> VK -> Prop} (ho : UnR X (unaryOp op) r) (ha : PE X a ta) : PE X (.UnaryOp op a pos) (tUn r ta) := by
 intro Qa s σ H Q I h;exact UnaryOp_ (thn (ha Qa s σ H _ I h) fun v s1 ⟨x, H1, I1, r1, q1⟩ => ho Qa s1 σ H1 x v Q I1 r1 q1)
theorem opI {f : Value -> Value -> Sem Value} {C : Int -> Int -> Prop} {g : Int -> Int -> Int}
  (rule : ∀ (i j : Int) (t u : Tok) (s : Shared) (Q : ZQ) (E : ZQ), C i j -> Q (.int (g i j) s.toks) { s with toks := s.toks + 1 } -> wpAny (model X.prog X.w) X.A (f (.int i t) (.int j u)) Q E s) :
  OpR X f (rI C fun i j => .int (g i j)) := by
 intro Qa s σ H x y v u Q I rx ry h;obtain ⟨i, j, rfl, rfl, hc, q⟩ := h;obtain ⟨t, rfl⟩ := rx;obtain ⟨t', rfl⟩ := ry;exact rule i j t t' s _ _ hc ⟨.int (g i j), H, I.tok _, ⟨_, rfl⟩, q⟩
theorem opI0 {f : Value -> Value -> Sem Value} {g : Int -> Int -> Int}
  (rule : ∀ (i j : Int) (t u : Tok) (s : Shared) (Q : ZQ) (E : ZQ), Q (.int (g i j) s.toks) { s with toks := s.toks + 1 } -> wpAny (model X.prog X.w) X.A (f (.int i t) (.int j u)) Q E s) :
  OpR X f (rI0 fun i j => .int (g i j)) := by
 intro Qa s σ H x y v u Q I rx ry h;obtain ⟨i, j, rfl, rfl, q⟩ := h;obtain ⟨t, rfl⟩ := rx;obtain ⟨t', rfl⟩ := ry;exact rule i j t t' s _ _ ⟨.int (g i j), H, I.tok _, ⟨_, rfl⟩, q⟩
theorem opB0 {f : Value -> Value -> Sem Value} {g : Int -> Int -> Bool}
  (rule : ∀ (i j : Int) (t u : Tok) (s : Shared) (Q : ZQ) (E : ZQ), Q (.bool (g i j)) s -> wpAny (model X.prog X.w) X.A (f (.int i t) (.int j u)) Q E s) :
  OpR X f (rI0 fun i j => .bl (g i j)) := by
 intro Qa s σ H x y v u Q I rx ry h;obtain ⟨i, j, rfl, rfl, q⟩ := h;obtain ⟨t, rfl⟩ := rx;obtain ⟨t', rfl⟩ := ry;exact rule i j t t' s _ _ ⟨.bl (g i j), H, I, rfl, q⟩
def CDiv (i j : Int) : Prop := 0 < j /\ j < 1073741824
def CPow (i j : Int) : Prop := 0 <= j /\ j <= 1000000 /\ i.natAbs < 2 ^ 64
def CMul (i j : Int) : Prop := (-(2 ^ 64) < i /\ i < 2 ^ 64) \/ (-(2 ^ 64) < j /\ j < 2 ^ 64)
theorem CMul.ok {i j : Int} (h : CMul i j) : IntMulOk i j := by
 rcases h with ⟨h1, h2⟩ | ⟨h1, h2⟩
 ·exact .of_left (intBits_le_64 h1 h2)
 ·exact .of_right (intBits_le_64 h1 h2)
theorem zm2 : OpR X (binaryOp .Add) (rI0 fun i j => .int (i + j)) := opI0 fun _ _ _ _ _ _ _ q => add_int q
theorem zeG : OpR X (binaryOp .Sub) (rI0 fun i j => .int (i - j)) := opI0 fun _ _ _ _ _ _ _ q => sub_int q
theorem zm3 : OpR X (binaryOp .Mult) (rI CMul fun i j => .int (i * j)) := opI fun _ _ _ _ _ _ _ hc q => mul_int q hc.ok
theorem zld : OpR X (binaryOp .FloorDiv) (rI CDiv fun i j => .int (i / j)) := opI fun i j _ _ _ _ _ hc q => by
 have h1 : (0 : Int) < j := hc.1;have h2 : j < 1073741824 := hc.2;exact floordiv_int ω (by rw [Int.fdiv_eq_ediv_of_nonneg i ω]; exact q) (.inl (PyProof.noPylong_small ω))
theorem zm4 : OpR X (binaryOp .Mod) (rI (fun _ j => 0 < j) fun i j => .int (i % j)) := opI fun i j _ _ _ _ _ hc q => by
 have h1 : (0 : Int) < j := hc;exact mod_int' ω (by rw [Int.fmod_eq_emod_of_nonneg i ω]; exact q)
theorem zm5 : OpR X (binaryOp .Pow) (rI CPow fun i j => .int (i ^ j.toNat)) := opI fun _ _ _ _ _ _ _ hc q => pow_int_small hc.1 hc.2.1 hc.2.2 q
theorem unI {f : Value -> Sem Value} {g : Int -> Int}
  (rule : ∀ (i : Int) (t : Tok) (s : Shared) (Q : ZQ) (E : ZQ), Q (.int (g i) s.toks) { s with toks := s.toks + 1 } -> wpAny (model X.prog X.w) X.A (f (.int i t)) Q E s) :
  UnR X f (rU fun i => .int (g i)) := by
 intro Qa s σ H x v Q I rx h;obtain ⟨i, rfl, q⟩ := h;obtain ⟨t, rfl⟩ := rx;exact rule i t s _ _ ⟨.int (g i), H, I.tok _, ⟨_, rfl⟩, q⟩
theorem zcv : UnR X (unaryOp .USub) (rU fun i => .int (-i)) := unI fun _ _ _ _ _ q => neg_int q
end
def scal : V -> V -> Bool
 | .non, .non => true | .non, .int _ => true | .int _, .non => true | .non, .bl _ => true | .bl _, .non => true | .non, .str _ => true | .str _, .non => true
 | .int _, .int _ => true | .bl _, .bl _ => true | .str _, .str _ => true | .byt _, .byt _ => true
 | .int _, .str _ => true | .str _, .int _ => true | .bl _, .str _ => true | .str _, .bl _ => true
 | _, _ => false
def rEq : R2 := fun x y H Q => scal x y = true /\ Q (.bl (decide (x = y))) H
def rNe : R2 := fun x y H Q => scal x y = true /\ Q (.bl (!decide (x = y))) H
theorem zhT {i j : Int} : decide (V.int i = V.int j) = (i == j) := by
 rw [Bool.eq_iff_iff];simp
theorem zdP {i j : Bool} : decide (V.bl i = V.bl j) = (i == j) := by
 rw [Bool.eq_iff_iff];simp
theorem zhU {i j : Str} : decide (V.str i = V.str j) = (i == j) := by
 rw [Bool.eq_iff_iff];simp
theorem zhV {i j : Array UInt8} : decide (V.byt i = V.byt j) = (i.toList == j.toList) := by
 rw [Bool.eq_iff_iff];cases i;cases j;simp
section
variable {X : Cx} {a b c : Expr} {ta tb tc : TE} {pos : Pos}
theorem za8 {Qa : ZP} {σ : St} {H : Hp} {s : Shared} {Q : VK} {k k' : Bool} (I : Inv X Qa σ H s) (q : Q (.bl k) H) (e : k = k') : EP X Qa σ Q (.bool k') s := by
 subst e;exact ⟨.bl k, H, I, rfl, q⟩
theorem zok : OpR X (compareOp .Eq) rEq := by
 intro Qa s σ H x y v u Q I rx ry h;obtain ⟨hs, q⟩ := h;cases x with
 | non =>
  cases rx;cases y with
  | non => cases ry; exact PySem.EqNone.eq_none_none (za8 I q ς)
  | bl j => cases ry; exact PySem.EqNone.eq_none_bool (za8 I q ς)
  | int j => obtain ⟨t', rfl⟩ := ry; exact PySem.EqNone.eq_none_int (za8 I q ς)
  | str j => obtain ⟨t', rfl⟩ := ry; exact PySem.EqNone.eq_none_str (za8 I q ς)
  | _ => exact absurd (show false = true from hs) yam
 | bl i =>
  cases rx;cases y with
  | non => cases ry; exact PySem.EqNone.eq_bool_none (za8 I q ς)
  | bl j => cases ry; exact eq_bool (za8 I q zdP)
  | str j => obtain ⟨t', rfl⟩ := ry; exact PySem.EqMixed.eq_bool_str (za8 I q ς)
  | _ => exact absurd (show false = true from hs) yam
 | int i =>
  obtain ⟨t, rfl⟩ := rx;cases y with
  | non => cases ry; exact PySem.EqNone.eq_int_none (za8 I q ς)
  | int j => obtain ⟨t', rfl⟩ := ry; exact eq_int (za8 I q zhT)
  | str j => obtain ⟨t', rfl⟩ := ry; exact PySem.EqMixed.eq_int_str (za8 I q ς)
  | _ => exact absurd (show false = true from hs) yam
 | str i =>
  obtain ⟨t, rfl⟩ := rx;cases y with
  | non => cases ry; exact PySem.EqNone.eq_str_none (za8 I q ς)
  | bl j => cases ry; exact PySem.EqMixed.eq_str_bool (za8 I q ς)
  | int j => obtain ⟨t', rfl⟩ := ry; exact PySem.EqMixed.eq_str_int (za8 I q ς)
  | str j => obtain ⟨t', rfl⟩ := ry; exact eq_str (za8 I q zhU)
  | _ => exact absurd (show false = true from hs) yam
 | byt i =>
  obtain ⟨t, rfl⟩ := rx;cases y with
  | byt j => obtain ⟨t', rfl⟩ := ry; exact W.eq_bytes (za8 I q zhV)
  | _ => exact absurd (show false = true from hs) yam
 | _ => cases y <;> exact absurd (show false = true from hs) yam
theorem zol : OpR X (compareOp .NotEq) rNe := by
 intro Qa s σ H x y v u Q I rx ry h;obtain ⟨hs, q⟩ := h;cases x with
 | non =>
  cases rx;cases y with
  | non => cases ry; exact PySem.EqNone.ne_none_none (za8 I q ς)
  | bl j => cases ry; exact PySem.EqNone.ne_none_bool (za8 I q ς)
  | int j => obtain ⟨t', rfl⟩ := ry; exact PySem.EqNone.ne_none_int (za8 I q ς)
  | str j => obtain ⟨t', rfl⟩ := ry; exact PySem.EqNone.ne_none_str (za8 I q ς)
  | _ => exact absurd (show false = true from hs) yam
 | bl i =>
  cases rx;cases y with
  | non => cases ry; exact PySem.EqNone.ne_bool_none (za8 I q ς)
  | bl j => cases ry; exact ne_bool (za8 I q (congrArg not zdP))
  | str j => obtain ⟨t', rfl⟩ := ry; exact PySem.EqMixed.ne_bool_str (za8 I q ς)
  | _ => exact absurd (show false = true from hs) yam
 | int i =>
  obtain ⟨t, rfl⟩ := rx;cases y with
  | non => cases ry; exact PySem.EqNone.ne_int_none (za8 I q ς)
  | int j => obtain ⟨t', rfl⟩ := ry; exact ne_int (za8 I q (congrArg not zhT))
  | str j => obtain ⟨t', rfl⟩ := ry; exact PySem.EqMixed.ne_int_str (za8 I q ς)
  | _ => exact absurd (show false = true from hs) yam
 | str i =>
  obtain ⟨t, rfl⟩ := rx;cases y with
  | non => cases ry; exact PySem.EqNone.ne_str_none (za8 I q ς)
  | bl j => cases ry; exact PySem.EqMixed.ne_str_bool (za8 I q ς)
  | int j => obtain ⟨t', rfl⟩ := ry; exact PySem.EqMixed.ne_str_int (za8 I q ς)
  | str j => obtain ⟨t', rfl⟩ := ry; exact ne_str (za8 I q (congrArg not zhU))
  | _ => exact absurd (show false = true from hs) yam
 | byt i =>
  obtain ⟨t, rfl⟩ := rx;cases y with
  | byt j => obtain ⟨t', rfl⟩ := ry; exact W.ne_bytes (za8 I q (congrArg not zhV))
  | _ => exact absurd (show false = true from hs) yam
 | _ => cases y <;> exact absurd (show false = true from hs) yam
theorem zom : OpR X (compareOp .Lt) (rI0 fun i j => .bl (decide (i < j))) := opB0 fun _ _ _ _ _ _ _ q => lt_int q
theorem zon : OpR X (compareOp .LtE) (rI0 fun i j => .bl (decide (i <= j))) := opB0 fun _ _ _ _ _ _ _ q => le_int q
theorem zhW : OpR X (compareOp .Gt) (rI0 fun i j => .bl (decide (j < i))) := opB0 fun _ _ _ _ _ _ _ q => gt_int q
theorem zoo : OpR X (compareOp .GtE) (rI0 fun i j => .bl (decide (j <= i))) := opB0 fun _ _ _ _ _ _ _ q => ge_int q
theorem zhX : OpR X (compareOp .Lt) (fun x y H Q => ∃ i j, x = .str i /\ y = .str j /\ Q (.bl (decide (i.cps.toList < j.cps.toList))) H) := by
 intro Qa s σ H x y v u Q I rx ry h;obtain ⟨i, j, rfl, rfl, q⟩ := h;obtain ⟨t, rfl⟩ := rx;obtain ⟨t', rfl⟩ := ry;exact lt_str (za8 I q rfl)
theorem zhY : OpR X (compareOp .In) (fun x y H Q => ∃ i j, x = .str i /\ y = .str j /\ Q (.bl (!(Builtin.Str.occurrences j i 0 j.length 1).isEmpty)) H) := by
 intro Qa s σ H x y v u Q I rx ry h;obtain ⟨i, j, rfl, rfl, q⟩ := h;obtain ⟨t, rfl⟩ := rx;obtain ⟨t', rfl⟩ := ry;exact in_str (za8 I q rfl)
theorem OpR.or {f : Value -> Value -> Sem Value} {r r' : R2} (h : OpR X f r) (h' : OpR X f r') : OpR X f (fun x y H Q => r x y H Q \/ r' x y H Q) := by
 intro Qa s σ H x y v u Q I rx ry q;rcases q with q | q
 ·exact h Qa s σ H x y v u Q I rx ry q
 ·exact h' Qa s σ H x y v u Q I rx ry q
theorem za2 (b : Expr) {op : CmpOp} (h : op ≠ .In := by decide) (h2 : op ≠ .NotIn := by decide) : behindInMarks op b = false := by
 have e1 : (op == CmpOp.In) = false := by cases op <;> first | rfl | exact absurd rfl h
 have e2 : (op == CmpOp.NotIn) = false := by cases op <;> first | rfl | exact absurd rfl h2
 cases b <;> simp [behindInMarks, e1, e2]
theorem zbF {op : CmpOp} {r : R2} (ho : OpR X (compareOp op) r) (ha : PE X a ta) (hb : PE X b tb) (hm : behindInMarks op b = false) : PE X (.Compare a [op] [b] pos) (tOp r ta tb) := by
 intro Qa s σ H Q I h;exact wpAny_Compare1 (binT ha hb I h fun v u s2 x y H2 I2 rx ry q => ho Qa s2 σ H2 x y v u Q I2 rx ry q) hm
def zle (t : TE) : TT := fun σ H Q => t σ H fun x H' => ∃ k, x = .bl k /\ Q k H'
theorem zaq {op : CmpOp} {r : R2} (ho : OpR X (compareOp op) r) (ha : PE X a ta) (hb : PE X b tb) (hm : behindInMarks op b = false) : PT X (.Compare a [op] [b] pos) (zle (tOp r ta tb)) := by
 intro Qa s σ H Q I h;refine wpAny_isTrue_Compare1 (thn (ha Qa s σ H _ I h) fun v s1 ⟨x, H1, I1, r1, q1⟩ => thn (hb Qa s1 σ H1 _ I1 q1) fun u s2 ⟨y, H2, I2, r2, q2⟩ =>
  thn (ho Qa s2 σ H2 x y v u _ I2 r1 r2 q2) fun c s3 ⟨z, H3, I3, r3, k, e, q3⟩ => ?_) hm
 subst e;cases r3;exact wpAny_truthy_bool ⟨H3, I3, q3⟩
def zk9 (r r' : R2) (ta tb tc : TE) : TE := fun σ H Q => ta σ H fun x H1 => tb σ H1 fun y H2 => r x y H2 fun z H3 => ∃ k, z = .bl k /\
 (if k = true then tc σ H3 fun w' H4 => r' y w' H4 Q else Q (.bl false) H3)
theorem zjF {op op' : CmpOp} {r r' : R2} (ho : OpR X (compareOp op) r) (ho' : OpR X (compareOp op') r') (ha : PE X a ta) (hb : PE X b tb) (hc : PE X c tc)
  (hm : lastMarks [op, op'] [b, c] = false := by with_unfolding_all rfl) : PT X (.Compare a [op, op'] [b, c] pos) (zle (zk9 r r' ta tb tc)) := by
 intro Qa s σ H Q I h;refine isTrue_chain (thn (ha Qa s σ H _ I h) fun v s1 ⟨x, H1, I1, r1, q1⟩ => test_link (thn (hb Qa s1 σ H1 _ I1 q1) fun u s2 ⟨y, H2, I2, r2, q2⟩ =>
  thn (ho Qa s2 σ H2 x y v u _ I2 r1 r2 q2) fun d s3 ⟨z, H3, I3, r3, k, e, q3⟩ => ?_)) hm
 subst e;cases r3;refine wpAny_truthy_bool ?_;cases k with
 | false =>
  obtain ⟨k', e', q'⟩ := q3;cases e';exact ite_ff ⟨H3, I3, q'⟩
 | true =>
  refine ite_tt (test_last (thn (hc Qa s3 σ H3 _ I3 q3) fun w' s4 ⟨z', H4, I4, r4, q4⟩ => thn (ho' Qa s4 σ H4 y z' u w' _ I4 r2 r4 q4) fun d' s5 ⟨z2, H5, I5, r5, k2, e2, q5⟩ => ?_));subst e2;cases r5;exact wpAny_truthy_bool ⟨H5, I5, q5⟩
def TruV (K : W.Frag) (x : V) (H : Hp) (k : Bool) : Prop :=
 match x with
 | .non => k = false
 | .bl b => k = b
 | .int i => k = (i != 0)
 | .str y => y.length <= sizeLine /\ k = ((y.length : Int) != 0)
 | .byt y => y.size <= sizeLine /\ k = ((y.size : Int) != 0)
 | .ref p => (∃ xs, SqL K H p xs /\ k = !xs.isEmpty) \/ (∃ xs, SqT K H p xs /\ k = !xs.isEmpty) \/ ∃ kvs, H p = some (.dK kvs) /\ k = !kvs.isEmpty
 | _ => False
theorem zhf {κ : Type} {kvs : List (κ × V)} {vs : List (κ × Value)} (r : KV kvs vs) : (!vs.isEmpty) = !kvs.isEmpty := by
 cases r <;> rfl
theorem zdQ {xs : List V} {its : List Value} (r : Vals xs its) : (!its.toArray.isEmpty) = !xs.isEmpty := by
 cases r <;> simp
theorem zeH : (sizeLine : Nat) < 2 ^ 63 := by rw [sizeLine_eq]; decide
theorem zoY : TruR X (fun x H Q => ∃ k, TruV X.K x H k /\ Q k H) := by
 intro Qa s σ H x v Q I rx h;obtain ⟨k, e, q⟩ := h;have hl := zeH;have hs : sizeLine = 16777216 := sizeLine_eq;cases x with
 | non =>
  cases rx;have e' : k = false := e;subst e';exact truthy_none ⟨H, I, q⟩
 | bl b =>
  cases rx;have e' : k = b := e;subst e';exact wpAny_truthy_bool ⟨H, I, q⟩
 | int i =>
  obtain ⟨t, rfl⟩ := rx;have e' : k = (i != 0) := e;subst e';exact PySem.P.truthy_int ⟨H, I, q⟩
 | str y =>
  obtain ⟨t, rfl⟩ := rx;obtain ⟨hy, e'⟩ : y.length <= sizeLine /\ k = ((y.length : Int) != 0) := e;subst e';exact PySem.P.truthy_str ω ⟨H, I.tok _, q⟩
 | byt y =>
  obtain ⟨t, rfl⟩ := rx;obtain ⟨hy, e'⟩ : y.size <= sizeLine /\ k = ((y.size : Int) != 0) := e;subst e';exact W.truthy_bytes ω ⟨H, I.tok _, q⟩
 | ref p =>
  cases rx;have e' : (∃ xs, SqL X.K H p xs /\ k = !xs.isEmpty) \/ (∃ xs, SqT X.K H p xs /\ k = !xs.isEmpty) \/ ∃ kvs, H p = some (.dK kvs) /\ k = !kvs.isEmpty := e;rcases e' with ⟨xs, hx, e'⟩ | ⟨xs, hx, e'⟩ | ⟨kvs, hx, e'⟩
  ·subst e';obtain ⟨its, r, pl, hz⟩ := I.list hx;have Qe := r.length;exact wpAny_truthy_list pl.isList (by simp only [List.size_toArray]; omega) ⟨H, I.tok _, by rw [zdQ r]; exact q⟩
  ·subst e';obtain ⟨its, r, pl, hz⟩ := I.tuple hx;have Qe := r.length;exact truthy_tuple pl (by simp only [List.size_toArray]; omega) ⟨H, I.tok _, by rw [zdQ r]; exact q⟩
  ·subst e';obtain ⟨hz, hS, vs, r, m⟩ : kvs.length <= sizeLine /\ (p == sysModules) = false /\ ∃ vs, KV kvs vs /\ s.heap.DictOf (mixKind X.prog X.w) p vs := I.hok p _ hx;have Qe : kvs.length = vs.length := Paired.length r;exact wpAny_truthy_dict hS m ω ⟨H, I.tok _, by rw [zhf r]; exact q⟩
 | _ => exact (show False from e).elim
theorem zhg : OpR X (binaryOp .Add) (fun x y H Q => ∃ i j, x = .str i /\ y = .str j /\ i.length + j.length <= sizeLine /\ Q (.str (i ++ j)) H) := by
 intro Qa s σ H x y v u Q I rx ry h;obtain ⟨i, j, rfl, rfl, hz, q⟩ := h;obtain ⟨t, rfl⟩ := rx;obtain ⟨t', rfl⟩ := ry;exact add_str (fun t' tk => ⟨.str (i ++ j), H, I.tok _, ⟨_, rfl⟩, q⟩) hz
theorem zcn {x : V} {us : List Value} (r : Vals [x] us) : ∃ u, us = [u] /\ RelV x u := by
 cases r with
 | cons r1 r2 => cases r2; exact ⟨_, rfl, r1⟩
theorem zjG {x y : V} {us : List Value} (r : Vals [x, y] us) : ∃ u w', us = [u, w'] /\ RelV x u /\ RelV y w' := by
 cases r with
 | cons r1 r2 =>
  cases r2 with
  | cons r3 r4 => cases r4; exact ⟨_, _, rfl, r1, r3⟩
theorem zeI (hc : X.calm = true) : zaN X (.builtin "max") (fun xs H Q => ∃ i j, xs = [.int i, .int j] /\ Q (.int (if j > i then j else i)) H) := by
 intro Qa s σ H xs us Q I r h;obtain ⟨i, j, rfl, q⟩ := h;obtain ⟨u, w', rfl, ⟨t, rfl⟩, ⟨t', rfl⟩⟩ := zjG r;refine max_two_ints (I.ok.hd hc) fun h' tk k => ⟨_, H, I.kept k, ?_, q⟩
 by_cases hj : j > i
 ·rw [if_pos hj, if_pos hj]; exact ⟨_, rfl⟩
 ·rw [if_neg hj, if_neg hj]; exact ⟨_, rfl⟩
theorem zhZ : zaN X (.type "int") (fun xs H Q => (∃ i, xs = [.int i] /\ Q (.int i) H) \/ ∃ k, xs = [.bl k] /\ Q (.int (if k then 1 else 0)) H) := by
 intro Qa s σ H xs us Q I r h;rcases h with ⟨i, rfl, q⟩ | ⟨k, rfl, q⟩
 ·obtain ⟨u, rfl, t, rfl⟩ := zcn r;exact call_int_int ⟨.int i, H, I, ⟨_, rfl⟩, q⟩
 ·obtain ⟨u, rfl, r1⟩ := zcn r;cases r1;exact call_int_bool ⟨.int (if k then 1 else 0), H, I.tok _, ⟨_, rfl⟩, q⟩
theorem zcN : zaN X (.type "str") (fun xs H Q => ∃ i, xs = [.int i] /\ i.natAbs.log2 < 1920 /\ Q (.str (toString i)) H) := by
 intro Qa s σ H xs us Q I r h;obtain ⟨i, rfl, hz, q⟩ := h;obtain ⟨u, rfl, t, rfl⟩ := zcn r;exact PySem.P.str_of_int hz ⟨.str _, H, I.tok _, ⟨_, rfl⟩, q⟩
def LenV (K : W.Frag) (x : V) (H : Hp) (n : Nat) : Prop :=
 match x with
 | .str y => y.length <= sizeLine /\ n = y.length
 | .byt y => y.size <= sizeLine /\ n = y.size
 | .ref p => (∃ xs, SqL K H p xs /\ n = xs.length) \/ ∃ xs, SqT K H p xs /\ n = xs.length
 | _ => False
theorem call_len : zaN X (.builtin "len") (fun xs H Q => ∃ x n, xs = [x] /\ LenV X.K x H n /\ Q (.int n) H) := by
 intro Qa s σ H xs us Q I r h;obtain ⟨x, n, rfl, e, q⟩ := h;obtain ⟨u, rfl, rx⟩ := zcn r;have hl := zeH;have hs : sizeLine = 16777216 := sizeLine_eq;cases x with
 | str y =>
  obtain ⟨t, rfl⟩ := rx;obtain ⟨hy, e'⟩ : y.length <= sizeLine /\ n = y.length := e;subst e';exact len_str ω ⟨.int _, H, I.tok _, ⟨_, rfl⟩, q⟩
 | byt y =>
  obtain ⟨t, rfl⟩ := rx;obtain ⟨hy, e'⟩ : y.size <= sizeLine /\ n = y.size := e;subst e';exact W.len_bytes ω ⟨.int _, H, I.tok _, ⟨_, rfl⟩, q⟩
 | ref p =>
  cases rx;have e' : (∃ xs, SqL X.K H p xs /\ n = xs.length) \/ ∃ xs, SqT X.K H p xs /\ n = xs.length := e;rcases e' with ⟨xs, hx, e'⟩ | ⟨xs, hx, e'⟩
  ·subst e';obtain ⟨its, r', pl, hz⟩ := I.list hx;have Qe := r'.length;exact Calls.call_len_list pl.isList (by simp only [List.size_toArray]; omega) ⟨.int xs.length, H, I.tok _, ⟨_, by simp only [List.size_toArray]; rw [Qe]⟩, q⟩
  ·subst e';obtain ⟨its, r', pl, hz⟩ := I.tuple hx;have Qe := r'.length;exact len_tuple pl (by simp only [List.size_toArray]; omega) ⟨.int xs.length, H, I.tok _, ⟨_, by simp only [List.size_toArray]; rw [Qe]⟩, q⟩
 | _ => exact (show False from e).elim
end
structure ObjM (h : Heap) (x dx C : Addr) (mA : Str -> Option Value) : Prop where
 obj : h.get? x = some (W.instObj C dx)
 ns : h.Ns1 dx mA
 ne : dx ≠ x
theorem zia {h : Heap} {dx : Addr} {mA : Str -> Option Value} (n : h.Ns1 dx mA) : ∃ od, h.get? dx = some od /\ ∀ name, W.lookIn name od = some (mA name) := by
 obtain ⟨o, es, ep, ho, hd, hk, _, hm⟩ := n;refine ⟨o, ho, fun name => ?_⟩;have e := hm name;unfold nsFind findBy at e;rw [<- Array.find?_toList] at e;unfold W.lookIn;rw [hd];dsimp only
 split
 ·rename_i y q
  rw [q] at e;exact congrArg some e
 ·rename_i q
  rw [q] at e;have a : es.toList.any (·.refKey) = false := by
   rw [List.any_eq_false];intro y hy;obtain ⟨z, t, hkey⟩ := hk y (Array.mem_toList_iff.mp hy);simp [DictEntry.refKey, hkey]
  have a' : ¬ es.toList.any (·.refKey) = true := by rw [a]; exact yam
  rw [if_neg a'];exact congrArg some e
theorem ObjM.look {h : Heap} {x dx C : Addr} {mA : Str -> Option Value} (I : ObjM h x dx C mA) : ∃ od, W.InstAt h x (W.instObj C dx) C (some od) /\ ∀ name, W.lookIn name od = some (mA name) :=
 let ⟨od, ho, hl⟩ := zia I.ns
 ⟨od, ⟨I.obj, rfl, rfl, ho⟩, hl⟩
section
variable {P : Program} {w : World} {H H' : Hp} {h h' : Heap} {a C dx : Addr} {fs fs' : List (Str × V)}
theorem zlf (hok : HOk P w H h) (e : H a = some (.ins C dx fs)) : ∃ mA, ObjM h a dx C mA /\ (∀ f, RelO (fs.lookup f) (mA f)) /\ PySem.Within mA (fs.map (·.1)) /\ fs.length <= 1000 /\ H dx = some (.own a) := by
 obtain ⟨d, z, ne, ob, mA, n, r, q⟩ := (show ObjOk P w H h a (.ins C dx fs) from hok a _ e)
 exact ⟨mA, ⟨ob, n, ne⟩, r, q, z, d⟩
end
structure Cls (K : W.Frag) (C : Addr) : Prop where
 pg : W.plainGet K C Str.empty = true
 hd : W.hasDictIn K C = true
 po : W.plainOver K C = true
 sa : W.findIn K (.ref C) "__setattr__" = some (some (.builtin "object.__setattr__"))
theorem Cls.get {K : W.Frag} {C : Addr} (c : Cls K C) (f : Str) : W.plainGet K C f = true := c.pg
structure Con (K : W.Frag) (C : Addr) (f : Str) (v : V) (u : Value) : Prop where
 at_ : W.findIn K (.ref C) f = some (some u)
 rel : RelV v u
 get : W.specialIn K u "__get__" = some none
 cp : W.copiedNames.contains f = false
structure Meth (K : W.Frag) (C : Addr) (m : Str) (f : Addr) : Prop where
 at_ : W.findIn K (.ref C) m = some (some (.ref f))
 fn : W.isFn K (.ref f) = true
 kp : W.keepIn K (.ref f) = true
section
variable {X : Cx} {Qa : ZP} {σ : St} {H : Hp} {s : Shared} {A : Around} {E : ZQ} {Q : ZQ} {c : Value} {b : Bool}
inductive TyOf (K : W.Frag) (H : Hp) : V -> Value -> Prop where
 | non : TyOf K H .non (.type "NoneType")
 | bl (x : Bool) : TyOf K H (.bl x) (.type "bool")
 | int (i : Int) : TyOf K H (.int i) (.type "int")
 | str (x : Str) : TyOf K H (.str x) (.type "str")
 | flt (x : UInt64) : TyOf K H (.flt x) (.type "float")
 | lst {a : Addr} {xs : List V} (e : H a = some (.lst xs)) : TyOf K H (.ref a) (.type "list")
 | frz {a : Addr} {o : Obj} {xs : List V} (e : H a = some (.frz o (.lst xs))) : TyOf K H (.ref a) (.type "list")
 | tup {a : Addr} {xs : List V} (e : H a = some (.tup xs)) : TyOf K H (.ref a) (.type "tuple")
 | dK {a : Addr} {kvs : List (Key × V)} (e : H a = some (.dK kvs)) : TyOf K H (.ref a) (.type "dict")
 | dT {a : Addr} {kvs : List (List Key × V)} (e : H a = some (.dT kvs)) : TyOf K H (.ref a) (.type "dict")
 | ins {a C dx : Addr} {fs : List (Str × V)} (e : H a = some (.ins C dx fs)) (cl : Cls K C) (ha : W.findIn K (.ref C) "__class__" = some (some (.builtin "object.__class__")))
   (hn : W.specialIn K (.builtin "object.__class__") "__get__" = some (some (.builtin "getset_descriptor.__get__"))) (htk : W.takesIn K (.builtin "object.__class__") = some true)
   (hm : W.mroIn K C (.type "object") = some true) : TyOf K H (.ref a) (.ref C)
theorem zib {x : V} {u t : Value} (I : Inv X Qa σ H s) (rx : RelV x u) (ty : TyOf X.K H x t) (e : W.kitOne X.K t c = some b) (h : ∀ tk, Q (.bool b) { s with toks := tk }) :
  wpAny (model X.prog X.w) A (call (.builtin "isinstance") [u, c]) Q E s := by
 cases ty with
 | non => cases (show u = Value.none from rx); exact W.kia_one W.kitx_none I.kIn True.intro e (fun z => nomatch z) h
 | bl y => cases (show u = Value.bool y from rx); exact W.kia_one W.kitx_bool I.kIn True.intro e (fun z => nomatch z) h
 | int i => obtain ⟨t, q⟩ := (show ∃ t, u = Value.int i t from rx); cases q; exact W.kia_one W.kitx_int I.kIn True.intro e (fun z => nomatch z) h
 | str y => obtain ⟨t, q⟩ := (show ∃ t, u = Value.str y t from rx); cases q; exact W.kia_one W.kitx_str I.kIn True.intro e (fun z => nomatch z) h
 | flt y => obtain ⟨t, q⟩ := (show ∃ t, u = Value.float y t from rx); cases q; exact W.kia_one W.kitx_float I.kIn True.intro e (fun z => nomatch z) h
 | @lst a xs ea =>
  cases (show u = Value.ref a from rx);obtain ⟨_, _, n, _, h1⟩ := (show ObjOk X.prog X.w H s.heap a (.lst xs) from I.hok a _ ea)
  exact W.kia_one W.kitx_list I.kIn ⟨_, h1, rfl⟩ e (fun z => nomatch z) h
 | @frz a ob xs ea =>
  cases (show u = Value.ref a from rx);obtain ⟨_, _, _, n, _, h1⟩ := (show ObjOk X.prog X.w H s.heap a (.frz ob (.lst xs)) from I.hok a _ ea)
  exact W.kia_one W.kitx_list I.kIn ⟨_, h1, rfl⟩ e (fun z => nomatch z) h
 | @tup a xs ea =>
  cases (show u = Value.ref a from rx);obtain ⟨_, _, _, p⟩ := (show ObjOk X.prog X.w H s.heap a (.tup xs) from I.hok a _ ea)
  obtain ⟨o, h1, h2, _⟩ := p;exact W.kia_one W.kitx_tuple I.kIn ⟨o, h1, h2⟩ e (fun z => nomatch z) h
 | @dK a kvs ea =>
  cases (show u = Value.ref a from rx);obtain ⟨_, _, vs, _, p⟩ := (show ObjOk X.prog X.w H s.heap a (.dK kvs) from I.hok a _ ea)
  obtain ⟨o, es, ep, h1, h2, _⟩ := p;exact W.kia_one W.kitx_dict I.kIn ⟨o, h1, h2.1⟩ e (fun z => nomatch z) h
 | @dT a kvs ea =>
  cases (show u = Value.ref a from rx);obtain ⟨_, _, xs, _, o, es, ep, h1, h2, _⟩ := (show ObjOk X.prog X.w H s.heap a (.dT kvs) from I.hok a _ ea)
  exact W.kia_one W.kitx_dict I.kIn ⟨o, h1, h2.1⟩ e (fun z => nomatch z) h
 | @ins a C dx fs ea cl ha hn htk hm =>
  cases (show u = Value.ref a from rx);obtain ⟨mA, O, _⟩ := zlf I.hok ea;obtain ⟨od, J, _⟩ := O.look;exact W.kia_one (W.kitx_own (cl.get _) cl.hd ha hn htk hm) I.kIn J e (fun z => nomatch z) h
end
structure Room (k : Nat) (A : Around) : Prop where
 hd : A.handled = none
 dp : A.depth + 3 * k + 5 < recursionLimit
 un : A.units + 16 * k + 200 < cLine
 gd : A.guards = some []
theorem Room.mono {j k : Nat} {A : Around} (r : Room k A) (h : j <= k) : Room j A := ⟨r.hd, by have := r.dp; omega, by have := r.un; omega, r.gd⟩
theorem Room.deeper {k : Nat} {A : Around} (r : Room (k + 1) A) (env : Env) : Room k (A.deeper env) :=
 ⟨r.hd, by have := r.dp; show A.depth + 1 + 3 * k + 5 < _; omega, by have := r.un; show A.units + 3 + 16 * k + 200 < _; omega, r.gd⟩
theorem Room.depth {k : Nat} {A : Around} (r : Room k A) : A.depth < recursionLimit := by have := r.dp; omega
theorem Room.units {k : Nat} {A : Around} (r : Room k A) : A.units + 64 < cLine := by have := r.un; omega
def tNil : TA := fun _ H Q => Q [] H
def zlg (ta : TE) (tr : TA) : TA := fun σ H Q => ta σ H fun x H1 => tr σ H1 fun xs H2 => Q (x :: xs) H2
section
variable {X : Cx} {e : Expr} {es : List Expr} {te : TE} {t : TA} {pos : Pos}
theorem zae : PA X [] tNil := fun _ _ _ _ H Q I h => Calls.spliced_nil ⟨[], H, I, .nil, h⟩
theorem zaa (ha : PE X e te) (hr : PA X es t) (hs : starEach (e :: es) X.env = (false, eval e X.env) :: starEach es X.env := by rfl) : PA X (e :: es) (zlg te t) := by
 intro pos Qa s σ H Q I h;rw [hs];show wpAny _ _ (spliced ((false, eval e X.env) :: backTo pos (starEach es X.env))) _ _ s;refine Calls.spliced_cons (thn (ha Qa s σ H _ I h) fun u s1 ⟨x, H1, I1, r1, q1⟩ => ?_);exact thn (hr pos Qa s1 σ H1 _ I1 q1) fun us s2 ⟨xs, H2, I2, r2, q2⟩ => ⟨x :: xs, H2, I2, .cons r1 r2, q2⟩
def tTup (t : TA) : TE := fun σ H Q => t σ H fun xs H1 => xs.length <= sizeLine /\ ∀ p, H1 p = none -> Q (.ref p) (upd H1 p (.tup xs))
def tLst (t : TA) : TE := fun σ H Q => t σ H fun xs H1 => xs.length <= sizeLine /\ ∀ p, H1 p = none -> Q (.ref p) (upd H1 p (.lst xs))
theorem zbh {x1} (h : PA X es t) : PE X (.Tuple es x1 pos) (tTup t) := by
 intro Qa s σ H Q I hq;refine wpAny_Tuple_spliced (thn (h pos Qa s σ H _ I hq) fun us s1 ⟨xs, H1, I1, r, z, q⟩ => ⟨by rw [<- r.length]; exact z, ?_⟩);have hf : H1 s1.heap.objs.size = none := I1.hok.fresh (yai _);refine ⟨.ref s1.heap.objs.size, upd H1 s1.heap.objs.size (.tup xs), I1.laid (t' := s1.toks) (fun b u e => yac _ e) (yai _) ?_, rfl, q _ hf⟩;exact ⟨z, us, r, ⟨_, yaj _ rfl, rfl, _, rfl⟩⟩
theorem zaW (h : PA X es t) : PE X (.List es pos) (tLst t) := by
 intro Qa s σ H Q I hq;refine wpAny_List_spliced (thn (h pos Qa s σ H _ I hq) fun us s1 ⟨xs, H1, I1, r, z, q⟩ => ⟨by rw [<- r.length]; exact z, ?_⟩);have hf : H1 s1.heap.objs.size = none := I1.hok.fresh (yai _);refine ⟨.ref s1.heap.objs.size, upd H1 s1.heap.objs.size (.lst xs), I1.laid (t' := s1.toks) (fun b u e => yac _ e) (yai _) ?_, rfl, q _ hf⟩;exact ⟨z, us, 0, r, yaj _ rfl⟩
end
abbrev Sp := List V -> Hp -> VK -> XK -> Prop
abbrev CXT := List Env -> Hp -> Shared -> XK -> Value -> Shared -> Prop
structure Env0 (P : Program) (w : World) (K : W.Frag) (mg : Str -> Option Value) (base : Heap) (A : Around) (outer : List Env) (s : Shared) (H : Hp) : Prop where
 frames : A.frames = some outer
 mod : Mod K mg base
 bs : ∀ b o, base.get? b = some o -> s.heap.get? b = some o /\ H b = none
 bsz : base.objs.size <= s.heap.objs.size
 funs : s.heap.FunFrames base outer
 frf : ∀ b ∈ frs outer, H b = none
 hok : HOk P w H s.heap
 bare : AllBare s.gens
def CE (outer : List Env) (P : Program) (w : World) (H : Hp) (s : Shared) (Q : VK) (u : Value) (s' : Shared) : Prop :=
 ∃ v H', s'.os = s.os /\ AllBare s'.gens /\ Un (frs outer) [] H H' s.heap s'.heap /\ HOk P w H' s'.heap /\ RelV v u /\ Q v H'
def CR (CX : CXT) (outer : List Env) (P : Program) (w : World) (H : Hp) (s : Shared) (Q : VK) (E : XK) (r : Result) (s' : Shared) : Prop :=
 match r with
 | .ok (.ret u) => CE outer P w H s Q u s'
 | .ok _ => False
 | .error e => CX outer H s E e s'
structure FnOk (P : Program) (w : World) (K : W.Frag) (mg : Str -> Option Value) (base : Heap) (CX : CXT) (k : Nat) (f : Addr) (fd : FuncData) (ps : List Str) (sp : Sp) : Prop where
 len : ∀ vs H Q E, sp vs H Q E -> vs.length = ps.length
 run : ∀ (A : Around) (outer : List Env) (s : Shared) (H : Hp) (args : Args) (us : List Value) (vs : List V) (Q : VK) (E : XK), Room k A -> Env0 P w K mg base A outer s H -> BindsTo s fd args (ps.zip us) -> Vals vs us -> sp vs H Q E ->
  codeAny (model P w) A (.call (.ref f) args) (CR CX outer P w H s Q E) s
section
variable {X : Cx} {Qa : ZP} {σ : St} {H : Hp} {s s' : Shared}
theorem Inv.env0 (I : Inv X Qa σ H s) : Env0 X.prog X.w X.K X.mg X.base X.A X.stack s H :=
 ⟨I.ok.frames, I.ok.mod, I.bs, yat I.ok.bsz I.sz, I.stack, I.stkFree, I.hok, I.bare⟩
theorem Inv.after {Q : VK} {u : Value} (I : Inv X Qa σ H s) (h : CE X.stack X.prog X.w H s Q u s') : EP X Qa σ Q u s' := by
 obtain ⟨v, H', os, bare, un, hok, r, q⟩ := h;obtain ⟨hh, g, d, t, os'⟩ := s';obtain rfl : os' = s.os := os;exact ⟨v, H', I.call (h' := hh) (g' := g) (d' := d) (t' := t) (ch := []) un hok bare (fun b z => absurd z ς), r, q⟩
end
def zm6 (sp : Sp) (dvs : List V) (E : XK) (t : TA) : TE := fun σ H Q => t σ H fun vs H1 => sp (vs ++ dvs) H1 Q E
def Binds (K : W.Frag) (fd : FuncData) (ps : List Str) (ds : List Value) : Prop :=
 ∀ (s : Shared) (us : List Value), K.In s.heap -> (us ++ ds).length = ps.length -> BindsTo s fd ⟨us, []⟩ (ps.zip (us ++ ds))
theorem Binds.all {K : W.Frag} {fd : FuncData} {ps : List Str} (h : ∀ us : List Value, us.length = ps.length -> bindArgs fd ⟨us, []⟩ = pure (ps.zip us)) : Binds K fd ps [] := fun s us _ hl => by
 rw [List.append_nil] at hl ⊢;exact .of_eq (h us hl)
def zic (CX : CXT) (X : Cx) (E : XK) : Prop := ∀ (Qa : ZP) (σ : St) (H : Hp) (s : Shared) (e : Value) (s' : Shared), Inv X Qa σ H s -> CX X.stack H s E e s' -> X.xe e s'
section
variable {X : Cx} {CX : CXT} {k : Nat} {f C : Addr} {fd : FuncData} {ps : List Str} {sp : Sp} {dvs : List V} {ds : List Value} {E : XK} {x m : Str} {p pos apos : Pos} {e o : Expr} {es : List Expr} {ta : TE} {t : TA}
theorem zm7 {Qa : ZP} {σ : St} {H : Hp} {s : Shared} {Q : VK} {us : List Value} {vs : List V} (F : FnOk X.prog X.w X.K X.mg X.base CX k f fd ps sp) (hr : Room k X.A) (hb : Binds X.K fd ps ds) (hd : Vals dvs ds) (hx : zic CX X E)
  (I : Inv X Qa σ H s) (r : Vals vs us) (h : sp (vs ++ dvs) H Q E) : wpAny (model X.prog X.w) X.A (call (.ref f) us) (EP X Qa σ Q) X.xe s := by
 have r2 : Vals (vs ++ dvs) (us ++ ds) := r.append hd;have hl : (us ++ ds).length = ps.length := by rw [<- r2.length]; exact F.len _ _ _ _ h
 refine wpAny_call (codeAny_mono (F.run X.A X.stack s H ⟨us, []⟩ (us ++ ds) (vs ++ dvs) Q E hr I.env0 (hb s us I.kIn hl) r2 h) fun r s' hq => ?_);cases r with
 | error e => exact hx Qa σ H s e s' I hq
 | ok fl =>
  cases fl with
  | ret u => exact I.after hq
  | next => exact False.elim hq
  | brk => exact False.elim hq
  | cont => exact False.elim hq
theorem zal (F : FnOk X.prog X.w X.K X.mg X.base CX k f fd ps sp) (hr : Room k X.A) (hg : Gl X x) (hm : X.mg x = some (.ref f)) (hk : W.keepIn X.K (.ref f) = true) (hb : Binds X.K fd ps ds) (hd : Vals dvs ds) (hx : zic CX X E)
  (ha : PA X (e :: es) t) (hdb : (x == ("__debug__" : Str)) = false := by decide) (he : starEach (e :: es) X.env = (false, eval e X.env) :: starEach es X.env := by rfl) (hpl : (backTo pos (starEach es X.env)).any (·.1) = false := by rfl) :
  PE X (.Call (.Name x p) (e :: es) [] pos) (zm6 sp dvs E t) := by
 intro Qa s σ H Q I h;refine wpAny_Call_Name_kw (zhM I hg hm ?_ hdb);refine W.callWith_K (h₀ := X.base) I.ok.mod.kin hk (thn (ha pos Qa s σ H _ I h) fun us s1 ⟨vs, H1, I1, r, q⟩ => ⟨I1.kIn, ?_⟩) he hpl;exact zm7 F hr hb hd hx I1 r q
structure Mk (K : W.Frag) (C f : Addr) : Prop where
 makes : W.makesIn K C = true
 init : W.findIn K (.ref C) "__init__" = some (some (.ref f))
 fn : W.isFn K (.ref f) = true
 kp : W.keepIn K (.ref C) = true
end
section
variable {X : Cx} {CX : CXT} {k : Nat} {f C : Addr} {fd : FuncData} {ps ks : List Str} {sp : Sp} {E : XK} {x m : Str} {p pos apos kpos : Pos} {e o : Expr} {es : List Expr} {kws : List Keyword} {te ta : TE} {t tk : TA} {nm : Option Str}
structure zoZ (K : W.Frag) (fd : FuncData) (ps ks : List Str) (g : List Value -> List Value -> List Value) (gV : List V -> List V -> List V) : Prop where
 to : ∀ (s : Shared) (us ws : List Value), K.In s.heap -> (g us ws).length = ps.length -> BindsTo s fd ⟨us, ks.zip ws⟩ (ps.zip (g us ws))
 rel : ∀ {vs : List V} {us : List Value} {zs : List V} {ws : List Value}, Vals vs us -> Vals zs ws -> Vals (gV vs zs) (g us ws)
end
structure zas (N P : List Str) (sc : Scope) : Prop where
 kind : sc.kind = .function
 co : sc.isCoroutine = false
 gen : sc.isGenerator = false
 nd : N.Nodup
 pre : N.take P.length = P
 par : ∀ x ∈ P, sc.names.lookup x = some .local \/ sc.names.lookup x = some .cell
 nofree : ∀ y ∈ sc.names, y.2 ≠ .free
theorem zeJ {kindOf : Str -> Option NameKind} {x : Str} : ∀ {binds : List (Str × Value)} {m : Str -> Option Value}, (∀ v, (x, v) ∉ binds) -> bindL kindOf binds m x = m x
 | [], _, _ => rfl
 | (n, v) :: r, m, h => by
  unfold bindL;rw [zeJ fun w hw => h w (List.mem_cons_of_mem _ hw)]
  split
  ·have : x ≠ n := by rintro rfl; exact h v List.mem_cons_self
   simp [this]
  ·rfl
theorem zeK {kindOf : Str -> Option NameKind} {x : Str} : ∀ {binds : List (Str × Value)} {m : Str -> Option Value}, (∀ v, (x, v) ∉ binds) -> bindC kindOf binds m x = m x
 | [], _, _ => rfl
 | (n, v) :: r, m, h => by
  unfold bindC;rw [zeK fun w hw => h w (List.mem_cons_of_mem _ hw)]
  split
  ·rfl
  ·have : x ≠ n := by rintro rfl; exact h v List.mem_cons_self
   simp [this]
theorem zeL {kindOf : Str -> Option NameKind} {x : Str} {v : Value} : ∀ {P : List Str} {vs : List Value} {i : Nat} {m : Str -> Option Value}, P.Nodup -> P[i]? = some x -> vs[i]? = some v -> kindOf x = some .local ->
  bindL kindOf (P.zip vs) m x = some v
 | [], _, _, _, _, h, _, _ => by simp at h
 | _ :: _, [], _, _, _, _, h, _ => by simp at h
 | p :: P, w :: vs, 0, m, nd, h1, h2, hk => by
  simp at h1 h2; subst h1; subst h2;show bindL kindOf ((p, w) :: P.zip vs) m p = _;unfold bindL;rw [zeJ fun v hv => (List.nodup_cons.mp nd).1 (List.of_mem_zip hv).1, if_pos hk];simp
 | p :: P, w :: vs, i + 1, m, nd, h1, h2, hk => by
  show bindL kindOf ((p, w) :: P.zip vs) m x = _;unfold bindL;exact zeL (i := i) (List.nodup_cons.mp nd).2 (by simpa using h1) (by simpa using h2) hk
theorem zeM {kindOf : Str -> Option NameKind} {x : Str} {v : Value} : ∀ {P : List Str} {vs : List Value} {i : Nat} {m : Str -> Option Value}, P.Nodup -> P[i]? = some x -> vs[i]? = some v -> kindOf x ≠ some .local ->
  bindC kindOf (P.zip vs) m x = some v
 | [], _, _, _, _, h, _, _ => by simp at h
 | _ :: _, [], _, _, _, _, h, _ => by simp at h
 | p :: P, w :: vs, 0, m, nd, h1, h2, hk => by
  simp at h1 h2; subst h1; subst h2;show bindC kindOf ((p, w) :: P.zip vs) m p = _;unfold bindC;rw [zeK fun v hv => (List.nodup_cons.mp nd).1 (List.of_mem_zip hv).1, if_neg hk];simp
 | p :: P, w :: vs, i + 1, m, nd, h1, h2, hk => by
  show bindC kindOf ((p, w) :: P.zip vs) m x = _;unfold bindC;exact zeM (i := i) (List.nodup_cons.mp nd).2 (by simpa using h1) (by simpa using h2) hk
def start (N : List Str) (vs : List V) : St := vs.map some ++ List.replicate (N.length - vs.length) none
def cxOf (CX : CXT) (P : Program) (w : World) (K : W.Frag) (mg : Str -> Option Value) (base : Heap) (N : List Str) (qual : Str) (scope : Scope) (f : Addr) (cd : Value) (A : Around) (outer : List Env) (s : Shared) (H : Hp) (E : XK) : Cx where
 prog := P
 w := w
 K := K
 mg := mg
 base := base
 A := A.deeper (envOfC qual scope s.heap.objs.size f cd)
 N := N
 s₀ := s
 H₀ := H
 env := envOfC qual scope s.heap.objs.size f cd
 outer := outer
 stack := envOfC qual scope s.heap.objs.size f cd :: outer
 ex := []
 calm := true
 fn := fun _ => true
 pn := []
 xe := fun e s' => wpAny (model P w) (A.deeper (envOfC qual scope s.heap.objs.size f cd)) (leaving (envOfC qual scope s.heap.objs.size f cd) e) (fun _ s'' => CX outer H s E e s'') (fun e' s'' => CX outer H s E e' s'') s'
theorem zg0 {sc : Scope} {n : Nat} {x : Str} (h : sc.names.lookup x = some .cell) : ∃ c, (cellsFrom n sc.names []).lookup x = some c := by
 have q := W.cellsFrom_some sc.names n [] (.inl h);exact Option.isSome_iff_exists.mp q
theorem zid {CX : CXT} {P : Program} {w : World} {K : W.Frag} {mg : Str -> Option Value} {base : Heap} {N ps : List Str} {qual : Str} {scope : Scope} {f : Addr} {cd : Value} {A : Around} {outer : List Env} {s s1 : Shared} {H : Hp} {E : XK} {us : List Value} {vs : List V}
  (S : zas N ps scope) (hd : A.handled = none) (e0 : Env0 P w K mg base A outer s H) (hl : vs.length = ps.length) (r : Vals vs us)
  (x : InCallC s s.heap.objs.size (bindL (envOfC qual scope s.heap.objs.size f cd).kindOf (ps.zip us) fun _ => none) (cellsFrom (s.heap.objs.size + 1) scope.names []) (bindC (envOfC qual scope s.heap.objs.size f cd).kindOf (ps.zip us) fun _ => none) s1) :
  Inv (cxOf CX P w K mg base N qual scope f cd A outer s H E) [] (start N vs) H s1 := by
 have hpl : ps.length <= N.length := by have := congrArg List.length S.pre; rw [ya3] at this; omega
 obtain ⟨h1, tk, rfl, hk⟩ := x.done;have noA : ∀ b : Addr, b ∉ (cxOf CX P w K mg base N qual scope f cd A outer s H E).ex := fun b z => absurd (show b ∈ ([] : List Addr) from z) ς;refine ⟨⟨e0.mod, S.kind, rfl, rfl, yai _, fun y z c h1 h2 => ?_, fun y hy => ?_, fun y c _ h => ?_, fun _ => hd, Around.frames_deeper e0.frames, .inr ⟨rfl, rfl⟩, fun b z => absurd z (noA b), e0.bs, e0.bsz, fun b _ _ => noA b, fun b z => absurd z (noA b), e0.funs, e0.frf⟩,
  rfl, e0.bare, Un.kept hk, ⟨_, x.toInCall.ns, fun i y v h1 h2 h3 => ?_⟩, fun y c h => ⟨_, x.cell y c h⟩, e0.hok.fresh (yai _), fun y c h => ?_, fun p hp => absurd (show p ∈ ([] : ZP) from hp) ς, e0.hok.kept hk, ?_⟩
 ·exact name_of_addr x.apart (PySem.mem_of_lookup h1) (PySem.mem_of_lookup h2)
 ·have hy : scope.names.lookup y = some .cell \/ scope.names.lookup y = some .free := hy;rcases hy with hy | hy
  ·exact zg0 hy
  ·exact absurd rfl (S.nofree _ (PySem.mem_of_lookup hy))
 ·exact Nat.le_of_lt (x.above y c (PySem.mem_of_lookup h))
 ·have hi : i < vs.length := by
   unfold start at h2
   by_cases hi : i < vs.length
   ·exact hi
   ·rw [List.getElem?_append_right (by simpa using hi)] at h2;rw [List.getElem?_replicate] at h2
    split at h2 <;> cases h2
  have ha : vs[i]? = some v := by
   unfold start at h2;rw [ya5 (by simpa using hi), yav] at h2;cases e : vs[i]? with
   | none => rw [e] at h2; cases h2
   | some a => rw [e] at h2; cases h2; rfl
  obtain ⟨u, hu, rv⟩ := r.get ha;have hp : ps[i]? = some y := by
   rw [<- S.pre, List.getElem?_take_of_lt ω]; exact h1
  have ndP : ps.Nodup := by rw [<- S.pre]; exact S.nd.sublist (List.take_sublist _ _)
  refine ⟨u, rv, ?_⟩;rcases S.par y (ya1 hp) with k | k
  ·exact .inl ⟨k, zeL ndP hp hu k⟩
  ·obtain ⟨c, e⟩ := zg0 (n := s.heap.objs.size + 1) k;refine .inr ⟨.inl k, c, e, ?_⟩;have q := x.cell y c e;rw [zeM ndP hp hu (by show scope.names.lookup y ≠ _; rw [k]; decide)] at q;exact q
 ·exact e0.hok.fresh (Nat.le_of_lt (x.above y c (PySem.mem_of_lookup h)))
 ·unfold start;show _ = N.length;rw [yae, yaf, List.length_replicate];omega
theorem zop {CX : CXT} {P : Program} {w : World} {K : W.Frag} {mg : Str -> Option Value} {base : Heap} {k : Nat} {f : Addr} {name qual : Str} {params : Arguments} {body : List Stmt} {scope : Scope} {dV kV doc pm cdv ct oc : Value} {an od : Option Addr}
  {osl : Array (Option Value)} {N ps : List Str} {sp : Sp} (lk : K.lookup f = some ⟨oc, od, .func (W.fnOf name qual params body scope dV kV doc pm an cdv ct), osl⟩) (hcd : W.codeIn K cdv qual = true) (S : zas N ps scope)
  (len : ∀ vs H Q E, sp vs H Q E -> vs.length = ps.length)
  (hbody : ∀ (A : Around) (outer : List Env) (s : Shared) (H : Hp) (vs : List V) (Q : VK) (E : XK), Room k (A.deeper (envOfC qual scope s.heap.objs.size f cdv)) -> sp vs H Q E ->
   ∃ t, PSs (cxOf CX P w K mg base N qual scope f cdv A outer s H E) body t /\ t { nx := fun _ H' => Q .non H', rt := Q } (start N vs) H) :
  FnOk P w K mg base CX (k + 1) f (W.fnOf name qual params body scope dV kV doc pm an cdv ct) ps sp := by
 refine ⟨len, fun A outer s H args us vs Q E hr e0 hb r hsp => ?_⟩;have hl := len _ _ _ _ hsp;have KX : K.In s.heap := e0.mod.kin.keeps fun b o e => (e0.bs b o e).1;have lim : s.heap.NoLimit := e0.mod.nolimit.keeps fun b o e => (e0.bs b o e).1;have hkind : ∀ y ∈ ps.zip us, scope.names.lookup y.1 = some .local \/ (scope.names.lookup y.1 = some .cell /\ ((cellsFrom (s.heap.objs.size + 1) scope.names []).lookup y.1).isSome = true) := fun ⟨n, v⟩ hy => by
  rcases S.par n (List.of_mem_zip hy).1 with q | q
  ·exact .inl q
  ·exact .inr ⟨q, W.cellsFrom_some _ _ _ (.inl q)⟩
 refine codeAny_call_function hr.depth (KX _ _ lk) rfl S.co S.gen rfl (W.codeRec_of KX hcd) (hb _ _ _ _ ?_);refine wpAny_newFunctionEnv_cells S.kind hkind fun env he s1 x => ?_;subst he;refine ⟨lim.keeps x.toInCall.keep, codeAny_func ?_⟩;obtain ⟨t, ht, hq⟩ := hbody A outer s H vs Q E (hr.deeper _) hsp;have I : Inv (cxOf CX P w K mg base N qual scope f cdv A outer s H E) [] (start N vs) H s1 := zid S hr.hd e0 hl r x;refine wpAny_mono (ht [] s1 (start N vs) H _ I hq) (fun fl s' hs => ?_) fun e s' hs => hs;have fin : ∀ {σ' : St} {H' : Hp} {v : V} {u : Value}, Inv (cxOf CX P w K mg base N qual scope f cdv A outer s H E) [] σ' H' s' -> RelV v u -> Q v H' -> CE outer P w H s Q u s' :=
  fun {σ' H' v u} J rv q => ⟨v, H', J.os, J.bare, J.base, J.hok, rv, q⟩
 cases fl with
 | ret u =>
  obtain ⟨v, σ', H', J, rv, q⟩ := hs;exact fin J rv q
 | next =>
  obtain ⟨σ', H', J, q⟩ := hs;exact fin (v := V.non) (u := Value.none) J rfl q
 | brk =>
  obtain ⟨_, _, _, q⟩ := hs;exact False.elim q
 | cont =>
  obtain ⟨_, _, _, q⟩ := hs;exact False.elim q
section
variable {X : Cx} {x : Str} {p pos : Pos} {e : Expr} {es : List Expr} {t : TA} {id T : String} {r : List V -> Hp -> VK -> Prop}
def tCB (r : List V -> Hp -> VK -> Prop) (t : TA) : TE := fun σ H Q => t σ H fun vs H1 => r vs H1 Q
theorem zaz (hc : zaN X (.builtin id) r) (hg : Gl X x) (hm : X.mg x = none) (hv : bootBuiltins x = some (.builtin id)) (ha : PA X (e :: es) t) (hn : x ≠ "__name__" := by decide) (hdb : (x == ("__debug__" : Str)) = false := by decide)
  (he : starEach (e :: es) X.env = (false, eval e X.env) :: starEach es X.env := by rfl) (hpl : (backTo pos (starEach es X.env)).any (·.1) = false := by rfl) : PE X (.Call (.Name x p) (e :: es) [] pos) (tCB r t) := by
 intro Qa s σ H Q I h;refine wpAny_Call_Name_kw (zdN I hg hm hv ?_ hn hdb);exact PyProof.Rows.callWith_builtin1 (thn (ha pos Qa s σ H _ I h) fun us s1 ⟨vs, H1, I1, r1, q1⟩ => hc Qa s1 σ H1 vs us Q I1 r1 q1) he hpl
theorem zax (hc : zaN X (.type T) r) (hg : Gl X x) (hm : X.mg x = none) (hv : bootBuiltins x = some (.type T)) (ha : PA X (e :: es) t) (hn : x ≠ "__name__" := by decide) (hdb : (x == ("__debug__" : Str)) = false := by decide)
  (he : starEach (e :: es) X.env = (false, eval e X.env) :: starEach es X.env := by rfl) (hpl : (backTo pos (starEach es X.env)).any (·.1) = false := by rfl) : PE X (.Call (.Name x p) (e :: es) [] pos) (tCB r t) := by
 intro Qa s σ H Q I h;refine wpAny_Call_Name_kw (zdN I hg hm hv ?_ hn hdb);exact PyProof.Rows.callWith_type1 (thn (ha pos Qa s σ H _ I h) fun us s1 ⟨vs, H1, I1, r1, q1⟩ => hc Qa s1 σ H1 vs us Q I1 r1 q1) he hpl
end
end L2
namespace HT
open PySem PyProof.Rows
section
open PySem.SeqAt
open PySem.AutoSeq1 (wpAny_loadPart')
open PySem.MeetsSeq PySem.MeetsSeq2 PySem.MeetsSeq3
end
section
variable {prog : Program} {w : World} {A : Around} {E : ZQ} {s : Shared}
theorem cat_tup {t b : Addr} {vs ws : List Value} {Q : ZQ} (ht : IsTup s.heap t vs.toArray) (hb : IsTup s.heap b ws.toArray) (hv : vs ≠ [])
  (h1 : ws = [] -> Q (.ref t) s) (h2 : ws ≠ [] -> Q (.ref s.heap.objs.size) { s with heap := s.heap.push { cls := .type "tuple", data := .seq (vs ++ ws).toArray } })
  (hsz : vs.length + ws.length <= sizeLine) : wpAny (model prog w) A (binaryOp .Add (.ref t) (.ref b)) Q E s := by
 obtain ⟨⟨cls, dd, data, sl⟩, ho, hc, n, hd⟩ := id ht;obtain ⟨⟨cls2, dd2, data2, sl2⟩, ho2, hc2, n2, hd2⟩ := id hb;simp only at hc hd hc2 hd2;subst hc hd hc2 hd2;have e : vs.toArray ++ ws.toArray = (vs ++ ws).toArray := by simp
 by_cases hw : ws = []
 ·exact concat_meets ⟨_, ho, rfl⟩ ⟨_, ho2, rfl⟩ noFill_tuple_add seq_tuple_add PySem.F.slot_tuple_add PySem.F.entry_tuple_add (PySem.F.args_tuple_add_2 _ _)
   (tuple_addW1 t b vs.toArray ws.toArray n n2 dd dd2 sl sl2 (by simpa using hv) (by simp [hw])) ⟨ho, ho2, h1 hw⟩
 ·refine concat_meets ⟨_, ho, rfl⟩ ⟨_, ho2, rfl⟩ noFill_tuple_add seq_tuple_add PySem.F.slot_tuple_add PySem.F.entry_tuple_add (PySem.F.args_tuple_add_2 _ _)
   (tuple_addW2 t b vs.toArray ws.toArray n n2 dd dd2 sl sl2 (by simpa using hv) (by simpa using hw) (by rw [yad, yad]; exact hsz)) ⟨ho, ho2, ?_⟩
  rw [e];exact h2 hw
def sIx (n d : Nat) : Option Int -> Nat
 | none => d
 | some v => if v < 0 then (v + (n : Int)).toNat else min v.toNat n
theorem sIx_none (n d : Nat) : sIx n d none = d := rfl
theorem sIx_nat (n d k : Nat) : sIx n d (some (k : Int)) = min k n := by
 show (if (k : Int) < 0 then ((k : Int) + (n : Int)).toNat else min (k : Int).toNat n) = min k n;rw [if_neg ω, ya4]
theorem sIx_le (n d : Nat) (hd : d <= n) (o : Option Int) : sIx n d o <= n := by
 cases o with
 | none => exact hd
 | some v =>
  show (if v < 0 then (v + (n : Int)).toNat else min v.toNat n) <= n
  by_cases hv : v < 0
  ·rw [if_pos hv]; omega
  ·rw [if_neg hv]; exact Nat.min_le_right _ _
theorem clip_eq (v : Int) (n d : Nat) : (if v < 0 then max (v + (n : Int)) 0 else min v (n : Int)) = ((sIx n d (some v) : Nat) : Int) := by
 show (if v < 0 then max (v + (n : Int)) 0 else min v (n : Int)) = (((if v < 0 then (v + (n : Int)).toNat else min v.toNat n) : Nat) : Int)
 by_cases hv : v < 0
 ·simp only [if_pos hv]; omega
 ·simp only [if_neg hv]; omega
theorem zhh (lo hi : Option Int) (n : Nat) : Builtin.Slice.sliceAdjust lo hi 1 (n : Int) = (((sIx n 0 lo : Nat) : Int), ((sIx n n hi : Nat) : Int)) := by
 have h1 : ¬ ((1 : Int) < 0) := by omega
 unfold Builtin.Slice.sliceAdjust;simp only [h1, if_false];refine Prod.ext ?_ ?_
 ·cases lo with
  | none => rfl
  | some v => exact clip_eq v n 0
 ·cases hi with
  | none => rfl
  | some v => exact clip_eq v n n
theorem zhi (i j : Nat) : Builtin.Slice.slicePlaces (i : Int) (j : Int) 1 = j - i := by
 unfold Builtin.Slice.slicePlaces;have h1 : (1 : Int) > 0 := by omega
 simp only [h1, if_true, Int.ediv_one]
 split <;> omega
theorem zdR {v : Value} {o : Option Int} {Q : Option Int -> Shared -> Prop} (p : IsPart v o) (h : Q o s) : wpAny (model prog w) A (Builtin.Slice.slicePartIndex v) Q E s := by
 cases p with
 | none => exact slicePart_none h
 | int i t => exact slicePart_int h
theorem zbR {sl : Addr} {vl vu : Value} {lo hi : Option Int} {n : Nat} {Q : Int × Int × Nat -> Shared -> Prop} (hs : s.heap.IsSliceOf sl vl vu .none) (pl : IsPart vl lo) (pu : IsPart vu hi)
  (h : Q (((sIx n 0 lo : Nat) : Int), 1, sIx n n hi - sIx n 0 lo) s) : wpAny (model prog w) A (Builtin.Slice.sliceApplied (.ref sl) (pure (n : Int))) Q E s := by
 obtain ⟨os, hos, hcs, hds⟩ := id hs;unfold Builtin.Slice.sliceApplied Builtin.Slice.sliceFields;refine yaa (yaa (wpAny_field hos hds (x := vl) rfl (yaa (wpAny_field hos hds (x := vu) rfl (yaa (wpAny_field hos hds (x := .none) rfl (yab ?_)))))));refine yaa (slicePart_none ?_);show wpAny _ _ (if ((1 : Int) == 0) = true then _ else _) _ _ s;rw [if_neg δ];refine yaa (zdR pl (yaa (zdR pu (yaa (yab ?_)))));show wpAny _ _ (match Builtin.Slice.sliceAdjust lo hi 1 (n : Int) with | (lo, hi) => pure (lo, (1 : Int), Builtin.Slice.slicePlaces lo hi 1)) _ _ s;rw [zhh lo hi n];show wpAny _ _ (pure (((sIx n 0 lo : Nat) : Int), (1 : Int), Builtin.Slice.slicePlaces ((sIx n 0 lo : Nat) : Int) ((sIx n n hi : Nat) : Int) 1)) _ _ s;rw [zhi];exact yab h
theorem zjH (xs : Array Value) (i k : Nat) : ((List.range k).filterMap fun (m : Nat) => xs[((i : Int) + (m : Int) * 1).toNat]?).toArray = ((xs.toList.drop i).take k).toArray := by
 have e : (fun (m : Nat) => xs[((i : Int) + (m : Int) * 1).toNat]?) = fun m => xs[i + m]? := by
  funext m
  have : ((i : Int) + (m : Int) * 1).toNat = i + m := by omega
  rw [this]
 rw [e];have := pick_run xs i k;rw [List.filterMap_map] at this;have e2 : ((fun x => xs[x]?) ∘ fun x => i + x) = fun m => xs[i + m]? := rfl;rw [e2] at this;rw [this]
theorem getItem_tuple_cut {t sl : Addr} {items : Array Value} {vl vu : Value} {lo hi : Option Int} {Q : ZQ} (ht : IsTup s.heap t items) (hs : s.heap.IsSliceOf sl vl vu .none) (pl : IsPart vl lo) (pu : IsPart vu hi)
  (hw : ¬ (sIx items.size 0 lo = 0 /\ sIx items.size items.size hi = items.size))
  (h : Q (.ref s.heap.objs.size) { s with heap := s.heap.push { cls := .type "tuple", data := .seq ((items.toList.drop (sIx items.size 0 lo)).take (sIx items.size items.size hi - sIx items.size 0 lo)).toArray } })
  (hsz : items.size <= sizeLine) : wpAny (model prog w) A (getItem (.ref t) (.ref sl)) Q E s := by
 have htake : sizeOk (.seq ((items.toList.drop (sIx items.size 0 lo)).take (sIx items.size items.size hi - sIx items.size 0 lo)).toArray) := by
  show ((items.toList.drop (sIx items.size 0 lo)).take (sIx items.size items.size hi - sIx items.size 0 lo)).toArray.size <= sizeLine;rw [yad, ya3, List.length_drop, Array.length_toList];omega
 have hj : sIx items.size items.size hi <= items.size := sIx_le _ _ (yai _) hi;obtain ⟨os, hos, hcs, hds⟩ := id hs;have hTs : s.TypeIs (.ref sl) "slice" := ⟨os, hos, hcs⟩
 unfold getItem
 try with_reducible refine wpAny_holding ?_
 first | refine yaa (yab ?_) | skip
 refine yaa (wpAny_sequenceKey ht.typeIs δ ?_);refine yaa (wpAny_callSpecial?_slot (name := Str.ofString "__getitem__") ht.typeIs PyProof.Rows.slot_tuple_getitem
  (wpAny_call_entry PyProof.Rows.slot_tuple_getitem ht.typeIs entry_tuple_getitem ?_ (args_tuple_getitem _ _)))
 show wpAny _ _ (Builtin.Tuple.tupleItemsOf (.ref t) >>= _) _ _ s;refine yaa (tupleItemsOf_ ht ?_);refine yaa (wpAny_typeOf hTs ?_);rw [if_pos δ];refine yaa (zbR hs pl pu ?_);have hno : ¬ ((((sIx items.size 0 lo : Nat) : Int) == 0 && (1 : Int) == 1 && (sIx items.size items.size hi - sIx items.size 0 lo) == items.size) = true) := by
  intro q;rw [Bool.and_eq_true, Bool.and_eq_true] at q;have q1 : ((sIx items.size 0 lo : Nat) : Int) = 0 := eq_of_beq q.1.1;have q2 : sIx items.size items.size hi - sIx items.size 0 lo = items.size := eq_of_beq q.2;exact hw ⟨ω,ω⟩
 show wpAny _ _ (if (((sIx items.size 0 lo : Nat) : Int) == 0 && (1 : Int) == 1 && (sIx items.size items.size hi - sIx items.size 0 lo) == items.size) = true then _ else _) _ _ s;rw [if_neg hno, zjH]
 first
  | exact yaa (m := Builtin.Tuple.tupleExact _) (wpAny_newObj_type (yab ⟨_, rfl, yab h⟩) htake)
  | exact yaa (m := Builtin.Tuple.tupleExact _) (wpAny_newObj_type (yaa (yab (yab ⟨_, rfl, yab h⟩))) htake)
  | exact yaa (yaa (m := Builtin.Tuple.tupleExact _) (wpAny_newObj_type (yab (yab ⟨_, rfl, yab h⟩)) htake))
  | exact yaa (yaa (m := Builtin.Tuple.tupleExact _) (wpAny_newObj_type (yab ⟨_, rfl, yab h⟩) htake))
end
end HT
namespace L2
open PySem PySem.Spec PyProof.Rows
abbrev TO := St -> Hp -> (Option Int -> Hp -> Prop) -> Prop
def PO (X : Cx) (e : Option Expr) (t : TO) : Prop :=
 ∀ (Qa : ZP) (s : Shared) (σ : St) (H : Hp) (Q : Option Int -> Hp -> Prop), Inv X Qa σ H s -> t σ H Q ->
  wpAny (model X.prog X.w) X.A (evalPart e X.env) (fun u s' => ∃ o H', Inv X Qa σ H' s' /\ IsPart u o /\ Q o H') X.xe s
def zfG : TO := fun _ H Q => Q none H
def zlh (t : TE) : TO := fun σ H Q => t σ H fun x H1 => ∃ i, x = .int i /\ Q (some i) H1
section
variable {X : Cx} {e : Expr} {te : TE} {lo hi : Option Expr} {tl th : TO} {pos p2 : Pos}
theorem zb7 : PO X none zfG := by
 intro Qa s σ H Q I h;rw [evalPart_none];exact yab ⟨none, H, I, .none, h⟩
theorem zbs (h : PE X e te) : PO X (some e) (zlh te) := by
 intro Qa s σ H Q I hw;rw [evalPart_some];refine thn (h Qa s σ H _ I hw) fun u s1 ⟨x, H1, I1, r1, q1⟩ => ?_;obtain ⟨i, rfl, q⟩ := q1;obtain ⟨t, rfl⟩ := r1;exact ⟨some i, H1, I1, .int i t, q⟩
def SlR (X : Cx) (r : V -> Option Int -> Option Int -> Hp -> VK -> Prop) : Prop :=
 ∀ (Qa : ZP) (s : Shared) (σ : St) (H : Hp) (x : V) (v vl vu : Value) (lo hi : Option Int) (sl : Addr) (Q : VK), Inv X Qa σ H s -> RelV x v -> s.heap.IsSliceOf sl vl vu .none -> IsPart vl lo -> IsPart vu hi -> r x lo hi H Q ->
  ∃ T id, typeLookup (.type T) "__getitem__" = pure (some (.builtin id)) /\ s.TypeIs v T /\ wpAny (model X.prog X.w) X.A (getItem v (.ref sl)) (EP X Qa σ Q) X.xe s
theorem SlR.or {r r' : V -> Option Int -> Option Int -> Hp -> VK -> Prop} (h : SlR X r) (h' : SlR X r') : SlR X (fun x lo hi H Q => r x lo hi H Q \/ r' x lo hi H Q) := by
 intro Qa s σ H x v vl vu lo hi sl Q I rx hs pl pu q;rcases q with q | q
 ·exact h Qa s σ H x v vl vu lo hi sl Q I rx hs pl pu q
 ·exact h' Qa s σ H x v vl vu lo hi sl Q I rx hs pl pu q
def tSl (r : V -> Option Int -> Option Int -> Hp -> VK -> Prop) (te : TE) (tl th : TO) : TE := fun σ H Q => te σ H fun x H1 => tl σ H1 fun l H2 => th σ H2 fun u H3 => r x l u H3 Q
theorem zbf {r : V -> Option Int -> Option Int -> Hp -> VK -> Prop} (hr : SlR X r) (he : PE X e te) (hl : PO X lo tl) (hu : PO X hi th) : PE X (.Subscript e (.Slice lo hi none p2) pos) (tSl r te tl th) := by
 intro Qa s σ H Q I h;refine Subscript_ (thn (he Qa s σ H _ I h) fun v s1 ⟨x, H1, I1, r1, q1⟩ => ?_);refine wpAny_Slice (thn (hl Qa s1 σ H1 _ I1 q1) fun vl s2 ⟨l, H2, I2, pl, q2⟩ => thn (hu Qa s2 σ H2 _ I2 q2) fun vu s3 ⟨u, H3, I3, pu, q3⟩ => ?_);rw [evalPart_none];refine yab ?_;have I4 : Inv X Qa σ H3 { s3 with heap := s3.heap.push { cls := .type "slice", data := .fields #[vl, vu, .none] } } := I3.kept (t' := s3.toks) fun b ob q => yac _ q;obtain ⟨T, id, hT, ht, hg⟩ := hr Qa { s3 with heap := s3.heap.push { cls := .type "slice", data := .fields #[vl, vu, .none] } } σ H3 x v vl vu l u s3.heap.objs.size Q I4 r1 (Heap.IsSliceOf.new ..) pl pu q3;show wpAny (model X.prog X.w) X.A (subscriptTail e (.Slice lo hi none p2) v (.ref s3.heap.objs.size)) (EP X Qa σ Q) X.xe { s3 with heap := s3.heap.push { cls := .type "slice", data := .fields #[vl, vu, .none] } };exact tail_any (ops := [.ref s3.heap.objs.size, v]) ht hT hg (by with_unfolding_all rfl)
def cutV (xs : List V) (lo hi : Option Int) : List V := (xs.drop (HT.sIx xs.length 0 lo)).take (HT.sIx xs.length xs.length hi - HT.sIx xs.length 0 lo)
theorem zdh (xs : List V) (lo hi : Option Int) : (cutV xs lo hi).length <= xs.length := by
 unfold cutV;rw [ya3, List.length_drop];omega
def rSlT (K : W.Frag) : V -> Option Int -> Option Int -> Hp -> VK -> Prop := fun x lo hi H Q => ∃ a xs, x = .ref a /\ SqT K H a xs /\
 ¬ (HT.sIx xs.length 0 lo = 0 /\ HT.sIx xs.length xs.length hi = xs.length) /\ ∀ p, H p = none -> Q (.ref p) (upd H p (.tup (cutV xs lo hi)))
theorem zm8 : SlR X (rSlT X.K) := by
 intro Qa s σ H x v vl vu lo hi sl Q I rx hs pl pu h;obtain ⟨a, xs, rfl, hx, hw, q⟩ := h;cases rx;obtain ⟨its, r, ht, hz⟩ := I.tuple hx;have Qe : its.toArray.size = xs.length := by rw [yad]; exact r.length.symm
 refine ⟨"tuple", _, PyProof.Rows.slot_tuple_getitem.lookup, ht.typeIs, ?_⟩;refine HT.getItem_tuple_cut ht hs pl pu (by rw [Qe]; exact hw) ?_ (by rw [Qe]; exact hz);rw [Qe];refine ⟨.ref s.heap.objs.size, _, I.laid (t' := s.toks) (o := .tup (cutV xs lo hi)) (fun b ob q => yac _ q) (yai _) ?_, rfl, q _ (I.hok.fresh (yai _))⟩;exact ⟨yat (zdh xs lo hi) hz, _, (r.drop (HT.sIx xs.length 0 lo)).take (HT.sIx xs.length xs.length hi - HT.sIx xs.length 0 lo), IsTup.new _ _⟩
def zm9 (K : W.Frag) : R2 := fun x y H Q => ∃ a b xs ys, x = .ref a /\ y = .ref b /\ SqT K H a xs /\ SqT K H b ys /\ xs ≠ [] /\ xs.length + ys.length <= sizeLine /\
 (ys = [] -> Q (.ref a) H) /\ (ys ≠ [] -> ∀ p, H p = none -> Q (.ref p) (upd H p (.tup (xs ++ ys))))
theorem Vals.nil_iff {xs : List V} {us : List Value} (r : Vals xs us) : us = [] ↔ xs = [] := by
 cases r with
 | nil => simp
 | cons _ _ => simp
theorem zli : OpR X (binaryOp .Add) (zm9 X.K) := by
 intro Qa s σ H x y v u Q I rx ry h;obtain ⟨a, b, xs, ys, rfl, rfl, ha, hb, hx, hz, q1, q2⟩ := h;cases rx;cases ry;obtain ⟨its, r1, p1, _⟩ := I.tuple ha;obtain ⟨its2, r2, p2, _⟩ := I.tuple hb;refine HT.cat_tup p1 p2 (fun z => hx (r1.nil_iff.mp z)) (fun z => ⟨.ref a, H, I, rfl, q1 (r2.nil_iff.mp z)⟩) (fun z => ?_) (by rw [<- r1.length, <- r2.length]; exact hz);refine ⟨.ref s.heap.objs.size, _, I.laid (t' := s.toks) (o := .tup (xs ++ ys)) (fun b ob q => yac _ q) (yai _) ?_, rfl, q2 (fun w => z (r2.nil_iff.mpr w)) _ (I.hok.fresh (yai _))⟩;exact ⟨by rw [yae]; exact hz, _, r1.append r2, IsTup.new _ _⟩
end
def ixN (n : Nat) (i : Int) : Option Nat := if 0 <= i then (if i < n then some i.toNat else none) else if -(n : Int) <= i then some (i + n).toNat else none
def atI {α : Type} (xs : List α) (i : Int) : Option α := (ixN xs.length i).bind fun j => xs[j]?
theorem zlj {n : Nat} {i : Int} {j : Nat} (h : ixN n i = some j) : seqIndex? i n = some j /\ j < n /\ -(n : Int) <= i /\ i < n := by
 unfold ixN at h
 by_cases h0 : 0 <= i
 ·rw [if_pos h0] at h
  by_cases h1 : i < n
  ·rw [if_pos h1] at h;have e : i.toNat = j := Option.some.inj h;exact ⟨by rw [seqIndex_of h0 h1, e],ω,ω, h1⟩
  ·rw [if_neg h1] at h; cases h
 ·rw [if_neg h0] at h
  by_cases h1 : -(n : Int) <= i
  ·rw [if_pos h1] at h;have e : (i + n).toNat = j := Option.some.inj h;exact ⟨by rw [seqIndex_neg ω h1, e],ω, h1,ω⟩
  ·rw [if_neg h1] at h; cases h
theorem zfH {α : Type} {xs : List α} {i : Int} {v : α} (h : atI xs i = some v) : ∃ j, seqIndex? i xs.length = some j /\ xs[j]? = some v /\ j < xs.length /\ -(xs.length : Int) <= i /\ i < xs.length := by
 unfold atI at h;cases e : ixN xs.length i with
 | none => rw [e] at h; cases h
 | some j =>
  rw [e] at h;obtain ⟨h1, h2, h3, h4⟩ := zlj e;exact ⟨j, h1, h, h2, h3, h4⟩
theorem zam {α : Type} {xs : List α} {j : Nat} {v : α} (h : xs[j]? = some v) : atI xs (j : Int) = some v := by
 have hj : j < xs.length := (yag.mp h).1;have e : ixN xs.length (j : Int) = some j := by
  unfold ixN;rw [if_pos ω, if_pos ω]; simp
 unfold atI; rw [e]; exact h
theorem zcW {α : Type} (xs : List α) (v : α) : atI (xs ++ [v]) (-1) = some v := by
 have hl : (xs ++ [v]).length = xs.length + 1 := by simp
 have e : ixN (xs ++ [v]).length (-1) = some xs.length := by
  unfold ixN;rw [hl, if_neg δ, if_pos ω]
  congr 1
  omega
 unfold atI;rw [e];show (xs ++ [v])[xs.length]? = some v;simp
def zlk (b : Expr) : Prop := ∀ o i, subscripted b false o i = operate [o, i] (getItem o i)
def IxR (X : Cx) (r : R2) : Prop :=
 ∀ (value slice : Expr) (Qa : ZP) (s : Shared) (σ : St) (H : Hp) (x y : V) (v u : Value) (Q : VK), Inv X Qa σ H s -> RelV x v -> RelV y u -> r x y H Q ->
  subscripted slice false v u = operate [v, u] (getItem v u) -> wpAny (model X.prog X.w) X.A (subscriptTail value slice v u) (EP X Qa σ Q) X.xe s
def MtR (X : Cx) (id : String) (r : V -> List V -> Hp -> VK -> Prop) : Prop :=
 ∀ (Qa : ZP) (s : Shared) (σ : St) (H : Hp) (x : V) (xs : List V) (v : Value) (us : List Value) (Q : VK), Inv X Qa σ H s -> RelV x v -> Vals xs us -> r x xs H Q ->
  wpAny (model X.prog X.w) X.A (call (.builtin id) (v :: us)) (EP X Qa σ Q) X.xe s
section
variable {X : Cx} {a b : Expr} {ta tb : TE} {pos : Pos}
theorem IxR.or {r r' : R2} (h : IxR X r) (h' : IxR X r') : IxR X (fun x y H Q => r x y H Q \/ r' x y H Q) := by
 intro value slice Qa s σ H x y v u Q I rx ry q hs;rcases q with q | q
 ·exact h value slice Qa s σ H x y v u Q I rx ry q hs
 ·exact h' value slice Qa s σ H x y v u Q I rx ry q hs
theorem za5 {r : R2} (hr : IxR X r) (ha : PE X a ta) (hb : PE X b tb) (hs : zlk b) : PE X (.Subscript a b pos) (tOp r ta tb) := by
 intro Qa s σ H Q I h;exact Subscript_ (binT ha hb I h fun v u s2 x y H2 I2 rx ry q => hr a b Qa s2 σ H2 x y v u Q I2 rx ry q (hs _ _))
def rIxL (K : W.Frag) : R2 := fun x y H Q => ∃ p xs i v, x = .ref p /\ y = .int i /\ SqL K H p xs /\ atI xs i = some v /\ Q v H
def rIxT (K : W.Frag) : R2 := fun x y H Q => ∃ p xs i v, x = .ref p /\ y = .int i /\ SqT K H p xs /\ atI xs i = some v /\ Q v H
def rIxS : R2 := fun x y H Q => ∃ z i c, x = .str z /\ y = .int i /\ z.length <= sizeLine /\ atI z.cps.toList i = some c /\ Q (.str ⟨#[c]⟩) H
theorem ix_list : IxR X (rIxL X.K) := by
 intro value slice Qa s σ H x y v u Q I rx ry h hs;obtain ⟨p, xs, i, z, rfl, rfl, hq, he, q⟩ := h;cases rx;obtain ⟨t, rfl⟩ := ry;obtain ⟨its, r, pl, hz⟩ := I.list hq;obtain ⟨j, h1, h2, h3, h4, h5⟩ := zfH he;obtain ⟨w, ew, rw'⟩ := r.get h2;have hl := r.length;have hn := zeH;have fin : EP X Qa σ Q w s := ⟨z, H, I, rw', q⟩
 by_cases h0 : 0 <= i
 ·have hj : i.toNat = j := by
   rw [seqIndex_of h0 h5] at h1;exact Option.some.inj h1
  exact item_listR pl.isList h0 ω (by rw [hj]; simpa using ew) fin hs
 ·have hj : (i + (its.toArray.size : Int)).toNat = j := by
   rw [seqIndex_neg ω h4] at h1;rw [yad, <- hl];exact Option.some.inj h1
  exact subscriptTail_builtinR (x := w) pl.isList.typeIs slot_list_getitem.lookup
   (wpAny_getItem_list_neg (Q := fun r s' => r = w /\ EP X Qa σ Q r s') pl.isList ω (by rw [yad] <;> omega) ω (by rw [hj]; simpa using ew) ⟨rfl, fin⟩) hs
theorem ix_tup : IxR X (rIxT X.K) := by
 intro value slice Qa s σ H x y v u Q I rx ry h hs;obtain ⟨p, xs, i, z, rfl, rfl, hq, he, q⟩ := h;cases rx;obtain ⟨t, rfl⟩ := ry;obtain ⟨its, r, pl, hz⟩ := I.tuple hq;obtain ⟨j, h1, h2, h3, h4, h5⟩ := zfH he;obtain ⟨w, ew, rw'⟩ := r.get h2;have hl := r.length;have hn := zeH;have fin : EP X Qa σ Q w s := ⟨z, H, I, rw', q⟩
 exact subscriptTail_builtinR (x := w) pl.typeIs slot_tuple_getitem.lookup
  (getItem_tuple (j := j) (Q := fun r s' => r = w /\ EP X Qa σ Q r s') pl ω ω (by rw [yad, <- hl]; exact h1) (by simpa using ew) ⟨rfl, fin⟩) hs
theorem zmA : IxR X rIxS := by
 intro value slice Qa s σ H x y v u Q I rx ry h hs;obtain ⟨z, i, c, rfl, rfl, hz, he, q⟩ := h;obtain ⟨t, rfl⟩ := rx;obtain ⟨t', rfl⟩ := ry;obtain ⟨j, h1, h2, h3, h4, h5⟩ := zfH he;have hl : z.cps.toList.length = z.length := by simp [Str.length]
 rw [hl] at h1 h4 h5;have hn := zeH;exact tail_any (typeIs_str s z t) slot_str_getitem.lookup (getItem_str (c := c) (by
  have e1 : decide (i < -(2 ^ 63 : Int)) = false := ya8 ω;have e2 : decide (i ≥ 2 ^ 63) = false := ya8 ω;rw [e1, e2, Bool.or_false]) (by rw [h1]; simpa using h2) ⟨.str ⟨#[c]⟩, H, I.tok _, ⟨_, rfl⟩, q⟩) hs
def rIx (K : W.Frag) : R2 := fun x y H Q => rIxL K x y H Q \/ rIxT K x y H Q \/ rIxS x y H Q
theorem ix_seq : IxR X (rIx X.K) := ix_list.or (ix_tup.or zmA)
def zoq : V -> V -> V -> Hp -> (Hp -> Prop) -> Prop := fun o i v H Q => ∃ p xs k j, o = .ref p /\ i = .int k /\ H p = some (.lst xs) /\ ixN xs.length k = some j /\ Q (upd H p (.lst (xs.set j v)))
theorem zeN (lo hi : Option Int) (n : Nat) : (sliceBounds lo hi none n).1 = ((HT.sIx n 0 lo : Nat) : Int) /\ (sliceBounds lo hi none n).2.1 = ((HT.sIx n n hi : Nat) : Int) /\ (sliceBounds lo hi none n).2.2 = 1 := by
 refine ⟨?_, ?_, rfl⟩
 ·cases lo with
  | none => simp [sliceBounds, HT.sIx]
  | some i =>
   simp only [sliceBounds, HT.sIx, Option.getD_none, show (1 : Int) > 0 by decide, if_true]
   by_cases h : i < 0
   ·simp only [h, if_true] <;> omega
   ·simp only [h, if_false] <;> omega
 ·cases hi with
  | none => simp [sliceBounds, HT.sIx]
  | some i =>
   simp only [sliceBounds, HT.sIx, Option.getD_none, show (1 : Int) > 0 by decide, if_true]
   by_cases h : i < 0
   ·simp only [h, if_true] <;> omega
   ·simp only [h, if_false] <;> omega
theorem zeh (its : List Value) (lo hi : Option Int) : slicePick its.toArray lo hi none = ((its.drop (HT.sIx its.length 0 lo)).take (HT.sIx its.length its.length hi - HT.sIx its.length 0 lo)).toArray := by
 obtain ⟨h1, h2, h3⟩ := zeN lo hi its.toArray.size;unfold slicePick;rw [h1, h2, h3];simp only [sliceRange_one, pick_run, List.size_toArray] <;> rfl
def rSlL (K : W.Frag) : V -> Option Int -> Option Int -> Hp -> VK -> Prop := fun x lo hi H Q => ∃ a xs, x = .ref a /\ SqL K H a xs /\ ∀ p, H p = none -> Q (.ref p) (upd H p (.lst (cutV xs lo hi)))
theorem zll : SlR X (rSlL X.K) := by
 intro Qa s σ H x v vl vu lo hi sl Q I rx hs pl pu h;obtain ⟨a, xs, rfl, hx, q⟩ := h;cases rx;obtain ⟨its, r, ht, hz⟩ := I.list hx;have Qe := r.length;refine ⟨"list", _, slot_list_getitem.lookup, ht.isList.typeIs, ?_⟩;refine wpAny_getItem_list_slice ht.isList hs pl pu .none ς ?_ (by rw [yad] <;> omega);rw [zeh, <- Qe];refine ⟨.ref s.heap.objs.size, _, I.laid (t' := s.toks) (o := .lst (cutV xs lo hi)) (fun b ob q => yac _ q) (yai _) ?_, rfl, q _ (I.hok.fresh (yai _))⟩;exact ⟨yat (zdh xs lo hi) hz, _, 0, (r.drop (HT.sIx xs.length 0 lo)).take (HT.sIx xs.length xs.length hi - HT.sIx xs.length 0 lo), yaj _ rfl⟩
def zbG : V -> Bool
 | .non => true
 | .bl _ => true
 | .int _ => true
 | .str _ => true
 | _ => false
def eqV : V -> V -> Bool
 | .non, .non => true
 | .bl a, .bl b => a == b
 | .bl a, .int b => (if a then 1 else 0) == b
 | .int a, .bl b => a == (if b then 1 else 0)
 | .int a, .int b => a == b
 | .str a, .str b => a == b
 | _, _ => false
theorem zmB {A : Around} {s : Shared} {y x : V} {u v : Value} (ry : RelV y u) (rx : RelV x v) (fy : zbG y = true) (fx : zbG x = true) : SeqAt.EqAt A s u v (eqV y x) := by
 cases y with
 | non =>
  cases ry;cases x with
  | non => cases rx; exact SeqAt.EqAt.same _
  | bl b => cases rx; exact SeqAt.EqAt.none_bool b
  | int b => obtain ⟨t, rfl⟩ := rx; exact SeqAt.EqAt.none_int b t
  | str b => obtain ⟨t, rfl⟩ := rx; exact SeqAt.EqAt.none_str b t
  | _ => exact absurd (show false = true from fx) yam
 | bl a =>
  cases ry;cases x with
  | non => cases rx; exact SeqAt.EqAt.bool_none a
  | bl b => cases rx; exact SeqAt.EqAt.bool_bool a b
  | int b => obtain ⟨t, rfl⟩ := rx; exact SeqAt.EqAt.bool_int a b t
  | str b => obtain ⟨t, rfl⟩ := rx; exact SeqAt.EqAt.bool_str a b t
  | _ => exact absurd (show false = true from fx) yam
 | int a =>
  obtain ⟨t', rfl⟩ := ry;cases x with
  | non => cases rx; exact SeqAt.EqAt.int_none a t'
  | bl b => cases rx; exact SeqAt.EqAt.int_bool a t' b
  | int b => obtain ⟨t, rfl⟩ := rx; exact SeqAt.EqAt.int_int a t' b t
  | str b => obtain ⟨t, rfl⟩ := rx; exact SeqAt.EqAt.int_str a t' b t
  | _ => exact absurd (show false = true from fx) yam
 | str a =>
  obtain ⟨t', rfl⟩ := ry;cases x with
  | non => cases rx; exact SeqAt.EqAt.str_none a t'
  | bl b => cases rx; exact SeqAt.EqAt.str_bool a t' b
  | int b => obtain ⟨t, rfl⟩ := rx; exact SeqAt.EqAt.str_int a t' b t
  | str b => obtain ⟨t, rfl⟩ := rx; exact SeqAt.EqAt.str_str a t' b t
  | _ => exact absurd (show false = true from fx) yam
 | _ => exact absurd (show false = true from fy) yam
def eqU (x : V) (u : Value) : Bool := match u with
 | .none => eqV .non x
 | .bool b => eqV (.bl b) x
 | .int i _ => eqV (.int i) x
 | .str z _ => eqV (.str z) x
 | _ => false
theorem zkA {x y : V} {u : Value} (r : RelV y u) (f : zbG y = true) : eqU x u = eqV y x := by
 cases y with
 | non => cases r; rfl
 | bl b => cases r; rfl
 | int i => obtain ⟨t, rfl⟩ := r; rfl
 | str z => obtain ⟨t, rfl⟩ := r; rfl
 | _ => exact absurd (show false = true from f) yam
theorem zdi {x : V} : ∀ {xs : List V} {us : List Value}, Vals xs us -> xs.all zbG = true -> us.any (eqU x) = xs.any fun y => eqV y x
 | _, _, .nil, _ => rfl
 | y :: xs, u :: us, .cons r t, f => by
  rw [List.all_cons, Bool.and_eq_true] at f;rw [List.any_cons, List.any_cons, zkA r f.1, zdi t f.2]
theorem zcw {A : Around} {s : Shared} {x : V} {v : Value} (rx : RelV x v) (fx : zbG x = true) : ∀ {xs : List V} {us : List Value}, Vals xs us -> xs.all zbG = true -> ∀ u ∈ us, SeqAt.EqAt A s u v (eqU x u)
 | _, _, .nil, _ => fun u hu => by cases hu
 | y :: xs, u :: us, .cons r t, f => fun u' hu => by
  rw [List.all_cons, Bool.and_eq_true] at f;rcases yau.mp hu with rfl | hu
  ·rw [zkA r f.1]; exact zmB r rx f.1 fx
  ·exact zcw rx fx t f.2 u' hu
def inV (x : V) (xs : List V) : Bool := xs.any fun y => eqV y x
def rIn (K : W.Frag) (neg : Bool) : R2 := fun x y H Q => ∃ p xs, y = .ref p /\ (SqL K H p xs \/ SqT K H p xs) /\ zbG x = true /\ xs.all zbG = true /\ Q (.bl (if neg then !inV x xs else inV x xs)) H
theorem zie : OpR X (compareOp .In) (rIn X.K false) := by
 intro Qa s σ H x y v u Q I rx ry h;obtain ⟨p, xs, rfl, hq, fx, fs, q⟩ := h;cases ry;rcases hq with hq | hq
 ·obtain ⟨its, r, pl, hz⟩ := I.list hq;refine SeqAt.in_listAt (eqU x) pl.isList (fun w hw => zcw rx fx r fs w (by simpa using hw)) ⟨.bl _, H, I, rfl, ?_⟩;rw [show its.toArray.any (eqU x) = its.any (eqU x) by simp, zdi r fs];exact q
 ·obtain ⟨its, r, pl, hz⟩ := I.tuple hq;refine SeqAt.in_tupleAt (eqU x) pl (fun w hw => zcw rx fx r fs w (by simpa using hw)) ⟨.bl _, H, I, rfl, ?_⟩;rw [show its.toArray.any (eqU x) = its.any (eqU x) by simp, zdi r fs];exact q
theorem zeO : OpR X (compareOp .NotIn) (rIn X.K true) := by
 intro Qa s σ H x y v u Q I rx ry h;obtain ⟨p, xs, rfl, hq, fx, fs, q⟩ := h;cases ry;rcases hq with hq | hq
 ·obtain ⟨its, r, pl, hz⟩ := I.list hq;refine SeqAt.notIn_listAt (eqU x) pl.isList (fun w hw => zcw rx fx r fs w (by simpa using hw)) ⟨.bl _, H, I, rfl, ?_⟩;rw [show its.toArray.any (eqU x) = its.any (eqU x) by simp, zdi r fs];exact q
 ·obtain ⟨its, r, pl, hz⟩ := I.tuple hq;refine SeqAt.notIn_tupleAt (eqU x) pl (fun w hw => zcw rx fx r fs w (by simpa using hw)) ⟨.bl _, H, I, rfl, ?_⟩;rw [show its.toArray.any (eqU x) = its.any (eqU x) by simp, zdi r fs];exact q
theorem zeP : OpR X (compareOp .NotIn) (fun x y H Q => ∃ i j, x = .str i /\ y = .str j /\ Q (.bl (!(!(Builtin.Str.occurrences j i 0 j.length 1).isEmpty))) H) := by
 intro Qa s σ H x y v u Q I rx ry h;obtain ⟨i, j, rfl, rfl, q⟩ := h;obtain ⟨t, rfl⟩ := rx;obtain ⟨t', rfl⟩ := ry;exact notIn_str ⟨.bl _, H, I, rfl, q⟩
theorem call_list_of : zaN X (.type "list") (fun xs H Q => ∃ p ys, xs = [.ref p] /\ (SqL X.K H p ys \/ SqT X.K H p ys) /\ ∀ l, H l = none -> Q (.ref l) (upd H l (.lst ys))) := by
 intro Qa s σ H xs us Q I r h;obtain ⟨p, ys, rfl, hq, q⟩ := h;obtain ⟨u, rfl, rx⟩ := zcn r;cases rx;have fin : ∀ (its : List Value), Vals ys its -> ys.length <= sizeLine -> ∀ (h' : Heap) (c' : Nat), (∀ b o', s.heap.get? b = some o' -> h'.get? b = some o') ->
   h'.get? s.heap.objs.size = some { cls := .type "list", dict := none, data := .seq its.toArray c', slots := #[] } -> EP X Qa σ Q (.ref s.heap.objs.size) { s with heap := h' } := fun its r' hz h' c' kp e =>
  ⟨.ref s.heap.objs.size, _, I.laid (t' := s.toks) kp (yai _) (show ObjOk X.prog X.w _ h' _ (.lst ys) from ⟨hz, its, c', r', e⟩), rfl, q _ (I.hok.fresh (yai _))⟩
 rcases hq with hq | hq
 ·obtain ⟨its, r', pl, hz⟩ := I.list hq;have Qe := r'.length;obtain ⟨o, ho, hc, n, hd⟩ := pl.isList;exact call_list_seq p (.inl rfl) ho hc hd (fun h' c' kp e => fin its r' hz h' c' kp e) (by simp only [List.size_toArray] <;> omega)
 ·obtain ⟨its, r', pl, hz⟩ := I.tuple hq;have Qe := r'.length;obtain ⟨o, ho, hc, n, hd⟩ := pl;exact call_list_seq p (.inr rfl) ho hc hd (fun h' c' kp e => fin its r' hz h' c' kp e) (by simp only [List.size_toArray] <;> omega)
theorem call_tuple_of : zaN X (.type "tuple") (fun xs H Q => ∃ p ys, xs = [.ref p] /\ ((SqL X.K H p ys /\ ∀ l, H l = none -> Q (.ref l) (upd H l (.tup ys))) \/ (SqT X.K H p ys /\ Q (.ref p) H))) := by
 intro Qa s σ H xs us Q I r h;obtain ⟨p, ys, rfl, h⟩ := h;obtain ⟨u, rfl, rx⟩ := zcn r;cases rx;rcases h with ⟨hq, q⟩ | ⟨hq, q⟩
 ·obtain ⟨its, r', pl, hz⟩ := I.list hq;have Qe := r'.length;refine call_tuple_list pl.isList (fun h' kp => ?_) (by simp only [List.size_toArray] <;> omega);have I1 : Inv X Qa σ H { s with heap := h' } := I.kept (t' := s.toks) kp;have I2 : Inv X Qa σ (upd H h'.objs.size (.tup ys)) { s with heap := h'.push { cls := .type "tuple", data := .seq its.toArray } } :=
   I1.laid (t' := s.toks) (fun b o e => yac _ e) (yai _) (show ObjOk X.prog X.w _ _ _ (.tup ys) from ⟨hz, its, r', IsTup.new _ _⟩)
  exact ⟨.ref h'.objs.size, _, I2, rfl, q _ (I1.hok.fresh (yai _))⟩
 ·obtain ⟨its, r', pl, hz⟩ := I.tuple hq;exact call_tuple_same pl ⟨.ref p, H, I, rfl, q⟩
def tyV (K : W.Frag) (T : String) (x : V) (H : Hp) : Prop := match x with
 | .str _ => T = "str"
 | .int _ => T = "int"
 | .ref p => (T = "list" /\ ∃ xs, SqL K H p xs) \/ (T = "tuple" /\ ∃ o, K.lookup p = some o /\ o.cls = .type "tuple" /\ o.dict = none) \/
   (T = "dict" /\ ((∃ kvs, H p = some (.dK kvs)) \/ ∃ kvs, H p = some (.dT kvs))) \/ (T = "set" /\ ∃ S n, H p = some (.set S n))
 | _ => False
theorem zmC {Qa : ZP} {σ : St} {H : Hp} {s : Shared} {T : String} {x : V} {v : Value} (I : Inv X Qa σ H s) (r : RelV x v) (ty : tyV X.K T x H) :
  s.TypeIs v T /\ ∀ a, v = .ref a -> ∃ ob, s.heap.get? a = some ob /\ ob.dict = none := by
 cases x with
 | str z =>
  obtain ⟨t, rfl⟩ := r;cases (show T = "str" from ty);exact ⟨typeIs_str s z t, fun _ e => nomatch e⟩
 | int i =>
  obtain ⟨t, rfl⟩ := r;cases (show T = "int" from ty);exact ⟨typeIs_int s i t, fun _ e => nomatch e⟩
 | ref p =>
  cases r;rcases ty with ⟨rfl, xs, hq⟩ | ⟨rfl, o, hk, hc, hd⟩ | ⟨rfl, hk⟩ | ⟨rfl, S, n, hk⟩
  ·obtain ⟨its, _, pl, _⟩ := I.list hq;refine ⟨pl.isList.typeIs, fun a e => ?_⟩;cases e;obtain ⟨o, n, e, c, hd, _⟩ := pl;exact ⟨o, e, hd⟩
  ·refine ⟨⟨o, I.kIn p o hk, hc⟩, fun a e => ?_⟩;cases e;exact ⟨o, I.kIn _ o hk, hd⟩
  ·have z : ∃ o, s.heap.get? p = some o /\ o.ExactDict := by
    rcases hk with ⟨kvs, hk⟩ | ⟨kvs, hk⟩
    ·obtain ⟨_, _, _, _, o, _, _, e, ex, _⟩ := I.hok p _ hk;exact ⟨o, e, ex⟩
    ·obtain ⟨_, _, _, _, o, _, _, e, ex, _⟩ := I.hok p _ hk;exact ⟨o, e, ex⟩
   obtain ⟨o, e, ex⟩ := z;refine ⟨⟨o, e, ex.1⟩, fun a e2 => ?_⟩;cases e2;exact ⟨o, e, ex.2.1⟩
  ·obtain ⟨o, _, _, _, e, ex, _⟩ := I.hok p _ hk;refine ⟨⟨o, e, ex.1⟩, fun a e2 => ?_⟩;cases e2;exact ⟨o, e, ex.2.1⟩
 | _ => exact False.elim ty
def tBM (K : W.Frag) (T : String) (r : V -> List V -> Hp -> VK -> Prop) (to : TE) (t : TA) : TE := fun σ H Q => to σ H fun x H1 => tyV K T x H1 /\ t σ H1 fun xs H2 => r x xs H2 Q
variable {o e : Expr} {es : List Expr} {to : TE} {t : TA} {name : Str} {apos cpos : Pos} {T id : String} {r : V -> List V -> Hp -> VK -> Prop}
theorem zor (pa : PlainAttrs T) (slot : Slot T name id) (hty : typeOf (.builtin id) = pure (.type "method_descriptor")) (hm : MtR X id r) (ho : PE X o to) (ha : PA X (e :: es) t)
  (hbase : attributeBase o name X.env (eval o X.env) = eval o X.env := by rfl)
  (hfew : ((backTo cpos (starEach (e :: es) X.env)).all (fun x => !x.1) && (backToKw cpos (keywordEach [] X.env)).all (fun x => x.1.isSome)
   && decide ((e :: es).length + ([] : List Keyword).length + (if ([] : List Keyword).isEmpty then 0 else 1) < 30)) = true := by rfl)
  (hline : (apos.endLine == cpos.line) = true := by rfl) (hs : starEach (e :: es) X.env = (false, eval e X.env) :: starEach es X.env := by rfl) (hplain : (backTo cpos (starEach es X.env)).any (·.1) = false := by rfl) :
  PE X (.Call (.Attribute o name apos) (e :: es) [] cpos) (tBM X.K T r to t) := by
 intro Qa s σ H Q I h;refine wpAny_Call_method_late hbase hfew hline rfl (thn (ho Qa s σ H _ I h) fun v s1 ⟨x, H1, I1, r1, ty, q1⟩ => ?_);obtain ⟨h1, h2⟩ := zmC I1 r1 ty;refine ⟨T, id, pa, slot, hty, h1, h2, ?_⟩;have hA := ha cpos Qa s1 σ H1 _ I1 q1;rw [hs] at hA ⊢;refine Calls.callWith_builtin (by show (false || (backTo cpos (starEach es X.env)).any (·.1)) = false; rw [hplain] <;> rfl) (Calls.evalArgs_plain ?_);exact thn hA fun us s2 ⟨vs, H2, I2, r2, q2⟩ => hm Qa s2 σ H2 x vs v us Q I2 r1 r2 q2
end
def MtM (X : Cx) (id : String) (r : V -> List V -> Hp -> VK -> Prop) : Prop :=
 ∀ (Qa : ZP) (s : Shared) (σ : St) (H : Hp) (x : V) (xs : List V) (v : Value) (us : List Value) (Q : VK), Inv X Qa σ H s -> RelV x v -> Vals xs us -> r x xs H Q ->
  wpAny (model X.prog X.w) X.A (call (.builtin id) (v :: us)) (EP X Qa σ Q) X.xe s
theorem Vals.one : ∀ {x : V} {us : List Value}, Vals [x] us -> ∃ u, us = [u] /\ RelV x u
 | _, _, .cons r .nil => ⟨_, rfl, r⟩
theorem Vals.rep {xs : List V} {us : List Value} (h : Vals xs us) : ∀ k : Nat, Vals (List.replicate k xs).flatten (List.replicate k us).flatten
 | 0 => .nil
 | k + 1 => by
  rw [List.replicate_succ, List.replicate_succ, List.flatten_cons, List.flatten_cons];exact Vals.append h (Vals.rep h k)
theorem zeQ (its : List Value) : ∀ (k : Nat) (acc : List Value),
  List.foldl (fun x1 x2 => x1 ++ x2) acc.toArray (List.replicate k its.toArray) = (acc ++ (List.replicate k its).flatten).toArray
 | 0, acc => by simp
 | k + 1, acc => by
  have e : acc.toArray ++ its.toArray = (acc ++ its).toArray := by simp
  have e2 : (acc ++ its) ++ (List.replicate k its).flatten = acc ++ (List.replicate (k + 1) its).flatten := by
   rw [List.replicate_succ, List.flatten_cons, List.append_assoc]
  rw [<- e2, <- zeQ its k (acc ++ its), <- e, List.replicate_succ, List.foldl_cons]
section
variable {X : Cx} {Qa : ZP} {σ : St} {H : Hp} {s : Shared} {l b : Addr} {xs ys zs : List V}
theorem Inv.lset {its its' : List Value} {n : Nat} {f : Array Value -> Array Value} {t' : Nat} (I : Inv X Qa σ H s) (hH : H l = some (.lst xs))
  (e : s.heap.get? l = some { cls := .type "list", data := .seq its.toArray n }) (hf : f its.toArray = its'.toArray) (hv : Vals ys its') (hz : ys.length <= sizeLine) :
  Inv X Qa σ (upd H l (.lst ys)) { s with heap := s.heap.update l (Obj.mapSeq f), toks := t' } := by
 have q := PySem.IsL.update e f;rw [hf] at q;refine I.write (x := l) (e := l) (by rw [hH]; exact trivial) (.inl rfl) (fun b' u hb hu => (Heap.get?_update_other s.heap (Obj.mapSeq f) (Ne.symm hb)).trans hu) ⟨_, q⟩ ?_;exact ⟨hz, its', _, hv, q⟩
theorem Inv.lnew {its : List Value} {t' : Nat} (I : Inv X Qa σ H s) (hv : Vals ys its) (hz : ys.length <= sizeLine) :
  Inv X Qa σ (upd H s.heap.objs.size (.lst ys)) { s with heap := s.heap.push { cls := .type "list", data := .seq its.toArray }, toks := t' } :=
 I.laid (fun _ _ q => yac _ q) (yai _) ⟨hz, its, 0, hv, yaj _ rfl⟩
theorem Inv.fresh (I : Inv X Qa σ H s) : H s.heap.objs.size = none := I.hok.fresh (yai _)
theorem Inv.lstM (I : Inv X Qa σ H s) (hH : H l = some (.lst xs)) : xs.length <= sizeLine /\ ∃ (its : List Value) (n : Nat), Vals xs its /\ xs.length = its.length /\ s.heap.get? l = some { cls := .type "list", data := .seq its.toArray n } := by
 obtain ⟨z, its, n, r, e⟩ := I.hok l _ hH;exact ⟨z, its, n, r, r.length, e⟩
theorem zei {n : Nat} (h : n <= sizeLine) : Builtin.List.listTooLong n = false := by
 unfold Builtin.List.listTooLong;exact ya8 ω
end
section
variable {X : Cx}
def zfI : V -> List V -> Hp -> VK -> Prop := fun x vs H Q => ∃ l xs y, x = .ref l /\ vs = [y] /\ H l = some (.lst xs) /\ xs.length < sizeLine /\ Q .non (upd H l (.lst (xs ++ [y])))
theorem zif : MtM X "list.append" zfI := by
 intro Qa s σ H x vs v us Q I rx rv h;obtain ⟨l, xs, y, rfl, rfl, hH, hz, q⟩ := h;cases rx;obtain ⟨u, rfl, ru⟩ := rv.one;obtain ⟨z, its, n, r, hl, e⟩ := I.lstM hH;refine call_meets F.slot_list_append ⟨_, e, rfl⟩ F.entry_list_append (F.args_list_append_2 _ _) (PySem.list_append l its.toArray n u (by rw [yad]; omega)) ⟨e, ?_⟩;refine ⟨.non, _, I.lset (its' := its ++ [u]) hH e ς (r.append (.cons ru .nil)) ?_, rfl, q⟩;rw [yae, yas];omega
def zfJ : V -> List V -> Hp -> VK -> Prop := fun x vs H Q => ∃ l b xs zs, x = .ref l /\ vs = [.ref b] /\ H l = some (.lst xs) /\ H b = some (.lst zs) /\ xs.length + zs.length <= sizeLine /\ Q .non (upd H l (.lst (xs ++ zs)))
theorem zig : MtM X "list.extend" zfJ := by
 intro Qa s σ H x vs v us Q I rx rv h;obtain ⟨l, b, xs, zs, rfl, rfl, hH, hB, hz, q⟩ := h;cases rx;obtain ⟨u, rfl, ru⟩ := rv.one;cases ru;obtain ⟨z, its, n, r, hl, e⟩ := I.lstM hH;obtain ⟨z2, its2, n2, r2, hl2, e2⟩ := I.lstM hB;have hsz : its.toArray.size + its2.toArray.size <= sizeLine := by rw [yad, yad]; omega
 have hlong : ¬ (!its.toArray.isEmpty && Builtin.List.listTooLong (its.toArray.size + its2.toArray.size)) = true := by
  rw [zei hsz, Bool.and_false];exact yam
 refine call_meets F.slot_list_extend ⟨_, e, rfl⟩ F.entry_list_extend (F.args_list_extend_2 _ _)
  (AutoSeq1.list_extend_list_list_0 l its.toArray n b its2.toArray n2 hlong (by rw [yad]; omega) ω) ⟨e, e2, ?_⟩
 refine ⟨.non, _, I.lset (its' := its ++ its2) hH e ς (r.append r2) ?_, rfl, q⟩;rw [yae];omega
def rCat : R2 := fun x y H Q => ∃ l b xs zs, x = .ref l /\ y = .ref b /\ H l = some (.lst xs) /\ H b = some (.lst zs) /\ xs.length + zs.length <= sizeLine /\ ∀ p, H p = none -> Q (.ref p) (upd H p (.lst (xs ++ zs)))
theorem zmD : OpR X (binaryOp .Add) rCat := by
 intro Qa s σ H x y v u Q I rx ry h;obtain ⟨l, b, xs, zs, rfl, rfl, hH, hB, hz, q⟩ := h;cases rx;cases ry;obtain ⟨z, its, n, r, hl, e⟩ := I.lstM hH;obtain ⟨z2, its2, n2, r2, hl2, e2⟩ := I.lstM hB;refine PySem.P.add_list e e2 ?_ (by rw [yad, yad]; omega);have ea : its.toArray ++ its2.toArray = (its ++ its2).toArray := by simp
 rw [ea];exact ⟨.ref _, _, I.lnew (t' := s.toks) (r.append r2) (by rw [yae]; omega), rfl, q _ I.fresh⟩
def rRep : R2 := fun x y H Q => ∃ l k xs, x = .ref l /\ y = .int k /\ H l = some (.lst xs) /\ -(2 ^ 63) <= k /\ k < 2 ^ 63 /\ xs.length * k.toNat <= sizeLine /\
 ∀ p, H p = none -> Q (.ref p) (upd H p (.lst (List.replicate k.toNat xs).flatten))
theorem zlm {α : Type} (xs : List α) (k : Nat) : (List.replicate k xs).flatten.length = k * xs.length := by
 induction k with
 | zero => simp
 | succ k ih => rw [List.replicate_succ, List.flatten_cons, yae, ih, Nat.succ_mul, Nat.add_comm]
theorem zmE : OpR X (binaryOp .Mult) rRep := by
 intro Qa s σ H x y v u Q I rx ry h;obtain ⟨l, k, xs, rfl, rfl, hH, h1, h2, hz, q⟩ := h;cases rx;obtain ⟨t, rfl⟩ := ry;obtain ⟨z, its, n, r, hl, e⟩ := I.lstM hH;have Qe : its.toArray.size * k.toNat <= sizeLine := by rw [yad, <- hl]; exact hz
 have hcap : ¬ its.toArray.size * k.toNat > (2 ^ 63 - 1) / 8 := by
  have : (sizeLine : Nat) <= (2 ^ 63 - 1) / 8 := by decide
  omega
 have hfit : ¬ (!Builtin.List.listFitsIndex k) = true := by
  rw [fitsIndex_both h1 h2];exact yam
 have hlong : ¬ Builtin.List.listTooLong (its.toArray.size * k.toNat) = true := by
  rw [zei Qe];exact yam
 have hnew : List.foldl (fun x1 x2 => x1 ++ x2) #[] (List.replicate (if its.toArray.isEmpty = true then 0 else k.toNat) its.toArray) = (List.replicate k.toNat its).flatten.toArray := by
  have f0 : ∀ m : Nat, List.foldl (fun x1 x2 => x1 ++ x2) #[] (List.replicate m its.toArray) = (List.replicate m its).flatten.toArray := fun m => by
   have := zeQ its m [];rw [List.nil_append] at this;exact this
  rw [f0];cases its with
  | nil => simp
  | cons a r' => rw [if_neg ς]
 refine wpAny_binaryOp_repeat_ref (T := "list") (U := "int") δ ⟨_, e, rfl⟩ (fun s' => typeIs_int s' k t) noFill_list_mul F.fills_int_mul F.slot_int_rmul repeat_list F.slot_int_index.lookup
  (call_meets F.slot_int_rmul (typeIs_int s k t) F.entry_int_rmul (F.args_int_rmul_2 _ _) (int___rmul___int_list k t l its.toArray n)
   ⟨e, rfl, ⟨_, e, rfl⟩, call_meets F.slot_list_mul ⟨_, e, rfl⟩ F.entry_list_mul (F.args_list_mul_2 _ _) (AutoListH.list___mul___list_int_3 l its.toArray n k t hfit hcap hlong) ⟨e, ?_⟩⟩)
 rw [hnew];exact ⟨.ref _, _, I.lnew (t' := s.toks) (r.rep k.toNat) (by rw [zlm, Nat.mul_comm]; exact hz), rfl, q _ I.fresh⟩
end
end L2
namespace Att
open PySem PySem.W PySem.Calls PyProof.Rows
theorem zdj {P : Params} {h : Heap} : ∀ (ns : List Int) (vs : List Value), WellAll P h vs (ns.map WData.int) -> IntsAre vs ns := by
 intro ns
 induction ns with
 | nil =>
  intro vs w;rw [List.map_nil] at w;cases w;exact .nil
 | cons n ns ih =>
  intro vs w;rw [List.map_cons] at w;cases w with
  | cons a b =>
   cases a;exact .cons _ _ (ih _ b)
theorem zih {l : OpenLaw} {n : Nat} (hn : l.most = some n) {P : Params} {h : Heap} {args : List WData} {vals : List Value}
  (hpre : l.row.toRowW.claim.pre args = true) (hwl : WellAll P h vals args) :
  ∃ a vs ns, vals = [Value.ref a] /\ args = [WData.list (ns.map WData.int)] /\ h.get? a = some { cls := .type "list", data := .seq vs.toArray } /\ IntsAre vs ns /\ ns.length <= n := by
 have hsh : WShape.hasAll [] args [.list .int] = true := (pre_splitW hpre).1;have hc : l.pre.holds [] { args := args } = true := (pre_splitW hpre).2;obtain ⟨d, r, rfl, h1, h2⟩ := hasAllW_cons hsh;obtain rfl := hasAllW_nil h2;obtain ⟨xs, rfl, h3⟩ := hasW_list h1;obtain ⟨ns, rfl⟩ := items_int h3;have Qe : ns.length <= n := by
  unfold OpenLaw.pre at hc;have h4 : (WTm.not (.lt (.lit (.int (n : Int))) (.len (.arg 0)))).holds [] { args := [.list (ns.map .int)] } = true := by
   have h4 := (holds_andW hc).1;rw [hn] at h4;exact h4
  have h5 := condW_of h4 (w_not (w_lt w_lit (w_len_list (w_arg rfl))));rw [yaf] at h5;refine Nat.le_of_not_lt fun q => ?_;have q' : (n : Int) < ((ns.length : Nat) : Int) := by omega
  first
   | (rw [ya9 q'] at h5; exact absurd h5 δ)
   | (simp at h5; omega)
 cases hwl with
 | cons w1 w2 =>
  cases w2;cases w1 with
  | list ho hall => exact ⟨_, _, ns, rfl, rfl, ho, zdj ns _ hall, Qe⟩
theorem zii (l : OpenLaw) (args : List WData) : l.row.toRowW.claim.post args (.bool true) args = true :=
 postW_of (r := l.row.toRowW) (X := (true == true))
  (show WShape.has [] (.bool true) .bool = true by first | rfl | decide | simp [WShape.has, WShape.arms, WShape.armsAll])
  (show (WTm.eq .res (.lit (.bool true))).value [] { args := args, res := some (.bool true), after := args } = some (.bool (true == true)) from w_eq_bool (w_res rfl) w_lit) rfl
theorem attach_call {l : OpenLaw} {n : Nat} {q : Program} {loose : List Str} {XP : (Str -> Option Value) -> Heap -> Prop} {YP : World -> Heap -> Prop} {d : DefRec}
  (hn : l.most = some n) (hdf : d.params.defaults = [])
  (call : ∀ (w : World) (s₀ s₁ : Shared) (mg mb : Str -> Option Value) (fa : Addr) (o : Obj) (pm cd doc : Value) (a : Addr) (vs : List Value) (ns : List Int),
   Ground q loose [] XP w s₀ mg mb s₁.heap -> YP w s₁.heap ->
   s₁.heap.get? fa = some o -> o.data = .func (docDef d.name d.params d.body d.scope pm cd doc) -> s₁.heap.CodeRec cd d.name -> mg d.name = some (.ref fa) ->
   s₁.heap.get? a = some { cls := .type "list", data := .seq vs.toArray } -> IntsAre vs ns -> ns.length <= n -> s₁.gens = #[] ->
   codeAny (model l.prog w) callerA (.call (.ref fa) ⟨[.ref a], []⟩) (fun r s' => r = .ok (.ret (.bool true)) /\ OldK s₁.heap s'.heap /\ s'.os = s₁.os /\ AllBare s'.gens) s₁) :
  WalkO q loose XP YP l.row.toRowW d [] (fun f vs => PySem.call f vs) := by
 intro w s₀ s₁ mg mb G Y fa o pm cd doc dV kV ho hd hcd hD hmg hg args vals as hpre hlay hrd hwl hlo;obtain rfl : dV = .none := Dflts.none hD hdf;obtain rfl : kV = .none := Dflts.noKw hD;obtain ⟨a, vs, ns, rfl, rfl, hobj, hints, Qe⟩ := zih hn hpre hwl;refine enter_call (codeAny_mono (call w s₀ s₁ mg mb fa o pm cd doc a vs ns G Y ho (fd_plain hd) hcd hmg hobj hints Qe hg) fun r s' hq => ?_);obtain ⟨rfl, h2, h3, h4⟩ := hq;exact ⟨.inl ⟨.bool true, .bool true, [], rfl, fun _ => rfl, .bool true, zii l _, fun _ => ⟨List.Pairwise.nil, fun _ hm => (nomatch hm)⟩⟩, h2, h3, h4⟩
end Att
namespace L2
open PySem PySem.Spec PyProof.Rows
theorem zeR : ∀ {vs : List Value} {ns : List Int}, IntsAre vs ns -> Vals (ns.map V.int) vs
 | _, _, .nil => .nil
 | _, _, .cons n t h => .cons ⟨t, rfl⟩ (zeR h)
def Only (H : Hp) : Prop := ∀ b, H b = none \/ ∃ o xs, H b = some (.frz o (.lst xs))
theorem zjI {P : Program} {w : World} {K : W.Frag} {mg mb : Str -> Option Value} {CX : CXT} {k : Nat} {fa a : Addr} {fd : FuncData} {x : Str} {sp : Sp} {s₁ : Shared} {vs : List Value} {ns : List Int}
  (KX : K.In s₁.heap) (hns : s₁.heap.Ns mainGlobals mg) (hb : s₁.heap.Ns builtinsNs mb) (hbb : ∀ x : Str, x ≠ "__name__" -> mb x = bootBuiltins x) (hlim : s₁.heap.NoLimit) (hg : s₁.gens = #[])
  (ha : s₁.heap.get? a = some { cls := .type "list", data := .seq vs.toArray }) (hi : IntsAre vs ns) (hl : ns.length <= sizeLine) (hr : Room k callerA)
  (F : ∀ base : Heap, K.In base -> base.Ns mainGlobals mg -> FnOk P w K mg base CX k fa fd [x] sp) (hbind : ∀ (s : Shared) (u : Value), BindsTo s fd ⟨[u], []⟩ [(x, u)])
  (hsp : ∀ H : Hp, Only H -> SqL K H a (ns.map V.int) -> sp [.ref a] H (fun v _ => v = .bl true) fun _ _ _ => False)
  (hCX : ∀ H e s', CX [] H s₁ (fun _ _ _ => False) e s' -> False) :
  codeAny (model P w) callerA (.call (.ref fa) ⟨[.ref a], []⟩) (fun r s' => r = .ok (.ret (.bool true)) /\ OldK s₁.heap s'.heap /\ s'.os = s₁.os /\ AllBare s'.gens) s₁ := by
 have rv := zeR hi;have lenV := hi.length;have core : ∀ H : Hp, Only H -> SqL K H a (ns.map V.int) -> HOk P w H s₁.heap -> (∀ b, H b ≠ none -> b = a) -> (H a ≠ none -> K.lookup a = none) ->
   codeAny (model P w) callerA (.call (.ref fa) ⟨[.ref a], []⟩) (fun r s' => r = .ok (.ret (.bool true)) /\ OldK s₁.heap s'.heap /\ s'.os = s₁.os /\ AllBare s'.gens) s₁ := by
  intro H hO hS hok hA hK;have base_of : ∀ {b : Addr} {o : Obj}, s₁.heap.get? b = some o -> H b = none -> (hidT s₁.heap H).get? b = some o := fun e n => zjB e n;have noA : ∀ {b : Addr} {o : Obj} {es : Array DictEntry} {ep : Nat}, s₁.heap.get? b = some o -> o.data = .dict es ep -> H b = none := fun {b o es ep} e d => by
   cases q : H b with
   | none => rfl
   | some u =>
    have e' : b = a := hA b (by rw [q]; simp);subst e';rw [ha] at e; cases e;have d' : Data.seq vs.toArray _ = Data.dict es ep := d;cases d'
  have nsK : ∀ {b : Addr} {m : Str -> Option Value}, s₁.heap.Ns b m -> (hidT s₁.heap H).Ns b m := fun {b m} ⟨o, es, ep, e, d, r⟩ => ⟨o, es, ep, base_of e (noA e d), d, r⟩
  have hKb : K.In (hidT s₁.heap H) := fun b o e => base_of (KX b o e) (by
   cases q : H b with
   | none => rfl
   | some u =>
    have e' : b = a := hA b (by rw [q]; simp);subst e';rw [hK (by rw [q]; simp)] at e; cases e)
  have hM : Mod K mg (hidT s₁.heap H) := ⟨hKb, nsK hns, ⟨mb, nsK hb, hbb⟩, let ⟨mc, h1, h2⟩ := hlim; ⟨mc, nsK h1, h2⟩⟩
  have e0 : Env0 P w K mg (hidT s₁.heap H) callerA [] s₁ H := ⟨rfl, hM, fun b o e => zkZ e, Nat.le_of_eq (zhL _ _), trivial, fun b hb => absurd (show b ∈ ([] : List Addr) from hb) ς, hok, .of_eq hg⟩
  refine codeAny_mono ((F _ hKb (nsK hns)).run callerA [] s₁ H ⟨[.ref a], []⟩ [.ref a] [.ref a] _ _ hr e0 (hbind s₁ (.ref a)) (.cons rfl .nil) (hsp H hO hS)) fun r s' h => ?_;cases r with
  | error e => exact (hCX H e s' h).elim
  | ok fl =>
   cases fl with
   | next => exact False.elim h
   | brk => exact False.elim h
   | cont => exact False.elim h
   | ret u =>
    obtain ⟨v, H', os, bare, un, hok', r', q⟩ := h;have q' : v = .bl true := q;subst q';obtain rfl : u = Value.bool true := r';refine ⟨rfl, OldK.of_keep fun b o e => ?_, os, bare⟩;cases q : H b with
    | none => exact un.keep b o e q (by intro z; exact absurd (show b ∈ ([] : List Addr) from z) ς) ς
    | some u =>
     rcases hO b with z | ⟨ob, xs, z⟩
     ·rw [q] at z; cases z
     ·have z2 := un.frzs b ob _ z;obtain ⟨e1, _⟩ := hok b _ z;obtain ⟨e2, _⟩ := hok' b _ z2;rw [e] at e1; cases e1;exact e2
 cases hk : K.lookup a with
 | some o =>
  have e := KX a o hk;rw [ha] at e;cases e;refine core (fun _ => none) (fun _ => .inl rfl) (.inr ⟨_, vs.toArray, _, hk, rfl, rfl, rfl, by rw [yad, lenV]; exact hl, by simpa using rv⟩) (fun b u z => by have z' : (none : Option HO) = some u := z; cases z') (fun b z => absurd rfl z) fun z => absurd rfl z
 | none =>
  refine core (fun b => if b = a then some (.frz { cls := .type "list", data := .seq vs.toArray } (.lst (ns.map V.int))) else none) (fun b => ?_) (.inl (.inr ⟨{ cls := .type "list", data := .seq vs.toArray }, if_pos rfl⟩)) (fun b u z => ?_) (fun b z => ?_) fun _ => hk
  ·by_cases hb : b = a
   ·exact .inr ⟨_, _, if_pos hb⟩
   ·exact .inl (if_neg hb)
  ·by_cases hb : b = a
   ·have z' := (if_pos hb).symm.trans z;cases z';subst hb;exact ⟨ha, by rw [yaf]; exact hl, vs, _, rv, ha⟩
   ·have z' := (if_neg hb).symm.trans z;cases z'
  ·by_cases hb : b = a
   ·exact hb
   ·exact absurd (if_neg hb) z
theorem walk_of {l : W.OpenLaw} {n k : Nat} {q : Program} {loose : List Str} {XP : (Str -> Option Value) -> Heap -> Prop} {YP : World -> Heap -> Prop} {d : DefRec} {K : Params -> W.Frag} {CX : World -> CXT} {sp : World -> Sp} {x : Str}
  (hn : l.most = some n) (hn2 : n <= sizeLine) (hdf : d.params.defaults = []) (hr : Room k callerA)
  (hY : ∀ (w : World) (h : Heap), YP w h -> (K w.params).In h)
  (F : ∀ (w : World) (mg : Str -> Option Value) (fa : Addr) (h : Heap), (K w.params).In h -> h.Ns mainGlobals mg -> mg d.name = some (.ref fa) ->
   ∃ fd : FuncData, (∀ (s : Shared) (u : Value), BindsTo s fd ⟨[u], []⟩ [(x, u)]) /\
    ∀ base : Heap, (K w.params).In base -> base.Ns mainGlobals mg -> FnOk l.prog w (K w.params) mg base (CX w) k fa fd [x] (sp w))
  (hsp : ∀ (w : World) (H : Hp) (a : Addr) (ns : List Int), ns.length <= n -> Only H -> SqL (K w.params) H a (ns.map V.int) -> sp w [.ref a] H (fun v _ => v = .bl true) fun _ _ _ => False)
  (hCX : ∀ (w : World) (H : Hp) (s : Shared) (e : Value) (s' : Shared), CX w [] H s (fun _ _ _ => False) e s' -> False) :
  W.WalkO q loose XP YP l.row.toRowW d [] (fun f vs => PySem.call f vs) := by
 refine Att.attach_call hn hdf fun w s₀ s₁ mg mb fa o pm cd doc a vs ns G Y ho hd hcd hmg hobj hints Qe hg => ?_;have KX := hY w _ Y;obtain ⟨fd, hb, hF⟩ := F w mg fa _ KX G.T.g hmg;exact zjI KX G.T.g G.T.b G.T.builtins G.T.nolimit hg hobj hints (yat Qe hn2) hr hF hb (fun H hO hS => hsp w H a ns Qe hO hS) fun H e s' => hCX w H s₁ e s'
def zaj (s : Stmt) : Arguments := match s with
 | .FunctionDef _ a _ _ _ _ _ _ _ _ => a
 | _ => { posonlyargs := [], args := [], vararg := none, kwonlyargs := [], kw_defaults := [], kwarg := none, defaults := [] }
def zai (s : Stmt) : List Stmt := match s with
 | .FunctionDef _ _ b _ _ _ _ _ _ _ => b
 | _ => []
def zad (s : Stmt) : Scope := match s with
 | .FunctionDef _ _ _ _ _ _ sc _ _ _ => sc
 | _ => { kind := .function, names := [], isGenerator := false, isCoroutine := false }
abbrev CX0 : CXT := fun _ _ _ _ _ _ => False
abbrev E0 : XK := fun _ _ _ => False
theorem zaA {X : Cx} : zic CX0 X E0 := fun _ _ _ _ _ _ _ h => h.elim
structure Fun (K : W.Frag) (x qual : Str) (st : Stmt) (f : Addr) (fd : FuncData) : Prop where
 ex : ∃ (oc : Value) (od : Option Addr) (kV doc pm : Value) (an : Option Addr) (cdv ct : Value) (osl : Array (Option Value)),
  fd = W.fnOf x qual (zaj st) (zai st) (zad st) .none kV doc pm an cdv ct /\ K.lookup f = some ⟨oc, od, .func fd, osl⟩ /\ W.codeIn K cdv qual = true
 kp : W.keepIn K (.ref f) = true
section
variable {P : Program} {w : World} {K : W.Frag} {mg : Str -> Option Value} {base : Heap}
theorem Fun.ok {x qual : Str} {st : Stmt} {f : Addr} {fd : FuncData} {N ps : List Str} {k : Nat} {sp : Sp} (F : Fun K x qual st f fd) (S : zas N ps (zad st)) (len : ∀ vs H Q E, sp vs H Q E -> vs.length = ps.length)
  (hbody : ∀ (cdv : Value) (A : Around) (outer : List Env) (s : Shared) (H : Hp) (vs : List V) (Q : VK) (E : XK), Room k (A.deeper (envOfC qual (zad st) s.heap.objs.size f cdv)) -> sp vs H Q E ->
   ∃ t, PSs (cxOf CX0 P w K mg base N qual (zad st) f cdv A outer s H E).nox (zai st) t /\ t { nx := fun _ H' => Q .non H', rt := Q } (start N vs) H) : FnOk P w K mg base CX0 (k + 1) f fd ps sp := by
 obtain ⟨oc, od, kV, doc, pm, an, cdv, ct, osl, rfl, lk, hcd⟩ := F.ex;refine zop lk hcd S len fun A outer s H vs Q E hr hsp => ?_;obtain ⟨t, h, q⟩ := hbody cdv A outer s H vs Q E hr hsp;exact ⟨t, h.nox, q⟩
theorem Fun.binds {x qual : Str} {st : Stmt} {f : Addr} {fd : FuncData} {ps : List Str} (F : Fun K x qual st f fd)
  (h : ∀ (kV doc pm : Value) (an : Option Addr) (cdv ct : Value) (us : List Value), us.length = ps.length -> bindArgs (W.fnOf x qual (zaj st) (zai st) (zad st) .none kV doc pm an cdv ct) ⟨us, []⟩ = pure (ps.zip us)) : Binds K fd ps [] := by
 obtain ⟨oc, od, kV, doc, pm, an, cdv, ct, osl, rfl, lk, hcd⟩ := F.ex;exact .all (h kV doc pm an cdv ct)
theorem zaC {x qual : Str} {st : Stmt} {f : Addr} {oc : Value} {od an : Option Addr} {osl : Array (Option Value)} {kV doc pm cdv ct : Value} (l : K.lookup f = some ⟨oc, od, .func (W.fnOf x qual (zaj st) (zai st) (zad st) .none kV doc pm an cdv ct), osl⟩)
  (c : W.codeIn K cdv qual = true) (k : W.keepIn K (.ref f) = true) : Fun K x qual st f (W.fnOf x qual (zaj st) (zai st) (zad st) .none kV doc pm an cdv ct) := ⟨⟨oc, od, kV, doc, pm, an, cdv, ct, osl, rfl, l, c⟩, k⟩
end
section
variable {X : Cx}
theorem pv (i : Nat) {x : Str} {pos : Pos} (hN : X.N[i]? = some x := by rfl) (hv : Vis X.env.scope x := by first | exact Or.inl rfl | exact Or.inr (Or.inl rfl) | exact Or.inr (Or.inr rfl)) (hd : (x == ("__debug__" : Str)) = false := by decide)
  (hcd : (x == ("__classdict__" : Str)) = false := by decide) : PE X (.Name x pos) (tVar i) := zmx hN hv hd hcd
end
theorem iteF {A B : Prop} (h : B) : if false = true then A else B := by
 rw [if_neg yam];exact h
theorem iteT {A B : Prop} (h : A) : if true = true then A else B := by
 rw [if_pos rfl];exact h
theorem ite2 {c A B : Prop} [Decidable c] (h1 : c -> A) (h2 : ¬ c -> B) : if c then A else B := by
 by_cases h : c
 ·rw [if_pos h];exact h1 h
 ·rw [if_neg h];exact h2 h
def Same (H H' : Hp) : Prop := ∀ b o, H b = some o -> H' b = some o
theorem Same.refl (H : Hp) : Same H H := fun _ _ h => h
theorem Same.trans {H H1 H2 : Hp} (a : Same H H1) (b : Same H1 H2) : Same H H2 := fun c o h => b c o (a c o h)
theorem Same.seq {K : W.Frag} {H H' : Hp} {a : Addr} {xs : List V} (e : Same H H') (h : SqL K H a xs) : SqL K H' a xs := by
 rcases h with (h | ⟨o, h⟩) | h
 ·exact .inl (.inl (e _ _ h))
 ·exact .inl (.inr ⟨o, e _ _ h⟩)
 ·exact .inr h
theorem zij {v : Value} {o : Option Int} (p : IsPart v o) : ∃ q : Option (Int × Tok), v = partValue q /\ q.map (·.1) = o := by
 cases p with
 | none => exact ⟨none, rfl, rfl⟩
 | int i t => exact ⟨some (i, t), rfl, rfl⟩
def rSlS : V -> Option Int -> Option Int -> Hp -> VK -> Prop := fun x lo hi H Q => ∃ z, x = .str z /\ z.length <= sizeLine /\ Q (.str (Txt.slice z lo hi)) H
theorem zmF {X : Cx} : SlR X rSlS := by
 intro Qa s σ H x v vl vu lo hi sl Q I rx hs pl pu h;obtain ⟨z, rfl, hz, q⟩ := h;obtain ⟨t, rfl⟩ := rx;obtain ⟨ql, rfl, rfl⟩ := zij pl;obtain ⟨qu, rfl, rfl⟩ := zij pu;refine ⟨"str", _, F.slot_str_getitem.lookup, typeIs_str _ _ _, ?_⟩;refine wpAny_getItem_str_slice (l := ql) (u := qu) (st := none) hs rfl ?_;exact post_val_or_str ⟨yat (Txt.slice_le z _ _) hz, fun t' k => ⟨.str _, H, I.tok _, ⟨t', rfl⟩, q⟩⟩
def Its (x : Str) : It := ⟨fun i _ => i < x.cps.size, fun i H v H' => H' = H /\ ∃ c, x.cps[i]? = some c /\ v = .str ⟨#[c]⟩, fun i _ => x.cps.size <= i⟩
theorem zg1 {P : Program} {w : World} {K : W.Frag} {tg : Expr} (x : Str) (t : Tok) (it : Addr) (ty : String) (hty : ty = "str_ascii_iterator" \/ ty = "str_iterator") :
  Turn P w K tg (Its x) [it] it (fun i h => h.IsStrIter it ty x t i) where
 mem := by simp
 obj := fun i h st b hb => by
  have e : b = it := by simpa using hb
  subst e;obtain ⟨o, e, c, d⟩ := st;exact ⟨o, e, fun v z => by rw [d] at z; cases z⟩
 keep := fun i h h' st k => by
  obtain ⟨o, e, r⟩ := st;exact ⟨o, k it ς o e, r⟩
 item := by
  intro X hP hw hK hc i Qa s σ H E I hf st hg;subst hP hw hK;obtain ⟨f0, f1, f2, f3, f4, f5⟩ := hf it ς;have hg' : i < x.cps.size := hg;have hx : x.cps[i]? = some x.cps[i] := by simp [hg']
  rcases hty with rfl | rfl
  ·refine wpAny_pyNext_ascii_item st hx fun h' st' sb => ?_;have I1 : Inv X Qa σ H { s with heap := h', toks := s.toks + 1 } := I.turned (fun b o hb e => (sb.2 b hb).trans e) f0 f1 f3 f4 f5;obtain ⟨o, e, c, d⟩ := id st';exact ⟨_, rfl, zhO (s := { s with heap := h', toks := s.toks + 1 }) e c d δ ⟨.str ⟨#[x.cps[i]]⟩, H, I1, ⟨_, rfl⟩, ⟨rfl, _, hx, rfl⟩, st', fun b hb => (hf b hb).1⟩⟩
  ·refine wpAny_pyNext_wide_item st hx fun h' st' sb => ?_;have I1 : Inv X Qa σ H { s with heap := h', toks := s.toks + 1 } := I.turned (fun b o hb e => (sb.2 b hb).trans e) f0 f1 f3 f4 f5;obtain ⟨o, e, c, d⟩ := id st';exact ⟨_, rfl, zhO (s := { s with heap := h', toks := s.toks + 1 }) e c d δ ⟨.str ⟨#[x.cps[i]]⟩, H, I1, ⟨_, rfl⟩, ⟨rfl, _, hx, rfl⟩, st', fun b hb => (hf b hb).1⟩⟩
 done := by
  intro X hP hw hK hc i Qa s σ H E I hf st hg;subst hP hw hK;obtain ⟨f0, f1, f2, f3, f4, f5⟩ := hf it ς;have hx : x.cps[i]? = none := by
   have : x.cps.size <= i := hg;simp [this]
  rcases hty with rfl | rfl
  ·exact wpAny_pyNext_ascii_end (I.ok.hd hc) st hx fun h' eb => ⟨rfl, I.turned (t' := s.toks) (fun b o hb e => eb b o hb e) f0 f1 f3 f4 f5⟩
  ·exact wpAny_pyNext_wide_end (I.ok.hd hc) st hx fun h' eb => ⟨rfl, I.turned (t' := s.toks) (fun b o hb e => eb b o hb e) f0 f1 f3 f4 f5⟩
 self := fun _ _ _ _ _ st h => by
  rcases hty with rfl | rfl
  ·exact wpAny_pyIter_striter_ascii st h
  ·exact wpAny_pyIter_striter_wide st h
theorem zik {X : Cx} {tg : Expr} {Qa : ZP} {σ : St} {H1 : Hp} {s1 : Shared} {R : It -> Hp -> Prop} {z : Str} {v : Value} {E : ZQ} (I1 : Inv X Qa σ H1 s1) (r1 : RelV (.str z) v) (q : R (Its z) H1) :
  wpAny (model X.prog X.w) X.A (pyIter v) (PIE X Qa σ tg R) E s1 := by
 obtain ⟨t, rfl⟩ := r1;have fp : ∀ (b : Addr), b ∈ [s1.heap.objs.size] -> FpOk X Qa H1 b := fun b hb => by
  have e : b = s1.heap.objs.size := by simpa using hb
  subst e;exact I1.fpOk (yai _) (I1.hok.fresh (yai _))
 cases ha : z.cps.all (· < 128)
 ·refine wpAny_pyIter_wide ha ?_;exact ⟨s1.heap.objs.size, [s1.heap.objs.size], _, _, H1, rfl, I1.kept (t' := s1.toks) fun b o e => yac _ e, zg1 z t _ "str_iterator" (.inr rfl), ⟨_, yaj _ rfl, rfl, rfl⟩, fp, q⟩
 ·refine wpAny_pyIter_ascii ha ?_;exact ⟨s1.heap.objs.size, [s1.heap.objs.size], _, _, H1, rfl, I1.kept (t' := s1.toks) fun b o e => yac _ e, zg1 z t _ "str_ascii_iterator" (.inl rfl), ⟨_, yaj _ rfl, rfl, rfl⟩, fp, q⟩
def clos (cells : List (Str × Addr)) : List (Str × NameKind) -> List (Str × Addr) -> List (Str × Addr)
 | [], acc => acc
 | (n, k) :: r, acc => if k == .free then clos cells r ((n, (cells.lookup n).getD 0) :: acc) else clos cells r acc
theorem zdk {scope : Scope} {env : Env} (h : ∀ y ∈ scope.names, y.2 = .free -> ∃ c, env.cells.lookup y.1 = some c) : closureFor scope env = pure (clos env.cells scope.names []) := by
 have go : ∀ (names : List (Str × NameKind)) (acc : List (Str × Addr)), (∀ y ∈ names, y.2 = .free -> ∃ c, env.cells.lookup y.1 = some c) ->
   (forIn names acc fun (x : Str × NameKind) (r : List (Str × Addr)) => (if x.2 == NameKind.free then do let a <- cellOf env x.1; pure (ForInStep.yield ((x.1, a) :: r)) else pure (ForInStep.yield r) : Sem (ForInStep (List (Str × Addr))))) = pure (clos env.cells names acc) := by
  intro names
  induction names with
  | nil => intro acc _; rfl
  | cons x r ih =>
   intro acc hx;obtain ⟨n, k⟩ := x;rw [List.forIn_cons];have hr : ∀ y ∈ r, y.2 = .free -> ∃ c, env.cells.lookup y.1 = some c := fun y hy => hx y (List.mem_cons_of_mem _ hy)
   by_cases hk : k = .free
   ·subst hk;obtain ⟨c, hc⟩ := hx (n, .free) List.mem_cons_self rfl;have hc' : env.cells.lookup n = some c := hc;have e : cellOf env n = pure c := by unfold cellOf; rw [hc']
    simp only [beq_self_eq_true, if_true, e, pure_bind];rw [ih _ hr];simp only [clos, beq_self_eq_true, if_true, hc', Option.getD_some]
   ·have hb : (k == NameKind.free) = false := by simpa using hk
    simp only [hb, Bool.false_eq_true, if_false, pure_bind];rw [ih _ hr];simp only [clos, hb, Bool.false_eq_true, if_false]
 have := go scope.names [] h;unfold closureFor
 first
  | (rw [this]; rfl)
  | (simp only [this, pure_bind]; rfl)
  | simpa using this
theorem zbL {cells : List (Str × Addr)} : ∀ (names : List (Str × NameKind)) (acc : List (Str × Addr)) (y : Str) (c : Addr),
  (∀ z ∈ names, z.2 = .free -> ∃ c, cells.lookup z.1 = some c) -> (∀ d, acc.lookup y = some d -> cells.lookup y = some d) -> (clos cells names acc).lookup y = some c -> cells.lookup y = some c
 | [], acc, y, c, _, ha, h => ha c h
 | (n, k) :: r, acc, y, c, hx, ha, h => by
  have hr : ∀ z ∈ r, z.2 = .free -> ∃ c, cells.lookup z.1 = some c := fun z hz => hx z (List.mem_cons_of_mem _ hz)
  by_cases hk : k = .free
  ·subst hk;simp only [clos, beq_self_eq_true, if_true] at h;refine zbL r _ y c hr (fun d hd => ?_) h
   by_cases hy : y = n
   ·subst hy;obtain ⟨e, he⟩ := hx (y, .free) List.mem_cons_self rfl;have he' : cells.lookup y = some e := he;simp only [List.lookup_cons, beq_self_eq_true, he', Option.getD_some] at hd;rw [he', hd]
   ·have hb : (y == n) = false := by simpa using hy
    simp only [List.lookup_cons, hb] at hd;exact ha d hd
  ·have hb : (k == NameKind.free) = false := by simpa using hk
   simp only [clos, hb, Bool.false_eq_true, if_false] at h;exact zbL r acc y c hr ha h
theorem zdl {cells : List (Str × Addr)} : ∀ (names : List (Str × NameKind)) (acc : List (Str × Addr)) (y : Str), (∃ c, acc.lookup y = some c) -> ∃ c, (clos cells names acc).lookup y = some c
 | [], _, _, h => h
 | (n, k) :: r, acc, y, h => by
  by_cases hk : k = .free
  ·subst hk;simp only [clos, beq_self_eq_true, if_true];refine zdl r _ y ?_
   by_cases hy : y = n
   ·subst hy; exact ⟨(cells.lookup y).getD 0, by simp only [List.lookup_cons, beq_self_eq_true]⟩
   ·have hb : (y == n) = false := by simpa using hy
    simp only [List.lookup_cons, hb]; exact h
  ·have hb : (k == NameKind.free) = false := by simpa using hk
   simp only [clos, hb, Bool.false_eq_true, if_false];exact zdl r acc y h
theorem zej {cells : List (Str × Addr)} : ∀ (names : List (Str × NameKind)) (acc : List (Str × Addr)) (y : Str), (y, NameKind.free) ∈ names -> ∃ c, (clos cells names acc).lookup y = some c
 | [], _, _, h => by simp at h
 | (n, k) :: r, acc, y, h => by
  rcases yau.mp h with e | h
  ·injection e with e1 e2
   subst e1 e2;simp only [clos, beq_self_eq_true, if_true];exact zdl r _ y ⟨(cells.lookup y).getD 0, by simp only [List.lookup_cons, beq_self_eq_true]⟩
  ·by_cases hk : k = .free
   ·rw [hk];simp only [clos, beq_self_eq_true, if_true];exact zej r _ y h
   ·have hb : (k == NameKind.free) = false := by simpa using hk
    simp only [clos, hb, Bool.false_eq_true, if_false];exact zej r _ y h
theorem relabel_kind {env : Env} : ∀ {names : List (Str × NameKind)} {x : Str} {k : NameKind}, (names.map fun (n, k) => if (k == NameKind.free && env.scope.kind == .function && env.kindOf n == some .cell) then (n, NameKind.cell) else (n, k)).lookup x = some k ->
  names.lookup x = some k \/ (k = .cell /\ names.lookup x = some .free)
 | [], _, _, h => by simp at h
 | (n, j) :: r, x, k, h => by
  have ih := @relabel_kind env r x k;have h' : List.lookup x ((if (j == NameKind.free && env.scope.kind == .function && env.kindOf n == some .cell) = true then (n, NameKind.cell) else (n, j)) ::
   (r.map fun (n, k) => if (k == NameKind.free && env.scope.kind == .function && env.kindOf n == some .cell) then (n, NameKind.cell) else (n, k))) = some k := h
  cases hx : x == n with
  | true =>
   by_cases hc : (j == NameKind.free && env.scope.kind == .function && env.kindOf n == some .cell) = true
   ·rw [if_pos hc] at h';simp only [List.lookup_cons, hx] at h' ⊢;have hj : j = .free := by
     have : (j == NameKind.free) = true := by
      cases q : (j == NameKind.free) with
      | true => rfl
      | false => rw [q] at hc; simp at hc
     simpa using this
    subst hj;exact .inr ⟨(Option.some.inj h').symm, rfl⟩
   ·rw [if_neg hc] at h';simp only [List.lookup_cons, hx] at h' ⊢;exact .inl h'
  | false =>
   have h2 : List.lookup x (r.map fun (n, k) => if (k == NameKind.free && env.scope.kind == .function && env.kindOf n == some .cell) then (n, NameKind.cell) else (n, k)) = some k := by
    by_cases hc : (j == NameKind.free && env.scope.kind == .function && env.kindOf n == some .cell) = true
    ·rw [if_pos hc] at h'; simpa only [List.lookup_cons, hx] using h'
    ·rw [if_neg hc] at h'; simpa only [List.lookup_cons, hx] using h'
   rcases ih h2 with q | ⟨q1, q2⟩
   ·exact .inl (by simpa only [List.lookup_cons, hx] using q)
   ·exact .inr ⟨q1, by simpa only [List.lookup_cons, hx] using q2⟩
abbrev cxC (X : Cx) (NC : List Str) (scope : Scope) (C : Addr) (s : Shared) (H : Hp) (ex : List Addr) : Cx :=
 { X with N := NC, s₀ := s, H₀ := H, env := compEnvC scope (clos X.env.cells scope.names []) C X.env, outer := X.stack, stack := X.stack, ex := ex, fn := fun _ => false, pn := [], xe := fun _ _ => False }
def za4 (nt : Nat) (is : List Nat) (σ : St) : St := List.replicate nt none ++ is.map fun i => (σ[i]?).join
theorem zdS (nt : Nat) (is : List Nat) (σ : St) : (za4 nt is σ).length = nt + is.length := by simp [za4]
def PIf (X : Cx) (ifs : List Expr) (t : TT) : Prop :=
 ∀ (Qa : ZP) (s : Shared) (σ : St) (H : Hp) (Q : Bool -> Hp -> Prop), Inv X Qa σ H s -> t σ H Q ->
  wpAny (model X.prog X.w) X.A (forIn ifs true fun c r => if r = true then do let ok <- isTrue c X.env (eval c X.env); pure (ForInStep.yield ok) else pure (ForInStep.yield r)) (TP X Qa σ Q) X.xe s
def zmG : TT := fun _ H Q => Q true H
theorem zbH {X : Cx} : PIf X [] zmG := fun _ _ _ H _ I h => wpAny_tests_nil ⟨H, I, h⟩
theorem zco {X : Cx} {c : Expr} {t : TT} (h : PT X c t) : PIf X [c] t := fun Qa s σ H Q I hw => wpAny_tests_one (h Qa s σ H Q I hw)
section
variable {prog : Program} {w : World} {A : Around} {R : Result -> Shared -> Prop} {s : Shared}
theorem zeS {elt target iter : Expr} {ifs : List Expr} {scope : Scope} {pos : Pos} {it acc : Value} {env : Env} (I : Nat -> Shared -> Prop)
  (turn : ∀ n s, I n s -> wpAny (model prog w) A (pyNext it) (fun r s₁ => match r with
   | none => R (.ok .next) s₁
   | some v => wpAny (model prog w) A (letOwnedTupleGo target it v) (fun _ s₁' => wpAny (model prog w) A (assign target env v) (fun _ s₂ =>
     wpAny (model prog w) A (forIn ifs true fun c r => if r = true then do let ok <- isTrue c env (eval c env); pure (ForInStep.yield ok) else pure (ForInStep.yield r)) (fun ok s₃ =>
      if ok = true then wpAny (model prog w) A (eval elt env) (fun x s₄ =>
       wpAny (model prog w) A (call (.builtin "list.append") [acc, x]) (fun _ s₅ => ∃ m, m < n /\ I m s₅) (fun _ _ => False) s₄) (fun _ _ => False) s₃
      else ∃ m, m < n /\ I m s₃) (fun _ _ => False) s₂) (fun _ _ => False) s₁') (fun _ _ => False) s₁) (fun _ _ => False) s)
  (n : Nat) (h : I n s) :
  codeAny (model prog w) A (.compLoop (.ListComp elt [⟨target, iter, ifs, 0⟩] scope pos) 0 it acc env) R s := by
 refine codeAny_loop rfl I (fun n s hI => ?_) n h;show wpAny _ A ((compTurn (.ListComp elt [⟨target, iter, ifs, 0⟩] scope pos) 0 it acc env).onRaise (fun x => do noteFrame x env; theTreesLotGoes x)) _ _ s;refine wpAny_noted ?_;rw [compTurn_list];refine yaa (wpAny_standAt (yaa (wpAny_mono (turn n s hI) (fun r s₁ h₁ => ?_) fun _ _ h' => h'.elim)));cases r with
 | none => exact yab h₁
 | some v =>
  refine yaa (wpAny_mono h₁ (fun _ s₁' h₁' => ?_) fun _ _ h' => h'.elim);refine yaa (wpAny_mono h₁' (fun _ s₂ h₂ => yaa (wpAny_mono h₂ (fun ok s₃ h₃ => ?_) fun _ _ h' => h'.elim)) fun _ _ h' => h'.elim);cases ok with
  | false => exact yab ⟨rfl, h₃⟩
  | true =>
   exact yaa (yaa (wpAny_mono h₃ (fun x s₄ h₄ => yaa (wpAny_mono h₄ (fun _ s₅ h₅ => yab (yab ⟨rfl, h₅⟩)) fun _ _ h' => h'.elim)) fun _ _ h' => h'.elim))
end
def zjJ (wi : TI) (nt : Nat) (is : List Nat) (g : TG) (tt : TT) (te : TE) : TE := fun σ H Q => wi σ H fun J H1 => ∃ W : Nat -> Nat -> List V -> Hp -> Prop, (∃ m, W 0 m [] H1) /\ ∀ i m acc H, W i m acc H ->
 (J.stop i H /\ ∀ p, H p = none -> Q (.ref p) (upd H p (.lst acc))) \/
 (J.go i H /\ acc.length < sizeLine /\ ∃ N : List V -> Hp -> Prop, (∀ acc' H', N acc' H' -> ∃ m', m' < m /\ W (i + 1) m' acc' H') /\ ∀ x H', J.yld i H x H' -> g x (za4 nt is σ) H' fun σ2 H2 => tt σ2 H2 fun b H3 =>
  if b = true then te σ2 H3 fun y H4 => N (acc ++ [y]) H4 else N acc H3)
structure CompSc (X : Cx) (NC : List Str) (nt : Nat) (is : List Nat) (csc : Scope) : Prop where
 kind : csc.kind = .function
 nocell : (csc.names.all fun y => y.2 != .cell) = true
 locs : (csc.names.all fun y => y.2 != .local || csc.names.lookup y.1 == some .local) = true
 frees : (csc.names.all fun y => y.2 != .free || (X.env.kindOf y.1 == some .cell || X.env.kindOf y.1 == some .free)) = true
 len : NC.length = nt + is.length
 slots : (NC.drop nt).map some = is.map fun i => X.N[i]?
 isfree : ((NC.drop nt).all fun y => csc.names.lookup y == some .free) = true
section
variable {X : Cx} {Qa : ZP} {σ : St} {H : Hp} {s : Shared} {NC : List Str} {nt : Nat} {is : List Nat} {csc : Scope}
theorem CompSc.free_kind (S : CompSc X NC nt is csc) {y : Str} (h : (y, NameKind.free) ∈ csc.names) : X.env.kindOf y = some .cell \/ X.env.kindOf y = some .free := by
 have q := List.all_eq_true.mp S.frees _ h;simpa using q
theorem CompSc.no_cell (S : CompSc X NC nt is csc) {y : Str} (h : (y, NameKind.cell) ∈ csc.names) : False := by
 have q := List.all_eq_true.mp S.nocell _ h;simp at q
theorem CompSc.has_cells (S : CompSc X NC nt is csc) (I : Inv X Qa σ H s) : ∀ y ∈ csc.names, y.2 = .free -> ∃ c, X.env.cells.lookup y.1 = some c := fun y hy e => by
 obtain ⟨n, k⟩ := y;have e' : k = .free := e;subst e';exact I.ok.has n (S.free_kind hy)
theorem zmH {fp : List Addr} (ho : ∀ b ∈ fp, ∃ o, s.heap.get? b = some o) : ∀ b ∈ fp, b < s.heap.objs.size := fun b hb => let ⟨_, e⟩ := ho b hb; yan e
theorem zil (S : CompSc X NC nt is csc) (I : Inv X Qa σ H s) {fp : List Addr} (hf : ∀ b ∈ fp, FpOk X Qa H b) (ho : ∀ b ∈ fp, ∃ o, s.heap.get? b = some o) {h' : Heap} {C : Addr} {m : Str -> Option Value} {t' : Nat}
  (hC : s.heap.objs.size <= C) (k : ∀ b o, s.heap.get? b = some o -> h'.get? b = some o) (hn : h'.Ns C m) : Inv (cxC X NC csc C s H fp) [] (za4 nt is σ) H { s with heap := h', toks := t' } := by
 have hcells := S.has_cells I;have hlook : ∀ y c, (clos X.env.cells csc.names []).lookup y = some c -> X.env.cells.lookup y = some c := fun y c h => zbL csc.names [] y c hcells (by intro d hd; simp at hd) h;have hlt := zmH ho;have hfree : ∀ y, csc.names.lookup y = some .free -> ∃ c, (clos X.env.cells csc.names []).lookup y = some c := fun y h => zej csc.names [] y (PySem.mem_of_lookup h);refine ⟨⟨I.ok.mod, S.kind, I.ok.glob, I.ok.blt, hC, fun x y c h1 h2 => I.ok.inj x y c (hlook x c h1) (hlook y c h2), fun x hx => ?_, fun x c h _ => (yam h).elim, I.ok.hd, I.ok.frames, .inl rfl,
  fun b hb => ⟨Nat.ne_of_lt (Nat.lt_of_lt_of_le (hlt b hb) hC), fun x c h => (hf b hb).2.2.2.2.1 x c (hlook x c h)⟩, I.bs, yat I.ok.bsz I.sz, fun b o e hb => ?_, fun b hb hs => ?_, I.stack, I.stkFree⟩,
  rfl, I.bare, Un.kept k, ⟨m, hn, fun i x v e1 e2 e3 => ?_⟩, fun x c h => ?_, I.hok.fresh hC, fun x c h => I.freeC x c (hlook x c h), fun p hp => absurd (show p ∈ ([] : ZP) from hp) ς, I.hok.kept k, ?_⟩
 ·have hx' : (relabel csc X.env).names.lookup x = some .cell \/ (relabel csc X.env).names.lookup x = some .free := hx;rcases hx' with h | h
  ·rcases relabel_kind h with q | ⟨_, q⟩
   ·exact (S.no_cell (PySem.mem_of_lookup q)).elim
   ·exact hfree x q
  ·rcases relabel_kind h with q | ⟨q, _⟩
   ·exact hfree x q
   ·cases q
 ·rcases (hf b hb).2.2.2.1 with z | z
  ·exact I.ok.noex b o e z
  ·exact absurd (Nat.lt_of_lt_of_le (yan e) (yat I.ok.bsz z)) (Nat.lt_irrefl _)
 ·rcases yau.mp (I.stkSub b hs) with e | e
  ·exact (hf b hb).2.1 e
  ·exact (hf b hb).2.2.1 e
 ·have hi : nt <= i := by
   by_cases hi : nt <= i
   ·exact hi
   ·have : (za4 nt is σ)[i]? = some none := by
     unfold za4;rw [ya5 (by simpa using hi), List.getElem?_replicate, if_pos ω]
    rw [this] at e2; cases e2
  obtain ⟨j, rfl⟩ : ∃ j, i = nt + j := ⟨i - nt,ω⟩
  have e2' : (is.map fun i => (σ[i]?).join)[j]? = some (some v) := by
   unfold za4 at e2;rw [List.getElem?_append_right ς] at e2;simpa using e2
  rw [yav] at e2';cases ej : is[j]? with
  | none => rw [ej] at e2'; cases e2'
  | some i' =>
   rw [ej] at e2';have e3' : (σ[i']?).join = some v := Option.some.inj e2';have e4 : σ[i']? = some (some v) := by
    cases q : σ[i']? with
    | none => rw [q] at e3'; cases e3'
    | some o => rw [q] at e3'; exact congrArg some e3'
   have e5 : X.N[i']? = some x := by
    have q := congrArg (fun l => l[j]?) S.slots;simp only [List.getElem?_map, ej, Option.map_some] at q;have q2 : (NC.drop nt)[j]? = some x := by rw [List.getElem?_drop]; exact e1
    rw [q2] at q;simpa using q.symm
   have hxfree : csc.names.lookup x = some .free := by
    have q2 : (NC.drop nt)[j]? = some x := by rw [List.getElem?_drop]; exact e1
    have q := List.all_eq_true.mp S.isfree x (ya1 q2);simpa using q
   have hk := S.free_kind (PySem.mem_of_lookup hxfree);obtain ⟨m0, _, hl⟩ := I.loc;obtain ⟨u, r, l⟩ := hl i' x v e5 e4 (hk.elim (fun z => .inr (.inl z)) fun z => .inr (.inr z));refine ⟨u, r, ?_⟩;rcases l with ⟨z, _⟩ | ⟨_, c, hc, hcell⟩
   ·rw [z] at hk; rcases hk with q | q <;> cases q
   ·obtain ⟨c', hc'⟩ := hfree x hxfree;have e6 := hlook x c' hc';rw [hc] at e6; cases e6;refine .inr ⟨?_, c, hc', ?_⟩
    ·have e3'' : (relabel csc X.env).names.lookup x = some .local \/ (relabel csc X.env).names.lookup x = some .cell \/ (relabel csc X.env).names.lookup x = some .free := e3;rcases e3'' with z | z | z
     ·rcases relabel_kind z with q | ⟨q, _⟩
      ·rw [hxfree] at q; cases q
      ·cases q
     ·exact .inl z
     ·exact .inr z
    ·obtain ⟨o, ho, hd⟩ := hcell;exact ⟨o, k c o ho, hd⟩
 ·obtain ⟨v, o, ho, hd⟩ := I.cell x c (hlook x c h);exact ⟨v, o, k c o ho, hd⟩
 ·rw [zdS]; exact S.len.symm
theorem zhj (I : Inv X Qa σ H s) {fp : List Addr} (hf : ∀ b ∈ fp, FpOk X Qa H b) {σ' : St} {H' : Hp} {s' : Shared} {C D : Addr} {pins' : ZP} {acc : List V} {its : List Value} {n : Nat}
  (J : Inv (cxC X NC csc C s H fp) pins' σ' H' s') (hC : s.heap.objs.size <= C) (hD : s.heap.objs.size <= D) (hDo : s'.heap.get? D = some { cls := .type "list", data := .seq its.toArray n }) (hDn : H' D = none) (hv : Vals acc its)
  (hz : acc.length <= sizeLine) : Inv X Qa σ (upd H' D (.lst acc)) s' := by
 have hne : ∀ b o, s.heap.get? b = some o -> b ≠ D := fun b o e z => absurd (Nat.lt_of_lt_of_le (yan e) (z ▸ hD)) (Nat.lt_irrefl _);have hu : Un (frs X.stack) fp H H' s.heap s'.heap := J.base;refine I.call' (ch := fp) J.os ⟨hu.keep, hu.slot, fun b o e n hx => by rw [zaE (hne b o e)]; exact hu.free b o e n hx, hu.there, fun b xs e => ?_, fun b o u e => ?_, fun b ps e => ?_⟩ (fun b u q => ?_) J.bare fun b hb => ?_
 ·have q := hu.tups b xs e;rw [zaE (zaD q hDn)]; exact q
 ·have q := hu.frzs b o u e;rw [zaE (zaD q hDn)]; exact q
 ·obtain ⟨more, q⟩ := hu.tbls b ps e;exact ⟨more, by rw [zaE (zaD q hDn)]; exact q⟩
 ·by_cases hb : b = D
  ·subst hb;rw [zac] at q; cases q;exact ⟨hz, its, n, hv, hDo⟩
  ·rw [zaE hb] at q;exact (J.hok b u q).stay (fun _ _ _ e => e) (fun c r => by rw [zaE (zaD r hDn)]; exact r) fun c xs r => by rw [zaE (zaD r hDn)]; exact r
 ·obtain ⟨_, f1, f2, f3, f4, f5⟩ := hf b hb;exact ⟨f3, f1, f4, f5⟩
theorem zg2 {elt tg iter : Expr} {ifs : List Expr} {pos : Pos} {wi : TI} {g : TG} {tt : TT} {te : TE} {Q : VK} {use : Option (Value -> Sem Unit)} {QQ : ZQ} {epos : Pos}
  (S : CompSc X NC nt is csc) (hc : X.calm = true) (hi : PI X tg iter wi)
  (hg : ∀ C s H ex, PG (cxC X NC csc C s H ex) tg g) (ht : ∀ C s H ex, PIf (cxC X NC csc C s H ex) ifs tt) (he : ∀ C s H ex, PE (cxC X NC csc C s H ex) elt te)
  (hgk : ∀ x (σ : St) H Q, g x σ H Q -> g x σ H fun σ2 H2 => σ2.drop nt = σ.drop nt /\ Q σ2 H2)
  (I : Inv X Qa σ H s) (h : zjJ wi nt is g tt te σ H Q)
  (fin : ∀ (s' : Shared) (C D : Addr) (H' : Hp) (m : Str -> Option Value), Inv X Qa σ H' s' -> Q (.ref D) H' -> s'.heap.Ns C m -> H' C = none -> C ≠ X.env.locals -> X.s₀.heap.objs.size <= C -> (∀ x c, X.env.cells.lookup x = some c -> c ≠ C) -> (∀ p ∈ X.pn ++ Qa, p.1 ≠ C) ->
   compPost (model X.prog X.w) X.A X.xe use QQ (.ref D) C (.ok .next) s')
  (hs : ∀ x, foldedSetIterable iter X.env x = pure x) :
  wpAny (model X.prog X.w) X.A (comprehension (.ListComp elt [⟨tg, iter, ifs, 0⟩] csc pos) csc X.env epos (newList []) false (eval iter X.env) use) QQ X.xe s := by
 have hcells := S.has_cells I;have hnames : ∀ x ∈ csc.names, x.2 = .local -> csc.names.lookup x.1 = some .local := fun x hx hl => by
  have q := List.all_eq_true.mp S.locs x hx;simpa [hl] using q
 have hcell : ∀ y ∈ csc.names, y.2 ≠ .cell := fun y hy e => by
  obtain ⟨n, k⟩ := y;have e' : k = .cell := e;subst e';exact S.no_cell hy
 refine wpAny_comprehension_free (g := ⟨tg, iter, ifs, 0⟩) (gs := []) (cl := clos X.env.cells csc.names []) rfl hs (zdk hcells) S.kind hnames ?_;refine thn (hi Qa s σ H _ I h) fun v s1 h1 => thn h1 fun itv s2 h2 => ?_;obtain ⟨it, fp, tn, J, H2, rfl, I2, T, st2, f2, W, ⟨m0, w0⟩, turn⟩ := h2;have fo : ∀ b ∈ fp, ∃ o, s2.heap.get? b = some o := fun b hb => let ⟨o, e, _⟩ := T.obj 0 _ st2 b hb; ⟨o, e⟩;have flt := zmH fo;refine wpAny_newObj_type (wpAny_newFunctionEnv hcell (by intro y hy; simp at hy) (fun h₁ hns₁ hsb₁ => ?_) S.kind);dsimp only at hns₁ hsb₁ ⊢;generalize hH2 : s2.heap.push { cls := .type "list", dict := none, data := .seq ([] : List Value).toArray } = P2 at hns₁ hsb₁ ⊢;have hCs : P2.objs.size = s2.heap.objs.size + 1 := by rw [<- hH2, Heap.size_push]
 generalize hCC : P2.objs.size = C at hns₁ hsb₁ hCs ⊢;generalize hDD : s2.heap.objs.size = D at hCs ⊢;have hD : s2.heap.objs.size <= D := Nat.le_of_eq hDD;have hC : s2.heap.objs.size <= C := by omega
 have hDC : D ≠ C := by omega
 have old : ∀ b o, s2.heap.get? b = some o -> h₁.get? b = some o := fun b o e => hsb₁.extBut b o (Nat.ne_of_lt (Nat.lt_of_lt_of_le (yan e) hC)) (yac _ (hH2 ▸ yac _ e));have accO : h₁.get? D = some { cls := .type "list", data := .seq ([] : List Value).toArray 0 } := by
  refine hsb₁.extBut _ _ hDC (yac _ ?_);rw [<- hH2, <- hDD];exact yaj _ rfl
 have Istart : Inv (cxC X NC csc C s2 H2 fp) [] (za4 nt is σ) H2 { s2 with heap := h₁, toks := s2.toks + ([] : List (Str × Value)).length } := zil S I2 f2 fo hC old hns₁;have HD0 : H2 D = none := I2.hok.fresh hD;have HC0 : H2 C = none := I2.hok.fresh hC;have fpY : ∀ {H' : Hp} {pl : ZP}, (∀ b ∈ fp, H' b = none) -> (∀ p ∈ pl, p.1 ∉ fp) -> ∀ b ∈ fp, FpOk (cxC X NC csc C s2 H2 fp) pl H' b := fun {H' pl} hn hp b hb => by
  obtain ⟨_, g1, g2, g3, g4, g5⟩ := f2 b hb;refine ⟨hn b hb, Nat.ne_of_lt (Nat.lt_of_lt_of_le (flt b hb) hC), fun z => ?_, .inl hb, fun x c e => g4 x c (zbL csc.names [] x c hcells (by intro d hd; simp at hd) e), fun p hpp z => ?_⟩
  ·rcases yau.mp (I2.stkSub b z) with e | e
   ·exact g1 e
   ·exact g2 e
  ·exact hp p (by simpa using hpp) (z ▸ hb)
 have dne : D ∉ fp := fun hb => absurd (flt D hb) (Nat.not_lt.mpr hD);have cellD : ∀ {σ' : St} {H' : Hp} {s' : Shared} {pl : ZP} {its : List Value} {n : Nat}, Inv (cxC X NC csc C s2 H2 fp) pl σ' H' s' -> s'.heap.get? D = some { cls := .type "list", data := .seq its.toArray n } ->
   ∀ x c, (cxC X NC csc C s2 H2 fp).env.cells.lookup x = some c -> c ≠ D := fun {σ' H' s' pl its n} K e x c hx z => by
  obtain ⟨v, o, ho, hd⟩ := K.cell x c hx;rw [z, e] at ho; cases ho; cases hd
 have loop : ∀ s₃ : Shared, s₃ = { s2 with heap := h₁, toks := s2.toks + ([] : List (Str × Value)).length } ->
   codeAny (model X.prog X.w) X.A (.compLoop (.ListComp elt [⟨tg, iter, ifs, 0⟩] csc pos) 0 (.ref it) (.ref D) (compEnvC csc (clos X.env.cells csc.names []) C X.env)) (compPost (model X.prog X.w) X.A X.xe use QQ (.ref D) C) s₃ := by
  rintro s₃ rfl
  refine zeS (fun n s' => ∃ i H' acc its k, Inv (cxC X NC csc C s2 H2 fp) [] (za4 nt is σ) H' s' /\ tn i s'.heap /\ (∀ b ∈ fp, H' b = none) /\ s'.heap.get? D = some { cls := .type "list", data := .seq its.toArray k } /\ H' D = none /\
   Vals acc its /\ acc.length <= sizeLine /\ W i n acc H') ?_ m0 ⟨0, H2, [], [], 0, Istart, T.keep _ _ _ st2 (fun b hb o e => old b o e), fun b hb => (f2 b hb).1, accO, HD0, .nil, yaq _, w0⟩
  rintro n s3 ⟨i, H3, acc, its, k, I3, st3, fr3, o3, n3, v3, z3, w3⟩
  have pinD : Inv (cxC X NC csc C s2 H2 fp) [(D, { cls := .type "list", data := .seq its.toArray k })] (za4 nt is σ) H3 s3 := I3.pins_of fun p hp => by
   have e : p = (D, { cls := .type "list", data := .seq its.toArray k }) := by simpa using hp
   subst e;refine ⟨o3, n3, hDC, fun z => ?_, fun v z => by cases z⟩;rcases yau.mp (I2.stkSub D z) with e | e
   ·exact absurd I2.lt (Nat.not_lt.mpr (by rw [<- e]; exact hD))
   ·exact I2.nofs hD e
  have fpD : ∀ p ∈ [((D, { cls := .type "list", data := .seq its.toArray k }) : Addr × Obj)], p.1 ∉ fp := fun p hp => by
   have e : p = (D, { cls := .type "list", data := .seq its.toArray k }) := by simpa using hp
   subst e; exact dne
  rcases turn i n acc H3 w3 with ⟨stop, qn⟩ | ⟨go, Qe, N, hN, step⟩
  ·refine thn (T.done (cxC X NC csc C s2 H2 fp) rfl rfl rfl hc i _ s3 _ H3 (fun _ _ => False) pinD (fpY fr3 fpD) st3 stop) fun r s4 ⟨hr, I4⟩ => ?_;subst hr;obtain ⟨e4, n4, _⟩ := I4.pin (D, { cls := .type "list", data := .seq its.toArray k }) (List.mem_append_right _ (yah.mpr rfl));have J := zhj (NC := NC) (csc := csc) I2 f2 I4 hC hD e4 n4 v3 z3;obtain ⟨m4, hm4, _⟩ := I4.loc;have nC : H3 C = none := I4.free;refine fin s4 C D _ m4 J (qn D n4) hm4 (by rw [zaE (Ne.symm hDC)]; exact nC) (fun z => absurd I2.lt (Nat.not_lt.mpr (by rw [<- z]; exact hC))) (yat I2.sz hC) (fun x c e z => ?_) fun p hp z => ?_
   ·obtain ⟨v, o, ho, _⟩ := I2.cell x c e;exact absurd (yan ho) (Nat.not_lt.mpr (by rw [z]; exact hC))
   ·exact absurd (yan (I2.pin p hp).1) (Nat.not_lt.mpr (by rw [z]; exact hC))
  ·refine thn (T.item (cxC X NC csc C s2 H2 fp) rfl rfl rfl hc i _ s3 _ H3 (fun _ _ => False) pinD (fpY fr3 fpD) st3 go) fun r s4 ⟨u, hr, h4⟩ => ?_;subst hr;refine thn h4 fun _ s5 ⟨x, H5, I5, r5, y5, st5, fr5⟩ => ?_;have I5' := I5.pinned (fpY fr5 fpD) (T.obj _ _ st5);refine thn (hg C s2 H2 fp _ s5 _ H5 x u _ I5' r5 (hgk _ _ _ _ (step x H5 y5))) fun _ s6 ⟨σ6, H6, I6, d6, q6⟩ => ?_;refine thn (ht C s2 H2 fp _ s6 σ6 H6 _ I6 q6) fun ok s7 ⟨H7, I7, q7⟩ => ?_;have tnk : ∀ {σ' : St} {H' : Hp} {s' : Shared}, Inv (cxC X NC csc C s2 H2 fp) ([(D, { cls := .type "list", data := .seq its.toArray k })] ++ zeF fp s5.heap) σ' H' s' ->
     tn (i + 1) s'.heap /\ (∀ b ∈ fp, H' b = none) /\ s'.heap.get? D = some { cls := .type "list", data := .seq its.toArray k } /\ H' D = none := fun {σ' H' s'} K => by
    refine ⟨T.keep _ _ _ st5 fun b hb o e => (K.pin (b, o) (List.mem_append_right _ (List.mem_append_right _ (zcg hb e)))).1, fun b hb => ?_, ?_, ?_⟩
    ·obtain ⟨o, e, d⟩ := T.obj _ _ st5 b hb;exact (K.pin (b, o) (List.mem_append_right _ (List.mem_append_right _ (zcg hb e)))).2.1
    ·exact (K.pin (D, { cls := .type "list", data := .seq its.toArray k }) (List.mem_append_right _ (List.mem_append_left _ (yah.mpr rfl)))).1
    ·exact (K.pin (D, { cls := .type "list", data := .seq its.toArray k }) (List.mem_append_right _ (List.mem_append_left _ (yah.mpr rfl)))).2.1
   have reset : ∀ {σ' : St} {H' : Hp} {s' : Shared} {pl : ZP}, σ'.drop nt = (za4 nt is σ).drop nt -> Inv (cxC X NC csc C s2 H2 fp) pl σ' H' s' -> Inv (cxC X NC csc C s2 H2 fp) [] (za4 nt is σ) H' s' := fun {σ' H' s' pl} hd K => by
    have K0 : Inv (cxC X NC csc C s2 H2 fp) [] σ' H' s' := K.pins_of fun p hp => absurd hp ς;refine K0.weak ?_ fun j v hj => ?_
    ·rw [zdS, K.len]; exact S.len.symm
    ·by_cases hjn : j < nt
     ·exfalso
      unfold za4 at hj;rw [ya5 (by simpa using hjn), List.getElem?_replicate, if_pos hjn] at hj;cases hj
     ·have q := congrArg (fun l => l[j - nt]?) hd;simp only [List.getElem?_drop] at q;rw [show nt + (j - nt) = j by omega] at q;rw [q]; exact hj
   cases ok with
   | false =>
    obtain ⟨m', lt, w7⟩ : ∃ m', m' < n /\ W (i + 1) m' acc H7 := hN _ _ q7;obtain ⟨t7, f7, e7, n7⟩ := tnk I7;exact ⟨m', lt, i + 1, H7, acc, its, k, reset d6 I7, t7, f7, e7, n7, v3, z3, w7⟩
   | true =>
    have q7' : te σ6 H7 fun y H4 => N (acc ++ [y]) H4 := q7;refine thn (he C s2 H2 fp _ s7 σ6 H7 _ I7 q7') fun u8 s8 ⟨y, H8, I8, r8, qN⟩ => ?_;obtain ⟨m', lt, w8⟩ := hN _ _ qN;obtain ⟨t8, f8, e8, n8⟩ := tnk I8;have I8r := reset d6 I8;have hl := v3.length;refine call_meets F.slot_list_append ⟨_, e8, rfl⟩ F.entry_list_append (F.args_list_append_2 _ _) (PySem.list_append D its.toArray k u8 (by rw [yad]; omega)) ⟨e8, ?_⟩;have q := PySem.IsL.update e8 (fun a => a.push u8);have hq : (its.toArray.push u8) = (its ++ [u8]).toArray := by simp
    rw [hq] at q;have kk : ∀ b o, b ≠ D -> s8.heap.get? b = some o -> (s8.heap.update D (Obj.mapSeq fun a => a.push u8)).get? b = some o := fun b o hb e => (Heap.get?_update_other s8.heap _ (Ne.symm hb)).trans e;refine ⟨m', lt, i + 1, H8, acc ++ [y], its ++ [u8], _, I8r.turned (t' := s8.toks) kk n8 hDC (.inr hD) (cellD I8r e8) (fun p hp => absurd (show p ∈ ([] : ZP) from hp) ς), T.keep _ _ _ t8 (fun b hb o e => kk b o (fun z => dne (z ▸ hb)) e), f8, q, n8, v3.append (.cons r8 .nil), ?_, w8⟩;rw [yae, yas];omega
 exact codeAny_compStart_list (loop _ rfl) (T.self X.A 0 _ _ _ (T.keep _ _ _ st2 (fun b hb o e => old b o e)) (loop _ rfl))
theorem za1 {i nt : Nat} (hi : i < nt) : ∀ x (σ : St) (H : Hp) Q, zdG i x σ H Q -> zdG i x σ H fun σ2 H2 => σ2.drop nt = σ.drop nt /\ Q σ2 H2 := fun x σ H Q h => ⟨List.drop_set_of_lt hi, h⟩
theorem zbg {elt tg iter : Expr} {ifs : List Expr} {pos : Pos} {wi : TI} {g : TG} {tt : TT} {te : TE} (nt : Nat) (is : List Nat) (NC : List Str)
  (S : CompSc X NC nt is csc) (hc : X.calm = true) (hi : PI X tg iter wi)
  (hg : ∀ C s H ex, PG (cxC X NC csc C s H ex) tg g) (hgk : ∀ x (σ : St) H Q, g x σ H Q -> g x σ H fun σ2 H2 => σ2.drop nt = σ.drop nt /\ Q σ2 H2)
  (ht : ∀ C s H ex, PIf (cxC X NC csc C s H ex) ifs tt) (he : ∀ C s H ex, PE (cxC X NC csc C s H ex) elt te)
  (hs : ∀ x, foldedSetIterable iter X.env x = pure x := by intro _; rfl) : PE X (.ListComp elt [⟨tg, iter, ifs, 0⟩] csc pos) (zjJ wi nt is g tt te) := by
 intro Qa s σ H Q I h;rw [eval_ListComp];refine zg2 S hc hi hg ht he hgk I h (fun s' C D H' m J q hm hC hL hz hcl hp => ⟨m, hm, fun h' hsb => ?_⟩) hs;exact ⟨.ref D, H', J.turned (t' := s'.toks) (fun b o hb e => hsb.extBut b o hb e) hC hL (.inr hz) hcl hp, rfl, q⟩
theorem zdT {i : Nat} {y : Str} {elt tg iter : Expr} {ifs : List Expr} {pos spos py : Pos} {wi : TI} {g : TG} {tt : TT} {te : TE} (nt : Nat) (is : List Nat) (NC : List Str) (hN : X.N.Nodup) (hy : X.N[i]? = some y) (hyl : X.env.scope.names.lookup y = some .local)
  (S : CompSc X NC nt is csc) (hc : X.calm = true) (hi : PI X tg iter wi)
  (hg : ∀ C s H ex, PG (cxC X NC csc C s H ex) tg g) (hgk : ∀ x (σ : St) H Q, g x σ H Q -> g x σ H fun σ2 H2 => σ2.drop nt = σ.drop nt /\ Q σ2 H2)
  (ht : ∀ C s H ex, PIf (cxC X NC csc C s H ex) ifs tt) (he : ∀ C s H ex, PE (cxC X NC csc C s H ex) elt te)
  (hsw : swapsWith (.ListComp elt [⟨tg, iter, ifs, 0⟩] csc pos) (some (.Name y py)) spos.line X.env = pure true := by rfl)
  (hs : ∀ x, foldedSetIterable iter X.env x = pure x := by intro _; rfl) : PS X (.Assign [.Name y py] (.ListComp elt [⟨tg, iter, ifs, 0⟩] csc pos) spos) (tAsg (zjJ wi nt is g tt te) (zdG i)) := by
 intro Qa s σ H D I h;rw [exec_Assign_Name_used _ _ _ _ hsw];refine yaa (wpAny_standAt (yaa ?_));show wpAny _ X.A (do let _ <- comprehension (.ListComp elt [⟨tg, iter, ifs, 0⟩] csc pos) csc X.env _ (newList []) false (eval iter X.env) (some (assign (.Name y py) X.env))) _ _ s;refine yaa (thn (zg2 (QQ := fun _ s' => SP X Qa D .next s') S hc hi hg ht he hgk I h (fun s' C Da H' m J q hm hC hL hz hcl hp => ?_) hs) fun _ s' hq => yab (yab hq));show wpAny _ X.A (assign (.Name y py) X.env (.ref Da)) _ _ _;refine wpAny_assign_Name (zeA J hN hy (.inl hyl) (v := .ref Da) rfl (fun s'' J' ⟨a, hsb, ha⟩ => ⟨m, hm.sameBut hsb (fun z => ?_), fun h3 hs3 => ?_⟩) (.inr hyl))
 ·rcases ha with e | e
  ·exact hL (z.trans e)
  ·exact hcl y a e z.symm
 ·exact ⟨_, H', J'.turned (t' := s''.toks) (fun b o hb e => hs3.extBut b o hb e) hC hL (.inr hz) hcl hp, q⟩
end
section
variable {K : W.Frag} {nt : Nat} {is : List Nat} {g : TG} {tt : TT} {te : TE} {σ : St} {H : Hp} {Q : VK}
def zfK (J : It) (nt : Nat) (is : List Nat) (g : TG) (tt : TT) (te : TE) (σ : St) (H : Hp) (Q : VK) : Prop := ∃ W : Nat -> Nat -> List V -> Hp -> Prop, (∃ m, W 0 m [] H) /\ ∀ i m acc H, W i m acc H ->
 (J.stop i H /\ ∀ p, H p = none -> Q (.ref p) (upd H p (.lst acc))) \/
 (J.go i H /\ acc.length < sizeLine /\ ∃ N : List V -> Hp -> Prop, (∀ acc' H', N acc' H' -> ∃ m', m' < m /\ W (i + 1) m' acc' H') /\ ∀ x H', J.yld i H x H' -> g x (za4 nt is σ) H' fun σ2 H2 => tt σ2 H2 fun b H3 =>
  if b = true then te σ2 H3 fun y H4 => N (acc ++ [y]) H4 else N acc H3)
theorem zjK {wi : TI} : zjJ wi nt is g tt te σ H Q = wi σ H fun J H1 => zfK J nt is g tt te σ H1 Q := rfl
theorem zcx {J : It} {n : Nat} (Pv : Nat -> List V -> Hp -> Prop) (h0 : Pv 0 [] H)
  (hgo : ∀ i acc H, i < n -> Pv i acc H -> J.go i H /\ acc.length < sizeLine /\ ∀ x H', J.yld i H x H' -> g x (za4 nt is σ) H' fun σ2 H2 => tt σ2 H2 fun b H3 => if b = true then te σ2 H3 fun y H4 => Pv (i + 1) (acc ++ [y]) H4 else Pv (i + 1) acc H3)
  (hst : ∀ acc H, Pv n acc H -> J.stop n H /\ ∀ p, H p = none -> Q (.ref p) (upd H p (.lst acc))) : zfK J nt is g tt te σ H Q := by
 refine ⟨fun i m acc H => m = n - i /\ i <= n /\ Pv i acc H, ⟨n,ς, yaq _, h0⟩, ?_⟩
 rintro i m acc H ⟨rfl, hi, p⟩
 by_cases hlt : i < n
 ·obtain ⟨h1, h2, h3⟩ := hgo i acc H hlt p;exact .inr ⟨h1, h2, Pv (i + 1), fun acc' H' q => ⟨n - (i + 1),ω, rfl, hlt, q⟩, h3⟩
 ·have e : i = n := by omega
  subst e;exact .inl (hst acc H p)
theorem zch {lo : Int} {n : Nat} (Pv : Nat -> List V -> Hp -> Prop) (h0 : Pv 0 [] H)
  (hs : ∀ i acc H, i < n -> Pv i acc H -> acc.length < sizeLine /\ g (.int (lo + i)) (za4 nt is σ) H fun σ2 H2 => tt σ2 H2 fun b H3 => if b = true then te σ2 H3 fun y H4 => Pv (i + 1) (acc ++ [y]) H4 else Pv (i + 1) acc H3)
  (hd : ∀ acc H, Pv n acc H -> ∀ p, H p = none -> Q (.ref p) (upd H p (.lst acc))) : zfK (Itr lo n) nt is g tt te σ H Q := by
 refine zcx (n := n) Pv h0 (fun i acc H hi p => ?_) fun acc H p => ⟨yai _, hd acc H p⟩
 obtain ⟨h1, h2⟩ := hs i acc H hi p;refine ⟨hi, h1, fun x H' y => ?_⟩;obtain ⟨rfl, rfl⟩ := y;exact h2
theorem zjL {z : Str} (Pv : Nat -> List V -> Hp -> Prop) (h0 : Pv 0 [] H)
  (hs : ∀ i c acc H, z.cps.toList[i]? = some c -> Pv i acc H -> acc.length < sizeLine /\ g (.str ⟨#[c]⟩) (za4 nt is σ) H fun σ2 H2 => tt σ2 H2 fun b H3 => if b = true then te σ2 H3 fun y H4 => Pv (i + 1) (acc ++ [y]) H4 else Pv (i + 1) acc H3)
  (hd : ∀ acc H, Pv z.cps.toList.length acc H -> ∀ p, H p = none -> Q (.ref p) (upd H p (.lst acc))) : zfK (Its z) nt is g tt te σ H Q := by
 have hl : z.cps.toList.length = z.cps.size := by simp
 refine zcx (n := z.cps.toList.length) Pv h0 (fun i acc H hi p => ?_) fun acc H p => ⟨Nat.le_of_eq hl.symm, hd acc H p⟩
 have hx : z.cps.toList[i]? = some z.cps.toList[i] := by simp [hi]
 obtain ⟨h1, h2⟩ := hs i _ acc H hx p;refine ⟨(by show i < z.cps.size; omega), h1, fun x H' y => ?_⟩;obtain ⟨rfl, c, hc, rfl⟩ := y;rw [<- Array.getElem?_toList, hx] at hc;cases hc;exact h2
theorem zbV {a : Addr} {xs : List V} (Pv : Nat -> List V -> Hp -> Prop) (h0 : Pv 0 [] H) (hl : ∀ i acc H, i <= xs.length -> Pv i acc H -> SqL K H a xs)
  (hs : ∀ i x acc H, xs[i]? = some x -> Pv i acc H -> acc.length < sizeLine /\ g x (za4 nt is σ) H fun σ2 H2 => tt σ2 H2 fun b H3 => if b = true then te σ2 H3 fun y H4 => Pv (i + 1) (acc ++ [y]) H4 else Pv (i + 1) acc H3)
  (hd : ∀ acc H, Pv xs.length acc H -> ∀ p, H p = none -> Q (.ref p) (upd H p (.lst acc))) : zfK (Itl K a) nt is g tt te σ H Q := by
 refine zcx (n := xs.length) Pv h0 (fun i acc H hi p => ?_) fun acc H p => ⟨⟨xs, hl _ _ _ (yai _) p, yai _⟩, hd acc H p⟩
 have hx : xs[i]? = some xs[i] := by simp [hi]
 have q := hl i acc H (Nat.le_of_lt hi) p;obtain ⟨h1, h2⟩ := hs i _ acc H hx p;refine ⟨⟨xs, _, q, hx⟩, h1, fun x H' y => ?_⟩;obtain ⟨rfl, y⟩ := y;have e := y xs q;rw [hx] at e;cases e;exact h2
theorem zci {a : Addr} {xs : List V} (Pv : Nat -> List V -> Hp -> Prop) (h0 : Pv 0 [] H) (hl : ∀ i acc H, i <= xs.length -> Pv i acc H -> SqT K H a xs)
  (hs : ∀ i x acc H, xs[i]? = some x -> Pv i acc H -> acc.length < sizeLine /\ g x (za4 nt is σ) H fun σ2 H2 => tt σ2 H2 fun b H3 => if b = true then te σ2 H3 fun y H4 => Pv (i + 1) (acc ++ [y]) H4 else Pv (i + 1) acc H3)
  (hd : ∀ acc H, Pv xs.length acc H -> ∀ p, H p = none -> Q (.ref p) (upd H p (.lst acc))) : zfK (Itt K a) nt is g tt te σ H Q := by
 refine zcx (n := xs.length) Pv h0 (fun i acc H hi p => ?_) fun acc H p => ⟨⟨xs, hl _ _ _ (yai _) p, yai _⟩, hd acc H p⟩
 have hx : xs[i]? = some xs[i] := by simp [hi]
 have q := hl i acc H (Nat.le_of_lt hi) p;obtain ⟨h1, h2⟩ := hs i _ acc H hx p;refine ⟨⟨xs, _, q, hx⟩, h1, fun x H' y => ?_⟩;obtain ⟨rfl, y⟩ := y;have e := y xs q;rw [hx] at e;cases e;exact h2
end
section
variable {X : Cx}
theorem call_all (hc : X.calm = true) : zaN X (.builtin "all") (fun xs H Q => ∃ (p : Addr) (bs : List Bool), xs = [.ref p] /\ SqL X.K H p (bs.map V.bl) /\ Q (.bl (bs.all id)) H) := by
 intro Qa s σ H xs us Q I r h;obtain ⟨p, bs, rfl, hq, q⟩ := h;obtain ⟨u, rfl, rx⟩ := zcn r;cases rx;obtain ⟨its, rv, pl, hz⟩ := I.list hq;have Qe : bs.length = its.length := by have := rv.length; simpa using this
 refine call_all_walk (wpAny_pyIter_list pl.isList ?_);have hne : p ≠ s.heap.objs.size := by
  obtain ⟨o, _, e, _⟩ := pl;exact Nat.ne_of_lt (yan e)
 refine ⟨s.heap.objs.size, _, _, _, _, _, fun i => bs.getD i false, rfl, Walks.list (A := X.A.in1) (show X.A.in1.handled = none from I.ok.hd hc) _ p hne its.toArray, ⟨⟨_, yaj _ rfl, rfl, rfl⟩, pl.isList.push _⟩, ?_, fun h' tk hk => ?_⟩
 ·intro i v s' Q' E' hP hQ';have hv : its[i]? = some v := by simpa using hP
  have hi : i < bs.length := by rw [Qe]; exact (yag.mp hv).1
  obtain ⟨v', hv', rv'⟩ := rv.get (i := i) (x := V.bl bs[i]) (by simp [hi]);rw [hv] at hv'; cases hv';cases (show v = Value.bool bs[i] from rv');have e : bs.getD i false = bs[i] := by simp [hi]
  have hQ2 : Q' (bs.getD i false) s' := hQ';rw [e] at hQ2;exact wpAny_truthy_bool hQ2
 ·have e : ((List.range its.toArray.size).all fun i => bs.getD i false) = bs.all id := by
   rw [yad, <- Qe];rw [Bool.eq_iff_iff, List.all_eq_true, List.all_eq_true]
   constructor
   ·intro h x hx;obtain ⟨i, hi, rfl⟩ := List.mem_iff_getElem.mp hx;have := h i (List.mem_range.mpr hi);simpa [hi] using this
   ·intro h i hi;have hi' := List.mem_range.mp hi;have := h bs[i] (List.getElem_mem hi');simpa [hi'] using this
  rw [e];refine ⟨.bl (bs.all id), H, ?_, rfl, q⟩;exact I.kept (t' := tk) fun b o e => hk b o (fun z => absurd (yan e) (Nat.not_lt.mpr (Nat.le_of_eq (yah.mp z).symm))) (yac _ e)
theorem zcC : ∀ {ys : List Str} {us : List Value}, Vals (ys.map V.str) us -> StrsAre us ys
 | [], _, r => by rw [List.map_nil] at r; cases r; exact .nil
 | y :: ys, _, r => by
  rw [List.map_cons] at r;cases r with
  | cons r1 r2 =>
   obtain ⟨t, rfl⟩ := r1;exact .cons y t (zcC r2)
def zos (K : W.Frag) : V -> List V -> Hp -> VK -> Prop := fun x vs H Q => ∃ (sep : Str) (p : Addr) (ys : List Str), x = .str sep /\ vs = [.ref p] /\ SqL K H p (ys.map V.str) /\ (ys.map (·.length)).sum + ys.length * sep.length <= 16777216 /\ Q (.str (Txt.join sep ys)) H
def zln (K : W.Frag) (T : String) : List V -> Hp -> VK -> Prop := fun vs H Q => ∃ x t b, vs = [x, .ty T] /\ TyOf K H x t /\ W.kitOne K t (.type T) = some b /\ Q (.bl b) H
theorem zim {T : String} : zaN X (.builtin "isinstance") (zln X.K T) := by
 intro Qa s σ H xs us Q I r h;obtain ⟨x, t, b, rfl, ty, e, q⟩ := h;obtain ⟨u, u2, rfl, rx, r2⟩ := zjG r;cases (show u2 = Value.type T from r2);exact zib I rx ty e fun tk => ⟨.bl b, H, I.tok tk, rfl, q⟩
variable {tg l : Expr} {tl : TE} {a : Expr} {pos : Pos} {tA : TT}
theorem za3 : OpR X (binaryOp .Mod) (rI (fun _ j => 0 < j) fun i j => .int (i % j)) := zm4
theorem zav : OpR X (binaryOp .FloorDiv) (rI CDiv fun i j => .int (i / j)) := zld
def zmI : R2 := fun x y H Q => ∃ i j, x = .str i /\ y = .str j /\ i.length + j.length <= sizeLine /\ Q (.str (i ++ j)) H
def zot (K : W.Frag) : R2 := fun x y H Q => rI0 (fun i j => .int (i + j)) x y H Q \/ (zmI x y H Q \/ (rCat x y H Q \/ zm9 K x y H Q))
def zjM : R2 := fun x y H Q => rI CMul (fun i j => .int (i * j)) x y H Q \/ rRep x y H Q
theorem zfL : OpR X (binaryOp .Mult) zjM := OpR.or zm3 zmE
def rLtS : R2 := fun x y H Q => ∃ i j, x = .str i /\ y = .str j /\ Q (.bl (decide (i.cps.toList < j.cps.toList))) H
def rLtA : R2 := fun x y H Q => rI0 (fun i j => .bl (decide (i < j))) x y H Q \/ rLtS x y H Q
theorem zcO : OpR X (compareOp .Lt) rLtA := OpR.or zom zhX
def inS (i j : Str) : Bool := !(Builtin.Str.occurrences j i 0 j.length 1).isEmpty
def rInS (neg : Bool) : R2 := fun x y H Q => ∃ i j, x = .str i /\ y = .str j /\ Q (.bl (if neg then !inS i j else inS i j)) H
def rInA (K : W.Frag) (neg : Bool) : R2 := fun x y H Q => rInS neg x y H Q \/ rIn K neg x y H Q
theorem zin (K : W.Frag) (hK : X.K = K := by rfl) : OpR X (compareOp .In) (rInA K false) := hK ▸ (OpR.or zhY zie : OpR X (compareOp .In) (rInA X.K false))
theorem zbW (K : W.Frag) (hK : X.K = K := by rfl) : OpR X (compareOp .NotIn) (rInA K true) := hK ▸ (OpR.or zeP zeO : OpR X (compareOp .NotIn) (rInA X.K true))
def rSlA (K : W.Frag) : V -> Option Int -> Option Int -> Hp -> VK -> Prop := fun x lo hi H Q => rSlS x lo hi H Q \/ (rSlL K x lo hi H Q \/ rSlT K x lo hi H Q)
theorem ixA (K : W.Frag) (hK : X.K = K := by rfl) : IxR X (rIx K) := hK ▸ (ix_seq : IxR X (rIx X.K))
def zjN (K : W.Frag) (x : V) (H : Hp) (R : It -> Hp -> Prop) : Prop := (∃ z, x = .str z /\ R (Its z) H) \/ (∃ a, x = .ref a /\ (∃ xs, SqL K H a xs) /\ R (Itl K a) H) \/ (∃ a, x = .ref a /\ (∃ xs, SqT K H a xs) /\ R (Itt K a) H)
def iAny (K : W.Frag) (tl : TE) : TI := fun σ H R => tl σ H fun x H1 => zjN K x H1 R
theorem zaY (K : W.Frag) (hl : PE X l tl) (hK : X.K = K := by rfl) : PI X tg l (iAny K tl) := by
 subst hK;intro Qa s σ H R I h;refine thn (hl Qa s σ H _ I h) fun v s1 ⟨x, H1, I1, r1, q1⟩ => ?_;rcases q1 with ⟨z, rfl, q⟩ | ⟨a, rfl, hq, q⟩ | ⟨a, rfl, hq, q⟩
 ·exact zik I1 r1 q
 ·obtain ⟨xs, hq⟩ := hq;cases r1;obtain ⟨its, rv, p, hz⟩ := I1.list hq;refine wpAny_pyIter_list p.isList ?_;refine ⟨s1.heap.objs.size, [s1.heap.objs.size], _, _, H1, rfl, I1.kept (t' := s1.toks) fun b o e => yac _ e, zhP a _, ⟨_, yaj _ rfl, rfl, rfl⟩, fun b hb => ?_, q⟩;have e : b = s1.heap.objs.size := by simpa using hb
  subst e;exact I1.fpOk (yai _) (I1.hok.fresh (yai _))
 ·obtain ⟨xs, hq⟩ := hq;cases r1;obtain ⟨its, rv, p, hz⟩ := I1.tuple hq;refine wpAny_pyIter_tuple (show s1.heap.IsTuple a its.toArray from p) ?_;refine ⟨s1.heap.objs.size, [s1.heap.objs.size], _, _, H1, rfl, I1.kept (t' := s1.toks) fun b o e => yac _ e, zhd a _, ⟨_, yaj _ rfl, rfl, rfl⟩, fun b hb => ?_, q⟩;have e : b = s1.heap.objs.size := by simpa using hb
  subst e;exact I1.fpOk (yai _) (I1.hok.fresh (yai _))
end
section
variable {X : Cx} {o e : Expr} {es : List Expr} {to : TE} {t : TA} {name : Str} {apos cpos : Pos} {T iid : String} {r : V -> List V -> Hp -> VK -> Prop}
def rLen (K : W.Frag) : List V -> Hp -> VK -> Prop := fun xs H Q => ∃ x n, xs = [x] /\ LenV K x H n /\ Q (.int n) H
theorem zaX (K : W.Frag) (hK : X.K = K := by rfl) : zaN X (.builtin "len") (rLen K) := hK ▸ (call_len : zaN X (.builtin "len") (rLen X.K))
def rAll (K : W.Frag) : List V -> Hp -> VK -> Prop := fun xs H Q => ∃ (p : Addr) (bs : List Bool), xs = [.ref p] /\ SqL K H p (bs.map V.bl) /\ Q (.bl (bs.all id)) H
theorem zdm (K : W.Frag) (hc : X.calm = true) (hK : X.K = K := by rfl) : zaN X (.builtin "all") (rAll K) := hK ▸ (call_all hc : zaN X (.builtin "all") (rAll X.K))
def zek (K : W.Frag) : List V -> Hp -> VK -> Prop := fun xs H Q => ∃ p ys, xs = [.ref p] /\ ((SqL K H p ys /\ ∀ l, H l = none -> Q (.ref l) (upd H l (.tup ys))) \/ (SqT K H p ys /\ Q (.ref p) H))
theorem zaJ (K : W.Frag) (hK : X.K = K := by rfl) : zaN X (.type "tuple") (zek K) := hK ▸ (call_tuple_of : zaN X (.type "tuple") (zek X.K))
def zfM (K : W.Frag) : List V -> Hp -> VK -> Prop := fun xs H Q => ∃ p ys, xs = [.ref p] /\ (SqL K H p ys \/ SqT K H p ys) /\ ∀ l, H l = none -> Q (.ref l) (upd H l (.lst ys))
theorem zhk (K : W.Frag) (hK : X.K = K := by rfl) : zaN X (.type "list") (zfM K) := hK ▸ (call_list_of : zaN X (.type "list") (zfM X.K))
def zg3 : List V -> Hp -> VK -> Prop := fun xs H Q => (∃ i, xs = [.int i] /\ Q (.int i) H) \/ ∃ k, xs = [.bl k] /\ Q (.int (if k then 1 else 0)) H
theorem zeT : zaN X (.type "int") zg3 := zhZ
theorem zcy (K : W.Frag) (pa : PlainAttrs T) (slot : Slot T name iid) (hty : typeOf (.builtin iid) = pure (.type "method_descriptor")) (hm : MtR X iid r) (ho : PE X o to) (ha : PA X (e :: es) t) (hK : X.K = K := by rfl)
  (hbase : attributeBase o name X.env (eval o X.env) = eval o X.env := by rfl)
  (hfew : ((backTo cpos (starEach (e :: es) X.env)).all (fun x => !x.1) && (backToKw cpos (keywordEach [] X.env)).all (fun x => x.1.isSome)
   && decide ((e :: es).length + ([] : List Keyword).length + (if ([] : List Keyword).isEmpty then 0 else 1) < 30)) = true := by rfl)
  (hline : (apos.endLine == cpos.line) = true := by rfl) (hs : starEach (e :: es) X.env = (false, eval e X.env) :: starEach es X.env := by rfl) (hplain : (backTo cpos (starEach es X.env)).any (·.1) = false := by rfl) :
  PE X (.Call (.Attribute o name apos) (e :: es) [] cpos) (tBM K T r to t) := hK ▸ zor pa slot hty hm ho ha hbase hfew hline hs hplain
end
section
variable {K : W.Frag} {g : TG} {tb : TS} {D : Ends} {σ : St} {H : Hp}
def ForW (J : It) (g : TG) (tb : TS) (D : Ends) (σ : St) (H : Hp) : Prop := ∃ W : Nat -> Nat -> St -> Hp -> Prop, (∃ m, W 0 m σ H) /\ ∀ i m σ H, W i m σ H ->
 (J.stop i H /\ D.nx σ H) \/ (J.go i H /\ ∃ N : St -> Hp -> Prop, (∀ σ' H', N σ' H' -> ∃ m', m' < m /\ W (i + 1) m' σ' H') /\ ∀ x H', J.yld i H x H' -> g x σ H' fun σ2 H2 => tb { D with nx := N, ct := N, bk := D.nx } σ2 H2)
theorem zio {wi : TI} : tFor wi g tb D σ H = wi σ H fun J H1 => ForW J g tb D σ H1 := rfl
theorem zcz {a : Addr} {xs : List V} (Pv : Nat -> St -> Hp -> Prop) (h0 : Pv 0 σ H) (hl : ∀ i σ H, i <= xs.length -> Pv i σ H -> SqL K H a xs)
  (hs : ∀ i x σ H, xs[i]? = some x -> Pv i σ H -> g x σ H fun σ2 H2 => tb { D with nx := Pv (i + 1), ct := Pv (i + 1), bk := D.nx } σ2 H2) (hd : ∀ σ H, Pv xs.length σ H -> D.nx σ H) : ForW (Itl K a) g tb D σ H := zjE Pv h0 hl hs hd
theorem zbx {a : Addr} {xs : List V} (Pv : Nat -> St -> Hp -> Prop) (h0 : Pv 0 σ H) (hl : ∀ i σ H, i <= xs.length -> Pv i σ H -> SqT K H a xs)
  (hs : ∀ i x σ H, xs[i]? = some x -> Pv i σ H -> g x σ H fun σ2 H2 => tb { D with nx := Pv (i + 1), ct := Pv (i + 1), bk := D.nx } σ2 H2) (hd : ∀ σ H, Pv xs.length σ H -> D.nx σ H) : ForW (Itt K a) g tb D σ H := zlc Pv h0 hl hs hd
theorem zcD {lo : Int} {n : Nat} (Pv : Nat -> St -> Hp -> Prop) (h0 : Pv 0 σ H)
  (hs : ∀ i σ H, i < n -> Pv i σ H -> g (.int (lo + i)) σ H fun σ2 H2 => tb { D with nx := Pv (i + 1), ct := Pv (i + 1), bk := D.nx } σ2 H2) (hd : ∀ σ H, Pv n σ H -> D.nx σ H) : ForW (Itr lo n) g tb D σ H := zhS Pv h0 hs hd
end
theorem zak {n : Nat} (h : n <= 100000) : n <= sizeLine := yat h (by rw [sizeLine_eq]; decide)
theorem zaF {n : Nat} (h : n <= 100000) : n < sizeLine := Nat.lt_of_le_of_lt h (by rw [sizeLine_eq]; decide)
theorem zab {H : Hp} {p : Addr} (h : H p = none) (o : HO) : Same H (upd H p o) := fun b u q => by rw [zaE (zaD q h)]; exact q
theorem Same.seqT {K : W.Frag} {H H' : Hp} {a : Addr} {xs : List V} (e : Same H H') (h : SqT K H a xs) : SqT K H' a xs := by
 rcases h with (h | ⟨o, h⟩) | h
 ·exact .inl (.inl (e _ _ h))
 ·exact .inl (.inr ⟨o, e _ _ h⟩)
 ·exact .inr h
theorem zjO {α : Type} {xs : List α} {i : Int} (h0 : 0 <= i) (h1 : i < xs.length) : ∃ v, v ∈ xs /\ atI xs i = some v := by
 have hk : i.toNat < xs.length := by omega
 have e : i = ((i.toNat : Nat) : Int) := by omega
 refine ⟨xs[i.toNat], List.getElem_mem hk, ?_⟩;have q : atI xs ((i.toNat : Nat) : Int) = some xs[i.toNat] := zam (by simp [hk]);rw [<- e] at q;exact q
theorem zel {α : Type} {xs : List α} {i : Int} {d : α} (h0 : 0 <= i) (h1 : i < xs.length) : atI xs i = some (xs.getD i.toNat d) := by
 have hk : i.toNat < xs.length := by omega
 have e : i = ((i.toNat : Nat) : Int) := by omega
 have q : atI xs ((i.toNat : Nat) : Int) = some xs[i.toNat] := zam (by simp [hk]);rw [<- e] at q;rw [q]; simp [hk]
def ziq (K : W.Frag) : Sp := fun vs H Q _ => ∃ (a : Addr) (ns : List Int), vs = [.ref a] /\ SqL K H a (ns.map V.int) /\ ns.length <= 63 /\ ∀ H', Q (.bl true) H'
section
variable {K : W.Frag} {H : Hp} {Q : VK} {σ : St} {D : Ends} {ta tb tc te : TE} {tt tA tB' : TT} {t u : TS} {g : TG} {r : R2} {tl : TA} {v0 v1 v2 v3 v4 v5 v6 v7 v8 v9 v10 v11 : V}
 {o0 o1 o2 o3 o4 o5 o6 o7 o8 o9 o10 o11 : Option V} {rr : St}
theorem w_v0 : tVar 0 (some v0 :: rr) H Q = Q v0 H := by simp [tVar]
theorem w_v1 : tVar 1 (o0 :: some v1 :: rr) H Q = Q v1 H := by simp [tVar]
theorem w_v2 : tVar 2 (o0 :: o1 :: some v2 :: rr) H Q = Q v2 H := by simp [tVar]
theorem w_v3 : tVar 3 (o0 :: o1 :: o2 :: some v3 :: rr) H Q = Q v3 H := by simp [tVar]
theorem w_v4 : tVar 4 (o0 :: o1 :: o2 :: o3 :: some v4 :: rr) H Q = Q v4 H := by simp [tVar]
theorem w_v5 : tVar 5 (o0 :: o1 :: o2 :: o3 :: o4 :: some v5 :: rr) H Q = Q v5 H := by simp [tVar]
theorem w_v6 : tVar 6 (o0 :: o1 :: o2 :: o3 :: o4 :: o5 :: some v6 :: rr) H Q = Q v6 H := by simp [tVar]
theorem w_v7 : tVar 7 (o0 :: o1 :: o2 :: o3 :: o4 :: o5 :: o6 :: some v7 :: rr) H Q = Q v7 H := by simp [tVar]
theorem w_v8 : tVar 8 (o0 :: o1 :: o2 :: o3 :: o4 :: o5 :: o6 :: o7 :: some v8 :: rr) H Q = Q v8 H := by simp [tVar]
theorem w_v9 : tVar 9 (o0 :: o1 :: o2 :: o3 :: o4 :: o5 :: o6 :: o7 :: o8 :: some v9 :: rr) H Q = Q v9 H := by simp [tVar]
theorem zou : tVar 10 (o0 :: o1 :: o2 :: o3 :: o4 :: o5 :: o6 :: o7 :: o8 :: o9 :: some v10 :: rr) H Q = Q v10 H := by simp [tVar]
theorem zov : tVar 11 (o0 :: o1 :: o2 :: o3 :: o4 :: o5 :: o6 :: o7 :: o8 :: o9 :: o10 :: some v11 :: rr) H Q = Q v11 H := by simp [tVar]
theorem w_c {v : V} : tC v σ H Q = Q v H := rfl
theorem zjP : tSeq t u D σ H = t { D with nx := u D } σ H := rfl
theorem zow : tIfS tt t u D σ H = tt σ H fun b H1 => if b = true then t D σ H1 else u D σ H1 := rfl
theorem zmJ : zlb D σ H = D.nx σ H := rfl
theorem zox : tRet te D σ H = te σ H D.rt := rfl
theorem zmK : zmz te D σ H = te σ H fun _ H1 => D.nx σ H1 := rfl
theorem zlo : tAsg te g D σ H = te σ H fun x H1 => g x σ H1 D.nx := rfl
theorem zfN {i : Nat} {x : V} {Qs : St -> Hp -> Prop} : zdG i x σ H Qs = Qs (σ.set i (some x)) H := rfl
theorem w_op : tOp r ta tb σ H Q = ta σ H fun x H1 => tb σ H1 fun y H2 => r x y H2 Q := rfl
theorem w_un {f : V -> Hp -> VK -> Prop} : tUn f ta σ H Q = ta σ H fun x H1 => f x H1 Q := rfl
variable {Qb : Bool -> Hp -> Prop} {Qs : List V -> Hp -> Prop}
theorem zmL : zle te σ H Qb = te σ H fun x H' => ∃ k, x = .bl k /\ Qb k H' := rfl
theorem w_B : tB te σ H Qb = te σ H fun x H' => ∃ k, x = .bl k /\ Qb k H' := rfl
theorem w_bl {b : Bool} {P : Bool -> Prop} : (∃ k, V.bl b = .bl k /\ P k) = P b := by
 refine propext ⟨fun ⟨k, e, h⟩ => ?_, fun h => ⟨b, rfl, h⟩⟩;cases e; exact h
theorem zpf {b : Bool} {P : Bool -> Prop} {P2 : Bool -> Prop} : (∃ k, V.bl b = .bl k /\ if k = true then P k else P2 k) = if b = true then P b else P2 b := w_bl
theorem zoy : tAnd tA tB' σ H Qb = tA σ H fun c H1 => if c = true then tB' σ H1 Qb else Qb false H1 := rfl
theorem w_or : tOr tA tB' σ H Qb = tA σ H fun c H1 => if c = true then Qb true H1 else tB' σ H1 Qb := rfl
theorem w_not : tNot tA σ H Qb = tA σ H fun c H1 => Qb (!c) H1 := rfl
theorem zmM : zmy ta tb σ H Q = ta σ H fun x H1 => ∃ c, x = .bl c /\ if c = true then tb σ H1 Q else Q (.bl false) H1 := rfl
theorem zoz : tOrV ta tb σ H Q = ta σ H fun x H1 => ∃ c, x = .bl c /\ if c = true then Q (.bl true) H1 else tb σ H1 Q := rfl
theorem zmN : zmG σ H Qb = Qb true H := rfl
theorem zo0 : tNil σ H Qs = Qs [] H := rfl
theorem zmO : zlg ta tl σ H Qs = ta σ H fun x H1 => tl σ H1 fun xs H2 => Qs (x :: xs) H2 := rfl
theorem zo1 : tTup tl σ H Q = tl σ H fun xs H1 => xs.length <= sizeLine /\ ∀ p, H1 p = none -> Q (.ref p) (upd H1 p (.tup xs)) := rfl
theorem zo2 : tLst tl σ H Q = tl σ H fun xs H1 => xs.length <= sizeLine /\ ∀ p, H1 p = none -> Q (.ref p) (upd H1 p (.lst xs)) := rfl
theorem zmP {sp : Sp} {dvs : List V} {E : XK} : zm6 sp dvs E tl σ H Q = tl σ H fun vs H1 => sp (vs ++ dvs) H1 Q E := rfl
theorem w_CB {f : List V -> Hp -> VK -> Prop} : tCB f tl σ H Q = tl σ H fun vs H1 => f vs H1 Q := rfl
theorem w_BM {T : String} {f : V -> List V -> Hp -> VK -> Prop} : tBM K T f te tl σ H Q = te σ H fun x H1 => tyV K T x H1 /\ tl σ H1 fun xs H2 => f x xs H2 Q := rfl
theorem zjQ {T : String} {x : Str} : tyV K T (.str x) H = (T = "str") := rfl
theorem zir {T : String} {p : Addr} (h : T = "list") : tyV K T (.ref p) H = ∃ xs, SqL K H p xs := by
 subst h;refine propext ⟨fun h => ?_, fun h => .inl ⟨rfl, h⟩⟩;rcases h with ⟨_, h⟩ | ⟨h, _⟩ | ⟨h, _⟩ | ⟨h, _⟩
 ·exact h
 ·exact absurd h δ
 ·exact absurd h δ
 ·exact absurd h δ
variable {tlo thi : TO} {Qo : Option Int -> Hp -> Prop}
theorem w_sl {f : V -> Option Int -> Option Int -> Hp -> VK -> Prop} : tSl f te tlo thi σ H Q = te σ H fun x H1 => tlo σ H1 fun l H2 => thi σ H2 fun u H3 => f x l u H3 Q := rfl
theorem zjR : zfG σ H Qo = Qo none H := rfl
theorem zmQ : zlh te σ H Qo = te σ H fun x H1 => ∃ i, x = .int i /\ Qo (some i) H1 := rfl
theorem zo3 {i : Int} {P : Int -> Prop} : (∃ k, V.int i = .int k /\ P k) = P i := by
 refine propext ⟨fun ⟨k, e, h⟩ => ?_, fun h => ⟨i, rfl, h⟩⟩;cases e; exact h
variable {i j : Int} {x y : Str} {b c : Bool} {p q : Addr} {gi : Int -> Int -> V} {C : Int -> Int -> Prop}
theorem zmR : rI0 gi (.int i) (.int j) H Q = Q (gi i j) H := by
 refine propext ⟨fun ⟨_, _, e1, e2, h⟩ => ?_, fun h => ⟨i, j, rfl, rfl, h⟩⟩;cases e1; cases e2; exact h
theorem w_rI : rI C gi (.int i) (.int j) H Q = (C i j /\ Q (gi i j) H) := by
 refine propext ⟨fun ⟨_, _, e1, e2, h⟩ => ?_, fun h => ⟨i, j, rfl, rfl, h⟩⟩;cases e1; cases e2; exact h
theorem zmS : zjM (.int i) (.int j) H Q = (CMul i j /\ Q (.int (i * j)) H) := by
 unfold zjM;rw [w_rI];refine propext ⟨fun h => ?_, .inl⟩;rcases h with h | ⟨_, _, _, e, _⟩
 ·exact h
 ·cases e
theorem zo4 : rNe (.int i) (.int j) H Q = Q (.bl (!decide (i = j))) H := by
 refine propext ⟨fun ⟨_, h⟩ => by simpa using h, fun h => ⟨rfl, by simpa using h⟩⟩
theorem zo5 : rNe (.str x) (.str y) H Q = Q (.bl (!decide (x = y))) H := by
 refine propext ⟨fun ⟨_, h⟩ => by simpa using h, fun h => ⟨rfl, by simpa using h⟩⟩
theorem zlp : rLtA (.int i) (.int j) H Q = Q (.bl (decide (i < j))) H := by
 unfold rLtA;rw [zmR];refine propext ⟨fun h => ?_, .inl⟩;rcases h with h | ⟨_, _, e, _⟩
 ·exact h
 ·cases e
theorem zo6 : rInA K false (.str x) (.str y) H Q = Q (.bl (inS x y)) H := by
 refine propext ⟨fun h => ?_, fun h => .inl ⟨x, y, rfl, rfl, h⟩⟩;rcases h with ⟨_, _, e1, e2, h⟩ | ⟨_, _, e, _⟩
 ·cases e1; cases e2; exact h
 ·cases e
theorem zjS : rInA K true (.str x) (.str y) H Q = Q (.bl (!inS x y)) H := by
 refine propext ⟨fun h => ?_, fun h => .inl ⟨x, y, rfl, rfl, h⟩⟩;rcases h with ⟨_, _, e1, e2, h⟩ | ⟨_, _, e, _⟩
 ·cases e1; cases e2; exact h
 ·cases e
theorem zo7 {v : V} : rInA K false v (.ref p) H Q = ∃ xs, (SqL K H p xs \/ SqT K H p xs) /\ zbG v = true /\ xs.all zbG = true /\ Q (.bl (inV v xs)) H := by
 refine propext ⟨fun h => ?_, fun ⟨xs, h⟩ => .inr ⟨p, xs, rfl, h⟩⟩;rcases h with ⟨_, _, _, e2, _⟩ | ⟨_, xs, e, h⟩
 ·cases e2
 ·cases e; exact ⟨xs, h⟩
theorem zjT {v : V} : rInA K true v (.ref p) H Q = ∃ xs, (SqL K H p xs \/ SqT K H p xs) /\ zbG v = true /\ xs.all zbG = true /\ Q (.bl (!inV v xs)) H := by
 refine propext ⟨fun h => ?_, fun ⟨xs, h⟩ => .inr ⟨p, xs, rfl, h⟩⟩;rcases h with ⟨_, _, _, e2, _⟩ | ⟨_, xs, e, h⟩
 ·cases e2
 ·cases e; exact ⟨xs, h⟩
theorem zo8 : rIx K (.str x) (.int i) H Q = (x.length <= sizeLine /\ ∃ c, atI x.cps.toList i = some c /\ Q (.str ⟨#[c]⟩) H) := by
 refine propext ⟨fun h => ?_, fun ⟨h1, c, h2, h3⟩ => .inr (.inr ⟨x, i, c, rfl, rfl, h1, h2, h3⟩)⟩;rcases h with ⟨_, _, _, _, e, _⟩ | ⟨_, _, _, _, e, _⟩ | ⟨_, _, c, e1, e2, h1, h2, h3⟩
 ·cases e
 ·cases e
 ·cases e1; cases e2; exact ⟨h1, c, h2, h3⟩
theorem zo9 : rIx K (.ref p) (.int i) H Q = ∃ xs, (SqL K H p xs \/ SqT K H p xs) /\ ∃ v, atI xs i = some v /\ Q v H := by
 refine propext ⟨fun h => ?_, fun ⟨xs, h, v, e, q⟩ => ?_⟩
 ·rcases h with ⟨_, xs, _, v, e1, e2, h1, h2, h3⟩ | ⟨_, xs, _, v, e1, e2, h1, h2, h3⟩ | ⟨_, _, _, e, _⟩
  ·cases e1; cases e2; exact ⟨xs, .inl h1, v, h2, h3⟩
  ·cases e1; cases e2; exact ⟨xs, .inr h1, v, h2, h3⟩
  ·cases e
 ·rcases h with h | h
  ·exact .inl ⟨p, xs, i, v, rfl, rfl, h, e, q⟩
  ·exact .inr (.inl ⟨p, xs, i, v, rfl, rfl, h, e, q⟩)
theorem zmT : rLen K [.str x] H Q = (x.length <= sizeLine /\ Q (.int x.length) H) := by
 refine propext ⟨fun ⟨_, n, e, h, q⟩ => ?_, fun ⟨h, q⟩ => ⟨_, _, rfl, ⟨h, rfl⟩, q⟩⟩;cases e;obtain ⟨h1, rfl⟩ := h;exact ⟨h1, q⟩
theorem zmU : rLen K [.ref p] H Q = ∃ xs, (SqL K H p xs \/ SqT K H p xs) /\ Q (.int (xs.length : Nat)) H := by
 refine propext ⟨fun ⟨_, n, e, h, q⟩ => ?_, fun ⟨xs, h, q⟩ => ?_⟩
 ·cases e;rcases h with ⟨xs, h, rfl⟩ | ⟨xs, h, rfl⟩
  ·exact ⟨xs, .inl h, q⟩
  ·exact ⟨xs, .inr h, q⟩
 ·rcases h with h | h
  ·exact ⟨_, _, rfl, .inl ⟨xs, h, rfl⟩, q⟩
  ·exact ⟨_, _, rfl, .inr ⟨xs, h, rfl⟩, q⟩
theorem zoA : rAll K [.ref p] H Q = ∃ bs : List Bool, SqL K H p (bs.map V.bl) /\ Q (.bl (bs.all id)) H := by
 refine propext ⟨fun ⟨_, bs, e, h⟩ => ?_, fun ⟨bs, h⟩ => ⟨p, bs, rfl, h⟩⟩;cases e; exact ⟨bs, h⟩
theorem zmV {sep : Str} : zos K (.str sep) [.ref p] H Q = ∃ ys : List Str, SqL K H p (ys.map V.str) /\ (ys.map (·.length)).sum + ys.length * sep.length <= 16777216 /\ Q (.str (Txt.join sep ys)) H := by
 refine propext ⟨fun ⟨_, _, ys, e1, e2, h⟩ => ?_, fun ⟨ys, h⟩ => ⟨sep, p, ys, rfl, rfl, h⟩⟩;cases e1; cases e2; exact ⟨ys, h⟩
theorem zmW {b : Bool} : zg3 [.bl b] H Q = Q (.int (if b then 1 else 0)) H := by
 refine propext ⟨fun h => ?_, fun h => .inr ⟨b, rfl, h⟩⟩;rcases h with ⟨_, e, _⟩ | ⟨_, e, h⟩
 ·cases e
 ·cases e; exact h
theorem zmX : zg3 [.int i] H Q = Q (.int i) H := by
 refine propext ⟨fun h => ?_, fun h => .inl ⟨i, rfl, h⟩⟩;rcases h with ⟨_, e, h⟩ | ⟨_, e, _⟩
 ·cases e; exact h
 ·cases e
variable {R : It -> Hp -> Prop}
theorem zoB : zjN K (.str x) H R = R (Its x) H := by
 refine propext ⟨fun h => ?_, fun h => .inl ⟨x, rfl, h⟩⟩;rcases h with ⟨_, e, h⟩ | ⟨_, e, _⟩ | ⟨_, e, _⟩
 ·cases e; exact h
 ·cases e
 ·cases e
theorem zoC : zjN K (.ref p) H R = (((∃ xs, SqL K H p xs) /\ R (Itl K p) H) \/ ((∃ xs, SqT K H p xs) /\ R (Itt K p) H)) := by
 refine propext ⟨fun h => ?_, fun h => ?_⟩
 ·rcases h with ⟨_, e, _⟩ | ⟨_, e, h⟩ | ⟨_, e, h⟩
  ·cases e
  ·cases e; exact .inl h
  ·cases e; exact .inr h
 ·rcases h with h | h
  ·exact .inr (.inl ⟨p, rfl, h⟩)
  ·exact .inr (.inr ⟨p, rfl, h⟩)
theorem zmY : iAny K te σ H R = te σ H fun x H1 => zjN K x H1 R := rfl
theorem zmZ : zm0 tl σ H R = tl σ H fun vs H1 => ∃ j : Int, vs = [.int j] /\ -(2 ^ 62) <= j /\ j < 2 ^ 62 /\ R (Itr 0 j.toNat) H1 := rfl
theorem zna {P : Int -> Prop} : (∃ j : Int, [V.int i] = [.int j] /\ P j) = P i := by
 refine propext ⟨fun ⟨_, e, h⟩ => ?_, fun h => ⟨i, rfl, h⟩⟩;cases e; exact h
end
section
variable {K : W.Frag} {H : Hp} {Q : VK} {σ : St} {D : Ends} {ta tb tc te ti to : TE} {i j : Int} {x y : Str} {p q : Addr} {v : V} {T : String} {lo hi : Option Int}
theorem zlq {P : Int -> Int -> Prop} : (∃ i' j', [V.int i, V.int j] = [V.int i', V.int j'] /\ P i' j') = P i j := by
 refine propext ⟨fun ⟨_, _, e, h⟩ => ?_, fun h => ⟨i, j, rfl, h⟩⟩;cases e; exact h
theorem zis : zek K [.ref p] H Q = ∃ ys, (SqL K H p ys /\ ∀ l, H l = none -> Q (.ref l) (upd H l (.tup ys))) \/ (SqT K H p ys /\ Q (.ref p) H) := by
 refine propext ⟨fun ⟨_, ys, e, h⟩ => ?_, fun ⟨ys, h⟩ => ⟨p, ys, rfl, h⟩⟩;cases e; exact ⟨ys, h⟩
theorem zjU : zfM K [.ref p] H Q = ∃ ys, (SqL K H p ys \/ SqT K H p ys) /\ ∀ l, H l = none -> Q (.ref l) (upd H l (.lst ys)) := by
 refine propext ⟨fun ⟨_, ys, e, h⟩ => ?_, fun ⟨ys, h⟩ => ⟨p, ys, rfl, h⟩⟩;cases e; exact ⟨ys, h⟩
theorem zjV : zfI (.ref p) [v] H Q = ∃ xs, H p = some (.lst xs) /\ xs.length < sizeLine /\ Q .non (upd H p (.lst (xs ++ [v]))) := by
 refine propext ⟨fun ⟨_, xs, _, e1, e2, h⟩ => ?_, fun ⟨xs, h⟩ => ⟨p, xs, v, rfl, rfl, h⟩⟩;cases e1; cases e2; exact ⟨xs, h⟩
theorem zjW : zfJ (.ref p) [.ref q] H Q = ∃ xs zs, H p = some (.lst xs) /\ H q = some (.lst zs) /\ xs.length + zs.length <= sizeLine /\ Q .non (upd H p (.lst (xs ++ zs))) := by
 refine propext ⟨fun ⟨_, _, xs, zs, e1, e2, h⟩ => ?_, fun ⟨xs, zs, h⟩ => ⟨p, q, xs, zs, rfl, rfl, h⟩⟩;cases e1; cases e2; exact ⟨xs, zs, h⟩
theorem znb {Qh : Hp -> Prop} : zoq (.ref p) (.int i) v H Qh = ∃ xs j, H p = some (.lst xs) /\ ixN xs.length i = some j /\ Qh (upd H p (.lst (xs.set j v))) := by
 refine propext ⟨fun ⟨_, xs, _, j, e1, e2, h⟩ => ?_, fun ⟨xs, j, h⟩ => ⟨p, xs, i, j, rfl, rfl, h⟩⟩;cases e1; cases e2; exact ⟨xs, j, h⟩
theorem zit : zln K T [.int i, .ty T] H Q = ∃ b, W.kitOne K (.type "int") (.type T) = some b /\ Q (.bl b) H := by
 refine propext ⟨fun ⟨_, _, b, e, t, h⟩ => ?_, fun ⟨b, h⟩ => ⟨_, _, b, rfl, .int i, h⟩⟩;cases e; cases t; exact ⟨b, h⟩
theorem ziu : zln K T [.str x, .ty T] H Q = ∃ b, W.kitOne K (.type "str") (.type T) = some b /\ Q (.bl b) H := by
 refine propext ⟨fun ⟨_, _, b, e, t, h⟩ => ?_, fun ⟨b, h⟩ => ⟨_, _, b, rfl, .str x, h⟩⟩;cases e; cases t; exact ⟨b, h⟩
theorem zpg : rSlA K (.ref p) lo hi H Q = ∃ xs, (SqL K H p xs /\ ∀ q, H q = none -> Q (.ref q) (upd H q (.lst (cutV xs lo hi)))) \/
  (SqT K H p xs /\ ¬ (HT.sIx xs.length 0 lo = 0 /\ HT.sIx xs.length xs.length hi = xs.length) /\ ∀ q, H q = none -> Q (.ref q) (upd H q (.tup (cutV xs lo hi)))) := by
 refine propext ⟨fun h => ?_, fun ⟨xs, h⟩ => ?_⟩
 ·rcases h with ⟨_, e, _⟩ | ⟨_, xs, e, h⟩ | ⟨_, xs, e, h⟩
  ·cases e
  ·cases e; exact ⟨xs, .inl h⟩
  ·cases e; exact ⟨xs, .inr h⟩
 ·rcases h with h | h
  ·exact .inr (.inl ⟨p, xs, rfl, h⟩)
  ·exact .inr (.inr ⟨p, xs, rfl, h⟩)
theorem zpa : zot K (.ref p) (.ref q) H Q = ∃ xs zs, (H p = some (.lst xs) /\ H q = some (.lst zs) /\ xs.length + zs.length <= sizeLine /\ ∀ r, H r = none -> Q (.ref r) (upd H r (.lst (xs ++ zs)))) \/
  (SqT K H p xs /\ SqT K H q zs /\ xs ≠ [] /\ xs.length + zs.length <= sizeLine /\ (zs = [] -> Q (.ref p) H) /\ (zs ≠ [] -> ∀ r, H r = none -> Q (.ref r) (upd H r (.tup (xs ++ zs))))) := by
 refine propext ⟨fun h => ?_, fun ⟨xs, zs, h⟩ => ?_⟩
 ·rcases h with ⟨_, _, e, _⟩ | ⟨_, _, e, _⟩ | ⟨_, _, xs, zs, e1, e2, h⟩ | ⟨_, _, xs, zs, e1, e2, h⟩
  ·cases e
  ·cases e
  ·cases e1; cases e2; exact ⟨xs, zs, .inl h⟩
  ·cases e1; cases e2; exact ⟨xs, zs, .inr h⟩
 ·rcases h with h | h
  ·exact .inr (.inr (.inl ⟨p, q, xs, zs, rfl, rfl, h⟩))
  ·exact .inr (.inr (.inr ⟨p, q, xs, zs, rfl, rfl, h⟩))
end
theorem zb4 {X : Cx} : MtR X "list.append" zfI := zif
theorem zhl {X : Cx} : MtR X "list.extend" zfJ := zig
theorem Same.upd {H0 H : Hp} {p : Addr} {o : HO} (s : Same H0 H) (h : H0 p = none) : Same H0 (upd H p o) := fun b u q => by rw [zaE (zaD q h)]; exact s b u q
theorem zb8 {H : Hp} {p a : Addr} {o u : HO} (hn : H p = none) (h : H a = some u) : upd H p o a = some u := by rw [zaE (zaD h hn)]; exact h
inductive Bi where | and | or | thn
 deriving DecidableEq
def Bi.txt : Bi -> Str | .and => "and" | .or => "or" | .thn => "then"
def qtx : Bool -> Str | true => "all" | false => "some"
inductive Stm where
 | is (w : Str) (ts : List Str) | fls | neg (A : Stm) | bi (o : Bi) (A B : Stm) | qu (q : Bool) (X : Str) (A : Stm)
 deriving DecidableEq
namespace Stm
def deep : Stm -> Nat
 | .is _ _ => 1 | .fls => 1 | .neg A => A.deep + 1 | .bi _ A B => max A.deep B.deep + 1 | .qu _ _ A => A.deep + 1
def size : Stm -> Nat
 | .is _ _ => 1 | .fls => 1 | .neg A => A.size + 1 | .bi _ A B => A.size + B.size + 1 | .qu _ _ A => A.size + 1
def parts : Stm -> List Stm
 | .is _ _ => [] | .fls => [] | .neg A => [A] | .bi _ A B => [A, B] | .qu _ _ A => [A]
def tag : Stm -> Str
 | .is _ _ => "is" | .fls => "false" | .neg _ => "not" | .bi o _ _ => o.txt | .qu q _ _ => qtx q
theorem deep_pos (S : Stm) : 1 <= S.deep := by cases S <;> simp [deep]
end Stm
def smallS : Str := "abcdefghijklmnopqrstuvwxyz"
def ziv : Str := "ABCDEFGHIJKLMNOPQRSTUVWXYZ"
def sofS : Str := "abcdefghijklmnopqrstuvwxyz0123456789"
def keptW : List Str := ["not", "and", "or", "then", "all", "some", "false"]
def Nm (f x : Str) : Prop := ∃ c r, x.cps.toList = c :: r /\ c ∈ f.cps.toList /\ (∀ d ∈ r, d ∈ sofS.cps.toList) /\ r.length <= 7 /\ x ∉ keptW
def Stm.Ok : Stm -> Prop
 | .is w ts => Nm smallS w /\ ts.length <= 3 /\ ∀ t ∈ ts, Nm smallS t \/ Nm ziv t
 | .fls => True
 | .neg A => A.Ok
 | .bi _ A B => A.Ok /\ B.Ok
 | .qu _ X A => Nm ziv X /\ A.Ok
theorem Nm.len {f x : Str} (h : Nm f x) : x.length <= 8 /\ 1 <= x.length := by
 obtain ⟨c, r, e, _, _, h, _⟩ := h;have : x.length = x.cps.toList.length := by simp [Str.length]
 rw [this, e, List.length_cons];omega
def RepS (K : W.Frag) (H : Hp) : Stm -> V -> Prop
 | .is w ts, v => ∃ a b, v = .ref a /\ SqT K H a [.str "is", .str w, .ref b] /\ SqT K H b (ts.map V.str)
 | .fls, v => ∃ a, v = .ref a /\ SqT K H a [.str "false"]
 | .neg A, v => ∃ a u, v = .ref a /\ SqT K H a [.str "not", u] /\ RepS K H A u
 | .bi o A B, v => ∃ a u u', v = .ref a /\ SqT K H a [.str o.txt, u, u'] /\ RepS K H A u /\ RepS K H B u'
 | .qu q X A, v => ∃ a u, v = .ref a /\ SqT K H a [.str (qtx q), .str X, u] /\ RepS K H A u
theorem RepS.same {K : W.Frag} {H H' : Hp} (e : Same H H') : ∀ {S : Stm} {v : V}, RepS K H S v -> RepS K H' S v
 | .is _ _, _, ⟨a, b, h1, h2, h3⟩ => ⟨a, b, h1, e.seqT h2, e.seqT h3⟩
 | .fls, _, ⟨a, h1, h2⟩ => ⟨a, h1, e.seqT h2⟩
 | .neg _, _, ⟨a, u, h1, h2, h3⟩ => ⟨a, u, h1, e.seqT h2, RepS.same e h3⟩
 | .bi _ _ _, _, ⟨a, u, u', h1, h2, h3, h4⟩ => ⟨a, u, u', h1, e.seqT h2, RepS.same e h3, RepS.same e h4⟩
 | .qu _ _ _, _, ⟨a, u, h1, h2, h3⟩ => ⟨a, u, h1, e.seqT h2, RepS.same e h3⟩
theorem RepS.tag {K : W.Frag} {H : Hp} {S : Stm} {v : V} (h : RepS K H S v) : ∃ a xs, v = .ref a /\ SqT K H a (.str S.tag :: xs) := by
 cases S with
 | is w ts => obtain ⟨a, b, h1, h2, _⟩ := h; exact ⟨a, _, h1, h2⟩
 | fls => obtain ⟨a, h1, h2⟩ := h; exact ⟨a, _, h1, h2⟩
 | neg A => obtain ⟨a, u, h1, h2, _⟩ := h; exact ⟨a, _, h1, h2⟩
 | bi o A B => obtain ⟨a, u, u', h1, h2, _⟩ := h; exact ⟨a, _, h1, h2⟩
 | qu q X A => obtain ⟨a, u, h1, h2, _⟩ := h; exact ⟨a, _, h1, h2⟩
abbrev RepL (K : W.Frag) (H : Hp) : List Stm -> List V -> Prop := Paired (RepS K H)
theorem RepL.same {K : W.Frag} {H H' : Hp} (e : Same H H') {Ss : List Stm} {vs : List V} (h : RepL K H Ss vs) : RepL K H' Ss vs := Paired.mapP h fun _ _ => RepS.same e
theorem RepL.get {K : W.Frag} {H : Hp} : ∀ {Ss : List Stm} {vs : List V} {i : Nat} {v : V}, RepL K H Ss vs -> vs[i]? = some v -> ∃ S, Ss[i]? = some S /\ RepS K H S v
 | _, _, _, _, .nil, e => by simp at e
 | _, _, 0, _, .cons r _, e => by simp at e; subst e; exact ⟨_, rfl, r⟩
 | _, _, i + 1, x, .cons _ t, e => by
  obtain ⟨u, h1, h2⟩ := RepL.get (i := i) (v := x) t (by simpa using e);exact ⟨u, by simpa using h1, h2⟩
def zcE (ns : List Int) (k : Int) : Int := if k < (ns.length : Int) then ns.getD k.toNat 0 else 0
def znc (K : W.Frag) : Sp := fun vs H Q _ => ∃ (a : Addr) (ns : List Int) (k : Int), vs = [.ref a, .int k] /\ SqL K H a (ns.map V.int) /\ 0 <= k /\ Q (.int (zcE ns k)) H
theorem zlr {x y : Str} (h : x.cps.toList = y.cps.toList) : x = y := by
 cases x; cases y;simpa using h
theorem zdn (x y : Str) : (x ++ y).cps.toList = x.cps.toList ++ y.cps.toList := by
 rw [Str.cps_append]; simp
theorem zaM (x : Str) : x.cps.toList.length = x.length := by simp [Str.length]
theorem zjX (p q : Int) (a b : Nat) (hp : p = a) (hq : q = b) : sliceRange p q 1 = (List.range (b - a)).map fun k => a + k := by
 subst hp hq;unfold sliceRange;simp only [show (1 : Int) > 0 by decide, if_true]
 by_cases hab : a < b
 ·rw [if_pos ω];have e : (((b : Int) - a + 1 - 1) / 1).toNat = b - a := by omega
  rw [e];refine List.map_congr_left fun k _ => ?_;omega
 ·rw [if_neg ω, show b - a = 0 by omega]
  rfl
theorem zjY (lo hi : Option Int) (n : Nat) : Builtin.Str.strSliceIndices lo hi 1 n = (List.range (HT.sIx n n hi - HT.sIx n 0 lo)).map fun k => HT.sIx n 0 lo + k := by
 have cl : ∀ (v : Int) (d : Nat), max 0 (min (if v < 0 then v + (n : Int) else v) (n : Int)) = ((HT.sIx n d (some v) : Nat) : Int) := fun v d => by
  rw [<- HT.clip_eq]; split <;> omega
 refine zjX _ _ _ _ ?_ ?_
 ·cases lo with
  | none => rfl
  | some v => exact cl v 0
 ·cases hi with
  | none => rfl
  | some v => exact cl v n
theorem zdo (x : Str) (lo hi : Option Int) : (Txt.slice x lo hi).cps.toList = (x.cps.toList.drop (HT.sIx x.length 0 lo)).take (HT.sIx x.length x.length hi - HT.sIx x.length 0 lo) := by
 have hl := zaM x;have ha : HT.sIx x.length 0 lo <= x.length := HT.sIx_le _ 0 (yaq _) lo;have hb : HT.sIx x.length x.length hi <= x.length := HT.sIx_le _ _ (yai _) hi;unfold Txt.slice;rw [zjY];generalize HT.sIx x.length 0 lo = a at *;generalize HT.sIx x.length x.length hi = b at *
 split
 ·rename_i h
  simp at h;have : a = 0 /\ b = x.length \/ x.length = 0 := by omega
  rcases this with ⟨rfl, rfl⟩ | h0
  ·rw [List.drop_zero, Nat.sub_zero, List.take_of_length_le ω]
  ·have : x.cps.toList = [] := List.eq_nil_of_length_eq_zero ω;rw [this]; simp
 ·by_cases hab : a <= b
  ·have h := StrLaws.picks x.cps.toList (b - a) a (by rw [hl]; omega);rw [<- h];simp only [List.toList_toArray]
   congr 1
   funext k
   simp
  ·rw [show b - a = 0 by omega]; simp
theorem zhm (x : Str) (n : Nat) : (Txt.slice x (some (n : Int)) none).cps.toList = x.cps.toList.drop n := by
 have hl := zaM x;rw [zdo, HT.sIx_nat, HT.sIx_none];rw [List.take_of_length_le (by rw [List.length_drop]; omega)]
 by_cases h : n <= x.length
 ·rw [Nat.min_eq_left h]
 ·rw [List.drop_eq_nil_of_le ω, List.drop_eq_nil_of_le ω]
theorem zne {x : Str} {i : Int} {P : Nat -> Prop} (h : 0 < x.length) (k : ∀ c ∈ x.cps.toList, P c) : ∃ c, atI x.cps.toList (i % (x.length : Int)) = some c /\ P c := by
 have e := zaM x;obtain ⟨c, hc', hc⟩ := zjO (xs := x.cps.toList) (i := i % (x.length : Int)) (yao _ ω) (by rw [e]; exact yak _ ω);exact ⟨c, hc, k c hc'⟩
theorem cdiv {i j : Int} (h : 0 < j := by decide) (h2 : j < 1073741824 := by decide) : CDiv i j := ⟨h, h2⟩
theorem zoD {i j : Int} (h : -(2 ^ 64) < j /\ j < 2 ^ 64 := by decide) : CMul i j := .inr h
theorem zg4 {ns : List Int} {i : Int} (h0 : 0 <= i) (h1 : i < (ns.length : Int)) : atI (ns.map V.int) i = some (.int (ns.getD i.toNat 0)) := by
 have hk : i.toNat < ns.length := by omega
 rw [zel (d := .int 0) h0 (by simpa using h1)];simp [hk]
theorem zoE {ts : List Str} {i : Int} (h0 : 0 <= i) (h1 : i < (ts.length : Int)) : ∃ z, z ∈ ts /\ atI (ts.map V.str) i = some (.str z) := by
 have hk : i.toNat < ts.length := by omega
 refine ⟨ts[i.toNat], List.getElem_mem hk, ?_⟩;rw [zel (d := .non) h0 (by simpa using h1)];simp [hk]
theorem zls {ts : List Int} {i : Int} (h0 : 0 <= i) (h1 : i < (ts.length : Int)) : ∃ z, z ∈ ts /\ atI (ts.map V.int) i = some (.int z) := by
 have hk : i.toNat < ts.length := by omega
 refine ⟨ts[i.toNat], List.getElem_mem hk, ?_⟩;rw [zel (d := .non) h0 (by simpa using h1)];simp [hk]
theorem zdp (c : Nat) (x : Str) : inS ⟨#[c]⟩ x = decide (c ∈ x.cps.toList) := StrLaws.found_one x c
theorem zeU {S A : Stm} {i : Nat} (h : S.parts[i]? = some A) : A.deep < S.deep := by
 have m := ya1 h;cases S with
 | is w ts => simp [Stm.parts] at m
 | fls => simp [Stm.parts] at m
 | neg B => simp [Stm.parts] at m; subst m; simp [Stm.deep]
 | bi o B C => simp [Stm.parts] at m; rcases m with rfl | rfl <;> simp only [Stm.deep] <;> omega
 | qu q X B => simp [Stm.parts] at m; subst m; simp [Stm.deep]
def zlt (K : W.Frag) : Sp := fun vs H Q _ => ∃ v S, vs = [v] /\ RepS K H S v /\ ∀ p us H', Same H H' -> SqT K H' p us -> RepL K H' S.parts us -> Q (.ref p) H'
theorem zfO (o : Bi) : inV (.str o.txt) [V.str "all", V.str "some"] = false := by cases o <;> decide +kernel
theorem zjZ (q : Bool) : inV (.str (qtx q)) [V.str "all", V.str "some"] = true := by cases q <;> decide +kernel
theorem zhn (o : Bi) : ¬ o.txt = "is" := by cases o <;> decide +kernel
theorem zkB (o : Bi) : ¬ o.txt = "all" := by cases o <;> decide +kernel
theorem ziw (o : Bi) : ¬ o.txt = "some" := by cases o <;> decide +kernel
theorem zho (q : Bool) : ¬ qtx q = "is" := by cases q <;> decide +kernel
section
variable {X : Cx} {K : W.Frag} {H : Hp} {Q : VK} {p q : Addr}
def znf (K : W.Frag) : V -> List V -> Hp -> VK -> Prop := fun x vs H Q => ∃ (sep : Str) (p : Addr) (ys : List Str), x = .str sep /\ vs = [.ref p] /\ (SqL K H p (ys.map V.str) \/ SqT K H p (ys.map V.str)) /\ (ys.map (·.length)).sum + ys.length * sep.length <= 16777216 /\ Q (.str (Txt.join sep ys)) H
theorem zlu {sep : Str} : znf K (.str sep) [.ref p] H Q = ∃ ys : List Str, (SqL K H p (ys.map V.str) \/ SqT K H p (ys.map V.str)) /\ (ys.map (·.length)).sum + ys.length * sep.length <= 16777216 /\ Q (.str (Txt.join sep ys)) H := by
 refine propext ⟨fun ⟨_, _, ys, e1, e2, h⟩ => ?_, fun ⟨ys, h⟩ => ⟨sep, p, ys, rfl, rfl, h⟩⟩;cases e1; cases e2; exact ⟨ys, h⟩
end
inductive EqD (K : W.Frag) (H : Hp) : Nat -> V -> V -> Bool -> Prop
 | flat {n : Nat} {x y : V} (hx : zbG x = true) (hy : zbG y = true) : EqD K H n x y (eqV x y)
 | tups {n : Nat} {a b : Addr} {xs ys : List V} (e : Nat -> Bool) (ha : SqT K H a xs) (hb : SqT K H b ys) (he : ∀ (j : Nat) x y, xs[j]? = some x -> ys[j]? = some y -> EqD K H n x y (e j)) :
   EqD K H (n + 1) (.ref a) (.ref b) ((List.range (min xs.length ys.length)).all e && xs.length == ys.length)
 | lsts {n : Nat} {a b : Addr} {xs ys : List V} (e : Nat -> Bool) (ha : SqL K H a xs) (hb : SqL K H b ys) (hl : xs.length = ys.length) (he : ∀ (j : Nat) x y, xs[j]? = some x -> ys[j]? = some y -> EqD K H n x y (e j)) :
   EqD K H (n + 1) (.ref a) (.ref b) ((List.range xs.length).all e)
 | lstsN {n : Nat} {a b : Addr} {xs ys : List V} (ha : SqL K H a xs) (hb : SqL K H b ys) (hl : xs.length ≠ ys.length) : EqD K H (n + 1) (.ref a) (.ref b) false
 | strTup {n : Nat} {a : Addr} {x : Str} {xs : List V} (ha : SqT K H a xs) : EqD K H (n + 1) (.str x) (.ref a) false
 | tupStr {n : Nat} {a : Addr} {x : Str} {xs : List V} (ha : SqT K H a xs) : EqD K H (n + 1) (.ref a) (.str x) false
 | nonTup {n : Nat} {a : Addr} {xs : List V} (ha : SqT K H a xs) : EqD K H (n + 1) .non (.ref a) false
 | tupNon {n : Nat} {a : Addr} {xs : List V} (ha : SqT K H a xs) : EqD K H (n + 1) (.ref a) .non false
section
variable {X : Cx} {Qa : ZP} {σ : St} {H : Hp} {s : Shared}
theorem getD_some {xs : List V} {its : List Value} (r : Vals xs its) {j : Nat} (h : j < its.toArray.size) : ∃ x, xs[j]? = some x /\ RelV x its.toArray[j] := by
 have h' : j < its.length := by simpa using h
 have hx : j < xs.length := by rw [r.length]; exact h'
 obtain ⟨u, e, ru⟩ := r.get (i := j) (x := xs[j]) (by simp [hx]);have : its[j]? = some its[j] := by simp [h']
 rw [this] at e;cases e;exact ⟨xs[j], by simp [hx], by simpa using ru⟩
end
section
variable {X : Cx} {K : W.Frag} {H : Hp} {Q : VK} {p q : Addr} {i j : Int} {x y : Str}
def rEqD (K : W.Frag) : R2 := fun x y H Q => ∃ d b, d <= 60 /\ (zbG x = false \/ zbG y = false) /\ EqD K H d x y b /\ Q (.bl b) H
def rEqB (K : W.Frag) : R2 := fun x y H Q => rEq x y H Q \/ rEqD K x y H Q
theorem zpb {u : V} : rEqB K (.ref p) u H Q = ∃ d b, d <= 60 /\ EqD K H d (.ref p) u b /\ Q (.bl b) H := by
 refine propext ⟨fun h => ?_, fun ⟨d, b, hd, h, k⟩ => .inr ⟨d, b, hd, .inl rfl, h, k⟩⟩;rcases h with ⟨e, _⟩ | ⟨d, b, hd, _, h, k⟩
 ·cases u <;> cases e
 ·exact ⟨d, b, hd, h, k⟩
theorem zpc {u : V} : rEqB K u (.ref p) H Q = ∃ d b, d <= 60 /\ EqD K H d u (.ref p) b /\ Q (.bl b) H := by
 refine propext ⟨fun h => ?_, fun ⟨d, b, hd, h, k⟩ => .inr ⟨d, b, hd, .inr rfl, h, k⟩⟩;rcases h with ⟨e, _⟩ | ⟨d, b, hd, _, h, k⟩
 ·cases u <;> cases e
 ·exact ⟨d, b, hd, h, k⟩
inductive TyB (K : W.Frag) (H : Hp) : V -> Value -> Prop where
 | of {x : V} {t : Value} (h : TyOf K H x t) : TyB K H x t
 | tup {a : Addr} {xs : List V} (h : SqT K H a xs) : TyB K H (.ref a) (.type "tuple")
 | lst {a : Addr} {xs : List V} (h : SqL K H a xs) : TyB K H (.ref a) (.type "list")
def zdq (K : W.Frag) (T : String) : List V -> Hp -> VK -> Prop := fun vs H Q => ∃ x t b, vs = [x, .ty T] /\ TyB K H x t /\ W.kitOne K t (.type T) = some b /\ Q (.bl b) H
theorem call_instB {T : String} : zaN X (.builtin "isinstance") (zdq X.K T) := by
 intro Qa s σ H xs us Q I r h;obtain ⟨x, t, b, rfl, ty, e, q⟩ := h;cases ty with
 | of ty => exact zim Qa s σ H _ us Q I r ⟨x, t, b, rfl, ty, e, q⟩
 | tup hq =>
  obtain ⟨u, u2, rfl, rx, r2⟩ := zjG r;cases (show u2 = Value.type T from r2);cases rx;obtain ⟨its, _, ⟨o, h1, h2, _⟩, _⟩ := I.tuple hq;exact W.kia_one W.kitx_tuple I.kIn ⟨o, h1, h2⟩ e (fun z => nomatch z) fun tk => ⟨.bl b, H, I.tok tk, rfl, q⟩
 | lst hq =>
  obtain ⟨u, u2, rfl, rx, r2⟩ := zjG r;cases (show u2 = Value.type T from r2);cases rx;obtain ⟨its, _, pl, _⟩ := I.list hq;obtain ⟨o, h1, h2, _⟩ := pl.isList;exact W.kia_one W.kitx_list I.kIn ⟨o, h1, h2⟩ e (fun z => nomatch z) fun tk => ⟨.bl b, H, I.tok tk, rfl, q⟩
theorem zhp (K : W.Frag) (T : String) (hK : X.K = K := by rfl) : zaN X (.builtin "isinstance") (zdq K T) := hK ▸ (call_instB : zaN X (.builtin "isinstance") (zdq X.K T))
theorem zhq {T : String} : zdq K T [.int i, .ty T] H Q = ∃ b, W.kitOne K (.type "int") (.type T) = some b /\ Q (.bl b) H := by
 refine propext ⟨fun ⟨_, _, b, e, t, h⟩ => ?_, fun ⟨b, h⟩ => ⟨_, _, b, rfl, .of (.int i), h⟩⟩;cases e;rcases t with t | t | t
 cases t; exact ⟨b, h⟩
theorem zhr {T : String} : zdq K T [.str x, .ty T] H Q = ∃ b, W.kitOne K (.type "str") (.type T) = some b /\ Q (.bl b) H := by
 refine propext ⟨fun ⟨_, _, b, e, t, h⟩ => ?_, fun ⟨b, h⟩ => ⟨_, _, b, rfl, .of (.str x), h⟩⟩;cases e;rcases t with t | t | t
 cases t; exact ⟨b, h⟩
theorem zka {T : String} : zdq K T [.ref p, .ty T] H Q = ∃ t b, TyB K H (.ref p) t /\ W.kitOne K t (.type T) = some b /\ Q (.bl b) H := by
 refine propext ⟨fun ⟨_, t, b, e, ty, h⟩ => ?_, fun ⟨t, b, ty, h⟩ => ⟨_, t, b, rfl, ty, h⟩⟩;cases e; exact ⟨t, b, ty, h⟩
end
section
variable {t : SetTable} {es : Array (Int × Value)} {h : Int} {x : Value} {n : Nat}
theorem zem : (t.orStandIn n).led = t.led := by unfold SetTable.orStandIn; split <;> rfl
theorem zdr (p : t.plain = false) : (t.orStandIn n).plain = false := by unfold SetTable.orStandIn; split; exact p; rfl
theorem zhs : (layNew t es h x).2.1.led = t.led := by
 unfold layNew
 split
 ·exact zem
 ·rfl
theorem zeV (p : t.plain = false) : (layNew t es h x).2.1.plain = false := by
 unfold layNew
 split
 ·exact zdr p
 ·rfl
theorem zcP {hs : Array Int} {wanted : Nat} {t' : SetTable} {order : Array Nat} (e : t.relaid hs wanted = some (t', order)) : t'.led = t.led /\ t'.plain = t.plain := by
 unfold SetTable.relaid SetTable.laid at e;cases q : SetTable.layClean (SetTable.sizeAbove wanted - 1) hs with
 | none => rw [q] at e; cases e
 | some owner => rw [q] at e; cases e; exact ⟨rfl, rfl⟩
theorem zeW {wanted : Nat} : (relayAll t es wanted).2.1.led = t.led := by
 unfold relayAll
 split
 ·rename_i t' order e
  dsimp only
  split
  ·exact (zcP e).1
  ·rfl
 ·rfl
theorem zdH {wanted : Nat} (p : t.plain = false) : (relayAll t es wanted).2.1.plain = false := by
 unfold relayAll
 split
 ·rename_i t' order e
  dsimp only
  split
  ·exact (zcP e).2.trans p
  ·rfl
 ·rfl
end
def svT : Value -> Str
 | .str x _ => x
 | _ => ""
def zby (es : Array (Int × Value)) : List Str := es.toList.map fun e => svT e.2
def zbS (w : World) : Bool := w.params.followText "set-order"
def SetS (prog : Program) (w : World) (h : Heap) (a : Addr) (us : List Str) : Prop :=
 ∃ o es ep tb, h.get? a = some o /\ o.ExactSet /\ o.data = .set es ep tb /\ ElemsOf (PySem.strKind prog w) es.toList /\ zby es = us /\ us.Nodup /\ es.size < scanBound /\ tb.fits es.size = true /\ tb.led = !zbS w /\ (us ≠ [] -> tb.plain = false)
theorem zkC {prog : Program} {w : World} {x : Str} {v : Value} (e : (PySem.strKind prog w).is x v = true) : svT v = x := by
 obtain ⟨t, rfl⟩ := Value.isStrOf_shape e
 rfl
theorem zkD {prog : Program} {w : World} (x : Str) (t : Tok) : (PySem.strKind prog w).is x (.str x t) = true := ze9 x t
theorem SetS.at {prog : Program} {w : World} {h h' : Heap} {a : Addr} {us : List Str} (s : SetS prog w h a us) (k : ∀ o, h.get? a = some o -> h'.get? a = some o) : SetS prog w h' a us := by
 obtain ⟨o, es, ep, tb, ho, r⟩ := s;exact ⟨o, es, ep, tb, k o ho, r⟩
theorem zc0 {prog : Program} {w : World} {x : Str} : ∀ {l : List (Int × Value)}, ElemsOf (PySem.strKind prog w) l -> ((∃ e ∈ l, (PySem.strKind prog w).is x e.2 = true) ↔ x ∈ l.map fun e => svT e.2) := by
 intro l hl
 constructor
 ·rintro ⟨e, he, q⟩
  rw [ya6];exact ⟨e, he, zkC q⟩
 ·intro hx;obtain ⟨e, he, q⟩ := ya6.mp hx;obtain ⟨⟨k, hk, _⟩, _⟩ := hl e he;have := zkC hk;rw [q] at this;subst this;exact ⟨e, he, hk⟩
section
variable {prog : Program} {w : World} {A : Around} {E : ZQ} {s : Shared}
theorem SetS.stored {hp : Heap} {a : Addr} {o : Obj} {es es1 : Array (Int × Value)} {ep : Nat} {t t1 : SetTable} (ho : hp.get? a = some o) (hx : o.ExactSet) (hd : o.data = .set es ep t)
  (hel : ElemsOf (PySem.strKind prog w) es1.toList) (nd : (zby es1).Nodup) (hb : es1.size < scanBound) (hf : t1.fits es1.size = true) (hl : t1.led = !zbS w) (hp1 : t1.plain = false) :
  SetS prog w (hp.update a (Obj.putSet es1 t1)) a (zby es1) /\ (hp.update a (Obj.putSet es1 t1)).get? a = some { o with data := .set es1 (ep + 1) t1 } := by
 have g := (SetOf_store (knd := PySem.strKind prog w) (S' := fun k => decide (∃ e ∈ es1.toList, (PySem.strKind prog w).is k e.2 = true)) ho hx hd hel (fun k => by rw [decide_eq_true_eq]) hb hf).1;exact ⟨⟨_, es1, ep + 1, t1, g, hx, rfl, hel, rfl, nd, hb, hf, hl, fun _ => hp1⟩, g⟩
theorem zht {es es1 : Array (Int × Value)} (p : List.Perm es1.toList es.toList) : List.Perm (zby es1) (zby es) := p.map _
theorem zfP {a : Addr} {us : List Str} {x : Str} {tk : Tok} {Q : Bool -> Shared -> Prop} (hS : SetS prog w s.heap a us) (hroom : us.length + 1 < scanBound)
  (yes : x ∈ us -> Q false s) (no : x ∉ us -> ∀ hp us', Heap.SameBut a s.heap hp -> List.Perm us' (us ++ [x]) -> SetS prog w hp a us' -> Q true { s with heap := hp }) :
  wpAny (model prog w) A (setAddHashed a (.str x tk) ((PySem.strKind prog w).hash x)) Q E s := by
 obtain ⟨o, es, ep, tb, ho, hex, hd, hel, hus, nd, hb, hf, hl, hpl⟩ := hS;have hkey : (PySem.strKind prog w).is x (.str x tk) = true := zkD x tk;have hsc : (Value.str x tk).scannable = true := rfl;have Qe : us.length = es.size := by rw [<- hus]; simp [zby]
 unfold setAddHashed setAddHashedIn;refine wpAny_holding (yaa (wpAny_setState_of ho hd hf ?_));dsimp only;rw [byScan_of hsc hb hel, if_pos rfl];unfold setAddByScan;refine yaa (yaa (wpAny_rule (yaa (wpAny_setScan_of hkey ho hd hf hel ?_))));cases hr : List.findIdx? (fun e => (PySem.strKind prog w).is x e.2) es.toList with
 | some j =>
  dsimp only;obtain ⟨hj, q, _⟩ := List.findIdx?_eq_some_iff_getElem.mp hr;have hm : x ∈ us := by rw [<- hus]; exact (zc0 hel).mp ⟨_, List.getElem_mem hj, q⟩
  exact yab (yab (yes hm))
 | none =>
  dsimp only;have hm : x ∉ us := fun hm => by
   rw [<- hus] at hm;obtain ⟨e, he, q⟩ := (zc0 hel).mpr hm;have z := List.findIdx?_eq_none_iff.mp hr e he;rw [q] at z;cases z
  have gw : ∀ (b : Bool) {s₁ : Shared} {Q' : Unit -> Shared -> Prop}, Q' () s₁ -> wpAny (model prog w) A (match b with | true => rule "set.scan.the-table-gave-way" | false => pure ()) Q' E s₁ := fun b s₁ Q' hq => by
   cases b
   ·exact yab hq
   ·exact wpAny_rule hq
  have p1 := layNew_perm tb es ((PySem.strKind prog w).hash x) (.str x tk);have f1 := layNew_fits tb es ((PySem.strKind prog w).hash x) (.str x tk);have l1' := zhs (t := tb) (es := es) (h := (PySem.strKind prog w).hash x) (x := .str x tk);have g1 := zeV (t := tb) (es := es) (h := (PySem.strKind prog w).hash x) (x := .str x tk);generalize layNew tb es ((PySem.strKind prog w).hash x) (.str x tk) = L at p1 f1 l1' g1 ⊢;obtain ⟨es1, t1, wd, gave⟩ := L;dsimp only at p1 f1 l1' g1 ⊢;rw [Array.toList_push] at p1;have el1 : ElemsOf (PySem.strKind prog w) es1.toList := (hel.push hkey hsc).perm p1;have pu : List.Perm (zby es1) (us ++ [x]) := by
   have := p1.map fun e => svT e.2;rw [ya0, List.map_singleton] at this;rw [<- hus];exact this
  have nd1 : (zby es1).Nodup := pu.nodup_iff.mpr (List.nodup_append.mpr ⟨nd,ς, fun y hy z hz => by
   rw [yah] at hz;subst hz;exact fun e => hm (e ▸ hy)⟩)
  have sz1 : es1.size = es.size + 1 := by rw [<- Array.length_toList, p1.length_eq, yae, Array.length_toList]; rfl
  have b1 : es1.size < scanBound := by omega
  refine yaa (gw _ ?_);have go : ∀ t2 : SetTable, t2.fits es1.size = true -> t2.led = !zbS w -> t2.plain = false -> wpAny (model prog w) A (do
    storeSet a es1 t2
    if (!wd && t2.tooFull) = true then do
      (match (relayAll t2 es1 (SetTable.grown es1.size)).2.2 with | true => rule "set.scan.the-table-gave-way" | false => pure ())
      storeSet a (relayAll t2 es1 (SetTable.grown es1.size)).1 (relayAll t2 es1 (SetTable.grown es1.size)).2.1
      pure (some true)
     else pure (some true)) (fun r s' => r = some true /\ Q true s') E s := fun t2 f2 l2' g2 => by
   refine yaa (wpAny_storeSet_of ho hd ?_ (fits_of_scanBound b1));obtain ⟨S1, o1⟩ := SetS.stored (prog := prog) (w := w) ho hex hd el1 nd1 b1 f2 l2' g2;have sb1 := Heap.SameBut.update s.heap a (Obj.putSet es1 t2)
   split
   ·have p3 := relayAll_perm t2 es1 (SetTable.grown es1.size);have f3 := relayAll_fits t2 es1 (SetTable.grown es1.size);have l3 := zeW (t := t2) (es := es1) (wanted := SetTable.grown es1.size);have g3 := zdH (t := t2) (es := es1) (wanted := SetTable.grown es1.size) g2;generalize relayAll t2 es1 (SetTable.grown es1.size) = R3 at p3 f3 l3 g3 ⊢;obtain ⟨es2, t3, gave2⟩ := R3;dsimp only at p3 f3 l3 g3 ⊢;have sz2 : es2.size = es1.size := by rw [<- Array.length_toList, p3.length_eq, Array.length_toList]
    have p4 := zht p3;refine yaa (gw _ (yaa (wpAny_storeSet_of o1 rfl ?_ (fits_of_scanBound ω))));obtain ⟨S2, _⟩ := SetS.stored (prog := prog) (w := w) o1 hex rfl (el1.perm p3) (p4.nodup_iff.mpr nd1) ω f3 (l3.trans l2') g3;exact yab ⟨rfl, no hm _ _ (sb1.trans (Heap.SameBut.update _ a _)) (p4.trans pu) S2⟩
   ·exact yab ⟨rfl, no hm _ _ sb1 pu S1⟩
  split
  ·refine yaa ?_;rw [hashByValue_scannable 8 hsc];refine yab (wpAny_mono (go _ (SetTable.fits_plain_off f1) (l1'.trans hl) rfl) (fun r s' h => ?_) fun _ _ h => h);obtain ⟨rfl, h⟩ := h;exact yab h
  ·rename_i hq
   refine yaa (yab ?_);rw [if_pos rfl];refine wpAny_mono (go _ f1 (l1'.trans hl) (by simpa using hq)) (fun r s' h => ?_) fun _ _ h => h;obtain ⟨rfl, h⟩ := h;exact yab h
abbrev za6 (w : World) : Obj := { cls := .type "set", dict := none, data := .set #[] 0 (.fresh 0 0 (!zbS w)) }
theorem zfQ {hp : Heap} {a : Addr} (e : hp.get? a = some (za6 w)) : SetS prog w hp a [] :=
 ⟨_, #[], 0, _, e, ⟨rfl, rfl, rfl⟩, rfl, fun x hx => by simp at hx, rfl, List.nodup_nil,δ,ρ, rfl, fun z => absurd rfl z⟩
theorem zds (x : Value) {Q : ZQ} (h : Q (.ref s.heap.objs.size) { s with heap := s.heap.push (za6 w) }) :
  codeAny (model prog w) A (.call (.builtin "set.__new__") ⟨[.type "set", x], []⟩) (wants Q E) s := by
 apply codeAny_of_tree;show wpAny _ A.in1 (checkBuiltinCall "set.__new__" ⟨[.type "set", x], []⟩ >>= fun _ => again (.builtin "set.__new__" ⟨[.type "set", x], []⟩)) _ _ s;apply yaa;apply wpAny_of_eq (PySem.F.newCall_set_1 x);refine yab ⟨plainId_quiet PySem.F.plain_set_new _, codeAny_builtin PySem.F.entry_set_new ?_⟩;rw [show A.under (.builtin "set.__new__" ⟨[.type "set", x], []⟩) = A.in1 from Around.under_plainId PySem.F.plain_set_new _];unfold Builtin.«set.__new__»; unfold Builtin.Frozenset.newClass;have sub := PySem.F.called_set.sub;obtain ⟨hp, g, d, tk, os⟩ := s;dsimp only; wp_walk;apply wpAny_askSetting; apply yab;dsimp only; simp only [newObj];exact yaa (wpAny_alloc (yab (yab h)))
end
section
variable {prog : Program} {w : World} {A : Around} {R : Result -> Shared -> Prop} {I : Addr} {fp wr : List Addr} {G : Array GenState -> Array GenState -> Prop} {n : Nat} {P : Nat -> Value -> Prop} {St : Nat -> Shared -> Prop}
theorem zkb (W : WalksS prog w A.in1 I fp wr G n P St) {S : Addr} (hSf : S ∉ fp) (val : Nat -> Str) (hval : ∀ i v, P i v -> ∃ t, v = .str (val i) t) (hb : n + 1 < scanBound) :
  ∀ (k i : Nat) (s : Shared) (us : List Str), n - i = k -> i <= n -> St i s -> SetS prog w s.heap S us -> us.length <= i -> (∀ x, x ∈ us ↔ ∃ j, j < i /\ val j = x) ->
   (∀ s' us', Moved (S :: wr) G s s' -> SetS prog w s'.heap S us' -> us'.length <= n -> (∀ x, x ∈ us' ↔ ∃ j, j < n /\ val j = x) -> R (.ok (.ret .none)) s') ->
   codeAny (model prog w) A (.builtin "set.update.loop" ⟨[.ref S, .ref I], []⟩) R s := by
 have hSw : S ∉ wr := fun q => hSf (W.sub _ q);have sub : ∀ b ∈ wr, b ∈ S :: wr := fun b q => List.mem_cons_of_mem _ q;intro k
 induction k with
 | zero =>
  intro i s us hk hi st hS Qe hmem hR;obtain rfl : i = n := by omega
  apply codeAny_builtin PyProof.Rows.F.entry_set_update_loop;rw [Around.under_plainId PyProof.Rows.F.plain_set_update_loop _];show wpAny _ A.in1 (pyNext (.ref I) >>= _) _ _ s;apply yaa;refine W.done s _ _ st fun s' hm => ?_;show wpAny _ A.in1 (ret Value.none) _ _ s';exact yab (hR s' us (hm.mono sub) (hS.at fun o ho => hm.heap S o hSw ho) Qe hmem)
 | succ k ih =>
  intro i s us hk hi st hS Qe hmem hR;have hlt : i < n := by omega
  apply codeAny_builtin PyProof.Rows.F.entry_set_update_loop;rw [Around.under_plainId PyProof.Rows.F.plain_set_update_loop _];show wpAny _ A.in1 (pyNext (.ref I) >>= _) _ _ s;apply yaa;refine W.item i s _ _ hlt st fun v s' hP st' hm => ?_;obtain ⟨t, rfl⟩ := hval i v hP;have hS' : SetS prog w s'.heap S us := hS.at fun o ho => hm.heap S o hSw ho;show wpAny _ A.in1 (holding [Value.str (val i) t] (setAdd S (.str (val i) t)) >>= _) _ _ s';apply yaa; apply wpAny_holding;unfold setAdd;apply wpAny_holding; apply yaa;refine (PySem.strKind prog w).pyHash (k := val i) (zkD _ _) ?_;have step : ∀ (hp : Heap) (us' : List Str), Heap.SameBut S s'.heap hp -> SetS prog w hp S us' -> us'.length <= i + 1 -> (∀ x, x ∈ us' ↔ ∃ j, j < i + 1 /\ val j = x) ->
    wpAny (model prog w) A.in1 (again (.builtin "set.update.loop" ⟨[.ref S, .ref I], []⟩)) (fun fin s₂ => match fin with | .done f => R (.ok f) s₂ | .again c => c.quiet = true /\ codeAny (model prog w) A c R s₂) (fun e s₂ => R (.error e) s₂) { s' with heap := hp, toks := s'.toks + 1 } := fun hp us' sb S2 l2 m2 => by
   refine yab ⟨plainId_quiet PyProof.Rows.F.plain_set_update_loop _, ih (i + 1) _ us' ω hlt (W.frame _ s' _ _ st' (Nat.le_succ _) fun b q o e => ?_) S2 l2 m2 fun s'' us2 hm2 S3 l3 m3 => ?_⟩
   ·exact (sb.2 b fun z : b = S => hSf (z ▸ q)).trans e
   ·exact hR s'' us2 (Moved.trans W.gtrans ((hm.mono sub).then_heap (Nat.le_succ _) fun b o q e => (sb.2 b fun z : b = S => q (z ▸ List.mem_cons_self)).trans e) hm2) S3 l3 m3
  refine zfP (s := { s' with toks := s'.toks + 1 }) hS' ω (fun hx => ?_) fun hx hp us' sb pu S2 => ?_
  ·exact step s'.heap us (Heap.SameBut.refl S s'.heap) hS' ω fun x => by
    rw [hmem]
    constructor
    ·rintro ⟨j, hj, e⟩; exact ⟨j,ω, e⟩
    ·rintro ⟨j, hj, e⟩
     by_cases q : j = i
     ·subst q; exact (hmem x).mp (e ▸ hx)
     ·exact ⟨j,ω, e⟩
  ·refine step hp us' sb S2 (by rw [pu.length_eq, yae]; simp; omega) fun x => ?_;rw [pu.mem_iff, yay, hmem, yah]
   constructor
   ·rintro (⟨j, hj, e⟩ | rfl)
    ·exact ⟨j,ω, e⟩
    ·exact ⟨i,ω, rfl⟩
   ·rintro ⟨j, hj, e⟩
    by_cases q : j = i
    ·subst q; exact .inr e.symm
    ·exact .inl ⟨j,ω, e⟩
end
section
variable {prog : Program} {w : World} {A : Around} {E : ZQ} {s : Shared}
theorem zix : ∀ {vs : List Value} {ts : List Str}, StrsAre vs ts -> ∀ (i : Nat) (v : Value), vs[i]? = some v -> ∃ t, v = .str (ts.getD i "") t
 | _, _, .nil, i, v, h => by simp at h
 | _, _, .cons x t r, 0, v, h => by simp at h; exact ⟨t, h ▸ rfl⟩
 | _, _, .cons x t r, i + 1, v, h => by
  obtain ⟨t', e⟩ := zix r i v (by simpa using h);exact ⟨t', by rw [e]; rfl⟩
def ziy (prog : Program) (w : World) (s : Shared) (ts : List Str) (s' : Shared) : Prop :=
 ∃ hp tk us, s' = { s with heap := hp, toks := tk } /\ SetS prog w hp s.heap.objs.size us /\ us.length <= ts.length /\ (∀ x, x ∈ us ↔ x ∈ ts) /\ ∀ b o, b < s.heap.objs.size -> s.heap.get? b = some o -> hp.get? b = some o
theorem zkc {ts : List Str} {x : Str} : (∃ j, j < ts.length /\ ts.getD j "" = x) ↔ x ∈ ts := by
 constructor
 ·rintro ⟨j, hj, e⟩
  rw [<- e, List.getD_eq_getElem?_getD, yal hj];exact List.getElem_mem hj
 ·intro hx;obtain ⟨j, hj, e⟩ := List.mem_iff_getElem.mp hx;exact ⟨j, hj, by rw [List.getD_eq_getElem?_getD, yal hj]; exact e⟩
set_option maxHeartbeats 8000000 in
theorem zen {l : Addr} {items : Array Value} {ts : List Str} {Q : ZQ} (hh : A.handled = none) (hl : s.heap.IsList l items) (hi : StrsAre items.toList ts) (hb : items.size + 1 < scanBound)
  (h : ∀ s', ziy prog w s ts s' -> Q (.ref s.heap.objs.size) s') : wpAny (model prog w) A (call (.type "set") [.ref l]) Q E s := by
 have Qe : ts.length = items.size := by have := hi.length; simpa using this.symm
 obtain ⟨c, tl, hmro⟩ := PySem.F.called_set.mro;have made := PySem.F.called_set.made;have sub := PySem.F.called_set.sub;apply wpAny_call; apply codeAny_of_tree;show wpAny _ _ (callAny (.type "set") _) _ _ _;apply yab; refine ⟨Code.quiet_builtin _ (by decide +kernel), codeAny_builtin PySem.F.entry_type_call ?_⟩;rw [show A.under (.builtin "type.__call__" ⟨.type "set" :: [.ref l], []⟩) = A.in1 from Around.under_plain (weight_type_call_type "set" [.ref l] []) rfl];have q1 := PySem.F.called_set.notType;have q2 := PySem.F.called_set.canCreate;have q3 := PySem.F.typeCall_set_1 (.ref l)
 repeat (any_goals (first | assumption | wp_step))
 refine codeAny_mono (zds (.ref l) (E := E) (Q := fun obj s₁ => obj = .ref s.heap.objs.size /\ s₁ = { s with heap := s.heap.push (za6 w) }) ⟨rfl, rfl⟩) fun r s₁ hr => ?_;cases r with
 | error e => exact hr
 | ok fl =>
  cases fl with
  | ret obj =>
   obtain ⟨rfl, rfl⟩ := hr;have hS : (s.heap.push (za6 w)).get? s.heap.objs.size = some (za6 w) := yaj _ rfl;have hT : Shared.TypeIs { s with heap := s.heap.push (za6 w) } (.ref s.heap.objs.size) "set" := ⟨_, hS, rfl⟩
   have li := PySem.F.called_set.init.lookup;have bi := PySem.F.called_set.init.bind (.ref s.heap.objs.size)
   repeat (any_goals (first | assumption | wp_step))
   refine codeAny_mono (codeAny_call_builtin (R := wants (fun r s₂ => r = .none /\ ziy prog w s ts s₂) E) PySem.F.called_set.init.plain PySem.F.entry_set_init (check_set_init_1 hT ?_)) fun r₂ s₂ hr₂ => ?_
   ·obtain ⟨⟨oc, od, odt, osl⟩, hol, hcl, nl, hdl⟩ := hl;simp only at hcl hdl;subst hcl; subst hdl;have hol' : (s.heap.push (za6 w)).get? l = some { cls := .type "list", dict := od, data := .seq items nl, slots := osl } := yac _ hol;have z1 := PySem.F.sub_list_set;have z2 := PySem.F.sub_list_frozenset;have z3 : (Value.type "list" == Value.type "dict") = false := by decide
    have isl : (s.heap.push (za6 w)).IsList l items := ⟨_, hol', rfl, nl, rfl⟩
    unfold Builtin.«set.__init__» noKeywords Builtin.Frozenset.updateFrom;generalize hPI : pyIter = PI
    wp_walk
    subst hPI;refine wpAny_pyIter_list isl (yaa (wpAny_runValue ?_));have hlS : l < s.heap.objs.size := yan hol;have a3 : A.in1.in1.in1.handled = none := by simp [hh]
    have sz : (s.heap.push (za6 w)).objs.size = s.heap.objs.size + 1 := Heap.size_push ..;have nI : l ≠ (s.heap.push (za6 w)).objs.size := Nat.ne_of_lt (by rw [sz]; exact Nat.lt_succ_of_lt hlS);have nf : s.heap.objs.size ∉ [(s.heap.push (za6 w)).objs.size, l] := by
     simp only [List.mem_cons, List.not_mem_nil, or_false, not_or];exact ⟨Nat.ne_of_lt (by rw [sz]; exact Nat.lt_succ_self _), Nat.ne_of_gt hlS⟩
    have hv : ∀ (i : Nat) (v : Value), items[i]? = some v -> ∃ t, v = .str ((fun i => ts.getD i "") i) t := fun i v e => zix hi i v (by rw [Array.getElem?_toList]; exact e);refine zkb ((Walks.list a3 _ l nI items).toS) nf (fun i => ts.getD i "") hv hb (items.size - 0) 0 _ [] ω (yaq _)
     ⟨⟨_, yaj _ rfl, rfl, rfl⟩, isl.push _⟩ (zfQ (yac _ hS)) (yaq _) (fun x => by simp) fun s' us' hm S' l' m' => ?_
    obtain ⟨hp, g', d', tk', os'⟩ := s';obtain rfl : g' = s.gens := hm.gens;obtain rfl : d' = s.drawn := hm.drawn;obtain rfl : os' = s.os := hm.os;show wpAny _ _ _ _ _ _;apply yab;show wpAny _ _ (ret Value.none) _ _ _;refine yab ⟨rfl, hp, tk', us', rfl, S',ω, fun x => (m' x).trans ?_, fun b o hb' e => ?_⟩
    ·rw [<- Qe]; exact zkc
    ·refine hm.heap b o ?_ (yac _ (yac _ e));simp only [List.mem_cons, List.not_mem_nil, or_false, not_or];exact ⟨Nat.ne_of_lt hb', Nat.ne_of_lt (by rw [sz]; exact Nat.lt_succ_of_lt hb')⟩
   ·cases r₂ with
    | error e => exact hr₂
    | ok fl₂ =>
     cases fl₂ with
     | ret r =>
      obtain ⟨rfl, hm⟩ := hr₂;obtain ⟨hp, tk, us, rfl, S', r1, r2, r3⟩ := id hm
      repeat (any_goals (first | assumption | wp_step))
      exact h _ hm
     | _ => exact hr₂.elim
  | _ => exact hr.elim
end
theorem zdI : entryFor table "set.__iter__" = some Builtin.«frozenset.__iter__» := entryFor_alias (id' := "frozenset.__iter__") (by kernel_rfl) rfl (by decide +kernel) (by kernel_rfl)
theorem zeo : entryFor table "set_iterator.__next__" = some Builtin.«set_iterator.__next__» := by first | exact entryFor_of_tree (by kernel_rfl) | exact entryFor_of_fast (by kernel_rfl)
theorem slot_si_next : Slot "set_iterator" "__next__" "set_iterator.__next__" :=
 .of (owner := "set_iterator") (n := "__next__") (by rw [typeLookup_type, builtinLookup_eq_fast]; kernel_rfl) (by decide +kernel) (by decide +kernel) (by decide +kernel) (by first | exact .inl (by decide +kernel) | exact .inr (by decide +kernel)) (by rw [isSubtype_type]; kernel_rfl)
theorem zeX (a : Value) : argsOk "set_iterator.__next__" ⟨[a], []⟩ := by unfold argsOk; kernel_rfl
theorem zep : entryFor table "set_iterator.__iter__" = some Builtin.«dict_keyiterator.__iter__» := entryFor_alias (id' := "dict_keyiterator.__iter__") (by kernel_rfl) rfl (by decide +kernel) (by kernel_rfl)
theorem zcQ : Slot "set_iterator" "__iter__" "set_iterator.__iter__" :=
 .of (owner := "set_iterator") (n := "__iter__") (by rw [typeLookup_type, builtinLookup_eq_fast]; kernel_rfl) (by decide +kernel) (by decide +kernel) (by decide +kernel) (by first | exact .inl (by decide +kernel) | exact .inr (by decide +kernel)) (by rw [isSubtype_type]; kernel_rfl)
theorem zeY (a : Value) : argsOk "set_iterator.__iter__" ⟨[a], []⟩ := by unfold argsOk; kernel_rfl
theorem zdJ : typeLookup (.type "set") "__len__" = pure (some (.builtin "set.__len__")) := by rw [typeLookup_type, builtinLookup_eq_fast]; kernel_rfl
abbrev zcF (first : Value) (i : Nat) (S : Addr) (n ep : Nat) : Obj := { cls := .type "set_iterator", data := .fields #[first, rawInt i, .ref S, rawInt n, rawInt ep] }
section
variable {prog : Program} {w : World} {A : Around} {E : ZQ} {s : Shared}
theorem ziz {M : Model} {a : Addr} {o : Obj} {vs : Array Value} {Q : Array Value -> Shared -> Prop} (ho : s.heap.get? a = some o) (hd : o.data = .fields vs) (h : Q vs s) : wpAny M A (fieldsOf (.ref a)) Q E s := by
 unfold fieldsOf;apply yaa; apply wpAny_load ho;rw [hd]; exact yab h
theorem zdt {α : Type} {Q : α -> Shared -> Prop} {E' : ZQ} (hh : A.handled = none)
  (h : ∀ hp, (∀ b o, s.heap.get? b = some o -> hp.get? b = some o) -> ∀ a ob, hp.get? a = some ob -> ob.cls = .type "StopIteration" -> E' (.ref a) { s with heap := hp }) :
  wpAny (model prog w) A (newExc (Value.type "StopIteration") [] >>= fun e => (raiseNew e : Sem α)) Q E' s := by
 apply yaa;simp only [newExc, newTuple];apply yaa;refine wpAny_newObj_type ?_ (by size_fits);apply yaa (m := firstArgMember _ _);refine wpAny_of_eq (a := Value.none) (by first | rfl | (simp only [firstArgMember]; rfl)) ?_;refine wpAny_newObj_type ?_ (by size_fits);simp only [raiseNew];apply yaa;refine wpAny_handled ?_;rw [hh];refine yaa (yab (wpAny_throw (h _ (fun b o e => yac _ (yac _ e)) _ _ (yaj _ rfl) rfl)))
theorem zg5 {hp : Heap} {I S : Addr} {first : Value} {i n ep : Nat} (hI : hp.get? I = some (zcF first i S n ep)) (k : Nat) (v : Value) (vs : Array Value)
  (e : (#[first, rawInt i, Value.ref S, rawInt n, rawInt ep] : Array Value).setIfInBounds k v = vs) :
  (hp.update I (Obj.mapFields (·.setIfInBounds k v))).get? I = some { cls := .type "set_iterator", data := .fields vs } := by
 subst e;exact Heap.get?_update_self _ hI (Obj.isFreed_of_fields (Obj.data_mapFields rfl _))
variable {I S T : Addr} {first : Value} {i n ep slot : Nat} {o : Obj} {es : Array (Int × Value)} {tb : SetTable} {Q : Option Value -> Shared -> Prop}
theorem zeq (hI : s.heap.get? I = some (zcF first i S n ep)) (ho : s.heap.get? S = some o) (hd : o.data = .set es ep tb) (hf : tb.fits es.size = true) (hn : es.size = n)
  (h : wpAny (model prog w) A.in1 (match first with
    | Value.int slot tok => do
     match <- setNext S slot.toNat i ep with
      | some (x, next) => do
       setField (Value.ref I) 0 (rawInt (next : Nat))
       setField (Value.ref I) 1 (rawInt ((i : Int) + 1))
       ret x
      | none => do
       setField (Value.ref I) 2 Value.none
       raiseNew (<- newExc (Value.type "StopIteration") [])
    | x => do
     match <- seqItems? first with
      | some places =>
       match places[i]? with
       | some (Value.int place tok) => do
        let x <- setNextDrawn S place.toNat ep
        setField (Value.ref I) 1 (rawInt ((i : Int) + 1))
        ret x
       | some val => unsupported "internal:set_iterator"
       | none => do
        setField (Value.ref I) 0 (rawInt 0)
        setField (Value.ref I) 2 Value.none
        raiseNew (<- newExc (Value.type "StopIteration") [])
      | x => unsupported "internal:set_iterator")
   (fun fin s' => ∃ x, fin = .done (.ret x) /\ Q (some x) s') (fun e s' => s'.TypeIs e "StopIteration" /\ Q none s') s) : wpAny (model prog w) A (pyNext (.ref I)) Q E s := by
 have ty : s.TypeIs (.ref I) "set_iterator" := ⟨_, hI, rfl⟩
 unfold pyNext;apply yaa; apply wpAny_attempt;refine wpAny_callSpecial?_slot (name := Str.ofString "__next__") ty slot_si_next (wpAny_call_entry slot_si_next ty zeo ?_ (zeX _));unfold Builtin.«set_iterator.__next__»;apply yaa;refine yab ?_;dsimp only;refine yaa (ziz hI rfl ?_);dsimp only [rawInt];refine yaa (wpAny_setEntries_of ho hd hf ?_);rw [hn, if_neg ς];refine wpAny_mono h (fun fin s' hq => ?_) fun e s' hq => ?_
 ·obtain ⟨x, rfl, hq⟩ := hq;exact ⟨x, rfl, yab hq⟩
 ·obtain ⟨ty, hq⟩ := hq;exact yaa (wpAny_isInstance (T := "StopIteration") (b := true) ty isSubtype_stop (yab hq))
theorem zi0 {slot nx : Nat} {x : Value} (hI : s.heap.get? I = some (zcF (rawInt slot) i S n ep)) (ho : s.heap.get? S = some o) (hd : o.data = .set es ep tb) (hf : tb.fits es.size = true) (hn : es.size = n)
  (hx : ∀ (E' : ZQ) (Q' : Option (Value × Nat) -> Shared -> Prop), Q' (some (x, nx)) s -> wpAny (model prog w) A.in1 (setNext S slot i ep) Q' E' s)
  (h : ∀ hp, hp.get? I = some (zcF (rawInt nx) (i + 1) S n ep) -> Heap.SameBut I s.heap hp -> Q (some x) { s with heap := hp }) : wpAny (model prog w) A (pyNext (.ref I)) Q E s := by
 refine zeq hI ho hd hf hn ?_;show wpAny _ _ (setNext S ((slot : Nat) : Int).toNat i ep >>= _) _ _ s;rw [ya4];apply yaa; apply hx;dsimp only;have h1 := zg5 hI 0 (rawInt (nx : Nat)) #[rawInt nx, rawInt i, .ref S, rawInt n, rawInt ep] rfl;refine yaa (wpAny_setField hI rfl ς ?_);refine yaa (wpAny_setField h1 rfl ς (yab ⟨x, rfl, ?_⟩));exact h _ (zg5 h1 1 (rawInt ((i : Int) + 1)) _ rfl) ((Heap.SameBut.update ..).trans (Heap.SameBut.update ..))
theorem zkE {slot : Nat} (hh : A.handled = none) (hI : s.heap.get? I = some (zcF (rawInt slot) i S n ep)) (ho : s.heap.get? S = some o) (hd : o.data = .set es ep tb) (hf : tb.fits es.size = true) (hn : es.size = n)
  (hx : ∀ (E' : ZQ) (Q' : Option (Value × Nat) -> Shared -> Prop), Q' none s -> wpAny (model prog w) A.in1 (setNext S slot i ep) Q' E' s)
  (h : ∀ hp, (∀ b o, b ≠ I -> s.heap.get? b = some o -> hp.get? b = some o) -> Q none { s with heap := hp }) : wpAny (model prog w) A (pyNext (.ref I)) Q E s := by
 refine zeq hI ho hd hf hn ?_;show wpAny _ _ (setNext S ((slot : Nat) : Int).toNat i ep >>= _) _ _ s;rw [ya4];apply yaa; apply hx;dsimp only;refine yaa (wpAny_setField hI rfl ς ?_);refine zdt hh fun hp hk a ob ha hc => ⟨⟨ob, ha, hc⟩, h hp fun b o hb e => hk b o ?_⟩
 exact (Heap.get?_update_other _ _ (Ne.symm hb)).trans e
theorem zlv {places : Array Value} {c p : Nat} {hsh : Int} {x : Value} (hI : s.heap.get? I = some (zcF (.ref T) i S n ep)) (hT : s.heap.get? T = some { cls := .type "tuple", data := .seq places c })
  (ho : s.heap.get? S = some o) (hd : o.data = .set es ep tb) (hf : tb.fits es.size = true) (hn : es.size = n) (hp : places[i]? = some (rawInt p)) (hx : es[p]? = some (hsh, x))
  (h : ∀ hp, hp.get? I = some (zcF (.ref T) (i + 1) S n ep) -> Heap.SameBut I s.heap hp -> Q (some x) { s with heap := hp }) : wpAny (model prog w) A (pyNext (.ref I)) Q E s := by
 refine zeq hI ho hd hf hn ?_;show wpAny _ _ (seqItems? (.ref T) >>= _) _ _ s;refine yaa (wpAny_seqItems hT rfl ?_);dsimp only;rw [hp];dsimp only [rawInt];unfold setNextDrawn;refine yaa (yaa (wpAny_setState_of ho hd hf ?_));dsimp only;rw [if_neg ς, ya4, hx];refine yab (yaa (wpAny_setField hI rfl ς (yab ⟨x, rfl, ?_⟩)));exact h _ (zg5 hI 1 (rawInt ((i : Int) + 1)) _ rfl) (Heap.SameBut.update ..)
theorem zng {places : Array Value} {c : Nat} (hh : A.handled = none) (hI : s.heap.get? I = some (zcF (.ref T) i S n ep)) (hT : s.heap.get? T = some { cls := .type "tuple", data := .seq places c })
  (ho : s.heap.get? S = some o) (hd : o.data = .set es ep tb) (hf : tb.fits es.size = true) (hn : es.size = n) (hp : places[i]? = none)
  (h : ∀ hp, (∀ b o, b ≠ I -> s.heap.get? b = some o -> hp.get? b = some o) -> Q none { s with heap := hp }) : wpAny (model prog w) A (pyNext (.ref I)) Q E s := by
 refine zeq hI ho hd hf hn ?_;show wpAny _ _ (seqItems? (.ref T) >>= _) _ _ s;refine yaa (wpAny_seqItems hT rfl ?_);dsimp only;rw [hp];dsimp only;have h1 := zg5 hI 0 (rawInt (0 : Nat)) #[rawInt (0 : Nat), rawInt i, .ref S, rawInt n, rawInt ep] rfl;refine yaa (wpAny_setField hI rfl ς (yaa (wpAny_setField h1 rfl ς ?_)));refine zdt hh fun hp hk a ob ha hc => ⟨⟨ob, ha, hc⟩, h hp fun b o hb e => hk b o ?_⟩
 exact (Heap.get?_update_other _ _ (Ne.symm hb)).trans ((Heap.get?_update_other _ _ (Ne.symm hb)).trans e)
end
theorem zcG {α : Type} {x : α} : ∀ {l : List α} {i : Nat}, l[i]? = some x -> List.Perm (x :: l.eraseIdx i) l
 | [], _, h => by simp at h
 | y :: r, 0, h => by simp at h; subst h; simp
 | y :: r, i + 1, h => by
  have ih := zcG (l := r) (i := i) (by simpa using h);rw [List.eraseIdx_cons_succ];exact (List.Perm.swap y x _).trans (ih.cons y)
theorem zi1 {α : Type} (f : Nat -> Nat) : ∀ (fuel k : Nat) (left : List α) (out : Array α), left.length <= fuel -> List.Perm (pickOrder.go f fuel k left out).toList (out.toList ++ left)
 | 0, k, left, out, h => by
  have : left = [] := List.eq_nil_of_length_eq_zero ω;subst this;simp [pickOrder.go]
 | fuel + 1, k, left, out, h => by
  unfold pickOrder.go;cases e : left[f k % left.length]? with
  | none =>
   have : left = [] := by
    cases left with
    | nil => rfl
    | cons y r =>
     have := List.getElem?_eq_none_iff.mp e;have := Nat.mod_lt (f k) (show 0 < (y :: r).length by simp);omega
   subst this;simp
  | some x =>
   dsimp only;have hi := (yag.mp e).1;have ih := zi1 f fuel (k + 1) (left.eraseIdx (f k % left.length)) (out.push x) (by rw [List.length_eraseIdx_of_lt hi]; omega);refine ih.trans ?_;rw [Array.toList_push, List.append_assoc];refine List.Perm.append_left _ ?_;exact zcG e
theorem zi2 {α : Type} (f : Nat -> Nat) (xs : Array α) : List.Perm (pickOrder f xs).toList xs.toList := by
 have := zi1 f xs.size 0 xs.toList #[] ς;simpa [pickOrder] using this
section
variable {prog : Program} {w : World} {A : Around} {E : ZQ} {s : Shared} {S : Addr} {i n ep slot : Nat} {o : Obj} {es : Array (Int × Value)} {tb : SetTable}
theorem zeZ {α : Type} {Q : List α -> Shared -> Prop} : ∀ (k : Nat) (xs : List α) (s : Shared), xs.length = k -> (∀ ys d, List.Perm ys xs -> Q ys { s with drawn := d }) -> wpAny (model prog w) A (drawOrder k xs) Q E s
 | 0, xs, s, h, q => by
  have : xs = [] := List.eq_nil_of_length_eq_zero h;subst this;exact yab (q [] s.drawn .nil)
 | k + 1, xs, s, h, q => by
  cases xs with
  | nil => simp at h
  | cons y r =>
   unfold drawOrder;apply yaa;refine fun Γ p hΓ => ⟨ς, ?_⟩
   have hlt : (model prog w).w.draws .order (s.drawn.get .order) % (y :: r).length < (y :: r).length := Nat.mod_lt _ ς;generalize (model prog w).w.draws .order (s.drawn.get .order) % (y :: r).length = j at hlt;have e : (y :: r)[j]? = some (y :: r)[j] := by simp [hlt]
   generalize (y :: r)[j] = z at e;refine (?_ : wpAny (model prog w) A _ _ _ _) Γ p hΓ;refine yab ?_;rw [e];dsimp only;apply yaa;refine zeZ k ((y :: r).eraseIdx j) _ (by rw [List.length_eraseIdx_of_lt hlt]; omega) fun ys d hp => yab ?_;exact q (z :: ys) d ((hp.cons z).trans (zcG e))
theorem zfa {Q : Option (Value × Nat) -> Shared -> Prop} (hb : zbS w = true) (ho : s.heap.get? S = some o) (hd : o.data = .set es ep tb) (hf : tb.fits es.size = true)
  (h : Q (((pickOrder (w.params.setOrder S ep) es)[i]?).map fun e => (e.2, slot)) s) : wpAny (model prog w) A (setNext S slot i ep) Q E s := by
 unfold setNext;refine yaa (wpAny_setState_of ho hd hf ?_);dsimp only;unfold setsByText;refine yaa (yaa (wpAny_askSetting (yab ?_)));refine wpAny_ite_split (fun _ => ?_) fun z => absurd hb z;rw [if_neg ς];unfold setWalk;refine yaa (yaa (wpAny_setState_of ho hd hf ?_));dsimp only;unfold setsByText;refine yaa (yaa (wpAny_askSetting (yab ?_)));refine wpAny_ite_split (fun _ => ?_) fun z => absurd hb z;refine yaa (wpAny_askSetting (yab (yab ?_)));exact h
theorem zdU {Q : Option (Value × Nat) -> Shared -> Prop} (hb : zbS w = false) (ho : s.heap.get? S = some o) (hd : o.data = .set es ep tb) (hf : tb.fits es.size = true) (hs : es.size <= 1) (hl : tb.led = true)
  (h : Q (match es[SetTable.below tb.place slot]?, tb.place[SetTable.below tb.place slot]? with | some (_, x), some j => some (x, j + 1) | _, _ => none) s) : wpAny (model prog w) A (setNext S slot i ep) Q E s := by
 unfold setNext;refine yaa (wpAny_setState_of ho hd hf ?_);dsimp only;unfold setsByText;refine yaa (yaa (wpAny_askSetting (yab ?_)));refine wpAny_ite_split (fun z => absurd (z.symm.trans (show _ = false from hb)) δ) fun _ => ?_;have hz : (!tb.plain && decide (es.size > 1)) = false := by rw [ya8 ω, Bool.and_false]
 show wpAny _ _ (if (!tb.plain && decide (es.size > 1)) = true then _ else _) _ _ s;rw [hz, if_neg δ];show wpAny _ _ ((if (!tb.led && !es.isEmpty) = true then unsupported "set:maker-not-led" else pure ()) >>= _) _ _ s;rw [hl];refine yaa (yab (yab ?_));exact h
end
section
variable {prog : Program} {w : World} {A : Around} {E : ZQ} {s : Shared}
theorem zfR {I S : Addr} {first : Value} {i n ep : Nat} {Q : ZQ} (hI : s.heap.get? I = some (zcF first i S n ep)) (h : Q (.ref I) s) : wpAny (model prog w) A (pyIter (.ref I)) Q E s := by
 have ty : s.TypeIs (.ref I) "set_iterator" := ⟨_, hI, rfl⟩
 refine wpAny_pyIter_slot ty zcQ (wpAny_call_entry zcQ ty zep ?_ (zeY _));show wpAny _ _ (ret (.ref I)) _ _ s;exact yab ⟨_, rfl, "set_iterator", _, ty, slot_si_next.lookup, h⟩
theorem zi3 {I : Addr} {hp : Heap} (h : ∀ b o, b ≠ I -> s.heap.get? b = some o -> hp.get? b = some o) : Moved [I] Eq s { s with heap := hp } :=
 ⟨fun b o hb e => h b o (fun z => hb (by simp [z])) e, rfl, rfl, rfl, yai _⟩
theorem zer {I : Addr} {fp : List Addr} {vs : List Value} {St : Nat -> Heap -> Prop} (hI : I ∈ fp) (frame : ∀ i h h', St i h -> (∀ b ∈ fp, ∀ o, h.get? b = some o -> h'.get? b = some o) -> St i h')
  (item : ∀ i v (s : Shared) (Q : Option Value -> Shared -> Prop) (E : ZQ), vs[i]? = some v -> St i s.heap -> (∀ hp, St (i + 1) hp -> (∀ b o, b ≠ I -> s.heap.get? b = some o -> hp.get? b = some o) -> Q (some v) { s with heap := hp }) -> wpAny (model prog w) A (pyNext (.ref I)) Q E s)
  (done : ∀ (s : Shared) (Q : Option Value -> Shared -> Prop) (E : ZQ), St vs.length s.heap -> (∀ hp, (∀ b o, b ≠ I -> s.heap.get? b = some o -> hp.get? b = some o) -> Q none { s with heap := hp }) -> wpAny (model prog w) A (pyNext (.ref I)) Q E s)
  (self : ∀ i (s : Shared) (Q : ZQ) (E : ZQ), St i s.heap -> Q (.ref I) s -> wpAny (model prog w) A (pyIter (.ref I)) Q E s) :
  WalksS prog w A I fp [I] Eq vs.length (fun i v => vs[i]? = some v) (fun i s => St i s.heap) where
 sub := fun b hb => by rw [yah.mp hb]; exact hI
 grefl := fun _ => rfl
 gtrans := fun _ _ _ => Eq.trans
 frame := fun i s h' tk st _ k => frame i _ _ st k
 item := fun i s Q E hi st q => by
  refine item i vs[i] s Q E (by simp [hi]) st fun hp st' k => ?_;exact q _ _ (by simp [hi]) st' (zi3 k)
 done := fun s Q E st q => done s Q E st fun hp k => q _ (zi3 k)
 self := self
end
end L2
namespace L2
open PySem PySem.Spec PyProof.Rows PySem.SeqAt
structure zkF (prog : Program) (w : World) (s : Shared) (S : Addr) (xs : List Value) (I : Addr) (s' : Shared) (vs : List Value) (fp : List Addr) (St : Nat -> Heap -> Prop) : Prop where
 heap : ∀ b o, s.heap.get? b = some o -> s'.heap.get? b = some o
 rest : ∃ d, s' = { s with heap := s'.heap, drawn := d }
 new : s.heap.objs.size <= I
 fps : ∀ b ∈ fp, b = S \/ s.heap.objs.size <= b
 lt : ∀ b ∈ fp, b < s'.heap.objs.size
 mem : I ∈ fp
 vals : List.Perm vs xs
 st : St 0 s'.heap
 walk : ∀ A : Around, A.handled = none -> WalksS prog w A I fp [I] Eq vs.length (fun i v => vs[i]? = some v) (fun i s => St i s.heap)
def StT (o : Obj) (S I : Addr) (n ep : Nat) : Nat -> Heap -> Prop := fun i h => h.get? S = some o /\ h.get? I = some (zcF (rawInt (0 : Nat)) i S n ep)
def StP (o : Obj) (S I : Addr) (n ep j : Nat) : Nat -> Heap -> Prop := fun i h => h.get? S = some o /\ h.get? I = some (zcF (rawInt ((if i = 0 then 0 else j + 1 : Nat))) i S n ep)
def StD (o : Obj) (S I T : Addr) (n ep : Nat) (places : Array Value) : Nat -> Heap -> Prop := fun i h => h.get? S = some o /\ h.get? I = some (zcF (.ref T) i S n ep) /\ h.get? T = some { cls := .type "tuple", data := .seq places 0 }
theorem zfb {prog : Program} {w : World} : ∀ {l : List (Int × Value)}, ElemsOf (PySem.strKind prog w) l -> ∀ v ∈ l.map (·.2), ∃ x t, v = .str x t
 | [], _, v, m => by cases m
 | e :: r, h, v, m => by
  rcases yau.mp m with rfl | m
  ·obtain ⟨⟨k, hk, _⟩, _⟩ := h.head;exact ⟨k, Value.isStrOf_shape hk⟩
  ·exact zfb h.tail v m
theorem zg6 : ∀ {l : List Value}, (∀ v ∈ l, ∃ x t, v = .str x t) -> StrsAre l (l.map svT)
 | [], _ => .nil
 | v :: r, h => by
  obtain ⟨x, t, rfl⟩ := h v List.mem_cons_self;exact .cons _ t (zg6 fun v m => h v (List.mem_cons_of_mem _ m))
theorem zfc (j k : Nat) : SetTable.below #[j] k = if j < k then 1 else 0 := by
 unfold SetTable.below;show SetTable.below.go _ _ 1 0 1 = _;unfold SetTable.below.go;rw [if_pos δ];show (if (#[j] : Array Nat).getD 0 k < k then SetTable.below.go _ _ 0 1 1 else SetTable.below.go _ _ 0 0 0) = _;have e : (#[j] : Array Nat).getD 0 k = j := rfl;rw [e]
 split <;> rfl
section
variable {prog : Program} {w : World} {A : Around} {E : ZQ} {s : Shared}
theorem zay {h : Heap} {ob : Obj} : ∀ b o, h.get? b = some o -> (h.push ob).get? b = some o := fun b o e => yac _ e
theorem zi4 {S : Addr} {o : Obj} {es : Array (Int × Value)} {ep : Nat} {tb : SetTable} {Q : ZQ} (ho : s.heap.get? S = some o) (hex : o.ExactSet) (hd : o.data = .set es ep tb) (hb : es.size < scanBound) (hf : tb.fits es.size = true) (hl : tb.led = !zbS w) (hpl : es.size ≠ 0 -> tb.plain = false) (h : ∀ I s' vs fp St, zkF prog w s S (es.toList.map (·.2)) I s' vs fp St -> Q (.ref I) s') : wpAny (model prog w) A (pyIter (.ref S)) Q E s := by
  have ty : s.TypeIs (.ref S) "set" := ⟨o, ho, hex.1⟩
  have hlt : S < s.heap.objs.size := yan ho;refine wpAny_pyIter_slot ty PySem.F.slot_set_iter (wpAny_call_entry PySem.F.slot_set_iter ty zdI ?_ (PySem.F.args_set_iter_1 _));unfold Builtin.«frozenset.__iter__»;apply yaa;refine yab ?_;unfold Builtin.Frozenset.sizeOf;refine yaa (yaa (wpAny_setEntries_of ho hd hf (yab ?_)));unfold setDrawn;refine yaa (yaa (wpAny_setState_of ho hd hf ?_));dsimp only;unfold setsByText;refine yaa (yaa (wpAny_askSetting (yab (yab ?_))));show wpAny _ _ (if (!zbS w && (!tb.plain && decide (es.size > 1))) = true then _ else _) _ _ s;have psz : tb.place.size = es.size := by
    have := hf;simp only [SetTable.fits, Bool.and_eq_true, beq_iff_eq, decide_eq_true_eq] at this;exact this.1
  have lay : ∀ (hp : Heap) (d : Drawn) (first : Value) (vs : List Value) (fp : List Addr) (St : Nat -> Heap -> Prop), (∀ b o, s.heap.get? b = some o -> hp.get? b = some o) -> zkF prog w s S (es.toList.map (·.2)) hp.objs.size { s with heap := hp.push (zcF first 0 S es.size ep), drawn := d } vs fp St ->
      wpAny (model prog w) A.in1 (do ret (<- newFields "set_iterator" [first, rawInt 0, .ref S, rawInt es.size, rawInt (<- setEpoch S)])) (fun fin s' => ∃ it, fin = .done (.ret it) /\ ∃ T' r, s'.TypeIs it T' /\ typeLookup (.type T') "__next__" = pure (some r) /\ Q it s') E { s with heap := hp, drawn := d } := fun hp d first vs fp St k R => by
    refine yaa (wpAny_setEpoch_of (k _ _ ho) hd hf ?_);unfold newFields;refine yaa (wpAny_newObj_type ?_ (by size_fits));refine yab ⟨_, rfl, "set_iterator", _, ⟨_, yaj _ rfl, rfl⟩, slot_si_next.lookup, ?_⟩;exact h _ _ _ _ _ R
  cases hbt : zbS w with
  | true =>
    rw [if_neg ς];refine yaa (yab ?_);have pp := zi2 (w.params.setOrder S ep) es;refine lay s.heap s.drawn (rawInt (0 : Nat)) ((pickOrder (w.params.setOrder S ep) es).toList.map (·.2)) [s.heap.objs.size, S] (StT o S s.heap.objs.size es.size ep) (fun _ _ e => e)
      ⟨zay, ⟨s.drawn, rfl⟩, yai _, fun b hb' => ?_, fun b hb' => ?_, List.mem_cons_self, pp.map _, ⟨zay _ _ ho, yaj _ rfl⟩, fun A' hh => ?_⟩
    · rcases yau.mp hb' with rfl | q
      · exact .inr (yai _)
      · exact .inl (yah.mp q)
    · show b < (s.heap.push _).objs.size;rw [Heap.size_push];rcases yau.mp hb' with rfl | q
      · exact Nat.lt_succ_self _
      · rw [yah.mp q]; exact Nat.lt_succ_of_lt hlt
    · refine zer (St := StT o S s.heap.objs.size es.size ep) List.mem_cons_self (fun i h h' st k => ⟨k _ ς _ st.1, k _ ς _ st.2⟩) (fun i v s1 Q1 E1 hv st q => ?_) (fun s1 Q1 E1 st q => ?_) fun i s1 Q1 E1 st q => zfR st.2 q
      · have ne : S ≠ s.heap.objs.size := Nat.ne_of_lt hlt;rw [yav] at hv;cases e : (pickOrder (w.params.setOrder S ep) es).toList[i]? with
        | none => rw [e] at hv; cases hv
        | some z =>
          rw [e] at hv;cases hv;refine zi0 (nx := 0) st.2 st.1 hd hf rfl (fun E' Q' hq => zfa hbt st.1 hd hf ?_) fun hp h1 sb => q hp ⟨(sb.2 S ne).trans st.1, h1⟩ fun b o' hb' e' => (sb.2 b hb').trans e';rw [Array.getElem?_toList] at e;rw [e];exact hq
      · refine zkE hh st.2 st.1 hd hf rfl (fun E' Q' hq => zfa hbt st.1 hd hf ?_) fun hp k => q hp k;have : (pickOrder (w.params.setOrder S ep) es)[((pickOrder (w.params.setOrder S ep) es).toList.map (·.2)).length]? = none := by simp
        rw [this];exact hq
  | false =>
    have led : tb.led = true := by rw [hl, hbt]; rfl
    by_cases h2 : es.size <= 1
    · rw [if_neg (by rw [ya8 (show ¬ es.size > 1 by omega)]; simp)];refine yaa (yab ?_);refine lay s.heap s.drawn (rawInt (0 : Nat)) (es.toList.map (·.2)) [s.heap.objs.size, S] (StP o S s.heap.objs.size es.size ep (tb.place.getD 0 0)) (fun _ _ e => e)
        ⟨zay, ⟨s.drawn, rfl⟩, yai _, fun b hb' => ?_, fun b hb' => ?_, List.mem_cons_self, .rfl, ⟨zay _ _ ho, yaj _ rfl⟩, fun A' hh => ?_⟩
      · rcases yau.mp hb' with rfl | q
        · exact .inr (yai _)
        · exact .inl (yah.mp q)
      · show b < (s.heap.push _).objs.size;rw [Heap.size_push];rcases yau.mp hb' with rfl | q
        · exact Nat.lt_succ_self _
        · rw [yah.mp q]; exact Nat.lt_succ_of_lt hlt
      · have ne : S ≠ s.heap.objs.size := Nat.ne_of_lt hlt;refine zer (St := StP o S s.heap.objs.size es.size ep (tb.place.getD 0 0)) List.mem_cons_self (fun i h h' st k => ⟨k _ ς _ st.1, k _ ς _ st.2⟩) (fun i v s1 Q1 E1 hv st q => ?_) (fun s1 Q1 E1 st q => ?_) fun i s1 Q1 E1 st q => zfR st.2 q
        · have hi : i < es.size := by have := (yag.mp hv).1; simpa using this
          obtain rfl : i = 0 := by omega
          obtain ⟨j, hj⟩ : ∃ j, tb.place = #[j] := by
            have z : tb.place.size = 1 := by omega
            exact ⟨tb.place[0], by apply Array.ext; · simp [z]
                                   · intro k h1 h2; have : k = 0 := by omega
                                     subst this; rfl⟩
          rw [yav] at hv;cases e : es.toList[0]? with
          | none => rw [e] at hv; cases hv
          | some z =>
            rw [e] at hv;cases hv;rw [Array.getElem?_toList] at e;refine zi0 (slot := 0) (nx := j + 1) st.2 st.1 hd hf rfl (fun E' Q' hq => zdU hbt st.1 hd hf h2 led ?_) fun hp h1 sb => q hp ⟨(sb.2 S ne).trans st.1, ?_⟩ fun b o' hb' e' => (sb.2 b hb').trans e'
            · rw [hj, zfc, if_neg ω, e];exact hq
            · rw [h1, hj]; rfl
        · have Qe : (es.toList.map (·.2)).length = es.size := by simp
          rw [Qe] at st;refine zkE hh st.2 st.1 hd hf rfl (fun E' Q' hq => zdU hbt st.1 hd hf h2 led ?_) fun hp k => q hp k
          by_cases h0 : es.size = 0
          · have z : ∀ k : Nat, es[k]? = none := fun k => Array.getElem?_eq_none ω;rw [z];exact hq
          · obtain ⟨j, hj⟩ : ∃ j, tb.place = #[j] := by
              have z : tb.place.size = 1 := by omega
              exact ⟨tb.place[0], by apply Array.ext; · simp [z]
                                     · intro k h1 h2; have : k = 0 := by omega
                                       subst this; rfl⟩
            have z : SetTable.below tb.place (if es.size = 0 then 0 else tb.place.getD 0 0 + 1) = 1 := by
              rw [if_neg h0, hj, zfc];exact if_pos (by show j < j + 1; omega)
            rw [z];have z1 : es[1]? = none := Array.getElem?_eq_none ω;rw [z1];exact hq
    · have plain : tb.plain = false := hpl ω;rw [if_pos (by rw [plain, ya9 (show es.size > 1 by omega)]; rfl)];refine yaa (zeZ es.size (List.range es.size) s ς fun ys d hp => ?_);unfold newTuple; apply yaa;have hyl : ys.length = es.size := by rw [hp.length_eq]; simp
      refine wpAny_newObj_type ?_ (by show ((ys.map fun (i : Nat) => rawInt i).toArray).size <= sizeLine; rw [yad, yaf, hyl]; exact fits_of_scanBound hb);have hin : ∀ j ∈ ys, j < es.size := fun j hj => by have := hp.mem_iff.mp hj; simpa using this
      have perm : List.Perm (ys.map fun j => es.toList.getD j (0, .none)) es.toList := by
        have z := hp.map fun j => es.toList.getD j (0, .none);refine z.trans (List.Perm.of_eq ?_);apply List.ext_getElem?;intro k;rw [yav]
        by_cases hk : k < es.size
        · simp [hk]
        · simp [hk]
      refine lay (s.heap.push { cls := .type "tuple", data := .seq (ys.map fun (i : Nat) => rawInt i).toArray }) d (.ref s.heap.objs.size) ((ys.map fun j => es.toList.getD j (0, .none)).map (·.2)) [(s.heap.push { cls := .type "tuple", data := .seq (ys.map fun (i : Nat) => rawInt i).toArray }).objs.size, S, s.heap.objs.size]
        (StD o S (s.heap.push { cls := .type "tuple", data := .seq (ys.map fun (i : Nat) => rawInt i).toArray }).objs.size s.heap.objs.size es.size ep (ys.map fun (i : Nat) => rawInt i).toArray) zay
        ⟨fun b o' e => zay _ _ (zay _ _ e), ⟨d, rfl⟩, by rw [Heap.size_push]; exact Nat.le_succ _, fun b hb' => ?_, fun b hb' => ?_, List.mem_cons_self, perm.map _, ⟨zay _ _ (zay _ _ ho), yaj _ rfl, zay _ _ (yaj _ rfl)⟩, fun A' hh => ?_⟩
      · rcases yau.mp hb' with rfl | q
        · exact .inr (by rw [Heap.size_push]; exact Nat.le_succ _)
        · rcases yau.mp q with rfl | q
          · exact .inl rfl
          · exact .inr (Nat.le_of_eq (yah.mp q).symm)
      · show b < ((s.heap.push _).push _).objs.size;rw [Heap.size_push, Heap.size_push];rcases yau.mp hb' with rfl | q
        · rw [Heap.size_push]; exact Nat.lt_succ_self _
        · rcases yau.mp q with rfl | q
          · exact Nat.lt_succ_of_lt (Nat.lt_succ_of_lt hlt)
          · rw [yah.mp q]; exact Nat.lt_succ_of_lt (Nat.lt_succ_self _)
      · have ne : S ≠ (s.heap.push { cls := .type "tuple", data := .seq (ys.map fun (i : Nat) => rawInt i).toArray }).objs.size := Nat.ne_of_lt (by rw [Heap.size_push]; exact Nat.lt_succ_of_lt hlt);have ne2 : s.heap.objs.size ≠ (s.heap.push { cls := .type "tuple", data := .seq (ys.map fun (i : Nat) => rawInt i).toArray }).objs.size := Nat.ne_of_lt (by rw [Heap.size_push]; exact Nat.lt_succ_self _);generalize (s.heap.push { cls := .type "tuple", data := .seq (ys.map fun (i : Nat) => rawInt i).toArray }).objs.size = I at ne ne2;refine zer (St := StD o S I s.heap.objs.size es.size ep (ys.map fun (i : Nat) => rawInt i).toArray) List.mem_cons_self (fun i h h' st k => ⟨k _ ς _ st.1, k _ ς _ st.2.1, k _ ς _ st.2.2⟩) (fun i v s1 Q1 E1 hv st q => ?_) (fun s1 Q1 E1 st q => ?_) fun i s1 Q1 E1 st q => zfR st.2.1 q
        · rw [List.map_map, yav] at hv;cases e : ys[i]? with
          | none => rw [e] at hv; cases hv
          | some p =>
            rw [e] at hv;cases hv;have hp' : p < es.size := hin p (ya1 e);refine zlv (p := p) (hsh := (es.toList.getD p (0, .none)).1) st.2.1 st.2.2 st.1 hd hf rfl (by simp [e]) (by simp [hp']) fun hp1 h1 sb => q hp1 ⟨(sb.2 S ne).trans st.1, h1, (sb.2 _ ne2).trans st.2.2⟩ fun b o' hb' e' => (sb.2 b hb').trans e'
        · exact zng hh st.2.1 st.2.2 st.1 hd hf rfl ς fun hp1 k => q hp1 k
theorem zkd {S : Addr} {Q : Bool -> Shared -> Prop} (ty : s.TypeIs (.ref S) "set") (h : Q false s) : wpAny (model prog w) A (Builtin.List.listLengthHint (.ref S)) Q E s := by
 unfold Builtin.List.listLengthHint;refine yaa (wpAny_specialOf ty zdJ ?_);generalize hid : ("set.__len__" : String) = lid
 wp_delta
 rw [show splitId lid = some ("set", "__len__") from by subst hid; decide +kernel];subst hid;refine yaa (wpAny_isInstance (b := true) ty PySem.F.called_set.sub ?_);rw [if_neg δ];dsimp only;refine wpAny_ite_split (fun _ => ?_) fun z => absurd (by decide +kernel) z;refine yaa (wpAny_typeOf ty ?_);exact yab h
theorem zcR {S : Addr} {o0 : Obj} {es : Array (Int × Value)} {ep : Nat} {tb : SetTable} {Q : List Value -> Shared -> Prop} (hh : A.handled = none) (ho0 : s.heap.get? S = some o0) (hex : o0.ExactSet) (hd : o0.data = .set es ep tb) (hb : es.size < scanBound) (hf : tb.fits es.size = true) (hld : tb.led = !zbS w) (hpl : es.size ≠ 0 -> tb.plain = false)
  (h : ∀ hp tk d vs, (∀ b o, s.heap.get? b = some o -> hp.get? b = some o) -> s.heap.objs.size <= hp.objs.size -> List.Perm vs (es.toList.map (·.2)) -> Q vs { s with heap := hp, toks := tk, drawn := d }) : wpAny (model prog w) A (collect (.ref S)) Q E s := by
 have hlt : S < s.heap.objs.size := yan ho0;unfold collect;apply yaa; apply wpAny_runValue; apply codeAny_builtin PySem.F.entry_proto_collect;rw [Around.under_plainId PySem.F.plain_proto_collect _];show wpAny _ A.in1 (newList [] >>= fun l => again (.builtin "list.__iadd__" ⟨[l, .ref S], []⟩)) _ _ s;apply yaa;refine wpAny_newObj_type (yab ⟨plainId_quiet PySem.F.plain_list_iadd _, codeAny_builtin PySem.F.entry_list_iadd ?_⟩);rw [Around.under_plainId PySem.F.plain_list_iadd _];show wpAny _ A.in1 (Builtin.List.listExtendWith (.ref s.heap.objs.size) (.ref S) (.ref s.heap.objs.size)) _ _ _;generalize hL : s.heap.objs.size = L;have hLo : (s.heap.push { cls := .type "list", data := .seq ([] : List Value).toArray }).get? L = some { cls := .type "list", data := .seq #[] } := by rw [<- hL]; exact yaj _ rfl
 have sz : (s.heap.push { cls := .type "list", data := .seq ([] : List Value).toArray }).objs.size = L + 1 := by rw [Heap.size_push, hL]
 have keep1' : ∀ b o, s.heap.get? b = some o -> (s.heap.push { cls := .type "list", data := .seq ([] : List Value).toArray }).get? b = some o := zay;have new1 : ∀ b o, s.heap.get? b = some o -> b ≠ L := fun b o e => by rw [<- hL]; exact Nat.ne_of_lt (yan e)
 have hS1 : (s.heap.push { cls := .type "list", data := .seq ([] : List Value).toArray }).get? S = some o0 := zay _ _ ho0;have hSL : S ≠ L := by rw [<- hL]; exact Nat.ne_of_lt hlt
 generalize s.heap.push { cls := .type "list", data := .seq ([] : List Value).toArray } = h1 at hLo sz keep1' hS1;have ty1 : Shared.TypeIs { s with heap := h1 } (.ref S) "set" := ⟨o0, hS1, hex.1⟩
 unfold Builtin.List.listExtendWith;refine yaa (wpAny_typeOf ty1 ?_);have e1 : Builtin.List.listSameRef (.ref L) (.ref S) = false := by
  unfold Builtin.List.listSameRef;simpa using fun z : L = S => hSL z.symm
 rw [e1];rw [if_neg δ];refine yaa (zi4 (s := { s with heap := h1 }) hS1 hex hd hb hf hld hpl fun I s2 vs fp St R => ?_);obtain ⟨d, e2⟩ := R.rest;have hpu := R.vals;have ty2 : Shared.TypeIs s2 (.ref S) "set" := by obtain ⟨o, ho, hc⟩ := ty1; exact ⟨o, R.heap _ _ ho, hc⟩
 have lf : L ∉ fp := fun m => by
  rcases R.fps L m with z | z
  ·exact hSL z.symm
  ·have z' : h1.objs.size <= L := z;omega
 have hvl : vs.length <= sizeLine := by
  have a2 : vs.length = es.size := by have := hpu.length_eq; simpa using this
  rw [a2];exact fits_of_scanBound hb
 refine yaa (wpAny_holding (zkd ty2 ?_));have loop : ∀ (hp : Heap) (c : Nat), St 0 hp -> (∀ b o, b ≠ L -> s2.heap.get? b = some o -> hp.get? b = some o) -> hp.get? L = some { cls := .type "list", dict := none, data := .seq #[] c, slots := #[] } ->
   codeAny (model prog w) A (.builtin "list.extend.loop" ⟨[.ref L, .ref I, .ref L], []⟩) (fun r s' => ∃ f, r = .ok (.ret f) /\ wpAny (model prog w) A (match f with
    | .ref a => do
     match (<- load a).data with
     | .seq xs _ => pure xs.toList
     | _ => unsupported "internal:collect"
    | _ => unsupported "internal:collect") Q E s') { s2 with heap := hp } := fun hp c st k hl => by
  refine codeAny_extend_loopS (R.walk A.in1 hh) hvl L lf (.ref L) vs.length 0 { s2 with heap := hp } #[] c rfl (yaq _) st hl (ItemsOf.nil _) fun s3 acc c' hm hL3 hacc => ⟨_, rfl, ?_⟩
  show wpAny _ A (load L >>= _) _ _ _;refine yaa (wpAny_load hL3 (yab ?_));have ea : acc.toList = vs := by
   apply List.ext_getElem?;intro j
   by_cases hj : j < acc.size
   ·have : acc[j]? = some acc[j] := by simp [hj]
    have q := hacc.2 j _ this;rw [Array.getElem?_toList, this, q]
   ·rw [Array.getElem?_toList, Array.getElem?_eq_none ω];have := hacc.1;exact (List.getElem?_eq_none ω).symm
  rw [ea];obtain ⟨hp3, g3, d3, tk3, os3⟩ := s3;obtain rfl : s2.gens = g3 := hm.gens;obtain rfl : d3 = s2.drawn := hm.drawn;obtain rfl : os3 = s2.os := hm.os;have := h hp3 tk3 d vs (fun b o e => hm.heap b o (fun z => ?_) (k b o (new1 b o e) (R.heap b o (keep1' b o e)))) (by rw [hL]; exact Nat.le_of_lt (yan hL3)) hpu
  ·rw [e2]; exact this
  ·rcases yau.mp z with z | z
   ·exact new1 b o e z
   ·have n1 := R.new;have n2 := yan (keep1' b o e);rw [yah.mp z] at n2;have n1' : h1.objs.size <= I := n1;exact absurd n2 (Nat.not_lt.mpr n1')
 have hL2 : s2.heap.get? L = some { cls := .type "list", dict := none, data := .seq #[] 0, slots := #[] } := R.heap L _ hLo;have conv : ∀ (r : Result) (s' : Shared), (∃ f, r = .ok (.ret f) /\ wpAny (model prog w) A (match f with
    | .ref a => do
     match (<- load a).data with
     | .seq xs _ => pure xs.toList
     | _ => unsupported "internal:collect"
    | _ => unsupported "internal:collect") Q E s') -> (match r with
    | Except.ok (Flow.ret v) => wpAny (model prog w) A (match v with
      | .ref a => do
       match (<- load a).data with
       | .seq xs _ => pure xs.toList
       | _ => unsupported "internal:collect"
      | _ => unsupported "internal:collect") Q E s'
    | Except.ok a => False
    | Except.error e => E e s') := fun r s' ⟨f, e, q⟩ => by subst e; exact q
 refine wpAny_ite_split (fun _ => ?_) fun _ => yab ⟨plainId_quiet PySem.F.plain_extend_loop _, codeAny_mono (loop s2.heap 0 R.st (fun b o _ e => e) hL2) conv⟩;apply yaa; apply wpAny_rule; apply yaa;show wpAny _ _ (updateSeq L (·.push .none) >>= fun _ => updateSeq L (·.pop)) _ _ _;refine yaa (wpAny_updateSeq hL2 rfl ?_);have hL3 := Heap.get?_update_self (Obj.mapSeq (·.push Value.none)) hL2 rfl;refine wpAny_updateSeq (hz := by seq_fits) hL3 rfl ?_;have hL4 := Heap.get?_update_self (Obj.mapSeq (·.pop)) hL3 rfl;have kp : ∀ b o, b ≠ L -> s2.heap.get? b = some o -> ((s2.heap.update L (Obj.mapSeq (·.push Value.none))).update L (Obj.mapSeq (·.pop))).get? b = some o := fun b o z e => by
  rw [Heap.get?_update_other _ _ (Ne.symm z), Heap.get?_update_other _ _ (Ne.symm z)]; exact e
 refine yab ⟨plainId_quiet PySem.F.plain_extend_loop _, codeAny_mono (loop _ _ ?_ kp hL4) conv⟩;exact (R.walk A.in1 hh).frame 0 s2 _ s2.toks R.st (yai _) fun b m o e => kp b o (fun z => lf (z ▸ m)) e
theorem zfS {S : Addr} {us : List Str} {Q : List Value -> Shared -> Prop} (hh : A.handled = none) (hS : SetS prog w s.heap S us) (hn : us.length <= sizeLine)
  (h : ∀ hp tk d vs us', (∀ b o, s.heap.get? b = some o -> hp.get? b = some o) -> s.heap.objs.size <= hp.objs.size -> StrsAre vs us' -> us'.Perm us -> Q vs { s with heap := hp, toks := tk, drawn := d }) : wpAny (model prog w) A (collect (.ref S)) Q E s := by
 obtain ⟨o, es, ep, tb, ho, hex, hd, hel, hus, nd, hb, hf, hl, hpl⟩ := hS;have lens : us.length = es.size := by rw [<- hus]; simp [zby]
 refine zcR hh ho hex hd hb hf hl (fun z => hpl fun z' => z (by rw [z'] at lens; exact lens.symm)) fun hp tk d vs k z p => ?_;refine h hp tk d vs _ k z (zg6 fun v m => zfb hel v (p.mem_iff.mp m)) ?_;have := p.map svT;rw [List.map_map] at this;rw [<- hus];exact this
end
theorem zdV : ∀ a : List Nat, ltCps a a = false
 | [] => rfl
 | x :: r => by simp [ltCps, zdV r]
theorem zfd : ∀ {a b c : List Nat}, ltCps a b = true -> ltCps b c = true -> ltCps a c = true
 | [], [], _, h, _ => by simp [ltCps] at h
 | [], _ :: _, [], _, h => by simp [ltCps] at h
 | [], _ :: _, _ :: _, _, _ => rfl
 | _ :: _, [], _, h, _ => by simp [ltCps] at h
 | _ :: _, _ :: _, [], _, h => by simp [ltCps] at h
 | x :: r, y :: t, z :: u, h1, h2 => by
  simp only [ltCps, Bool.or_eq_true, Bool.and_eq_true, decide_eq_true_eq, beq_iff_eq] at h1 h2 ⊢;rcases h1 with h1 | ⟨rfl, h1⟩
  ·rcases h2 with h2 | ⟨rfl, h2⟩
   ·exact .inl (Nat.lt_trans h1 h2)
   ·exact .inl h1
  ·rcases h2 with h2 | ⟨rfl, h2⟩
   ·exact .inl h2
   ·exact .inr ⟨rfl, zfd h1 h2⟩
theorem zfe : ∀ {a b : List Nat}, ltCps a b = false -> ltCps b a = false -> a = b
 | [], [], _, _ => rfl
 | [], _ :: _, h, _ => by simp [ltCps] at h
 | _ :: _, [], _, h => by simp [ltCps] at h
 | x :: r, y :: t, h1, h2 => by
  simp only [ltCps, Bool.or_eq_false_iff, Bool.and_eq_false_iff, decide_eq_false_iff_not, beq_eq_false_iff_ne] at h1 h2;have e : x = y := by omega
  subst e;rw [zfe (a := r) (b := t) (by simpa using h1.2) (by simpa using h2.2)]
def ltS (a b : Str) : Bool := ltCps a.cps.toList b.cps.toList
theorem zcj (a : Str) : ltS a a = false := zdV _
theorem zdu {a b c : Str} (h1 : ltS a b = true) (h2 : ltS b c = true) : ltS a c = true := zfd h1 h2
theorem zdv {a b : Str} (h1 : ltS a b = false) (h2 : ltS b a = false) : a = b := zlr (zfe h1 h2)
abbrev zdw (l : List Str) : Prop := l.Pairwise fun a b => ltS a b = true
theorem zcp : ∀ {l m : List Str}, zdw l -> zdw m -> (∀ x, x ∈ l ↔ x ∈ m) -> l = m
 | [], [], _, _, _ => rfl
 | [], y :: m, _, _, h => absurd ((h y).mpr List.mem_cons_self) ς
 | x :: l, [], _, _, h => absurd ((h x).mp List.mem_cons_self) ς
 | x :: l, y :: m, hl, hm, h => by
  have hl' := List.pairwise_cons.mp hl;have hm' := List.pairwise_cons.mp hm;have e : x = y := by
   rcases yau.mp ((h x).mp List.mem_cons_self) with q | q
   ·exact q
   ·rcases yau.mp ((h y).mpr List.mem_cons_self) with q2 | q2
    ·exact q2.symm
    ·have := zdu (hm'.1 x q) (hl'.1 y q2);rw [zcj] at this;cases this
  subst e;rw [zcp hl'.2 hm'.2 fun z => ?_]
  constructor
  ·intro hz;rcases yau.mp ((h z).mp (List.mem_cons_of_mem _ hz)) with q | q
   ·subst q; have := hl'.1 z hz; rw [zcj] at this; cases this
   ·exact q
  ·intro hz;rcases yau.mp ((h z).mpr (List.mem_cons_of_mem _ hz)) with q | q
   ·subst q; have := hm'.1 z hz; rw [zcj] at this; cases this
   ·exact q
def insU (x : Str) : List Str -> List Str
 | [] => [x]
 | y :: r => if x = y then y :: r else if ltS x y = true then x :: y :: r else y :: insU x r
def zcq : List Str -> List Str
 | [] => []
 | x :: r => insU x (zcq r)
theorem mem_insU {x z : Str} : ∀ {l : List Str}, z ∈ insU x l ↔ z = x \/ z ∈ l
 | [] => by simp [insU]
 | y :: r => by
  unfold insU
  split
  ·rename_i e; subst e
   constructor
   ·exact .inr
   ·rintro (rfl | h)
    ·exact List.mem_cons_self
    ·exact h
  ·split
   ·simp
   ·rw [yau, mem_insU, yau]
    constructor
    ·rintro (h | h | h)
     ·exact .inr (.inl h)
     ·exact .inl h
     ·exact .inr (.inr h)
    ·rintro (h | h | h)
     ·exact .inr (.inl h)
     ·exact .inl h
     ·exact .inr (.inr h)
theorem zdx {x : Str} : ∀ {l : List Str}, zdw l -> zdw (insU x l)
 | [], _ => by simp [insU]
 | y :: r, h => by
  have h' := List.pairwise_cons.mp h;unfold insU
  split
  ·exact h
  ·rename_i ne
   split
   ·rename_i lt
    refine List.pairwise_cons.mpr ⟨fun z hz => ?_, h⟩;rcases yau.mp hz with rfl | hz
    ·exact lt
    ·exact zdu lt (h'.1 z hz)
   ·rename_i nlt
    refine List.pairwise_cons.mpr ⟨fun z hz => ?_, zdx h'.2⟩;rcases mem_insU.mp hz with rfl | hz
    ·cases q : ltS y z with
     | true => rfl
     | false => exact absurd (zdv (by simpa using nlt) q) ne
    ·exact h'.1 z hz
theorem zb9 {z : Str} : ∀ {l : List Str}, z ∈ zcq l ↔ z ∈ l
 | [] => by simp [zcq]
 | x :: r => by rw [zcq, mem_insU, zb9, yau]
theorem zbi : ∀ l : List Str, zdw (zcq l)
 | [] => .nil
 | x :: r => zdx (zbi r)
theorem zg7 (x : Str) : ∀ l : List Str, (insU x l).length <= l.length + 1
 | [] => by simp [insU]
 | y :: r => by
  unfold insU
  split
  ·simp
  ·split
   ·simp
   ·simp only [List.length_cons]; have := zg7 x r; omega
theorem zc1 : ∀ l : List Str, (zcq l).length <= l.length
 | [] => yai _
 | x :: r => by have := zc1 r; have := zg7 x (zcq r); rw [zcq, List.length_cons]; omega
theorem zbT : ∀ {l : List Str}, sortedS l = true -> l.Pairwise fun a b => ltS b a = false
 | [], _ => .nil
 | [x], _ => by simp
 | x :: y :: r, h => by
  have h2 : risingS x (y :: r) = true := h;have h3 : (!ltCps y.cps.toList x.cps.toList && risingS y r) = true := h2;rw [Bool.and_eq_true] at h3;have ih := zbT (l := y :: r) h3.2;have hxy : ltS y x = false := by simpa [ltS] using h3.1
  refine List.pairwise_cons.mpr ⟨fun z hz => ?_, ih⟩;rcases yau.mp hz with rfl | hz
  ·exact hxy
  ·have hyz := (List.pairwise_cons.mp ih).1 z hz;cases q : ltS z x with
   | false => rfl
   | true =>
    cases q2 : ltS x y with
    | true => have := zdu q q2; rw [hyz] at this; cases this
    | false => have e := zdv q2 hxy; subst e; rw [q] at hyz; cases hyz
theorem zcr {vs us ts : List Str} (h : sortedS vs = true) (p : vs.Perm us) (nd : us.Nodup) (m : ∀ x, x ∈ us ↔ x ∈ ts) : vs = zcq ts := by
 have nv : vs.Nodup := p.nodup_iff.mpr nd;refine zcp ?_ (zbi ts) fun x => by rw [p.mem_iff, m, zb9]
 have r := zbT h;have q : vs.Pairwise fun a b => a ≠ b := nv;exact List.Pairwise.imp (fun {a b} hab => by
  cases e : ltS a b with
  | true => rfl
  | false => exact absurd (zdv e hab.1) hab.2) (List.Pairwise.and r q)
def SetO (prog : Program) (w : World) (S : Addr) (us : List Str) : HO := .ext fun h => SetS prog w h S us
section
variable {X : Cx} {Qa : ZP} {σ : St} {H : Hp} {s : Shared}
theorem Inv.draw (I : Inv X Qa σ H s) (d : Drawn) : Inv X Qa σ H { s with drawn := d } := ⟨I.ok, I.os, I.bare, I.base, I.loc, I.cell, I.free, I.freeC, I.pin, I.hok, I.len⟩
def zi5 (P : Program) (w : World) (K : W.Frag) : List V -> Hp -> VK -> Prop := fun xs H Q => ∃ (a : Addr) (ts : List Str), xs = [.ref a] /\ SqL K H a (ts.map V.str) /\ ts.length < 4000 /\
 ∀ S us, H S = none -> us.Nodup -> us.length <= ts.length -> (∀ x, x ∈ us ↔ x ∈ ts) -> Q (.ref S) (upd H S (SetO P w S us))
theorem zhu (hc : X.calm = true) : zaN X (.type "set") (zi5 X.prog X.w X.K) := by
 intro Qa s σ H xs us Q I r h;obtain ⟨a, ts, rfl, hq, hl, k⟩ := h;obtain ⟨u, rfl, ru⟩ := zcn r;cases ru;obtain ⟨its, rv, pl, _⟩ := I.list hq;have Qe : its.length = ts.length := by have := rv.length; simpa using this.symm
 refine zen (I.ok.hd hc) pl.isList (by simpa using zcC rv) (by rw [yad, Qe]; show ts.length + 1 < 4096; omega) fun s' hm => ?_;obtain ⟨hp, tk, us', rfl, S, l1, m1, kp⟩ := hm;obtain ⟨o, es, ep, tb, ho, hex, hd, hel, hus, nd, rest⟩ := id S;refine ⟨.ref s.heap.objs.size, _, I.laid (t' := tk) (o := SetO X.prog X.w s.heap.objs.size us') (fun b o e => kp b o (yan e) e) (yai _) ⟨S, ⟨o, ho⟩, fun h1 h2 s1 k1 => s1.at k1⟩, rfl, k _ us' (I.hok.fresh (yai _)) nd l1 m1⟩
def zlw (P : Program) (w : World) (K : W.Frag) : List V -> Hp -> VK -> Prop := fun xs H Q => ∃ (a : Addr) (us : List Str), xs = [.ref a] /\ (H a = some (SetO P w a us) \/ SqL K H a (us.map V.str)) /\ us.length < 64 /\
 ∀ l vs, H l = none -> sortedS vs = true -> vs.Perm us -> Q (.ref l) (upd H l (.lst (vs.map V.str)))
theorem zdy : ∀ {us : List Value} {ys : List Str}, StrsAre us ys -> Vals (ys.map V.str) us
 | _, _, .nil => .nil
 | _, _, .cons x t r => .cons ⟨t, rfl⟩ (zdy r)
variable {P : Program} {w : World} {K : W.Frag} {Q : VK} {p : Addr}
theorem zff (P : Program) (w : World) (K : W.Frag) (hc : X.calm = true) (hK : X.K = K := by rfl) (hP : X.prog = P := by rfl) (hw : X.w = w := by rfl) : zaN X (.type "set") (zi5 P w K) := by
 subst hK hP hw; exact zhu hc
theorem zlx : zi5 P w K [.ref p] H Q = ∃ ts : List Str, SqL K H p (ts.map V.str) /\ ts.length < 4000 /\ ∀ S us, H S = none -> us.Nodup -> us.length <= ts.length -> (∀ x, x ∈ us ↔ x ∈ ts) -> Q (.ref S) (upd H S (SetO P w S us)) := by
 refine propext ⟨fun ⟨_, ts, e, h⟩ => ?_, fun ⟨ts, h⟩ => ⟨p, ts, rfl, h⟩⟩;cases e; exact ⟨ts, h⟩
theorem zoh : zlw P w K [.ref p] H Q = ∃ us : List Str, (H p = some (SetO P w p us) \/ SqL K H p (us.map V.str)) /\ us.length < 64 /\ ∀ l vs, H l = none -> sortedS vs = true -> vs.Perm us -> Q (.ref l) (upd H l (.lst (vs.map V.str))) := by
 refine propext ⟨fun ⟨_, us, e, h⟩ => ?_, fun ⟨us, h⟩ => ⟨p, us, rfl, h⟩⟩;cases e; exact ⟨us, h⟩
end
section
variable {prog : Program} {w : World} {A : Around} {E : ZQ} {s : Shared} {κ : KeyKind} {kx : SortKind}
def LtAt (κ : KeyKind) (kx : SortKind) (prog : Program) (w : World) (A : Around) (s : Shared) : Prop :=
 ∀ (E : ZQ) (x y : Value) (a b : κ.α) {Q : Bool -> Shared -> Prop}, κ.keyOf x = some a -> κ.keyOf y = some b -> Q (κ.blt a b) s -> wpAny (model prog w) A (keyLt' kx x y) Q E s
theorem LtAt.one (h : κ.OneLt) : LtAt κ oneType' prog w A s := fun E x y a b Q ha hb hq => h prog w A E s x y a b ha hb hq
def kOf (κ : KeyKind) (x : Keyed) : κ.α := (κ.keyOf x.1).getD κ.dflt
def Kd (κ : KeyKind) (x : Keyed) : Prop := ∃ a, κ.keyOf x.1 = some a
theorem zdz {st : SortSt} {x y : Keyed} {Q : Option Bool -> SortSt -> Prop} (hO : LtAt κ kx prog w A s) (hk : kindOf st = kx) (hx : Kd κ x) (hy : Kd κ y) (h : Q (some (κ.blt (kOf κ x) (kOf κ y))) st) : wpS (model prog w) A E s (lt' x y) Q st := by
 obtain ⟨a, ha⟩ := hx;obtain ⟨b, hb⟩ := hy;have ea : kOf κ x = a := by unfold kOf; rw [ha]; rfl
 have eb : kOf κ y = b := by unfold kOf; rw [hb]; rfl
 rw [ea, eb] at h;rw [lt'_eq];refine wpS_bind (wpS_get ?_);rw [hk];refine wpS_bind (wpS_lift (wpAny_attempt (hO _ x.1 y.1 a b ha hb ⟨rfl, ?_⟩)));exact wpS_pure h
theorem za0 {st : SortSt} {arr : Array Keyed} {i : Nat} {Q : Keyed -> SortSt -> Prop} (hi : i < arr.size) (h : Q arr[i] st) : wpS (model prog w) A E s (elem' arr i) Q st := by
 rw [elem'_eq, getElem?_pos arr i hi];exact wpS_pure h
def zbw : Bool -> Keyed -> Array Keyed -> Nat -> Nat -> Nat -> StateT SortSt Sem (Option Nat) := sortPriv% PySem.Builtin.gallop
def zi6 (left : Bool) (key : Keyed) (arr : Array Keyed) (base i : Nat) : StateT SortSt Sem (Option Bool) := do
 let x <- elem' arr (base + i)
 if left then lt' x key else return (<- lt' key x).map (!·)
def bynd (κ : KeyKind) (left : Bool) (key : Keyed) (arr : Array Keyed) (base i : Nat) : Bool := match arr[base + i]? with
 | some x => if left then κ.blt (kOf κ x) (kOf κ key) else !κ.blt (kOf κ key) (kOf κ x)
 | none => false
theorem zhv {st : SortSt} {left : Bool} {key : Keyed} {arr : Array Keyed} {base i : Nat} {Q : Option Bool -> SortSt -> Prop} (hO : LtAt κ kx prog w A s) (hk : kindOf st = kx) (hy : Kd κ key) (ha : ∀ x ∈ arr, Kd κ x) (hi : base + i < arr.size) (h : Q (some (bynd κ left key arr base i)) st) : wpS (model prog w) A E s (zi6 left key arr base i) Q st := by
 unfold zi6;refine wpS_bind (za0 hi ?_);unfold bynd at h;rw [getElem?_pos arr _ hi] at h;have hx := ha arr[base + i] (Array.getElem_mem hi);cases left with
 | true => exact zdz hO hk hx hy h
 | false => exact wpS_bind (zdz hO hk hy hx (wpS_pure h))
def srch (f : Nat -> StateT SortSt Sem (Option Bool)) (n lo hi : Nat) : StateT SortSt Sem (Option Nat) := do
 let mut lo := lo
 let mut hi := hi
 for _ in [0:n] do
  if lo ≥ hi then break
  let m := lo + (hi - lo) / 2
  let some more <- f m | return none
  if more then lo := m + 1 else hi := m
 return some hi
def gal (f : Nat -> StateT SortSt Sem (Option Bool)) (n hint : Nat) : StateT SortSt Sem (Option Nat) := do
 let some right <- f hint | return none
 if right then
  let maxofs := n - hint
  let mut lastofs := 0
  let mut ofs := 1
  for _ in [0:n] do
   if ofs ≥ maxofs then break
   let some more <- f (hint + ofs) | return none
   if !more then break
   lastofs := ofs
   ofs := 2 * ofs + 1
  srch f n (hint + lastofs + 1) (hint + min ofs maxofs)
 else
  let maxofs := hint + 1
  let mut lastofs := 0
  let mut ofs := 1
  for _ in [0:n] do
   if ofs ≥ maxofs then break
   let some found <- f (hint - ofs) | return none
   if found then break
   lastofs := ofs
   ofs := 2 * ofs + 1
  srch f n (hint + 1 - min ofs maxofs) (hint - lastofs)
theorem zfT (left : Bool) (key : Keyed) (arr : Array Keyed) (base n hint : Nat) : zbw left key arr base n hint = gal (zi6 left key arr base) n hint := rfl
theorem zg8 {st : SortSt} {f : Nat -> StateT SortSt Sem (Option Bool)} {B : Nat -> Bool} {n lo hi : Nat} {Q : Option Nat -> SortSt -> Prop} (hf : ∀ i (Q : Option Bool -> SortSt -> Prop), i < n -> Q (some (B i)) st -> wpS (model prog w) A E s (f i) Q st) (hlh : lo <= hi) (hh : hi <= n)
  (hm : ∀ i j, i <= j -> j < n -> B j = true -> B i = true)
  (h1 : ∀ i, i < lo -> B i = true) (h2 : ∀ i, hi <= i -> i < n -> B i = false)
  (h : ∀ k, k <= n -> (∀ i, i < k -> B i = true) -> (∀ i, k <= i -> i < n -> B i = false) -> Q (some k) st) : wpS (model prog w) A E s (srch f n lo hi) Q st := by
 unfold srch;refine wpS_bind (wpS_mono (wpS_forRange (I := fun x c st' => st' = st /\ ∃ lo hi, c = (none, lo, hi) /\ lo <= hi /\ hi <= n /\ hi - lo <= n - x /\ (∀ i, i < lo -> B i = true) /\ ∀ i, hi <= i -> i < n -> B i = false)
  (Q := fun c st' => st' = st /\ ∃ k, c = (none, k, k) /\ k <= n /\ (∀ i, i < k -> B i = true) /\ ∀ i, k <= i -> i < n -> B i = false) ?step ?fin ⟨rfl, lo, hi, rfl, hlh, hh,ω, h1, h2⟩) ?post)
 case fin =>
  rintro c st' ⟨rfl, lo, hi, rfl, q1, q2, q3, q4, q5⟩
  have : lo = hi := by omega
  subst this;exact ⟨rfl, lo, rfl, q2, q4, q5⟩
 case post =>
  rintro c st' ⟨rfl, k, rfl, q1, q2, q3⟩
  exact wpS_pure (h k q1 q2 q3)
 case step =>
  rintro x c st' _ hx ⟨rfl, lo, hi, rfl, q1, q2, q3, q4, q5⟩
  dsimp only
  by_cases hge : lo ≥ hi
  ·rw [if_pos hge];have : lo = hi := by omega
   subst this;exact wpS_pure ⟨rfl, lo, rfl, q2, q4, q5⟩
  ·rw [if_neg hge];refine wpS_bind (hf _ _ ω ?_);cases e : B (lo + (hi - lo) / 2) with
   | true =>
    refine wpS_pure ⟨rfl, _, _, rfl,ω,ω,ω, fun i hi' => ?_, q5⟩;exact hm i (lo + (hi - lo) / 2) ω ω e
   | false =>
    refine wpS_pure ⟨rfl, _, _, rfl,ω,ω,ω, q4, fun i h1 h2 => ?_⟩;cases e' : B i with
    | false => rfl
    | true => rw [hm _ i h1 h2 e'] at e; cases e
theorem zly {st : SortSt} {f : Nat -> StateT SortSt Sem (Option Bool)} {B : Nat -> Bool} {n hint : Nat} {Q : Option Nat -> SortSt -> Prop} (hf : ∀ i (Q : Option Bool -> SortSt -> Prop), i < n -> Q (some (B i)) st -> wpS (model prog w) A E s (f i) Q st) (hh : hint < n)
  (hm : ∀ i j, i <= j -> j < n -> B j = true -> B i = true)
  (h : ∀ k, k <= n -> (∀ i, i < k -> B i = true) -> (∀ i, k <= i -> i < n -> B i = false) -> Q (some k) st) : wpS (model prog w) A E s (gal f n hint) Q st := by
 unfold gal;refine wpS_bind (hf _ _ ω ?_);have hm' : ∀ {i j}, i <= j -> j < n -> B i = false -> B j = false := fun {i j} h1 h2 e => by
  cases e' : B j with
  | false => rfl
  | true => rw [hm i j h1 h2 e'] at e; cases e
 cases e : B hint with
 | true =>
  dsimp only;rw [if_pos rfl];refine wpS_bind (wpS_mono (wpS_forRange (I := fun x c st' => st' = st /\ ∃ l o, c = (none, l, o) /\ l < o /\ x + 1 <= o /\ hint + l < n /\ B (hint + l) = true)
   (Q := fun c st' => st' = st /\ ∃ l o, c = (none, l, o) /\ l < o /\ hint + l < n /\ B (hint + l) = true /\ (hint + o < n -> B (hint + o) = false)) ?step ?fin ⟨rfl, 0, 1, rfl,ω,ω,ω, e⟩) ?post)
  case fin =>
   rintro c st' ⟨rfl, l, o, rfl, q1, q2, q3, q4⟩
   exact ⟨rfl, l, o, rfl, q1, q3, q4, fun z => by omega⟩
  case post =>
   rintro c st' ⟨rfl, l, o, rfl, q1, q2, q3, q4⟩
   dsimp only;refine zg8 hf ω ω hm (fun i hi => hm i (hint + l) ω q2 q3) (fun i h1 h2 => ?_) h;exact hm' (i := hint + o) ω h2 (q4 ω)
  case step =>
   rintro x c st' _ hx ⟨rfl, l, o, rfl, q1, q2, q3, q4⟩
   dsimp only
   by_cases hge : o ≥ n - hint
   ·rw [if_pos hge];exact wpS_pure ⟨rfl, l, o, rfl, q1, q3, q4, fun z => by omega⟩
   ·rw [if_neg hge];refine wpS_bind (hf _ _ ω ?_);cases e : B (hint + o) with
    | true => exact wpS_pure ⟨rfl, o, _, rfl,ω,ω,ω, e⟩
    | false => exact wpS_pure ⟨rfl, l, o, rfl, q1, q3, q4, fun _ => e⟩
 | false =>
  dsimp only;rw [if_neg δ];refine wpS_bind (wpS_mono (wpS_forRange (I := fun x c st' => st' = st /\ ∃ l o, c = (none, l, o) /\ l < o /\ x + 1 <= o /\ l <= hint /\ B (hint - l) = false)
   (Q := fun c st' => st' = st /\ ∃ l o, c = (none, l, o) /\ l < o /\ l <= hint /\ B (hint - l) = false /\ (o <= hint -> B (hint - o) = true)) ?step ?fin ⟨rfl, 0, 1, rfl,ω,ω,ω, e⟩) ?post)
  case fin =>
   rintro c st' ⟨rfl, l, o, rfl, q1, q2, q3, q4⟩
   exact ⟨rfl, l, o, rfl, q1, q3, q4, fun z => by omega⟩
  case post =>
   rintro c st' ⟨rfl, l, o, rfl, q1, q2, q3, q4⟩
   dsimp only;refine zg8 hf ω ω hm (fun i hi => hm i (hint - o) ω ω (q4 ω)) (fun i h1 h2 => ?_) h;exact hm' (i := hint - l) ω h2 q3
  case step =>
   rintro x c st' _ hx ⟨rfl, l, o, rfl, q1, q2, q3, q4⟩
   dsimp only
   by_cases hge : o ≥ hint + 1
   ·rw [if_pos hge];exact wpS_pure ⟨rfl, l, o, rfl, q1, q3, q4, fun z => by omega⟩
   ·rw [if_neg hge];refine wpS_bind (hf _ _ ω ?_);cases e : B (hint - o) with
    | false => exact wpS_pure ⟨rfl, o, _, rfl,ω,ω,ω, e⟩
    | true => exact wpS_pure ⟨rfl, l, o, rfl, q1, q3, q4, fun _ => e⟩
theorem zb5 {st : SortSt} {left : Bool} {key : Keyed} {arr : Array Keyed} {base n hint : Nat} {Q : Option Nat -> SortSt -> Prop} (hO : LtAt κ kx prog w A s) (hk : kindOf st = kx) (hy : Kd κ key) (ha : ∀ x ∈ arr, Kd κ x) (hn : base + n <= arr.size) (hh : hint < n)
  (hm : ∀ i j, i <= j -> j < n -> bynd κ left key arr base j = true -> bynd κ left key arr base i = true)
  (h : ∀ k, k <= n -> (∀ i, i < k -> bynd κ left key arr base i = true) -> (∀ i, k <= i -> i < n -> bynd κ left key arr base i = false) -> Q (some k) st) : wpS (model prog w) A E s (zbw left key arr base n hint) Q st := by
 rw [zfT];exact zly (B := bynd κ left key arr base) (fun i Q hi q => zhv hO hk hy ha ω q) hh hm h
def zdK : Nat -> StateT SortSt Sem Unit := sortPriv% PySem.Builtin.setMinGallop
theorem zke (g : Nat) : zdK g = modify fun s => SortSt.mk' (kindOf s) (arrOf s) (pendingOf s) g (failedOf s) := rfl
def zcX : Array Keyed -> Array Keyed -> StateT SortSt Sem (Array Keyed) := sortPriv% PySem.Builtin.mergeLo
theorem zfU (a b : Array Keyed) : zcX a b = (do
 rule "list.sort.merge-lo"
 let total := a.size + b.size
 let done (out : Array Keyed) (ia ib : Nat) := out ++ a.extract ia a.size ++ b.extract ib b.size
 let lastOfA (out : Array Keyed) (ia ib : Nat) := out ++ b.extract ib b.size ++ a.extract ia a.size
 let mut out : Array Keyed := #[<- elem' b 0]
 let mut ia := 0
 let mut ib := 1
 if ib == b.size then return done out ia ib
 if ia + 1 == a.size then return lastOfA out ia ib
 let mut minGallop := gallopOf (<- get)
 for _ in [0:total] do
  let mut acount := 0
  let mut bcount := 0
  for _ in [0:total] do
   let some bWins <- lt' (<- elem' b ib) (<- elem' a ia) | return done out ia ib
   if bWins then
    out := out.push (<- elem' b ib); ib := ib + 1; bcount := bcount + 1; acount := 0
    if ib == b.size then return done out ia ib
    if bcount ≥ minGallop then break
   else
    out := out.push (<- elem' a ia); ia := ia + 1; acount := acount + 1; bcount := 0
    if ia + 1 == a.size then return lastOfA out ia ib
    if acount ≥ minGallop then break
  rule "list.sort.gallop"
  minGallop := minGallop + 1
  for _ in [0:total] do
   if minGallop > 1 then minGallop := minGallop - 1
   zdK minGallop
   let some k <- zbw false (<- elem' b ib) a ia (a.size - ia) 0 | return done out ia ib
   acount := k
   if k > 0 then
    out := out ++ a.extract ia (ia + k); ia := ia + k
    if ia + 1 == a.size then return lastOfA out ia ib
    if ia == a.size then return done out ia ib
   out := out.push (<- elem' b ib); ib := ib + 1
   if ib == b.size then return done out ia ib
   let some k <- zbw true (<- elem' a ia) b ib (b.size - ib) 0 | return done out ia ib
   bcount := k
   if k > 0 then
    out := out ++ b.extract ib (ib + k); ib := ib + k
    if ib == b.size then return done out ia ib
   out := out.push (<- elem' a ia); ia := ia + 1
   if ia + 1 == a.size then return lastOfA out ia ib
   if acount < 7 && bcount < 7 then break
  minGallop := minGallop + 1
  zdK minGallop
 unsupported "internal:list.sort.merge-bound") := rfl
def Srt (κ : KeyKind) (l : List Keyed) : Prop := l.Pairwise fun x y => κ.kle (kOf κ x) (kOf κ y)
structure MI (κ : KeyKind) (a b out : List Keyed) (ia ib : Nat) : Prop where
 ha : ia <= a.length
 hb : ib <= b.length
 perm : out.Perm (a.take ia ++ b.take ib)
 srt : Srt κ out
 le : ∀ x ∈ out, ∀ y ∈ a.drop ia ++ b.drop ib, κ.kle (kOf κ x) (kOf κ y)
theorem MI.swap {a b out : List Keyed} {ia ib : Nat} (h : MI κ a b out ia ib) : MI κ b a out ib ia :=
 ⟨h.hb, h.ha, h.perm.trans List.perm_append_comm, h.srt, fun x hx y hy => h.le x hx y (by rw [yay] at hy ⊢; exact hy.symm)⟩
theorem Srt.drop {l : List Keyed} {n : Nat} (h : Srt κ l) : Srt κ (l.drop n) := List.Pairwise.sublist (List.drop_sublist n l) h
theorem Srt.take {l : List Keyed} {n : Nat} (h : Srt κ l) : Srt κ (l.take n) := List.Pairwise.sublist (List.take_sublist n l) h
theorem MI.addA {a b out : List Keyed} {ia ib k : Nat} (h : MI κ a b out ia ib) (hk : ia + k <= a.length) (sa : Srt κ a) (hle : ∀ x ∈ (a.drop ia).take k, ∀ y ∈ b.drop ib, κ.kle (kOf κ x) (kOf κ y)) : MI κ a b (out ++ (a.drop ia).take k) (ia + k) ib := by
 have ed : a.drop ia = (a.drop ia).take k ++ a.drop (ia + k) := by
  conv => lhs; rw [<- List.take_append_drop k (a.drop ia), List.drop_drop]
 have sd : Srt κ ((a.drop ia).take k ++ a.drop (ia + k)) := by rw [<- ed]; exact sa.drop
 obtain ⟨s1, s2, s3⟩ := List.pairwise_append.mp sd;refine ⟨hk, h.hb, ?_, List.pairwise_append.mpr ⟨h.srt, s1, fun x hx y hy => h.le x hx y (List.mem_append_left _ (List.mem_of_mem_take hy))⟩, fun x hx y hy => ?_⟩
 ·rw [List.take_add];refine (h.perm.append_right _).trans ?_;rw [List.append_assoc, List.append_assoc];exact List.Perm.append_left _ List.perm_append_comm
 ·rcases yay.mp hx with hx | hx
  ·refine h.le x hx y ?_;rcases yay.mp hy with hy | hy
   ·refine List.mem_append_left _ ?_;rw [ed];exact List.mem_append_right _ hy
   ·exact List.mem_append_right _ hy
  ·rcases yay.mp hy with hy | hy
   ·exact s3 x hx y hy
   ·exact hle x hx y hy
structure Mg (κ : KeyKind) (a b m : List Keyed) : Prop where
 perm : m.Perm (a ++ b)
 srt : Srt κ m
theorem MI.fin {a b out r : List Keyed} {ia ib : Nat} (h : MI κ a b out ia ib) (hr : r.Perm (a.drop ia ++ b.drop ib)) (sr : Srt κ r) : Mg κ a b (out ++ r) := by
 refine ⟨?_, List.pairwise_append.mpr ⟨h.srt, sr, fun x hx y hy => h.le x hx y (hr.mem_iff.mp hy)⟩⟩;refine ((h.perm.append_right _).trans ((List.Perm.append_left _ hr))).trans ?_
 conv => rhs; rw [<- List.take_append_drop ia a, <- List.take_append_drop ib b]
 rw [List.append_assoc, List.append_assoc];refine List.Perm.append_left _ ?_;rw [<- List.append_assoc, <- List.append_assoc];exact List.Perm.append_right _ List.perm_append_comm
theorem zbC (a : Array Keyed) (i j : Nat) : (a.extract i j).toList = (a.toList.drop i).take (j - i) := by
 simp [Array.toList_extract, List.extract_eq_drop_take]
theorem zg9 {a : Array Keyed} {i : Nat} (h : i < a.size) : (a.toList.drop i).take 1 = [a[i]] := by
 rw [List.drop_eq_getElem_cons (by simpa using h)];simp
def LoOk (κ : KeyKind) (a b : Array Keyed) (m : Array Keyed) : Prop := Mg κ a.toList b.toList m.toList
theorem MI.done {a b out : Array Keyed} {ia ib : Nat} (h : MI κ a.toList b.toList out.toList ia ib) (sa : Srt κ a.toList) (sb : Srt κ b.toList) (he : ib = b.size \/ ia = a.size) : LoOk κ a b (out ++ a.extract ia a.size ++ b.extract ib b.size) := by
 have e : (out ++ a.extract ia a.size ++ b.extract ib b.size).toList = out.toList ++ (a.toList.drop ia ++ b.toList.drop ib) := by
  rw [Array.toList_append, Array.toList_append, zbC, zbC, List.append_assoc, List.take_of_length_le ς, List.take_of_length_le ς]
 show Mg κ _ _ _;rw [e];refine h.fin (List.Perm.refl _) ?_;rcases he with he | he
 ·rw [show b.toList.drop ib = [] from List.drop_eq_nil_of_le (by simp [he]), List.append_nil]; exact sa.drop
 ·rw [show a.toList.drop ia = [] from List.drop_eq_nil_of_le (by simp [he]), List.nil_append]; exact sb.drop
theorem MI.lastA {a b out : Array Keyed} {ia ib : Nat} (h : MI κ a.toList b.toList out.toList ia ib) (sb : Srt κ b.toList) (he : ia + 1 = a.size) (hz : ∀ y ∈ b.toList, ∀ z ∈ a.toList.drop ia, κ.kle (kOf κ y) (kOf κ z)) : LoOk κ a b (out ++ b.extract ib b.size ++ a.extract ia a.size) := by
 have e : (out ++ b.extract ib b.size ++ a.extract ia a.size).toList = out.toList ++ (b.toList.drop ib ++ a.toList.drop ia) := by
  rw [Array.toList_append, Array.toList_append, zbC, zbC, List.append_assoc, List.take_of_length_le ς, List.take_of_length_le ς]
 show Mg κ _ _ _;rw [e];refine h.fin List.perm_append_comm ?_;refine List.pairwise_append.mpr ⟨sb.drop, ?_, fun x hx y hy => hz x (List.mem_of_mem_drop hx) y hy⟩;have : (a.toList.drop ia).length = 1 := by rw [List.length_drop]; simp; omega
 match hl : a.toList.drop ia, this with
 | [z], _ => exact List.pairwise_singleton _ _
theorem MI.pushA {a b out : Array Keyed} {ia ib : Nat} (h : MI κ a.toList b.toList out.toList ia ib) (hi : ia < a.size) (sa : Srt κ a.toList) (hle : ∀ y ∈ b.toList.drop ib, κ.kle (kOf κ a[ia]) (kOf κ y)) : MI κ a.toList b.toList (out.push a[ia]).toList (ia + 1) ib := by
 have := h.addA (k := 1) (by rw [Array.length_toList]; omega) sa (by rw [zg9 hi]; intro x hx; rw [yah.mp hx]; exact hle);rw [zg9 hi] at this;simpa using this
theorem MI.pushB {a b out : Array Keyed} {ia ib : Nat} (h : MI κ a.toList b.toList out.toList ia ib) (hi : ib < b.size) (sb : Srt κ b.toList) (hle : ∀ y ∈ a.toList.drop ia, κ.kle (kOf κ b[ib]) (kOf κ y)) : MI κ a.toList b.toList (out.push b[ib]).toList ia (ib + 1) :=
 (h.swap.pushA hi sb hle).swap
theorem MI.extA {a b out : Array Keyed} {ia ib k : Nat} (h : MI κ a.toList b.toList out.toList ia ib) (hk : ia + k <= a.size) (sa : Srt κ a.toList) (hle : ∀ x ∈ (a.toList.drop ia).take k, ∀ y ∈ b.toList.drop ib, κ.kle (kOf κ x) (kOf κ y)) : MI κ a.toList b.toList (out ++ a.extract ia (ia + k)).toList (ia + k) ib := by
 have := h.addA (k := k) (by simpa using hk) sa hle;rw [Array.toList_append, zbC, Nat.add_sub_cancel_left];exact this
theorem MI.extB {a b out : Array Keyed} {ia ib k : Nat} (h : MI κ a.toList b.toList out.toList ia ib) (hk : ib + k <= b.size) (sb : Srt κ b.toList) (hle : ∀ x ∈ (b.toList.drop ib).take k, ∀ y ∈ a.toList.drop ia, κ.kle (kOf κ x) (kOf κ y)) : MI κ a.toList b.toList (out ++ b.extract ib (ib + k)).toList ia (ib + k) :=
 (h.swap.extA hk sb hle).swap
theorem Srt.at {a : Array Keyed} (h : Srt κ a.toList) {i j : Nat} (hij : i <= j) (hj : j < a.size) : κ.kle (kOf κ (a[i]'ω)) (kOf κ a[j]) := by
 by_cases e : i = j
 ·subst e; exact KeyOrd.kle_refl _
 ·have := List.pairwise_iff_getElem.mp h i j (by simp; omega) (by simpa using hj) ω;simpa using this
theorem zcY {a : Array Keyed} {i : Nat} {y : Keyed} (h : y ∈ a.toList.drop i) : ∃ j, ∃ hj : j < a.size, i <= j /\ y = a[j] := by
 obtain ⟨k, hk, e⟩ := List.getElem_of_mem h;rw [List.length_drop] at hk;refine ⟨i + k, by simpa using (by omega : i + k < a.toList.length),ω, ?_⟩;rw [<- e];simp
theorem zi7 {a : Array Keyed} {i k : Nat} {y : Keyed} (h : y ∈ (a.toList.drop i).take k) : ∃ j, ∃ hj : j < a.size, i <= j /\ j < i + k /\ y = a[j] := by
 obtain ⟨m, hm, e⟩ := List.getElem_of_mem h;rw [ya3, List.length_drop] at hm;refine ⟨i + m, by simpa using (by omega : i + m < a.toList.length),ω,ω, ?_⟩;rw [<- e];simp
abbrev setG (st : SortSt) (g : Nat) : SortSt := SortSt.mk' (kindOf st) (arrOf st) (pendingOf st) g (failedOf st)
theorem MI.nil (a b : List Keyed) : MI κ a b [] 0 0 := ⟨yaq _, yaq _,ς, List.Pairwise.nil, fun x hx => by cases hx⟩
theorem zc2 {st : SortSt} {g : Nat} {Q : Unit -> SortSt -> Prop} (h : Q () (setG st g)) : wpS (model prog w) A E s (zdK g) Q st := by
 rw [zke];exact wpS_modify h
theorem zbM {left : Bool} {key : Keyed} {arr : Array Keyed} {base i : Nat} (h : base + i < arr.size) : bynd κ left key arr base i = if left then κ.blt (kOf κ arr[base + i]) (kOf κ key) else !κ.blt (kOf κ key) (kOf κ arr[base + i]) := by
 unfold bynd;rw [getElem?_pos arr _ h]
theorem zc3 {left : Bool} {key : Keyed} {arr : Array Keyed} {base n : Nat} (hn : base + n <= arr.size) (sa : Srt κ arr.toList) : ∀ i j, i <= j -> j < n -> bynd κ left key arr base j = true -> bynd κ left key arr base i = true := fun i j hij hj e => by
 rw [zbM ω] at e ⊢;have hle := sa.at (i := base + i) (j := base + j) ω ω;cases left with
 | true => exact KeyOrd.klt_of_kle_of_klt hle e
 | false =>
  simp only [Bool.false_eq_true, if_false, Bool.not_eq_true'] at e ⊢;exact KeyOrd.kle_trans hle e
abbrev LT := Option (Array Keyed) × Array Keyed × Nat × Nat × Nat × Nat × Nat
abbrev LU := Option (Array Keyed) × Array Keyed × Nat × Nat × Nat × Nat
abbrev LV := Option (Array Keyed) × Array Keyed × Nat × Nat × Nat
def loC (a b out : Array Keyed) (ia ib mg ac bc : Nat) : StateT SortSt Sem (ForInStep LT) := do
 let x <- elem' a ia
 if (ia + 1 + 1 == a.size) = true then pure (.done (some (out.push x ++ b.extract ib b.size ++ a.extract (ia + 1) a.size), out.push x, ia + 1, ib, mg, ac, bc))
 else if (decide (ac < 7) && decide (bc < 7)) = true then pure (.done (none, out.push x, ia + 1, ib, mg, ac, bc))
 else pure (.yield (none, out.push x, ia + 1, ib, mg, ac, bc))
def loB (a b out : Array Keyed) (ia ib mg ac bc : Nat) : StateT SortSt Sem (ForInStep LT) := do
 let x <- elem' b ib
 if (ib + 1 == b.size) = true then pure (.done (some (out.push x ++ a.extract ia a.size ++ b.extract (ib + 1) b.size), out.push x, ia, ib + 1, mg, ac, bc))
 else do
  let y <- elem' a ia
  let r <- zbw true y b (ib + 1) (b.size - (ib + 1)) 0
  match r with
  | some k =>
   if k > 0 then
    if (ib + 1 + k == b.size) = true then pure (.done (some (out.push x ++ b.extract (ib + 1) (ib + 1 + k) ++ a.extract ia a.size ++ b.extract (ib + 1 + k) b.size), out.push x ++ b.extract (ib + 1) (ib + 1 + k), ia, ib + 1 + k, mg, ac, k))
    else loC a b (out.push x ++ b.extract (ib + 1) (ib + 1 + k)) ia (ib + 1 + k) mg ac k
   else loC a b (out.push x) ia (ib + 1) mg ac k
  | _ => pure (.done (some (out.push x ++ a.extract ia a.size ++ b.extract (ib + 1) b.size), out.push x, ia, ib + 1, mg, ac, bc))
def loA (a b out : Array Keyed) (ia ib mg ac bc : Nat) : StateT SortSt Sem (ForInStep LT) := do
 zdK mg
 let x <- elem' b ib
 let r <- zbw false x a ia (a.size - ia) 0
 match r with
 | some k =>
  if k > 0 then
   if (ia + k + 1 == a.size) = true then pure (.done (some (out ++ a.extract ia (ia + k) ++ b.extract ib b.size ++ a.extract (ia + k) a.size), out ++ a.extract ia (ia + k), ia + k, ib, mg, k, bc))
   else if (ia + k == a.size) = true then pure (.done (some (out ++ a.extract ia (ia + k) ++ a.extract (ia + k) a.size ++ b.extract ib b.size), out ++ a.extract ia (ia + k), ia + k, ib, mg, k, bc))
   else loB a b (out ++ a.extract ia (ia + k)) (ia + k) ib mg k bc
  else loB a b out ia ib mg k bc
 | _ => pure (.done (some (out ++ a.extract ia a.size ++ b.extract ib b.size), out, ia, ib, mg, ac, bc))
def lo1 (a b : Array Keyed) (mg : Nat) (out : Array Keyed) (ia ib ac bc : Nat) : StateT SortSt Sem (ForInStep LU) := do
 let x <- elem' b ib
 let y <- elem' a ia
 let r <- lt' x y
 match r with
 | some w =>
  if w = true then do
   let x <- elem' b ib
   if (ib + 1 == b.size) = true then pure (.done (some (out.push x ++ a.extract ia a.size ++ b.extract (ib + 1) b.size), out.push x, ia, ib + 1, 0, bc + 1))
   else if bc + 1 ≥ mg then pure (.done (none, out.push x, ia, ib + 1, 0, bc + 1)) else pure (.yield (none, out.push x, ia, ib + 1, 0, bc + 1))
  else do
   let y <- elem' a ia
   if (ia + 1 + 1 == a.size) = true then pure (.done (some (out.push y ++ b.extract ib b.size ++ a.extract (ia + 1) a.size), out.push y, ia + 1, ib, ac + 1, 0))
   else if ac + 1 ≥ mg then pure (.done (none, out.push y, ia + 1, ib, ac + 1, 0)) else pure (.yield (none, out.push y, ia + 1, ib, ac + 1, 0))
 | _ => pure (.done (some (out ++ a.extract ia a.size ++ b.extract ib b.size), out, ia, ib, ac, bc))
def loO (a b out : Array Keyed) (ia ib mg : Nat) : StateT SortSt Sem (ForInStep LV) := do
 let t <- forIn [:a.size + b.size] ((none, out, ia, ib, 0, 0) : LU) fun _ t => lo1 a b mg t.2.1 t.2.2.1 t.2.2.2.1 t.2.2.2.2.1 t.2.2.2.2.2
 match t.1 with
 | some r => pure (.done (some r, t.2.1, t.2.2.1, t.2.2.2.1, mg))
 | none => do
  liftM (rule "list.sort.gallop")
  let t <- forIn [:a.size + b.size] ((none, t.2.1, t.2.2.1, t.2.2.2.1, mg + 1, t.2.2.2.2.1, t.2.2.2.2.2) : LT) fun _ t =>
   if t.2.2.2.2.1 > 1 then loA a b t.2.1 t.2.2.1 t.2.2.2.1 (t.2.2.2.2.1 - 1) t.2.2.2.2.2.1 t.2.2.2.2.2.2 else loA a b t.2.1 t.2.2.1 t.2.2.2.1 t.2.2.2.2.1 t.2.2.2.2.2.1 t.2.2.2.2.2.2
  match t.1 with
  | some r => pure (.done (some r, t.2.1, t.2.2.1, t.2.2.2.1, t.2.2.2.2.1))
  | none => do
   zdK (t.2.2.2.2.1 + 1)
   pure (.yield (none, t.2.1, t.2.2.1, t.2.2.2.1, t.2.2.2.2.1 + 1))
theorem zfV (a b : Array Keyed) : zcX a b = (do
 liftM (rule "list.sort.merge-lo")
 let x <- elem' b 0
 if (1 == b.size) = true then pure (#[x] ++ a.extract 0 a.size ++ b.extract 1 b.size)
 else if (0 + 1 == a.size) = true then pure (#[x] ++ b.extract 1 b.size ++ a.extract 0 a.size)
 else do
  let st <- get
  let t <- forIn [:a.size + b.size] ((none, #[x], 0, 1, gallopOf st) : LV) fun _ t => loO a b t.2.1 t.2.2.1 t.2.2.2.1 t.2.2.2.2
  match t.1 with
  | some r => pure r
  | none => unsupported "internal:list.sort.merge-bound") := by
 rw [zfU];dsimp only
 congr 1
 funext _
 congr 1
 funext x
 congr 1
 congr 1
 congr 1
 funext st
 congr 1
 ·congr 1
  funext _ t
  unfold loO
  congr 1
  funext t1
  obtain ⟨r1, out1, ia1, ib1, ac1, bc1⟩ := t1;cases r1 with
  | some r => rfl
  | none =>
   dsimp only
   congr 1
   funext _
   congr 1
   funext t2
   obtain ⟨r2, _⟩ := t2;cases r2 <;> rfl
 ·funext t
  obtain ⟨r1, _⟩ := t;cases r1 <;> rfl
structure LoH (κ : KeyKind) (kx : SortKind) (prog : Program) (w : World) (A : Around) (s : Shared) (a b : Array Keyed) : Prop where
 o : LtAt κ kx prog w A s
 ka : ∀ x ∈ a, Kd κ x
 kb : ∀ x ∈ b, Kd κ x
 sa : Srt κ a.toList
 sb : Srt κ b.toList
 z : ∀ y ∈ b.toList, ∀ z ∈ a.toList.drop (a.size - 1), κ.kle (kOf κ y) (kOf κ z)
theorem LoH.lst {a b out : Array Keyed} {ia ib : Nat} (h : LoH κ kx prog w A s a b) (m : MI κ a.toList b.toList out.toList ia ib) (e : ia + 1 = a.size) : LoOk κ a b (out ++ b.extract ib b.size ++ a.extract ia a.size) := m.lastA h.sb e (by rw [show ia = a.size - 1 by omega]; exact h.z)
theorem zdW {a : Array Keyed} {i : Nat} {x : Keyed} (sa : Srt κ a.toList) (hi : i < a.size) (h : κ.kle (kOf κ x) (kOf κ a[i])) : ∀ y ∈ a.toList.drop i, κ.kle (kOf κ x) (kOf κ y) := fun y hy => by
 obtain ⟨j, hj, hij, rfl⟩ := zcY hy;exact KeyOrd.kle_trans h (sa.at hij hj)
structure LI (κ : KeyKind) (a b out : Array Keyed) (ia ib : Nat) : Prop where
 m : MI κ a.toList b.toList out.toList ia ib
 ia : ia + 1 < a.size
 ib : ib < b.size
def PTo (κ : KeyKind) (a b : Array Keyed) (n : Nat) (c : LT) : Prop := match c with
 | (some m, _) => LoOk κ a b m
 | (none, out, ia, ib, _) => LI κ a b out ia ib /\ n <= ia + ib
def QT (κ : KeyKind) (a b : Array Keyed) (n : Nat) (r : ForInStep LT) : Prop := match r with
 | .done c => PTo κ a b n c
 | .yield c => c.1 = none /\ PTo κ a b n c
theorem zi8 {st : SortSt} {a b out : Array Keyed} {ia ib mg ac bc n : Nat} (H : LoH κ kx prog w A s a b) (L : LI κ a b out ia ib) (hle : ∀ y ∈ b.toList.drop ib, κ.kle (kOf κ (a[ia]'(by have := L.ia; omega))) (kOf κ y)) (hn : n <= ia + ib) : wpS (model prog w) A E s (loC a b out ia ib mg ac bc) (fun r st' => st' = st /\ QT κ a b n r) st := by
 unfold loC;have hia := L.ia;refine wpS_bind (za0 ω ?_);have m1 := L.m.pushA ω H.sa hle
 by_cases e : ia + 1 + 1 = a.size
 ·rw [if_pos (by simpa using e)];exact wpS_pure ⟨rfl, H.lst m1 e⟩
 ·rw [if_neg (by simpa using e)];have L1 : LI κ a b (out.push a[ia]) (ia + 1) ib := ⟨m1,ω, L.ib⟩
  split
  ·exact wpS_pure ⟨rfl, L1,ω⟩
  ·exact wpS_pure ⟨rfl, rfl, L1,ω⟩
theorem zi9 {st : SortSt} {a b out : Array Keyed} {ia ib mg ac bc n : Nat} (H : LoH κ kx prog w A s a b) (hk : kindOf st = kx) (L : LI κ a b out ia ib) (hle : ∀ y ∈ a.toList.drop ia, κ.kle (kOf κ (b[ib]'L.ib)) (kOf κ y)) (hn : n <= ia + ib) : wpS (model prog w) A E s (loB a b out ia ib mg ac bc) (fun r st' => st' = st /\ QT κ a b n r) st := by
 unfold loB;have hia := L.ia;have hib := L.ib;refine wpS_bind (za0 L.ib ?_);have m1 := L.m.pushB L.ib H.sb hle
 by_cases e : ib + 1 = b.size
 ·rw [if_pos (by simpa using e)];exact wpS_pure ⟨rfl, m1.done H.sa H.sb (.inl e)⟩
 rw [if_neg (by simpa using e)];refine wpS_bind (za0 ω (wpS_bind (zb5 H.o hk (H.ka _ (Array.getElem_mem _)) H.kb ω ω (zc3 ω H.sb) fun k hk1 h1 h2 => ?_)));have hlt : ∀ j (hj : j < b.size), ib + 1 <= j -> j < ib + 1 + k -> κ.kle (kOf κ b[j]) (kOf κ (a[ia]'ω)) := fun j hj q1 q2 => by
  have := h1 (j - (ib + 1)) ω;rw [zbM ω] at this;simp only [if_true] at this;have e' : ib + 1 + (j - (ib + 1)) = j := by omega
  simp only [e'] at this;exact KeyOrd.kle_of_klt this
 have hge : ∀ hj : ib + 1 + k < b.size, κ.kle (kOf κ (a[ia]'ω)) (kOf κ b[ib + 1 + k]) := fun hj => by
  have := h2 k (yai _) ω;rw [zbM ω] at this;show κ.blt _ _ = false;simpa using this
 have m2 := m1.extB (k := k) ω H.sb (fun x hx y hy => by
  obtain ⟨j, hj, q1, q2, rfl⟩ := zi7 hx;obtain ⟨i, hi, q3, rfl⟩ := zcY hy;exact KeyOrd.kle_trans (hlt j hj q1 q2) (H.sa.at q3 hi))
 dsimp only
 by_cases hk0 : k > 0
 ·rw [if_pos hk0]
  by_cases e2 : ib + 1 + k = b.size
  ·rw [if_pos (by simpa using e2)];exact wpS_pure ⟨rfl, m2.done H.sa H.sb (.inl e2)⟩
  ·rw [if_neg (by simpa using e2)];exact zi8 H ⟨m2, hia,ω⟩ (zdW H.sb ω (hge ω)) ω
 ·rw [if_neg hk0];have k0 : k = 0 := by omega
  subst k0;exact zi8 H ⟨m1, hia,ω⟩ (zdW H.sb ω (hge ω)) ω
theorem zlz {st : SortSt} {a b out : Array Keyed} {ia ib mg ac bc n : Nat} (H : LoH κ kx prog w A s a b) (hk : kindOf st = kx) (L : LI κ a b out ia ib) (hn : n <= ia + ib) : wpS (model prog w) A E s (loA a b out ia ib mg ac bc) (fun r st' => st' = setG st mg /\ QT κ a b n r) st := by
 unfold loA;have hia := L.ia;have hib := L.ib;refine wpS_bind (zc2 (wpS_bind (za0 L.ib (wpS_bind (zb5 (st := setG st mg) H.o hk (H.kb _ (Array.getElem_mem _)) H.ka ω ω (zc3 ω H.sa) fun k hk1 h1 h2 => ?_)))));have hle : ∀ j (hj : j < a.size), ia <= j -> j < ia + k -> κ.kle (kOf κ a[j]) (kOf κ (b[ib]'L.ib)) := fun j hj q1 q2 => by
  have := h1 (j - ia) ω;rw [zbM ω] at this;have e' : ia + (j - ia) = j := by omega
  simp only [Bool.false_eq_true, if_false, Bool.not_eq_true', e'] at this;exact this
 have hgt : ∀ hj : ia + k < a.size, κ.kle (kOf κ (b[ib]'L.ib)) (kOf κ a[ia + k]) := fun hj => by
  have := h2 k (yai _) ω;rw [zbM ω] at this;simp only [Bool.false_eq_true, if_false, Bool.not_eq_false'] at this;exact KeyOrd.kle_of_klt this
 have m2 := L.m.extA (k := k) ω H.sa (fun x hx y hy => by
  obtain ⟨j, hj, q1, q2, rfl⟩ := zi7 hx;obtain ⟨i, hi, q3, rfl⟩ := zcY hy;exact KeyOrd.kle_trans (hle j hj q1 q2) (H.sb.at q3 hi))
 dsimp only
 by_cases hk0 : k > 0
 ·rw [if_pos hk0]
  by_cases e2 : ia + k + 1 = a.size
  ·rw [if_pos (by simpa using e2)];exact wpS_pure ⟨rfl, H.lst m2 e2⟩
  rw [if_neg (by simpa using e2)]
  by_cases e3 : ia + k = a.size
  ·rw [if_pos (by simpa using e3)];exact wpS_pure ⟨rfl, m2.done H.sa H.sb (.inr e3)⟩
  rw [if_neg (by simpa using e3)];exact zi9 (st := setG st mg) H hk ⟨m2,ω, hib⟩ (zdW H.sa ω (hgt ω)) ω
 ·rw [if_neg hk0];have k0 : k = 0 := by omega
  subst k0;exact zi9 (st := setG st mg) H hk L (zdW H.sa ω (hgt ω)) hn
def PU (κ : KeyKind) (a b : Array Keyed) (n : Nat) (c : LU) : Prop := match c with
 | (some m, _) => LoOk κ a b m
 | (none, out, ia, ib, _) => LI κ a b out ia ib /\ n <= ia + ib
theorem zl0 {st : SortSt} {a b out : Array Keyed} {mg ia ib ac bc n : Nat} (H : LoH κ kx prog w A s a b) (hk : kindOf st = kx) (L : LI κ a b out ia ib) (hn : n <= ia + ib) : wpS (model prog w) A E s (lo1 a b mg out ia ib ac bc) (fun r st' => st' = st /\ match r with
  | .done c => PU κ a b (n + 1) c
  | .yield c => c.1 = none /\ PU κ a b (n + 1) c) st := by
 unfold lo1;have hia := L.ia;have hib := L.ib;refine wpS_bind (za0 L.ib (wpS_bind (za0 ω (wpS_bind (zdz H.o hk (H.kb _ (Array.getElem_mem _)) (H.ka _ (Array.getElem_mem _)) ?_)))));cases hw : κ.blt (kOf κ (b[ib]'L.ib)) (kOf κ (a[ia]'ω)) with
 | true =>
  dsimp only;rw [if_pos rfl];refine wpS_bind (za0 L.ib ?_);have m1 := L.m.pushB L.ib H.sb (zdW H.sa ω (KeyOrd.kle_of_klt hw))
  by_cases e : ib + 1 = b.size
  ·rw [if_pos (by simpa using e)];exact wpS_pure ⟨rfl, m1.done H.sa H.sb (.inl e)⟩
  ·rw [if_neg (by simpa using e)];have L1 : LI κ a b (out.push (b[ib]'L.ib)) ia (ib + 1) := ⟨m1, hia,ω⟩
   split
   ·exact wpS_pure ⟨rfl, L1,ω⟩
   ·exact wpS_pure ⟨rfl, rfl, L1,ω⟩
 | false =>
  dsimp only;rw [if_neg δ];refine wpS_bind (za0 ω ?_);have m1 := L.m.pushA ω H.sa (zdW H.sb L.ib (show κ.kle _ _ from hw))
  by_cases e : ia + 1 + 1 = a.size
  ·rw [if_pos (by simpa using e)];exact wpS_pure ⟨rfl, H.lst m1 e⟩
  ·rw [if_neg (by simpa using e)];have L1 : LI κ a b (out.push a[ia]) (ia + 1) ib := ⟨m1,ω, hib⟩
   split
   ·exact wpS_pure ⟨rfl, L1,ω⟩
   ·exact wpS_pure ⟨rfl, rfl, L1,ω⟩
theorem zl1 {st : SortSt} {a b out : Array Keyed} {ia ib mg n : Nat} (H : LoH κ kx prog w A s a b) (hk : kindOf st = kx) (L : LI κ a b out ia ib) (hn : n <= ia + ib) : wpS (model prog w) A E s (loO a b out ia ib mg) (fun r st' => (∃ g, st' = setG st g) /\ match r with
  | .done c => ∃ m t, c = (some m, t) /\ LoOk κ a b m
  | .yield c => ∃ out ia ib mg, c = (none, out, ia, ib, mg) /\ LI κ a b out ia ib /\ n + 1 <= ia + ib) st := by
 unfold loO;refine wpS_bind (wpS_mono (wpS_forRange (I := fun x c st' => st' = st /\ c.1 = none /\ PU κ a b (n + x) c) (Q := fun c st' => st' = st /\ PU κ a b (n + 1) c) ?step ?fin ⟨rfl, rfl, L,ω⟩) ?post)
 case step =>
  rintro x ⟨r, out, ia, ib, ac, bc⟩ st' _ hx ⟨rfl, hr, hP⟩
  cases (show r = none from hr);obtain ⟨L, hn'⟩ : LI κ a b out ia ib /\ n + x <= ia + ib := hP;refine wpS_mono (zl0 H hk L hn') fun r st'' hq => ?_;obtain ⟨rfl, hq⟩ := hq;cases r with
  | done c =>
   refine ⟨rfl, ?_⟩;obtain ⟨r, out2, ia2, ib2, c3⟩ := c;cases r with
   | some m => exact hq
   | none =>
    obtain ⟨q1, q2⟩ : LI κ a b out2 ia2 ib2 /\ n + x + 1 <= ia2 + ib2 := hq;exact ⟨q1,ω⟩
  | yield c => exact ⟨rfl, hq.1, hq.2⟩
 case fin =>
  rintro ⟨r, out, ia, ib, ac, bc⟩ st' ⟨rfl, hr, hP⟩
  cases (show r = none from hr);obtain ⟨L, hn'⟩ : LI κ a b out ia ib /\ n + max 0 (a.size + b.size) <= ia + ib := hP;have := L.ia;have := L.ib;omega
 case post =>
  rintro ⟨r, out, ia, ib, ac, bc⟩ st' ⟨rfl, hP⟩
  cases r with
  | some m => exact wpS_pure ⟨⟨gallopOf st', rfl⟩, m, _, rfl, hP⟩
  | none =>
   obtain ⟨L, hn'⟩ : LI κ a b out ia ib /\ n + 1 <= ia + ib := hP;refine wpS_bind (wpS_lift (wpAny_rule ⟨rfl, ?_⟩));dsimp only;refine wpS_bind (wpS_mono (wpS_forRange (I := fun x c st'' => (∃ g, st'' = setG st' g) /\ c.1 = none /\ PTo κ a b (n + 1) c) (Q := fun c st'' => (∃ g, st'' = setG st' g) /\ PTo κ a b (n + 1) c) ?step2 ?fin2 ⟨⟨gallopOf st', rfl⟩, rfl, L, hn'⟩) ?post2)
   case step2 =>
    rintro x ⟨r, out, ia, ib, mg, ac, bc⟩ st'' _ hx ⟨⟨g, rfl⟩, hr, hP⟩
    cases (show r = none from hr);obtain ⟨L, hn'⟩ : LI κ a b out ia ib /\ n + 1 <= ia + ib := hP;have go : ∀ mg', wpS (model prog w) A E s (loA a b out ia ib mg' ac bc) (fun r st3 => match r with | .done c' => (∃ g, st3 = setG st' g) /\ PTo κ a b (n + 1) c' | .yield c' => (∃ g, st3 = setG st' g) /\ c'.1 = none /\ PTo κ a b (n + 1) c') (setG st' g) := fun mg' => by
     refine wpS_mono (zlz (st := setG st' g) H hk L hn') fun r st3 hq => ?_;obtain ⟨rfl, hq⟩ := hq;cases r with
     | done c => exact ⟨⟨mg', rfl⟩, hq⟩
     | yield c => exact ⟨⟨mg', rfl⟩, hq.1, hq.2⟩
    dsimp only
    split
    ·exact wpS_mono (go _) fun r st3 h => by cases r <;> exact h
    ·exact wpS_mono (go _) fun r st3 h => by cases r <;> exact h
   case fin2 =>
    rintro c st'' ⟨h1, _, h2⟩
    exact ⟨h1, h2⟩
   case post2 =>
    rintro ⟨r, out, ia, ib, mg, ac, bc⟩ st'' ⟨⟨g, rfl⟩, hP⟩
    cases r with
    | some m => exact wpS_pure ⟨⟨g, rfl⟩, m, _, rfl, hP⟩
    | none =>
     obtain ⟨L, hn'⟩ : LI κ a b out ia ib /\ n + 1 <= ia + ib := hP;exact wpS_bind (zc2 (wpS_pure ⟨⟨_, rfl⟩, out, ia, ib, _, rfl, L, hn'⟩))
theorem zfW {st : SortSt} {a b : Array Keyed} {Q : Array Keyed -> SortSt -> Prop} (H : LoH κ kx prog w A s a b) (hk : kindOf st = kx) (h1a : 0 < a.size) (h1b : 0 < b.size)
  (h0 : ∀ y ∈ a.toList, κ.kle (kOf κ b[0]) (kOf κ y)) (h : ∀ m g, LoOk κ a b m -> Q m (setG st g)) : wpS (model prog w) A E s (zcX a b) Q st := by
 rw [zfV];refine wpS_bind (wpS_lift (wpAny_rule ⟨rfl, ?_⟩));refine wpS_bind (za0 h1b ?_);have m0 : MI κ a.toList b.toList #[b[0]].toList 0 1 := by
  have := MI.pushB (out := #[]) (MI.nil (κ := κ) a.toList b.toList) h1b H.sb (by simpa using h0);simpa using this
 by_cases e1 : 1 = b.size
 ·rw [if_pos (by simpa using e1)];exact wpS_pure (h _ (gallopOf st) (m0.done H.sa H.sb (.inl e1)))
 rw [if_neg (by simpa using e1)]
 by_cases e2 : 0 + 1 = a.size
 ·rw [if_pos (by simpa using e2)];exact wpS_pure (h _ (gallopOf st) (H.lst m0 e2))
 rw [if_neg (by simpa using e2)];refine wpS_bind (wpS_get ?_);refine wpS_bind (wpS_mono (wpS_forRange (I := fun x c st' => (∃ g, st' = setG st g) /\ ∃ out ia ib mg, c = (none, out, ia, ib, mg) /\ LI κ a b out ia ib /\ x + 1 <= ia + ib) (Q := fun c st' => (∃ g, st' = setG st g) /\ ∃ m t, c = (some m, t) /\ LoOk κ a b m) ?step ?fin ⟨⟨gallopOf st, rfl⟩, _, 0, 1, _, rfl, ⟨m0,ω,ω⟩,ω⟩) ?post)
 case step =>
  rintro x c st' _ hx ⟨⟨g, rfl⟩, out, ia, ib, mg, rfl, L, hn⟩
  refine wpS_mono (zl1 (st := setG st g) H hk L hn) fun r st'' hq => ?_;obtain ⟨⟨g', rfl⟩, hq⟩ := hq;cases r with
  | done c => exact ⟨⟨g', rfl⟩, hq⟩
  | yield c => exact ⟨⟨g', rfl⟩, hq⟩
 case fin =>
  rintro c st' ⟨_, out, ia, ib, mg, rfl, L, hn⟩
  have := L.ia;have := L.ib;omega
 case post =>
  rintro c st' ⟨⟨g, rfl⟩, m, t, rfl, hm⟩
  exact wpS_pure (h m g hm)
def zcZ : Array Keyed -> Array Keyed -> StateT SortSt Sem (Array Keyed) := sortPriv% PySem.Builtin.mergeHi
theorem zfX (a b : Array Keyed) : zcZ a b = (do
 rule "list.sort.merge-hi"
 let total := a.size + b.size
 let done (out : Array Keyed) (na nb : Nat) := a.extract 0 na ++ b.extract 0 nb ++ out.reverse
 let firstOfB (out : Array Keyed) (na nb : Nat) := b.extract 0 nb ++ a.extract 0 na ++ out.reverse
 let mut na := a.size - 1
 let mut nb := b.size
 let mut out : Array Keyed := #[<- elem' a na]
 if na == 0 then return done out na nb
 if nb == 1 then return firstOfB out na nb
 let mut minGallop := gallopOf (<- get)
 for _ in [0:total] do
  let mut acount := 0
  let mut bcount := 0
  for _ in [0:total] do
   let some aWins <- lt' (<- elem' b (nb - 1)) (<- elem' a (na - 1)) | return done out na nb
   if aWins then
    na := na - 1; out := out.push (<- elem' a na); acount := acount + 1; bcount := 0
    if na == 0 then return done out na nb
    if acount ≥ minGallop then break
   else
    nb := nb - 1; out := out.push (<- elem' b nb); bcount := bcount + 1; acount := 0
    if nb == 1 then return firstOfB out na nb
    if bcount ≥ minGallop then break
  rule "list.sort.gallop"
  minGallop := minGallop + 1
  for _ in [0:total] do
   if minGallop > 1 then minGallop := minGallop - 1
   zdK minGallop
   let some at_ <- zbw false (<- elem' b (nb - 1)) a 0 na (na - 1) | return done out na nb
   let k := na - at_
   acount := k
   if k > 0 then
    out := out ++ (a.extract at_ na).reverse; na := at_
    if na == 0 then return done out na nb
   nb := nb - 1; out := out.push (<- elem' b nb)
   if nb == 1 then return firstOfB out na nb
   let some at_ <- zbw true (<- elem' a (na - 1)) b 0 nb (nb - 1) | return done out na nb
   let k := nb - at_
   bcount := k
   if k > 0 then
    out := out ++ (b.extract at_ nb).reverse; nb := at_
    if nb == 1 then return firstOfB out na nb
    if nb == 0 then return done out na nb
   na := na - 1; out := out.push (<- elem' a na)
   if na == 0 then return done out na nb
   if acount < 7 && bcount < 7 then break
  minGallop := minGallop + 1
  zdK minGallop
 unsupported "internal:list.sort.merge-bound") := rfl
structure MH (κ : KeyKind) (a b O : List Keyed) (na nb : Nat) : Prop where
 ha : na <= a.length
 hb : nb <= b.length
 perm : O.Perm (a.drop na ++ b.drop nb)
 srt : Srt κ O
 le : ∀ x ∈ a.take na ++ b.take nb, ∀ y ∈ O, κ.kle (kOf κ x) (kOf κ y)
theorem MH.swap {a b O : List Keyed} {na nb : Nat} (h : MH κ a b O na nb) : MH κ b a O nb na :=
 ⟨h.hb, h.ha, h.perm.trans List.perm_append_comm, h.srt, fun x hx y hy => h.le x (by rw [yay] at hx ⊢; exact hx.symm) y hy⟩
theorem MH.addA {a b O : List Keyed} {na nb m : Nat} (h : MH κ a b O na nb) (hm : m <= na) (sa : Srt κ a) (hle : ∀ x ∈ b.take nb, ∀ y ∈ (a.take na).drop m, κ.kle (kOf κ x) (kOf κ y)) : MH κ a b ((a.take na).drop m ++ O) m nb := by
 have hna := h.ha;have ed : a.drop m = (a.take na).drop m ++ a.drop na := by
  conv => lhs; rw [<- List.take_append_drop na a]
  rw [List.drop_append_of_le_length (by rw [ya3]; omega)]
 have et : a.take na = a.take m ++ (a.take na).drop m := by
  conv => lhs; rw [<- List.take_append_drop m (a.take na)]
  rw [List.take_take, Nat.min_eq_left hm]
 have st : Srt κ (a.take m ++ (a.take na).drop m) := by rw [<- et]; exact sa.take
 obtain ⟨s1, s2, s3⟩ := List.pairwise_append.mp st;refine ⟨ω, h.hb, ?_, List.pairwise_append.mpr ⟨s2, h.srt, fun x hx y hy => h.le x (List.mem_append_left _ (List.mem_of_mem_drop hx)) y hy⟩, fun x hx y hy => ?_⟩
 ·rw [ed, List.append_assoc];exact List.Perm.append_left _ h.perm
 ·rcases yay.mp hy with hy | hy
  ·rcases yay.mp hx with hx | hx
   ·exact s3 x hx y hy
   ·exact hle x hx y hy
  ·refine h.le x ?_ y hy;rcases yay.mp hx with hx | hx
   ·refine List.mem_append_left _ ?_;rw [et];exact List.mem_append_left _ hx
   ·exact List.mem_append_right _ hx
theorem MH.fin {a b O r : List Keyed} {na nb : Nat} (h : MH κ a b O na nb) (hr : r.Perm (a.take na ++ b.take nb)) (sr : Srt κ r) : Mg κ a b (r ++ O) := by
 refine ⟨?_, List.pairwise_append.mpr ⟨sr, h.srt, fun x hx y hy => h.le x (hr.mem_iff.mp hx) y hy⟩⟩;refine ((hr.append_right _).trans (List.Perm.append_left _ h.perm)).trans ?_
 conv => rhs; rw [<- List.take_append_drop na a, <- List.take_append_drop nb b]
 rw [List.append_assoc, List.append_assoc];refine List.Perm.append_left _ ?_;rw [<- List.append_assoc, <- List.append_assoc];exact List.Perm.append_right _ List.perm_append_comm
theorem zda (a : Array Keyed) (n : Nat) : (a.extract 0 n).toList = a.toList.take n := by
 rw [zbC]; simp
theorem MH.done {a b out : Array Keyed} {na nb : Nat} (h : MH κ a.toList b.toList out.toList.reverse na nb) (sa : Srt κ a.toList) (sb : Srt κ b.toList) (he : na = 0 \/ nb = 0) : LoOk κ a b (a.extract 0 na ++ b.extract 0 nb ++ out.reverse) := by
 have e : (a.extract 0 na ++ b.extract 0 nb ++ out.reverse).toList = (a.toList.take na ++ b.toList.take nb) ++ out.toList.reverse := by
  rw [Array.toList_append, Array.toList_append, zda, zda, Array.toList_reverse]
 show Mg κ _ _ _;rw [e];refine h.fin (List.Perm.refl _) ?_;rcases he with rfl | rfl
 ·simpa using sb.take
 ·simpa using sa.take
theorem MH.firstB {a b out : Array Keyed} {na nb : Nat} (h : MH κ a.toList b.toList out.toList.reverse na nb) (sa : Srt κ a.toList) (he : nb = 1) (h0 : ∀ x ∈ b.toList.take 1, ∀ y ∈ a.toList, κ.kle (kOf κ x) (kOf κ y)) : LoOk κ a b (b.extract 0 nb ++ a.extract 0 na ++ out.reverse) := by
 have e : (b.extract 0 nb ++ a.extract 0 na ++ out.reverse).toList = (b.toList.take nb ++ a.toList.take na) ++ out.toList.reverse := by
  rw [Array.toList_append, Array.toList_append, zda, zda, Array.toList_reverse]
 show Mg κ _ _ _;rw [e];refine h.fin List.perm_append_comm ?_;subst he;refine List.pairwise_append.mpr ⟨?_, sa.take, fun x hx y hy => h0 x hx y (List.mem_of_mem_take hy)⟩;cases b.toList with
 | nil => exact List.Pairwise.nil
 | cons x l => exact List.pairwise_singleton _ _
theorem zfg {a : Array Keyed} {i : Nat} (h0 : 0 < i) (h : i <= a.size) : (a.toList.take i).drop (i - 1) = [a[i - 1]] := by
 have e : a.toList.take i = a.toList.take (i - 1) ++ [a[i - 1]] := by
  have := List.take_add_one (l := a.toList) (i := i - 1);rw [show i - 1 + 1 = i by omega] at this;rw [this];simp [show i - 1 < a.size by omega]
 rw [e, List.drop_left' (by rw [ya3]; simp; omega)]
theorem MH.pushA {a b out : Array Keyed} {na nb : Nat} (h : MH κ a.toList b.toList out.toList.reverse na nb) (hi : 0 < na) (hs : na <= a.size) (sa : Srt κ a.toList) (hle : ∀ x ∈ b.toList.take nb, κ.kle (kOf κ x) (kOf κ a[na - 1])) : MH κ a.toList b.toList (out.push a[na - 1]).toList.reverse (na - 1) nb := by
 have := h.addA (m := na - 1) ω sa (by rw [zfg hi hs]; intro x hx y hy; rw [yah.mp hy]; exact hle x hx);rw [zfg hi hs] at this;simpa using this
theorem MH.pushB {a b out : Array Keyed} {na nb : Nat} (h : MH κ a.toList b.toList out.toList.reverse na nb) (hi : 0 < nb) (hs : nb <= b.size) (sb : Srt κ b.toList) (hle : ∀ x ∈ a.toList.take na, κ.kle (kOf κ x) (kOf κ b[nb - 1])) : MH κ a.toList b.toList (out.push b[nb - 1]).toList.reverse na (nb - 1) :=
 (h.swap.pushA hi hs sb hle).swap
theorem MH.extA {a b out : Array Keyed} {na nb m : Nat} (h : MH κ a.toList b.toList out.toList.reverse na nb) (hm : m <= na) (sa : Srt κ a.toList) (hle : ∀ x ∈ b.toList.take nb, ∀ y ∈ (a.toList.take na).drop m, κ.kle (kOf κ x) (kOf κ y)) : MH κ a.toList b.toList (out ++ (a.extract m na).reverse).toList.reverse m nb := by
 have := h.addA hm sa hle;have e : (out ++ (a.extract m na).reverse).toList.reverse = (a.toList.take na).drop m ++ out.toList.reverse := by
  rw [Array.toList_append, Array.toList_reverse, List.reverse_append, List.reverse_reverse, zbC, List.drop_take]
 rw [e];exact this
theorem MH.extB {a b out : Array Keyed} {na nb m : Nat} (h : MH κ a.toList b.toList out.toList.reverse na nb) (hm : m <= nb) (sb : Srt κ b.toList) (hle : ∀ x ∈ a.toList.take na, ∀ y ∈ (b.toList.take nb).drop m, κ.kle (kOf κ x) (kOf κ y)) : MH κ a.toList b.toList (out ++ (b.extract m nb).reverse).toList.reverse na m :=
 (h.swap.extA hm sb hle).swap
theorem zck {a : Array Keyed} {i : Nat} {y : Keyed} (h : y ∈ a.toList.take i) : ∃ j, ∃ hj : j < a.size, j < i /\ y = a[j] := by
 obtain ⟨m, hm, e⟩ := List.getElem_of_mem h;rw [ya3] at hm;refine ⟨m, by simpa using (by omega : m < a.toList.length),ω, ?_⟩;rw [<- e];simp
theorem zgA {a : Array Keyed} {i m : Nat} {y : Keyed} (h : y ∈ (a.toList.take i).drop m) : ∃ j, ∃ hj : j < a.size, m <= j /\ j < i /\ y = a[j] := by
 obtain ⟨k, hk, e⟩ := List.getElem_of_mem h;rw [List.length_drop, ya3] at hk;refine ⟨m + k, by simpa using (by omega : m + k < a.toList.length),ω,ω, ?_⟩;rw [<- e];simp
abbrev HT' := Option (Array Keyed) × Nat × Nat × Array Keyed × Nat × Nat × Nat
abbrev HU := Option (Array Keyed) × Nat × Nat × Array Keyed × Nat × Nat
abbrev HV := Option (Array Keyed) × Nat × Nat × Array Keyed × Nat
def hiC (a b out : Array Keyed) (na nb mg ac bc : Nat) : StateT SortSt Sem (ForInStep HT') := do
 let x <- elem' a (na - 1)
 if (na - 1 == 0) = true then pure (.done (some (a.extract 0 (na - 1) ++ b.extract 0 nb ++ (out.push x).reverse), na - 1, nb, out.push x, mg, ac, bc))
 else if (decide (ac < 7) && decide (bc < 7)) = true then pure (.done (none, na - 1, nb, out.push x, mg, ac, bc))
 else pure (.yield (none, na - 1, nb, out.push x, mg, ac, bc))
def hiB (a b out : Array Keyed) (na nb mg ac bc : Nat) : StateT SortSt Sem (ForInStep HT') := do
 let x <- elem' b (nb - 1)
 if (nb - 1 == 1) = true then pure (.done (some (b.extract 0 (nb - 1) ++ a.extract 0 na ++ (out.push x).reverse), na, nb - 1, out.push x, mg, ac, bc))
 else do
  let y <- elem' a (na - 1)
  let r <- zbw true y b 0 (nb - 1) (nb - 1 - 1)
  match r with
  | some at_ =>
   if nb - 1 - at_ > 0 then
    if (at_ == 1) = true then pure (.done (some (b.extract 0 at_ ++ a.extract 0 na ++ (out.push x ++ (b.extract at_ (nb - 1)).reverse).reverse), na, at_, out.push x ++ (b.extract at_ (nb - 1)).reverse, mg, ac, nb - 1 - at_))
    else if (at_ == 0) = true then pure (.done (some (a.extract 0 na ++ b.extract 0 at_ ++ (out.push x ++ (b.extract at_ (nb - 1)).reverse).reverse), na, at_, out.push x ++ (b.extract at_ (nb - 1)).reverse, mg, ac, nb - 1 - at_))
    else hiC a b (out.push x ++ (b.extract at_ (nb - 1)).reverse) na at_ mg ac (nb - 1 - at_)
   else hiC a b (out.push x) na (nb - 1) mg ac (nb - 1 - at_)
  | _ => pure (.done (some (a.extract 0 na ++ b.extract 0 (nb - 1) ++ (out.push x).reverse), na, nb - 1, out.push x, mg, ac, bc))
def hiA (a b out : Array Keyed) (na nb mg ac bc : Nat) : StateT SortSt Sem (ForInStep HT') := do
 zdK mg
 let x <- elem' b (nb - 1)
 let r <- zbw false x a 0 na (na - 1)
 match r with
 | some at_ =>
  if na - at_ > 0 then
   if (at_ == 0) = true then pure (.done (some (a.extract 0 at_ ++ b.extract 0 nb ++ (out ++ (a.extract at_ na).reverse).reverse), at_, nb, out ++ (a.extract at_ na).reverse, mg, na - at_, bc))
   else hiB a b (out ++ (a.extract at_ na).reverse) at_ nb mg (na - at_) bc
  else hiB a b out na nb mg (na - at_) bc
 | _ => pure (.done (some (a.extract 0 na ++ b.extract 0 nb ++ out.reverse), na, nb, out, mg, ac, bc))
def hi1 (a b : Array Keyed) (mg na nb : Nat) (out : Array Keyed) (ac bc : Nat) : StateT SortSt Sem (ForInStep HU) := do
 let x <- elem' b (nb - 1)
 let y <- elem' a (na - 1)
 let r <- lt' x y
 match r with
 | some w =>
  if w = true then do
   let y <- elem' a (na - 1)
   if (na - 1 == 0) = true then pure (.done (some (a.extract 0 (na - 1) ++ b.extract 0 nb ++ (out.push y).reverse), na - 1, nb, out.push y, ac + 1, 0))
   else if ac + 1 ≥ mg then pure (.done (none, na - 1, nb, out.push y, ac + 1, 0)) else pure (.yield (none, na - 1, nb, out.push y, ac + 1, 0))
  else do
   let x <- elem' b (nb - 1)
   if (nb - 1 == 1) = true then pure (.done (some (b.extract 0 (nb - 1) ++ a.extract 0 na ++ (out.push x).reverse), na, nb - 1, out.push x, 0, bc + 1))
   else if bc + 1 ≥ mg then pure (.done (none, na, nb - 1, out.push x, 0, bc + 1)) else pure (.yield (none, na, nb - 1, out.push x, 0, bc + 1))
 | _ => pure (.done (some (a.extract 0 na ++ b.extract 0 nb ++ out.reverse), na, nb, out, ac, bc))
def hiO (a b : Array Keyed) (na nb : Nat) (out : Array Keyed) (mg : Nat) : StateT SortSt Sem (ForInStep HV) := do
 let t <- forIn [:a.size + b.size] ((none, na, nb, out, 0, 0) : HU) fun _ t => hi1 a b mg t.2.1 t.2.2.1 t.2.2.2.1 t.2.2.2.2.1 t.2.2.2.2.2
 match t.1 with
 | some r => pure (.done (some r, t.2.1, t.2.2.1, t.2.2.2.1, mg))
 | none => do
  liftM (rule "list.sort.gallop")
  let t <- forIn [:a.size + b.size] ((none, t.2.1, t.2.2.1, t.2.2.2.1, mg + 1, t.2.2.2.2.1, t.2.2.2.2.2) : HT') fun _ t =>
   if t.2.2.2.2.1 > 1 then hiA a b t.2.2.2.1 t.2.1 t.2.2.1 (t.2.2.2.2.1 - 1) t.2.2.2.2.2.1 t.2.2.2.2.2.2 else hiA a b t.2.2.2.1 t.2.1 t.2.2.1 t.2.2.2.2.1 t.2.2.2.2.2.1 t.2.2.2.2.2.2
  match t.1 with
  | some r => pure (.done (some r, t.2.1, t.2.2.1, t.2.2.2.1, t.2.2.2.2.1))
  | none => do
   zdK (t.2.2.2.2.1 + 1)
   pure (.yield (none, t.2.1, t.2.2.1, t.2.2.2.1, t.2.2.2.2.1 + 1))
theorem zfY (a b : Array Keyed) : zcZ a b = (do
 liftM (rule "list.sort.merge-hi")
 let x <- elem' a (a.size - 1)
 if (a.size - 1 == 0) = true then pure (a.extract 0 (a.size - 1) ++ b.extract 0 b.size ++ #[x].reverse)
 else if (b.size == 1) = true then pure (b.extract 0 b.size ++ a.extract 0 (a.size - 1) ++ #[x].reverse)
 else do
  let st <- get
  let t <- forIn [:a.size + b.size] ((none, a.size - 1, b.size, #[x], gallopOf st) : HV) fun _ t => hiO a b t.2.1 t.2.2.1 t.2.2.2.1 t.2.2.2.2
  match t.1 with
  | some r => pure r
  | none => unsupported "internal:list.sort.merge-bound") := by
 rw [zfX];dsimp only
 congr 1
 funext _
 congr 1
 funext x
 congr 1
 congr 1
 congr 1
 funext st
 congr 1
 ·congr 1
  funext _ t
  unfold hiO
  congr 1
  funext t1
  obtain ⟨r1, na1, nb1, out1, ac1, bc1⟩ := t1;cases r1 with
  | some r => rfl
  | none =>
   dsimp only
   congr 1
   funext _
   congr 1
   funext t2
   obtain ⟨r2, _⟩ := t2;cases r2 <;> rfl
 ·funext t
  obtain ⟨r1, _⟩ := t;cases r1 <;> rfl
structure HiH (κ : KeyKind) (kx : SortKind) (prog : Program) (w : World) (A : Around) (s : Shared) (a b : Array Keyed) : Prop where
 o : LtAt κ kx prog w A s
 ka : ∀ x ∈ a, Kd κ x
 kb : ∀ x ∈ b, Kd κ x
 sa : Srt κ a.toList
 sb : Srt κ b.toList
 z : ∀ x ∈ b.toList.take 1, ∀ y ∈ a.toList, κ.kle (kOf κ x) (kOf κ y)
theorem zkG {a : Array Keyed} {i : Nat} {y : Keyed} (sa : Srt κ a.toList) (h0 : 0 < i) (hi : i <= a.size) (h : κ.kle (kOf κ a[i - 1]) (kOf κ y)) : ∀ x ∈ a.toList.take i, κ.kle (kOf κ x) (kOf κ y) := fun x hx => by
 obtain ⟨j, hj, hij, rfl⟩ := zck hx;exact KeyOrd.kle_trans (sa.at (i := j) (j := i - 1) ω ω) h
structure HI (κ : KeyKind) (a b out : Array Keyed) (na nb : Nat) : Prop where
 m : MH κ a.toList b.toList out.toList.reverse na nb
 na : 1 <= na
 nb : 2 <= nb
theorem HI.sa {a b out : Array Keyed} {na nb : Nat} (h : HI κ a b out na nb) : na <= a.size := by have := h.m.ha; simpa using this
theorem HI.sb {a b out : Array Keyed} {na nb : Nat} (h : HI κ a b out na nb) : nb <= b.size := by have := h.m.hb; simpa using this
def PHT (κ : KeyKind) (a b : Array Keyed) (n : Nat) (c : HT') : Prop := match c with
 | (some m, _) => LoOk κ a b m
 | (none, na, nb, out, _) => HI κ a b out na nb /\ na + nb + n <= a.size + b.size
def QHT (κ : KeyKind) (a b : Array Keyed) (n : Nat) (r : ForInStep HT') : Prop := match r with
 | .done c => PHT κ a b n c
 | .yield c => c.1 = none /\ PHT κ a b n c
theorem ziA {st : SortSt} {a b out : Array Keyed} {na nb mg ac bc n : Nat} (H : HiH κ kx prog w A s a b) (L : HI κ a b out na nb) (hle : ∀ x ∈ b.toList.take nb, κ.kle (kOf κ x) (kOf κ (a[na - 1]'(by have := L.sa; have := L.na; omega)))) (hn : na + nb + n <= a.size + b.size) : wpS (model prog w) A E s (hiC a b out na nb mg ac bc) (fun r st' => st' = st /\ QHT κ a b n r) st := by
 unfold hiC;have hna := L.na;have hsa := L.sa;refine wpS_bind (za0 ω ?_);have m1 := L.m.pushA ω hsa H.sa hle
 by_cases e : na - 1 = 0
 ·rw [if_pos (by simpa using e)];exact wpS_pure ⟨rfl, m1.done H.sa H.sb (.inl e)⟩
 ·rw [if_neg (by simpa using e)];have L1 : HI κ a b (out.push a[na - 1]) (na - 1) nb := ⟨m1,ω, L.nb⟩
  split
  ·exact wpS_pure ⟨rfl, L1,ω⟩
  ·exact wpS_pure ⟨rfl, rfl, L1,ω⟩
theorem ziB {st : SortSt} {a b out : Array Keyed} {na nb mg ac bc n : Nat} (H : HiH κ kx prog w A s a b) (hk : kindOf st = kx) (L : HI κ a b out na nb) (hle : ∀ x ∈ a.toList.take na, κ.kle (kOf κ x) (kOf κ (b[nb - 1]'(by have := L.sb; have := L.nb; omega)))) (hn : na + nb + n <= a.size + b.size) : wpS (model prog w) A E s (hiB a b out na nb mg ac bc) (fun r st' => st' = st /\ QHT κ a b n r) st := by
 unfold hiB;have hna := L.na;have hnb := L.nb;have hsa := L.sa;have hsb := L.sb;refine wpS_bind (za0 ω ?_);have m1 := L.m.pushB ω hsb H.sb hle
 by_cases e : nb - 1 = 1
 ·rw [if_pos (by simpa using e)];exact wpS_pure ⟨rfl, m1.firstB H.sa e H.z⟩
 rw [if_neg (by simpa using e)];refine wpS_bind (za0 ω (wpS_bind (zb5 H.o hk (H.ka _ (Array.getElem_mem _)) H.kb ω ω (zc3 ω H.sb) fun k hk1 h1 h2 => ?_)));have hlt : ∀ j (hj : j < b.size), j < k -> κ.kle (kOf κ b[j]) (kOf κ (a[na - 1]'ω)) := fun j hj q2 => by
  have := h1 j q2;rw [zbM ω] at this;simp only [if_true, Nat.zero_add] at this;exact KeyOrd.kle_of_klt this
 have hge : ∀ j (hj : j < b.size), k <= j -> j < nb - 1 -> κ.kle (kOf κ (a[na - 1]'ω)) (kOf κ b[j]) := fun j hj q1 q2 => by
  have := h2 j q1 q2;rw [zbM ω] at this;show κ.blt _ _ = false;simpa using this
 have m2 := m1.extB (m := k) hk1 H.sb (fun x hx y hy => by
  obtain ⟨j, hj, q1, q2, rfl⟩ := zgA hy;obtain ⟨i, hi, q3, rfl⟩ := zck hx;exact KeyOrd.kle_trans (H.sa.at (i := i) (j := na - 1) ω ω) (hge j hj q1 q2))
 have hx : ∀ {m : Nat}, m <= k -> ∀ x ∈ b.toList.take m, κ.kle (kOf κ x) (kOf κ (a[na - 1]'ω)) := fun {m} hm x hx => by
  obtain ⟨j, hj, q, rfl⟩ := zck hx;exact hlt j hj ω
 dsimp only
 by_cases hk0 : nb - 1 - k > 0
 ·rw [if_pos hk0]
  by_cases e2 : k = 1
  ·rw [if_pos (by simpa using e2)];exact wpS_pure ⟨rfl, m2.firstB H.sa e2 H.z⟩
  rw [if_neg (by simpa using e2)]
  by_cases e3 : k = 0
  ·rw [if_pos (by simpa using e3)];exact wpS_pure ⟨rfl, m2.done H.sa H.sb (.inr e3)⟩
  rw [if_neg (by simpa using e3)];exact ziA H ⟨m2, hna,ω⟩ (hx (yai _)) ω
 ·rw [if_neg hk0];exact ziA H ⟨m1, hna,ω⟩ (hx ω) ω
theorem zl2 {st : SortSt} {a b out : Array Keyed} {na nb mg ac bc n : Nat} (H : HiH κ kx prog w A s a b) (hk : kindOf st = kx) (L : HI κ a b out na nb) (hn : na + nb + n <= a.size + b.size) : wpS (model prog w) A E s (hiA a b out na nb mg ac bc) (fun r st' => st' = setG st mg /\ QHT κ a b n r) st := by
 unfold hiA;have hna := L.na;have hnb := L.nb;have hsa := L.sa;have hsb := L.sb;refine wpS_bind (zc2 (wpS_bind (za0 ω (wpS_bind (zb5 (st := setG st mg) H.o hk (H.kb _ (Array.getElem_mem _)) H.ka ω ω (zc3 ω H.sa) fun k hk1 h1 h2 => ?_)))));have hle : ∀ j (hj : j < a.size), j < k -> κ.kle (kOf κ a[j]) (kOf κ (b[nb - 1]'ω)) := fun j hj q2 => by
  have := h1 j q2;rw [zbM ω] at this;simp only [Bool.false_eq_true, if_false, Bool.not_eq_true', Nat.zero_add] at this;exact this
 have hgt : ∀ j (hj : j < a.size), k <= j -> j < na -> κ.kle (kOf κ (b[nb - 1]'ω)) (kOf κ a[j]) := fun j hj q1 q2 => by
  have := h2 j q1 q2;rw [zbM ω] at this;simp only [Bool.false_eq_true, if_false, Bool.not_eq_false', Nat.zero_add] at this;exact KeyOrd.kle_of_klt this
 have m2 := L.m.extA (m := k) hk1 H.sa (fun x hx y hy => by
  obtain ⟨j, hj, q1, q2, rfl⟩ := zgA hy;obtain ⟨i, hi, q3, rfl⟩ := zck hx;exact KeyOrd.kle_trans (H.sb.at (i := i) (j := nb - 1) ω ω) (hgt j hj q1 q2))
 have hx : ∀ {m : Nat}, m <= k -> ∀ x ∈ a.toList.take m, κ.kle (kOf κ x) (kOf κ (b[nb - 1]'ω)) := fun {m} hm x hx => by
  obtain ⟨j, hj, q, rfl⟩ := zck hx;exact hle j hj ω
 dsimp only
 by_cases hk0 : na - k > 0
 ·rw [if_pos hk0]
  by_cases e2 : k = 0
  ·rw [if_pos (by simpa using e2)];exact wpS_pure ⟨rfl, m2.done H.sa H.sb (.inl e2)⟩
  rw [if_neg (by simpa using e2)];exact ziB (st := setG st mg) H hk ⟨m2,ω, hnb⟩ (hx (yai _)) ω
 ·rw [if_neg hk0];exact ziB (st := setG st mg) H hk L (hx ω) hn
def PHU (κ : KeyKind) (a b : Array Keyed) (n : Nat) (c : HU) : Prop := match c with
 | (some m, _) => LoOk κ a b m
 | (none, na, nb, out, _) => HI κ a b out na nb /\ na + nb + n <= a.size + b.size
theorem zl3 {st : SortSt} {a b out : Array Keyed} {mg na nb ac bc n : Nat} (H : HiH κ kx prog w A s a b) (hk : kindOf st = kx) (L : HI κ a b out na nb) (hn : na + nb + n <= a.size + b.size) : wpS (model prog w) A E s (hi1 a b mg na nb out ac bc) (fun r st' => st' = st /\ match r with
  | .done c => PHU κ a b (n + 1) c
  | .yield c => c.1 = none /\ PHU κ a b (n + 1) c) st := by
 unfold hi1;have hna := L.na;have hnb := L.nb;have hsa := L.sa;have hsb := L.sb;refine wpS_bind (za0 ω (wpS_bind (za0 ω (wpS_bind (zdz H.o hk (H.kb _ (Array.getElem_mem _)) (H.ka _ (Array.getElem_mem _)) ?_)))));cases hw : κ.blt (kOf κ (b[nb - 1]'ω)) (kOf κ (a[na - 1]'ω)) with
 | true =>
  dsimp only;rw [if_pos rfl];refine wpS_bind (za0 ω ?_);have m1 := L.m.pushA ω hsa H.sa (zkG H.sb ω hsb (KeyOrd.kle_of_klt hw))
  by_cases e : na - 1 = 0
  ·rw [if_pos (by simpa using e)];exact wpS_pure ⟨rfl, m1.done H.sa H.sb (.inl e)⟩
  ·rw [if_neg (by simpa using e)];have L1 : HI κ a b (out.push a[na - 1]) (na - 1) nb := ⟨m1,ω, hnb⟩
   split
   ·exact wpS_pure ⟨rfl, L1,ω⟩
   ·exact wpS_pure ⟨rfl, rfl, L1,ω⟩
 | false =>
  dsimp only;rw [if_neg δ];refine wpS_bind (za0 ω ?_);have m1 := L.m.pushB ω hsb H.sb (zkG H.sa ω hsa (show κ.kle _ _ from hw))
  by_cases e : nb - 1 = 1
  ·rw [if_pos (by simpa using e)];exact wpS_pure ⟨rfl, m1.firstB H.sa e H.z⟩
  ·rw [if_neg (by simpa using e)];have L1 : HI κ a b (out.push b[nb - 1]) na (nb - 1) := ⟨m1, hna,ω⟩
   split
   ·exact wpS_pure ⟨rfl, L1,ω⟩
   ·exact wpS_pure ⟨rfl, rfl, L1,ω⟩
theorem zl4 {st : SortSt} {a b out : Array Keyed} {na nb mg n : Nat} (H : HiH κ kx prog w A s a b) (hk : kindOf st = kx) (L : HI κ a b out na nb) (hn : na + nb + n <= a.size + b.size) : wpS (model prog w) A E s (hiO a b na nb out mg) (fun r st' => (∃ g, st' = setG st g) /\ match r with
  | .done c => ∃ m t, c = (some m, t) /\ LoOk κ a b m
  | .yield c => ∃ na nb out mg, c = (none, na, nb, out, mg) /\ HI κ a b out na nb /\ na + nb + (n + 1) <= a.size + b.size) st := by
 unfold hiO;refine wpS_bind (wpS_mono (wpS_forRange (I := fun x c st' => st' = st /\ c.1 = none /\ PHU κ a b (n + x) c) (Q := fun c st' => st' = st /\ PHU κ a b (n + 1) c) ?step ?fin ⟨rfl, rfl, L,ω⟩) ?post)
 case step =>
  rintro x ⟨r, na, nb, out, ac, bc⟩ st' _ hx ⟨rfl, hr, hP⟩
  cases (show r = none from hr);obtain ⟨L, hn'⟩ : HI κ a b out na nb /\ na + nb + (n + x) <= a.size + b.size := hP;refine wpS_mono (zl3 H hk L hn') fun r st'' hq => ?_;obtain ⟨rfl, hq⟩ := hq;cases r with
  | done c =>
   refine ⟨rfl, ?_⟩;obtain ⟨r, na2, nb2, out2, c3⟩ := c;cases r with
   | some m => exact hq
   | none =>
    obtain ⟨q1, q2⟩ : HI κ a b out2 na2 nb2 /\ na2 + nb2 + (n + x + 1) <= a.size + b.size := hq;exact ⟨q1,ω⟩
  | yield c => exact ⟨rfl, hq.1, hq.2⟩
 case fin =>
  rintro ⟨r, na, nb, out, ac, bc⟩ st' ⟨rfl, hr, hP⟩
  cases (show r = none from hr);obtain ⟨L, hn'⟩ : HI κ a b out na nb /\ na + nb + (n + max 0 (a.size + b.size)) <= a.size + b.size := hP;have := L.na;have := L.nb;omega
 case post =>
  rintro ⟨r, na, nb, out, ac, bc⟩ st' ⟨rfl, hP⟩
  cases r with
  | some m => exact wpS_pure ⟨⟨gallopOf st', rfl⟩, m, _, rfl, hP⟩
  | none =>
   obtain ⟨L, hn'⟩ : HI κ a b out na nb /\ na + nb + (n + 1) <= a.size + b.size := hP;refine wpS_bind (wpS_lift (wpAny_rule ⟨rfl, ?_⟩));dsimp only;refine wpS_bind (wpS_mono (wpS_forRange (I := fun x c st'' => (∃ g, st'' = setG st' g) /\ c.1 = none /\ PHT κ a b (n + 1) c) (Q := fun c st'' => (∃ g, st'' = setG st' g) /\ PHT κ a b (n + 1) c) ?step2 ?fin2 ⟨⟨gallopOf st', rfl⟩, rfl, L, hn'⟩) ?post2)
   case step2 =>
    rintro x ⟨r, na, nb, out, mg, ac, bc⟩ st'' _ hx ⟨⟨g, rfl⟩, hr, hP⟩
    cases (show r = none from hr);obtain ⟨L, hn'⟩ : HI κ a b out na nb /\ na + nb + (n + 1) <= a.size + b.size := hP;have go : ∀ mg', wpS (model prog w) A E s (hiA a b out na nb mg' ac bc) (fun r st3 => match r with | .done c' => (∃ g, st3 = setG st' g) /\ PHT κ a b (n + 1) c' | .yield c' => (∃ g, st3 = setG st' g) /\ c'.1 = none /\ PHT κ a b (n + 1) c') (setG st' g) := fun mg' => by
     refine wpS_mono (zl2 (st := setG st' g) H hk L hn') fun r st3 hq => ?_;obtain ⟨rfl, hq⟩ := hq;cases r with
     | done c => exact ⟨⟨mg', rfl⟩, hq⟩
     | yield c => exact ⟨⟨mg', rfl⟩, hq.1, hq.2⟩
    dsimp only
    split
    ·exact wpS_mono (go _) fun r st3 h => by cases r <;> exact h
    ·exact wpS_mono (go _) fun r st3 h => by cases r <;> exact h
   case fin2 =>
    rintro c st'' ⟨h1, _, h2⟩
    exact ⟨h1, h2⟩
   case post2 =>
    rintro ⟨r, na, nb, out, mg, ac, bc⟩ st'' ⟨⟨g, rfl⟩, hP⟩
    cases r with
    | some m => exact wpS_pure ⟨⟨g, rfl⟩, m, _, rfl, hP⟩
    | none =>
     obtain ⟨L, hn'⟩ : HI κ a b out na nb /\ na + nb + (n + 1) <= a.size + b.size := hP;exact wpS_bind (zc2 (wpS_pure ⟨⟨_, rfl⟩, na, nb, out, _, rfl, L, hn'⟩))
theorem MH.nil (a b : List Keyed) : MH κ a b [] a.length b.length := ⟨yai _, yai _,ς, List.Pairwise.nil, fun x _ y hy => by cases hy⟩
theorem zfZ {st : SortSt} {a b : Array Keyed} {Q : Array Keyed -> SortSt -> Prop} (H : HiH κ kx prog w A s a b) (hk : kindOf st = kx) (h1a : 0 < a.size) (h1b : 0 < b.size)
  (h0 : ∀ x ∈ b.toList, κ.kle (kOf κ x) (kOf κ a[a.size - 1])) (h : ∀ m g, LoOk κ a b m -> Q m (setG st g)) : wpS (model prog w) A E s (zcZ a b) Q st := by
 rw [zfY];refine wpS_bind (wpS_lift (wpAny_rule ⟨rfl, ?_⟩));refine wpS_bind (za0 ω ?_);have mn := MH.nil (κ := κ) a.toList b.toList;rw [Array.length_toList, Array.length_toList] at mn;have m0 : MH κ a.toList b.toList #[a[a.size - 1]].toList.reverse (a.size - 1) b.size := by
  have := MH.pushA (out := #[]) mn ω (yai _) H.sa (fun x hx => h0 x (List.mem_of_mem_take hx));simpa using this
 by_cases e1 : a.size - 1 = 0
 ·rw [if_pos (by simpa using e1)];exact wpS_pure (h _ (gallopOf st) (m0.done H.sa H.sb (.inl e1)))
 rw [if_neg (by simpa using e1)]
 by_cases e2 : b.size = 1
 ·rw [if_pos (by simpa using e2)];exact wpS_pure (h _ (gallopOf st) (m0.firstB H.sa e2 H.z))
 rw [if_neg (by simpa using e2)];refine wpS_bind (wpS_get ?_);refine wpS_bind (wpS_mono (wpS_forRange (I := fun x c st' => (∃ g, st' = setG st g) /\ ∃ na nb out mg, c = (none, na, nb, out, mg) /\ HI κ a b out na nb /\ na + nb + (x + 1) <= a.size + b.size) (Q := fun c st' => (∃ g, st' = setG st g) /\ ∃ m t, c = (some m, t) /\ LoOk κ a b m) ?step ?fin ⟨⟨gallopOf st, rfl⟩, _, _, _, _, rfl, ⟨m0,ω,ω⟩,ω⟩) ?post)
 case step =>
  rintro x c st' _ hx ⟨⟨g, rfl⟩, na, nb, out, mg, rfl, L, hn⟩
  refine wpS_mono (zl4 (st := setG st g) H hk L hn) fun r st'' hq => ?_;obtain ⟨⟨g', rfl⟩, hq⟩ := hq;cases r with
  | done c => exact ⟨⟨g', rfl⟩, hq⟩
  | yield c => exact ⟨⟨g', rfl⟩, hq⟩
 case fin =>
  rintro c st' ⟨_, na, nb, out, mg, rfl, L, hn⟩
  have := L.na;have := L.nb;omega
 case post =>
  rintro c st' ⟨⟨g, rfl⟩, m, t, rfl, hm⟩
  exact wpS_pure (h m g hm)
theorem zkH (off : Nat) : ∀ (l : List Keyed) (n : Nat) (arr : Array Keyed), off + n + l.length <= arr.size -> ((l.zipIdx n).foldl (fun a (p : Keyed × Nat) => a.setIfInBounds (off + p.2) p.1) arr).toList = arr.toList.take (off + n) ++ l ++ arr.toList.drop (off + n + l.length)
 | [], n, arr, _ => by simp
 | x :: l, n, arr, h => by
  rw [List.length_cons] at h;rw [List.zipIdx_cons, List.foldl_cons, zkH off l (n + 1) _ (by rw [Array.size_setIfInBounds]; omega)];rw [Array.toList_setIfInBounds];have hl : off + n < arr.toList.length := by simp; omega
  rw [show off + (n + 1) = off + n + 1 by omega, List.take_add_one, List.take_set_of_le (yai _), List.getElem?_set_self hl, List.drop_set_of_lt ω];simp only [Option.toList_some, List.append_assoc, List.singleton_append, List.cons_append, List.nil_append];rw [List.length_cons, show off + n + 1 + l.length = off + n + (l.length + 1) by omega]
def zgB (i : Nat) : StateT SortSt Sem Bool := do
 let s <- get
 let (some (sa, na, power), some (sb, nb, _)) := ((pendingOf s)[i]?, (pendingOf s)[i + 1]?) | unsupported "internal:list.sort.pending"
 set (setPending s (((pendingOf s).setIfInBounds i (sa, na + nb, power)).eraseIdxIfInBounds (i + 1)))
 let some k <- zbw false (<- elem' (arrOf s) sb) (arrOf s) sa na 0 | return false
 let (sa, na) := (sa + k, na - k)
 if na == 0 then return true
 let some nb <- zbw true (<- elem' (arrOf s) (sa + na - 1)) (arrOf s) sb nb (nb - 1) | return false
 if nb == 0 then return true
 let x := (arrOf s).extract sa sb
 let y := (arrOf s).extract sb (sb + nb)
 let merged <- if na <= nb then zcX x y else zcZ x y
 modify fun s => setArr s (merged.toList.zipIdx.foldl (fun a (p, j) => a.setIfInBounds (sa + j) p) (arrOf s))
 return (failedOf (<- get)).isNone
theorem zga (i : Nat) : mergeAt' i = zgB i := rfl
def byl (κ : KeyKind) (left : Bool) (key : Keyed) (r : List Keyed) (i : Nat) : Bool := match r[i]? with
 | some x => if left then κ.blt (kOf κ x) (kOf κ key) else !κ.blt (kOf κ key) (kOf κ x)
 | none => false
theorem zfh {left : Bool} {key : Keyed} {arr : Array Keyed} {r : List Keyed} {base i : Nat} (h : arr[base + i]? = r[i]?) : bynd κ left key arr base i = byl κ left key r i := by
 unfold bynd byl;rw [h]
 all_goals (cases r[i]? <;> rfl)
theorem Srt.atL {r : List Keyed} (h : Srt κ r) {i j : Nat} (hij : i <= j) (hj : j < r.length) : κ.kle (kOf κ (r[i]'ω)) (kOf κ r[j]) := by
 by_cases e : i = j
 ·subst e; exact KeyOrd.kle_refl _
 ·exact List.pairwise_iff_getElem.mp h i j ω hj ω
theorem ziC {left : Bool} {key : Keyed} {r : List Keyed} {i : Nat} (h : i < r.length) : byl κ left key r i = if left then κ.blt (kOf κ r[i]) (kOf κ key) else !κ.blt (kOf κ key) (kOf κ r[i]) := by
 unfold byl;rw [yal h]
theorem zgC {left : Bool} {key : Keyed} {r : List Keyed} (sr : Srt κ r) : ∀ i j, i <= j -> j < r.length -> byl κ left key r j = true -> byl κ left key r i = true := fun i j hij hj e => by
 rw [ziC ω] at e ⊢;have hle := sr.atL hij hj;cases left with
 | true => exact KeyOrd.klt_of_kle_of_klt hle e
 | false =>
  simp only [Bool.false_eq_true, if_false, Bool.not_eq_true'] at e ⊢;exact KeyOrd.kle_trans hle e
theorem zgD {left : Bool} {key : Keyed} {r : List Keyed} {k : Nat} (h : ∀ i, i < k -> byl κ left key r i = true) : ∀ x ∈ r.take k, κ.kle (kOf κ x) (kOf κ key) := fun x hx => by
 obtain ⟨m, hm, e⟩ := List.getElem_of_mem hx;rw [ya3] at hm;have := h m ω;rw [ziC ω] at this;have e2 : r[m]'ω = x := by rw [<- e]; simp
 rw [e2] at this;cases left with
 | true => exact KeyOrd.kle_of_klt this
 | false => show κ.blt _ _ = false; simpa using this
theorem zgE {left : Bool} {key : Keyed} {r : List Keyed} {k : Nat} (h : ∀ i, k <= i -> i < r.length -> byl κ left key r i = false) : ∀ x ∈ r.drop k, κ.kle (kOf κ key) (kOf κ x) := fun x hx => by
 obtain ⟨m, hm, e⟩ := List.getElem_of_mem hx;rw [List.length_drop] at hm;have := h (k + m) ω ω;rw [ziC ω] at this;have e2 : r[k + m]'ω = x := by rw [<- e]; simp
 rw [e2] at this;cases left with
 | true => show κ.blt _ _ = false; simpa using this
 | false =>
  simp only [Bool.false_eq_true, if_false, Bool.not_eq_false'] at this;exact KeyOrd.kle_of_klt this
theorem znh {r1 r2 m : List Keyed} {k n : Nat} (s1 : Srt κ r1) (s2 : Srt κ r2) (hm : Mg κ (r1.drop k) (r2.take n) m) (q1 : ∀ x ∈ r1.take k, ∀ y ∈ r2, κ.kle (kOf κ x) (kOf κ y)) (q2 : ∀ x ∈ r1, ∀ y ∈ r2.drop n, κ.kle (kOf κ x) (kOf κ y)) : Mg κ r1 r2 (r1.take k ++ (m ++ r2.drop n)) := by
 have d1 : Srt κ (r1.take k ++ r1.drop k) := by rw [List.take_append_drop]; exact s1
 have d2 : Srt κ (r2.take n ++ r2.drop n) := by rw [List.take_append_drop]; exact s2
 obtain ⟨_, _, t1⟩ := List.pairwise_append.mp d1;obtain ⟨_, _, t2⟩ := List.pairwise_append.mp d2;have mm : ∀ x, x ∈ m ↔ x ∈ r1.drop k \/ x ∈ r2.take n := fun x => by rw [hm.perm.mem_iff, yay]
 refine ⟨?_, List.pairwise_append.mpr ⟨s1.take, List.pairwise_append.mpr ⟨hm.srt, s2.drop, fun x hx y hy => ?_⟩, fun x hx y hy => ?_⟩⟩
 ·refine (List.Perm.append_left _ (hm.perm.append_right _)).trans ?_;rw [List.append_assoc, List.take_append_drop, <- List.append_assoc, List.take_append_drop]
 ·rcases (mm x).mp hx with z | z
  ·exact q2 x (List.mem_of_mem_drop z) y hy
  ·exact t2 x z y hy
 ·rcases yay.mp hy with z | z
  ·rcases (mm y).mp z with z | z
   ·exact t1 x hx y z
   ·exact q1 x hx y (List.mem_of_mem_take z)
  ·exact q1 x hx y (List.mem_of_mem_drop z)
theorem zl5 {st st' : SortSt} {Q : PUnit -> SortSt -> Prop} (h : Q ⟨⟩ st') : wpS (model prog w) A E s (set st' : StateT SortSt Sem PUnit) Q st := by
 unfold wpS; rw [StateT.run_set]; exact yab ⟨rfl, h⟩
theorem zkI {P r S : List Keyed} {arr : Array Keyed} (ha : arr.toList = P ++ (r ++ S)) {i : Nat} (hi : i < r.length) : arr[P.length + i]? = r[i]? := by
 rw [<- Array.getElem?_toList, ha, List.getElem?_append_right ω, Nat.add_sub_cancel_left, ya5 hi]
theorem ziD {P r S : List Keyed} {arr : Array Keyed} (ha : arr.toList = P ++ (r ++ S)) {i j : Nat} (hi : i = P.length) (hj : j = P.length + r.length) : (arr.extract i j).toList = r := by
 subst hi hj;rw [zbC, ha, List.drop_left, Nat.add_sub_cancel_left, List.take_left]
theorem zgb {st : SortSt} {P r1 r2 S : List Keyed} {i p q : Nat} {Q : Bool -> SortSt -> Prop} (hO : LtAt κ kx prog w A s) (hk : kindOf st = kx) (hf : failedOf st = none) (hK : ∀ x ∈ (arrOf st).toList, Kd κ x) (ha : (arrOf st).toList = P ++ (r1 ++ (r2 ++ S)))
  (h1 : (pendingOf st)[i]? = some (P.length, r1.length, p)) (h2 : (pendingOf st)[i + 1]? = some (P.length + r1.length, r2.length, q)) (n1 : 0 < r1.length) (n2 : 0 < r2.length) (s1 : Srt κ r1) (s2 : Srt κ r2)
  (h : ∀ m xs g, Mg κ r1 r2 m -> xs.toList = P ++ (m ++ S) -> Q true (SortSt.mk' (kindOf st) xs (((pendingOf st).setIfInBounds i (P.length, r1.length + r2.length, p)).eraseIdxIfInBounds (i + 1)) g (failedOf st))) : wpS (model prog w) A E s (mergeAt' i) Q st := by
 rw [zga];unfold zgB;refine wpS_bind (wpS_get ?_);rw [h1, h2];dsimp only;refine wpS_bind (zl5 ?_);have hsz : (arrOf st).size = P.length + (r1.length + (r2.length + S.length)) := by rw [<- Array.length_toList, ha]; simp
 have ha2 : (arrOf st).toList = (P ++ r1) ++ (r2 ++ S) := by rw [ha, List.append_assoc]
 have A1 : ∀ {i}, i < r1.length -> (arrOf st)[P.length + i]? = r1[i]? := fun hi => zkI ha hi;have A2 : ∀ {i}, i < r2.length -> (arrOf st)[P.length + r1.length + i]? = r2[i]? := fun hi => by
  have := zkI ha2 hi
  rwa [yae] at this
 have hK' : ∀ x ∈ arrOf st, Kd κ x := fun x hx => hK x (by simpa using hx);have K1 : ∀ x ∈ r1, Kd κ x := fun x hx => hK x (by rw [ha]; simp [hx]);have K2 : ∀ x ∈ r2, Kd κ x := fun x hx => hK x (by rw [ha]; simp [hx]);have b0 : (arrOf st)[P.length + r1.length]'ω = r2[0] := by
  have := A2 (i := 0) n2;rw [Nat.add_zero, getElem?_pos _ _ ω, yal n2] at this;exact Option.some.inj this
 have aL : (arrOf st)[P.length + (r1.length - 1)]'ω = r1[r1.length - 1] := by
  have := A1 (i := r1.length - 1) ω;rw [getElem?_pos _ _ ω, yal ω] at this;exact Option.some.inj this
 have eq1 : ∀ {key : Keyed} {left : Bool} {i}, i < r1.length -> bynd κ left key (arrOf st) P.length i = byl κ left key r1 i := fun hi => zfh (A1 hi);have eq2 : ∀ {key : Keyed} {left : Bool} {i}, i < r2.length -> bynd κ left key (arrOf st) (P.length + r1.length) i = byl κ left key r2 i := fun hi => zfh (A2 hi);have top2 : ∀ y ∈ r2, κ.kle (kOf κ r2[0]) (kOf κ y) := fun y hy => by
  obtain ⟨j, hj, rfl⟩ := List.getElem_of_mem hy;exact s2.atL (yaq _) hj
 have end1 : ∀ x ∈ r1, κ.kle (kOf κ x) (kOf κ r1[r1.length - 1]) := fun x hx => by
  obtain ⟨j, hj, rfl⟩ := List.getElem_of_mem hx;exact s1.atL ω ω
 refine wpS_bind (za0 ω ?_);rw [b0];refine wpS_bind (zb5 hO hk (K2 _ (List.getElem_mem _)) hK' ω n1 (fun i j hij hj e => by rw [eq1 ω]; rw [eq1 hj] at e; exact zgC s1 i j hij hj e) fun k k1 g1 g2 => ?_);have lo : ∀ x ∈ r1.take k, ∀ y ∈ r2, κ.kle (kOf κ x) (kOf κ y) := fun x hx y hy => KeyOrd.kle_trans (zgD (fun i hi => by rw [<- eq1 ω]; exact g1 i hi) x hx) (top2 y hy);have up : ∀ x ∈ r1.drop k, κ.kle (kOf κ r2[0]) (kOf κ x) := zgE fun i q1 q2 => by rw [<- eq1 q2]; exact g2 i q1 q2
 dsimp only
 by_cases e1 : r1.length - k = 0
 ·rw [if_pos (by simpa using e1)];refine wpS_pure (h (r1 ++ r2) _ _ ⟨List.Perm.refl _, List.pairwise_append.mpr ⟨s1, s2, fun x hx y hy => lo x (by rw [List.take_of_length_le ω]; exact hx) y hy⟩⟩ ?_);rw [ha, List.append_assoc]
 rw [if_neg (by simpa using e1)];have ei : P.length + k + (r1.length - k) - 1 = P.length + (r1.length - 1) := by omega
 refine wpS_bind (za0 ω ?_);simp only [ei];rw [aL];refine wpS_bind (zb5 hO hk (K1 _ (List.getElem_mem _)) hK' ω ω (fun i j hij hj e => by rw [eq2 ω]; rw [eq2 hj] at e; exact zgC s2 i j hij hj e) fun n nn g3 g4 => ?_);have lo2 : ∀ y ∈ r2.take n, κ.kle (kOf κ y) (kOf κ r1[r1.length - 1]) := zgD fun i hi => by rw [<- eq2 ω]; exact g3 i hi
 have up2 : ∀ x ∈ r1, ∀ y ∈ r2.drop n, κ.kle (kOf κ x) (kOf κ y) := fun x hx y hy => KeyOrd.kle_trans (end1 x hx) (zgE (fun i q1 q2 => by rw [<- eq2 q2]; exact g4 i q1 q2) y hy);dsimp only
 by_cases e2 : n = 0
 ·rw [if_pos (by simpa using e2)];refine wpS_pure (h (r1 ++ r2) _ _ ⟨List.Perm.refl _, List.pairwise_append.mpr ⟨s1, s2, fun x hx y hy => up2 x hx y (by rw [e2]; exact hy)⟩⟩ ?_);rw [ha, List.append_assoc]
 rw [if_neg (by simpa using e2)];have hl1 : (r1.take k).length = k := by rw [ya3]; omega
 have hl2 : (r1.drop k).length = r1.length - k := List.length_drop ..;have hl3 : (r2.take n).length = n := by rw [ya3]; omega
 have ha3 : (arrOf st).toList = (P ++ r1.take k) ++ (r1.drop k ++ (r2 ++ S)) := by
  rw [ha, List.append_assoc, <- List.append_assoc (r1.take k), List.take_append_drop]
 have ha4 : (arrOf st).toList = (P ++ r1) ++ (r2.take n ++ (r2.drop n ++ S)) := by
  rw [ha2, <- List.append_assoc (r2.take n), List.take_append_drop]
 have ex : ((arrOf st).extract (P.length + k) (P.length + r1.length)).toList = r1.drop k := ziD ha3 (by rw [yae, hl1]) (by rw [yae, hl1, hl2]; omega);have ey : ((arrOf st).extract (P.length + r1.length) (P.length + r1.length + n)).toList = r2.take n := ziD ha4 (by rw [yae]) (by rw [yae, hl3]);generalize (arrOf st).extract (P.length + k) (P.length + r1.length) = X at ex;generalize (arrOf st).extract (P.length + r1.length) (P.length + r1.length + n) = Y at ey;have szX : X.size = r1.length - k := by rw [<- Array.length_toList, ex, hl2]
 have szY : Y.size = n := by rw [<- Array.length_toList, ey, hl3]
 have kX : ∀ x ∈ X, Kd κ x := fun x hx => K1 x (List.mem_of_mem_drop (i := k) (by rw [<- ex]; simpa using hx));have kY : ∀ x ∈ Y, Kd κ x := fun x hx => K2 x (List.mem_of_mem_take (i := n) (by rw [<- ey]; simpa using hx));have Y0 : ∀ hy : 0 < Y.size, Y[0] = r2[0] := fun hy => by
  have e : Y.toList[0]? = (r2.take n)[0]? := by rw [ey]
  rw [Array.getElem?_toList, getElem?_pos Y 0 hy, List.getElem?_take, if_pos ω, yal n2] at e;exact Option.some.inj e
 have XL : ∀ hx : X.size - 1 < X.size, X[X.size - 1] = r1[r1.length - 1] := fun hx => by
  have e : X.toList[X.size - 1]? = (r1.drop k)[X.size - 1]? := by rw [ex]
  rw [Array.getElem?_toList, getElem?_pos X (X.size - 1) hx, List.getElem?_drop, show k + (X.size - 1) = r1.length - 1 by omega, yal ω] at e;exact Option.some.inj e
 have last : ∀ (mr : Array Keyed) g, LoOk κ X Y mr -> wpS (model prog w) A E s (do
   modify fun s => setArr s (mr.toList.zipIdx.foldl (fun a (p, j) => a.setIfInBounds (P.length + k + j) p) (arrOf s))
   let t <- get
   pure (failedOf t).isNone) Q (setG (setPending st (((pendingOf st).setIfInBounds i (P.length, r1.length + r2.length, p)).eraseIdxIfInBounds (i + 1))) g) := fun mr g hm => by
  refine wpS_bind (wpS_modify (wpS_bind (wpS_get (wpS_pure ?_))));have hm' : Mg κ (r1.drop k) (r2.take n) mr.toList := by rw [<- ex, <- ey]; exact hm
  have Qe : mr.toList.length = r1.length - k + n := by rw [hm'.perm.length_eq, yae, hl2, hl3]
  have e3 := zkH (P.length + k) mr.toList 0 (arrOf st) (by rw [Qe]; omega);have e4 : (arrOf st).toList.take (P.length + k + 0) = P ++ r1.take k := by
   rw [ha3, Nat.add_zero, List.take_left' (by rw [yae, hl1])]
  have e5 : (arrOf st).toList.drop (P.length + k + 0 + mr.toList.length) = r2.drop n ++ S := by
   rw [ha4, <- List.append_assoc (P ++ r1), List.drop_left' (by rw [yae, yae, hl3, Qe]; omega)]
  rw [e4, e5] at e3;have := h (r1.take k ++ (mr.toList ++ r2.drop n)) _ g (znh s1 s2 hm' lo up2) (e3.trans (by simp [List.append_assoc]));have hfi : (failedOf st).isNone = true := by rw [hf]; rfl
  show Q (failedOf st).isNone _;rw [hfi];exact this
 by_cases e3 : r1.length - k <= n
 ·rw [if_pos e3];refine wpS_bind (zfW (κ := κ) ⟨hO, kX, kY, by rw [ex]; exact s1.drop, by rw [ey]; exact s2.take, ?_⟩ hk ω ω (fun y hy => by rw [Y0]; exact up y (by rw [<- ex]; exact hy)) fun mr g hm => last mr g hm);intro y hy z hz;obtain ⟨j, hj, q1, rfl⟩ := zcY hz;have ej : j = X.size - 1 := by omega
  subst ej;rw [XL hj];exact lo2 y (by rw [<- ey]; exact hy)
 ·rw [if_neg e3];refine wpS_bind (zfZ (κ := κ) ⟨hO, kX, kY, by rw [ex]; exact s1.drop, by rw [ey]; exact s2.take, ?_⟩ hk ω ω (fun x hx => by rw [XL]; exact lo2 x (by rw [<- ey]; exact hx)) fun mr g hm => last mr g hm);intro x hx y hy;obtain ⟨j, hj, q1, rfl⟩ := zck hx;have ej : j = 0 := by omega
  subst ej;rw [Y0 hj];exact up y (by rw [<- ex]; exact hy)
theorem zdX {xs : Array Keyed} {i : Nat} (h : i < xs.size) : KK κ xs i = kOf κ xs[i] := by
 unfold KK kOf;rw [getElem?_pos xs i h]
theorem zd0 {st : SortSt} {i j : Nat} {Q : Option Bool -> SortSt -> Prop} (hO : LtAt κ kx prog w A s) (hk : kindOf st = kx) (hK : ∀ x ∈ arrOf st, Kd κ x) (hi : i < (arrOf st).size) (hj : j < (arrOf st).size) (h : Q (some (κ.blt (KK κ (arrOf st) i) (KK κ (arrOf st) j))) st) : wpS (model prog w) A E s (ltAt' i j) Q st := by
 rw [ltAt'_eq];refine wpS_bind (wpS_get ?_);show wpS _ _ _ _ (do let x <- elem' (arrOf st) i; let y <- elem' (arrOf st) j; lt' x y) Q st;rw [zdX hi, zdX hj] at h;exact wpS_bind (za0 hi (wpS_bind (za0 hj (zdz hO hk (hK _ (Array.getElem_mem hi)) (hK _ (Array.getElem_mem hj)) h))))
def SegS (κ : KeyKind) (xs : Array Keyed) (lo n : Nat) : Prop := ∀ i j, i <= j -> j < n -> κ.kle (KK κ xs (lo + i)) (KK κ xs (lo + j))
def SegN (κ : KeyKind) (xs : Array Keyed) (lo n : Nat) : Prop := ∀ i j, i <= j -> j < n -> κ.kle (KK κ xs (lo + j)) (KK κ xs (lo + i))
structure Kp (lo : Nat) (xs0 xs : Array Keyed) : Prop where
 perm : xs.Perm xs0
 keep : ∀ i, i < lo -> xs[i]? = xs0[i]?
theorem Kp.refl (lo : Nat) (xs : Array Keyed) : Kp lo xs xs := ⟨Array.Perm.refl _, fun _ _ => rfl⟩
theorem Kp.trans {lo : Nat} {a b c : Array Keyed} (h : Kp lo a b) (g : Kp lo b c) : Kp lo a c := ⟨g.perm.trans h.perm, fun i hi => (g.keep i hi).trans (h.keep i hi)⟩
theorem Kp.size {lo : Nat} {a b : Array Keyed} (h : Kp lo a b) : b.size = a.size := h.perm.size_eq
theorem Kp.mirror {lo i j : Nat} {xs : Array Keyed} (hi : lo <= i) (hj : j <= xs.size) : Kp lo xs (mirror xs i j ((j - i) / 2)) := ⟨mirror_perm _ _ _ _, fun k hk => by rw [getElem?_mirror_all hj, if_neg ω]⟩
theorem Kp.kd {lo : Nat} {a b : Array Keyed} (h : Kp lo a b) (hK : ∀ x ∈ a, Kd κ x) : ∀ x ∈ b, Kd κ x := fun x hx => hK x (h.perm.mem_iff.mp hx)
def ascL (lo a nrem : Nat) : StateT SortSt Sem AscSt :=
 forIn [a:nrem] ((none, a) : AscSt) fun _ __s => do
  let __x <- ltAt' (lo + __s.snd) (lo + __s.snd - 1)
  match __x with
  | some smaller => if smaller = true then pure (ForInStep.done (none, __s.snd)) else pure (ForInStep.yield (none, __s.snd + 1))
  | _ => pure (ForInStep.done (some none, __s.snd))
def zfi (lo n nrem : Nat) : StateT SortSt Sem (Option Nat) := do
 reverseSlice' lo (lo + n)
 let __s <- ascL lo n nrem
 match __s.fst with
 | some r => pure r
 | none => pure (some __s.snd)
def zkf (lo n nrem : Nat) : StateT SortSt Sem DescSt :=
 forIn [n:nrem] ((none, n, 0) : DescSt) fun _ __s => do
  let __x <- ltAt' (lo + __s.snd.fst) (lo + __s.snd.fst - 1)
  match __x with
  | some smaller =>
   if smaller = true then
    if __s.snd.snd > 0 then do
     reverseSlice' (lo + __s.snd.fst - (__s.snd.snd + 1)) (lo + __s.snd.fst)
     pure (ForInStep.yield (none, __s.snd.fst + 1, 0))
    else pure (ForInStep.yield (none, __s.snd.fst + 1, 0))
   else do
    let __x <- ltAt' (lo + __s.snd.fst - 1) (lo + __s.snd.fst)
    match __x with
    | some larger =>
     if larger = true then pure (ForInStep.done (none, __s.snd.fst, __s.snd.snd))
     else pure (ForInStep.yield (none, __s.snd.fst + 1, __s.snd.snd + 1))
    | _ => pure (ForInStep.done (some none, __s.snd.fst, __s.snd.snd))
  | _ => pure (ForInStep.done (some none, __s.snd.fst, __s.snd.snd))
def zfj (lo n nrem : Nat) : StateT SortSt Sem (Option Nat) := do
 liftM (rule "list.sort.descending-run")
 let __s <- zkf lo (n + 1) nrem
 match __s.fst with
 | some r => pure r
 | none =>
  if __s.snd.snd > 0 then do
   reverseSlice' (lo + __s.snd.fst - (__s.snd.snd + 1)) (lo + __s.snd.fst)
   zfi lo __s.snd.fst nrem
  else zfi lo __s.snd.fst nrem
theorem zfk (lo nrem : Nat) : countRun' lo nrem = (do
  let __s <- ascL lo 1 nrem
  match __s.fst with
  | some r => pure r
  | none =>
   if (__s.snd == nrem) = true then pure (some __s.snd)
   else if __s.snd > 1 then do
    let __x <- ltAt' lo (lo + __s.snd - 1)
    match __x with
    | some rose => if rose = true then pure (some __s.snd) else do
      reverseSlice' lo (lo + __s.snd)
      zfj lo __s.snd nrem
    | _ => pure none
   else zfj lo __s.snd nrem) := by
 rw [countRun'_eq];dsimp only;unfold zfj zfi zkf ascL
 congr 1
 funext __s
 obtain ⟨r, n⟩ := __s;cases r with
 | some r => rfl
 | none =>
  dsimp only
  split
  ·rfl
  ·split
   ·congr 1
    funext x
    cases x with
    | none => rfl
    | some rose =>
     dsimp only
     split
     ·rfl
     ·congr 1
      funext _r
      congr 1; funext _u; congr 1; congr 1; funext s2; obtain ⟨r2, n2, q2⟩ := s2; cases r2 with
      | some r2 => rfl
      | none =>
       dsimp only
       split
       ·congr 1; funext _v; congr 1; funext _w; congr 1; funext s3; obtain ⟨r3, n3⟩ := s3; cases r3 <;> rfl
       ·congr 1; funext _w; congr 1; funext s3; obtain ⟨r3, n3⟩ := s3; cases r3 <;> rfl
   ·congr 1; funext _u; congr 1; congr 1; funext s2; obtain ⟨r2, n2, q2⟩ := s2; cases r2 with
    | some r2 => rfl
    | none =>
     dsimp only
     split
     ·congr 1; funext _v; congr 1; funext _w; congr 1; funext s3; obtain ⟨r3, n3⟩ := s3; cases r3 <;> rfl
     ·congr 1; funext _w; congr 1; funext s3; obtain ⟨r3, n3⟩ := s3; cases r3 <;> rfl
theorem zes {st : SortSt} {i j : Nat} {Q : Unit -> SortSt -> Prop} (h : Q () (setArr st (mirror (arrOf st) i j ((j - i) / 2)))) : wpS (model prog w) A E s (reverseSlice' i j) Q st := by
 rw [reverseSlice'_eq];exact wpS_modify h
theorem zgF {st : SortSt} {lo a nrem : Nat} {Q : AscSt -> SortSt -> Prop} (hO : LtAt κ kx prog w A s) (hk : kindOf st = kx) (hK : ∀ x ∈ arrOf st, Kd κ x) (hn : lo + nrem <= (arrOf st).size) (ha : 1 <= a) (han : a <= nrem) (hs : SegS κ (arrOf st) lo a)
  (h : ∀ n, a <= n -> n <= nrem -> SegS κ (arrOf st) lo n -> (n = nrem \/ κ.klt (KK κ (arrOf st) (lo + n)) (KK κ (arrOf st) (lo + n - 1))) -> Q (none, n) st) : wpS (model prog w) A E s (ascL lo a nrem) Q st := by
 unfold ascL;refine wpS_forRange (I := fun x c st' => st' = st /\ c = (none, x) /\ SegS κ (arrOf st) lo x) ?step ?fin ⟨rfl, rfl, hs⟩
 case fin =>
  rintro c st' ⟨rfl, rfl, hs'⟩
  rw [show max a nrem = nrem by omega] at hs' ⊢;exact h nrem han (yai _) hs' (.inl rfl)
 case step =>
  rintro x c st' hax hxn ⟨rfl, rfl, hs'⟩
  dsimp only;refine wpS_bind (zd0 hO hk hK ω ω ?_);cases hless : κ.blt (KK κ (arrOf st') (lo + x)) (KK κ (arrOf st') (lo + x - 1))
  case true =>
   exact wpS_pure (h x hax ω hs' (.inr hless))
  case false =>
   refine wpS_pure ⟨rfl, rfl, fun i j hij hj => ?_⟩
   by_cases hjx : j < x
   ·exact hs' i j hij hjx
   ·have hj' : j = x := by omega
    subst hj'
    by_cases hi' : i = j
    ·subst hi'; exact KeyOrd.kle_refl _
    ·have q := hs' i (j - 1) ω ω;rw [show lo + (j - 1) = lo + j - 1 by omega] at q;exact KeyOrd.kle_trans q hless
def CRo (κ : KeyKind) (st : SortSt) (lo nrem : Nat) (Q : Option Nat -> SortSt -> Prop) : Prop := ∀ m xs, Kp lo (arrOf st) xs -> 1 <= m -> m <= nrem -> SegS κ xs lo m -> Q (some m) (setArr st xs)
theorem CRo.next {st : SortSt} {lo nrem : Nat} {xs : Array Keyed} {Q : Option Nat -> SortSt -> Prop} (h : CRo κ st lo nrem Q) (hp : Kp lo (arrOf st) xs) : CRo κ (setArr st xs) lo nrem Q := fun m ys k1 k2 k3 k4 => h m ys (hp.trans k1) k2 k3 k4
theorem zdY {st : SortSt} {lo n nrem : Nat} {Q : Option Nat -> SortSt -> Prop} (hO : LtAt κ kx prog w A s) (hk : kindOf st = kx) (hK : ∀ x ∈ arrOf st, Kd κ x) (hn : lo + nrem <= (arrOf st).size) (h1 : 1 <= n) (hnn : n <= nrem) (hs : SegN κ (arrOf st) lo n) (h : CRo κ st lo nrem Q) : wpS (model prog w) A E s (zfi lo n nrem) Q st := by
 unfold zfi;have hsz : lo + n <= (arrOf st).size := by omega
 have kp := Kp.mirror (lo := lo) (i := lo) (yai _) hsz;refine wpS_bind (zes ?_);refine wpS_bind (zgF hO hk (kp.kd hK) (by show lo + nrem <= (mirror _ _ _ _).size; rw [kp.size]; exact hn) h1 hnn ?_ fun m hm1 hm2 hsm _ => wpS_pure (h m _ kp ω hm2 hsm));intro i j hij hj;show κ.kle (KK κ (mirror (arrOf st) lo (lo + n) ((lo + n - lo) / 2)) (lo + i)) (KK κ (mirror (arrOf st) lo (lo + n) ((lo + n - lo) / 2)) (lo + j));rw [KK_mirror hsz, KK_mirror hsz, if_pos ω, if_pos ω];have := hs (n - 1 - j) (n - 1 - i) ω ω;rw [show lo + (n - 1 - j) = lo + (lo + n) - 1 - (lo + j) by omega, show lo + (n - 1 - i) = lo + (lo + n) - 1 - (lo + i) by omega] at this;exact this
theorem ziE {st : SortSt} {lo n nrem : Nat} {Q : DescSt -> SortSt -> Prop} (hO : LtAt κ kx prog w A s) (hk : kindOf st = kx) (hK : ∀ x ∈ arrOf st, Kd κ x) (hn : lo + nrem <= (arrOf st).size) (h1 : 1 <= n) (hnn : n <= nrem) (hs : SegN κ (arrOf st) lo n)
  (h : ∀ m neq xs, Kp lo (arrOf st) xs -> n <= m -> m <= nrem -> SegN κ xs lo m -> neq + 1 <= m -> (∀ i, m - (neq + 1) <= i -> i < m -> KK κ xs (lo + i) = KK κ xs (lo + m - 1)) -> Q (none, m, neq) (setArr st xs)) : wpS (model prog w) A E s (zkf lo n nrem) Q st := by
 unfold zkf;refine wpS_forRange (I := fun x c st' => ∃ neq xs, c = (none, x, neq) /\ st' = setArr st xs /\ Kp lo (arrOf st) xs /\ SegN κ xs lo x /\ neq + 1 <= x /\ (∀ i, x - (neq + 1) <= i -> i < x -> KK κ xs (lo + i) = KK κ xs (lo + x - 1))) ?step ?fin ⟨0, arrOf st, rfl, rfl, .refl _ _, hs,ω, fun i h1 h2 => by congr 1; omega⟩
 case fin =>
  rintro c st' ⟨neq, xs, rfl, rfl, kp, hs', hq, he⟩
  rw [show max n nrem = nrem by omega] at hs' hq he ⊢;exact h nrem neq xs kp hnn (yai _) hs' hq he
 case step =>
  rintro x c st' hax hxn ⟨neq, xs, rfl, rfl, kp, hs', hq, he⟩
  dsimp only;have hsize := kp.size;have hsz : lo + x <= xs.size := by omega
  refine wpS_bind (zd0 (st := setArr st xs) hO hk (kp.kd hK) (show lo + x < xs.size by omega) (show lo + x - 1 < xs.size by omega) ?_);have step1 : ∀ ys : Array Keyed, (∀ k, KK κ ys k = KK κ xs k) -> κ.blt (KK κ xs (lo + x)) (KK κ xs (lo + x - 1)) = true -> SegN κ ys lo (x + 1) := by
   intro ys hk' hless i j hij hj;rw [hk', hk']
   by_cases hjx : j < x
   ·exact hs' i j hij hjx
   ·have hj' : j = x := by omega
    subst hj'
    by_cases hi' : i = j
    ·subst hi'; exact KeyOrd.kle_refl _
    ·have q := hs' i (j - 1) ω ω;rw [show lo + (j - 1) = lo + j - 1 by omega] at q;exact KeyOrd.kle_trans (KeyOrd.kle_of_klt hless) q
  have heq' : ∀ k, lo + x - (neq + 1) <= k -> k < lo + x -> KK κ xs k = KK κ xs (lo + x - 1) := fun k k1 k2 => by
   have := he (k - lo) ω ω
   rwa [show lo + (k - lo) = k by omega] at this
  cases hless : κ.blt (KK κ xs (lo + x)) (KK κ xs (lo + x - 1))
  case true =>
   dsimp only;rw [if_pos rfl]
   by_cases hneq : neq > 0
   ·rw [if_pos hneq];refine wpS_bind (zes (wpS_pure ⟨0, _, rfl, rfl, kp.trans (Kp.mirror ω hsz), step1 _ (KK_mirror_equal hsz heq') hless,ω, fun i h1 h2 => by congr 1; omega⟩))
   ·rw [if_neg hneq];exact wpS_pure ⟨0, xs, rfl, rfl, kp, step1 _ (fun _ => rfl) hless,ω, fun i h1 h2 => by congr 1; omega⟩
  case false =>
   dsimp only;rw [if_neg δ];refine wpS_bind (zd0 (st := setArr st xs) hO hk (kp.kd hK) (show lo + x - 1 < xs.size by omega) (show lo + x < xs.size by omega) ?_);cases hlarger : κ.blt (KK κ xs (lo + x - 1)) (KK κ xs (lo + x))
   case true => exact wpS_pure (h x neq xs kp hax ω hs' hq he)
   case false =>
    have heqx : KK κ xs (lo + x) = KK κ xs (lo + x - 1) := KeyOrd.kle_antisymm hlarger hless;refine wpS_pure ⟨neq + 1, xs, rfl, rfl, kp, fun i j hij hj => ?_,ω, fun i h1 h2 => ?_⟩
    ·by_cases hjx : j < x
     ·exact hs' i j hij hjx
     ·have hj' : j = x := by omega
      subst hj'
      by_cases hi' : i = j
      ·subst hi'; exact KeyOrd.kle_refl _
      ·rw [heqx];have q := hs' i (j - 1) ω ω
       rwa [show lo + (j - 1) = lo + j - 1 by omega] at q
    ·rw [show lo + (x + 1) - 1 = lo + x by omega]
     by_cases hix : i = x
     ·subst hix; rfl
     ·rw [heqx]; exact he i ω ω
theorem zdZ {st : SortSt} {lo n nrem : Nat} {Q : Option Nat -> SortSt -> Prop} (hO : LtAt κ kx prog w A s) (hk : kindOf st = kx) (hK : ∀ x ∈ arrOf st, Kd κ x) (hn : lo + nrem <= (arrOf st).size) (hnn : n + 1 <= nrem) (hs : SegN κ (arrOf st) lo (n + 1)) (h : CRo κ st lo nrem Q) : wpS (model prog w) A E s (zfj lo n nrem) Q st := by
 unfold zfj;refine wpS_bind (wpS_lift (wpAny_rule ⟨rfl, ?_⟩));refine wpS_bind (ziE hO hk hK hn ω hnn hs fun m neq xs kp hm1 hm2 hs' hq he => ?_);dsimp only;have hsize := kp.size;have hsz : lo + m <= xs.size := by omega
 have heq' : ∀ k, lo + m - (neq + 1) <= k -> k < lo + m -> KK κ xs k = KK κ xs (lo + m - 1) := fun k k1 k2 => by
  have := he (k - lo) ω ω
  rwa [show lo + (k - lo) = k by omega] at this
 by_cases hneq : neq > 0
 ·rw [if_pos hneq];have kp2 := kp.trans (Kp.mirror (lo := lo) (i := lo + m - (neq + 1)) ω hsz);refine wpS_bind (zes (zdY hO hk (kp2.kd hK) (by show lo + nrem <= (mirror _ _ _ _).size; rw [kp2.size]; exact hn) ω hm2 ?_ (h.next kp2)));intro i j hij hj;show κ.kle (KK κ (mirror xs _ _ _) (lo + j)) (KK κ (mirror xs _ _ _) (lo + i));rw [KK_mirror_equal hsz heq', KK_mirror_equal hsz heq'];exact hs' i j hij hj
 ·rw [if_neg hneq];exact zdY hO hk (kp.kd hK) (by show lo + nrem <= xs.size; omega) ω hm2 hs' (h.next kp)
theorem zfl {st : SortSt} {lo nrem : Nat} {Q : Option Nat -> SortSt -> Prop} (hO : LtAt κ kx prog w A s) (hk : kindOf st = kx) (hK : ∀ x ∈ arrOf st, Kd κ x) (hn : lo + nrem <= (arrOf st).size) (h1 : 1 <= nrem) (h : CRo κ st lo nrem Q) : wpS (model prog w) A E s (countRun' lo nrem) Q st := by
 rw [zfk];refine wpS_bind (zgF hO hk hK hn (yai 1) h1 (fun i j hij hj => by have : i = j := ω; subst this; exact KeyOrd.kle_refl _) fun n hn1 hn2 hsn hor => ?_);dsimp only;have h' : SegS κ (arrOf st) lo n -> Q (some n) st := fun z => h n (arrOf st) (.refl _ _) hn1 hn2 z
 by_cases hnn : n = nrem
 ·rw [if_pos (by simpa using hnn)];exact wpS_pure (h' hsn)
 ·rw [if_neg (by simpa using hnn)];have hlt : κ.klt (KK κ (arrOf st) (lo + n)) (KK κ (arrOf st) (lo + n - 1)) := hor.resolve_left hnn
  by_cases hgt : n > 1
  ·rw [if_pos hgt];refine wpS_bind (zd0 hO hk hK ω ω ?_);cases hrose : κ.blt (KK κ (arrOf st) lo) (KK κ (arrOf st) (lo + n - 1))
   case true => exact wpS_pure (h' hsn)
   case false =>
    dsimp only;rw [if_neg δ];have hsz : lo + n <= (arrOf st).size := by omega
    have hall : ∀ k, lo <= k -> k < lo + n -> KK κ (arrOf st) k = KK κ (arrOf st) (lo + n - 1) := by
     intro k q hk';have a1 := hsn 0 (k - lo) ω ω;have a2 := hsn (k - lo) (n - 1) ω ω;rw [show lo + (k - lo) = k by omega] at a1 a2;rw [show lo + (n - 1) = lo + n - 1 by omega] at a2;exact KeyOrd.kle_antisymm a2 (KeyOrd.kle_trans hrose a1)
    have kp := Kp.mirror (lo := lo) (i := lo) (yai _) hsz;refine wpS_bind (zes (zdZ hO hk (kp.kd hK) (by show lo + nrem <= (mirror _ _ _ _).size; rw [kp.size]; exact hn) ω ?_ (h.next kp)));intro i j hij hj;show κ.kle (KK κ (mirror (arrOf st) _ _ _) (lo + j)) (KK κ (mirror (arrOf st) _ _ _) (lo + i));rw [KK_mirror_equal hsz hall, KK_mirror_equal hsz hall]
    by_cases hjn : j < n
    ·rw [hall (lo + i) ω ω, hall (lo + j) ω ω]; exact KeyOrd.kle_refl _
    ·have hj' : j = n := by omega
     subst hj'
     by_cases hi' : i = j
     ·subst hi'; exact KeyOrd.kle_refl _
     ·rw [hall (lo + i) ω ω]; exact KeyOrd.kle_of_klt hlt
  ·rw [if_neg hgt];have hn1' : n = 1 := by omega
   subst hn1';refine zdZ hO hk hK hn ω ?_ h;intro i j hij hj
   by_cases hi' : i = j
   ·subst hi'; exact KeyOrd.kle_refl _
   ·have hi0 : i = 0 := by omega
    have hj1 : j = 1 := by omega
    subst hi0; subst hj1;exact KeyOrd.kle_of_klt hlt
theorem zhw {st : SortSt} {lo n ok : Nat} {Q : Bool -> SortSt -> Prop} (hO : LtAt κ kx prog w A s) (hk : kindOf st = kx) (hK : ∀ x ∈ arrOf st, Kd κ x) (hn : lo + n <= (arrOf st).size) (hok : ok <= n) (hs : SegS κ (arrOf st) lo ok)
  (h : ∀ xs, Kp lo (arrOf st) xs -> SegS κ xs lo n -> Q true (setArr st xs)) : wpS (model prog w) A E s (binarySort' lo n ok) Q st := by
 rw [binarySort'_eq];refine wpS_bind (wpS_mono (wpS_forRange (I := fun k c st' => c = (none, ()) /\ ∃ xs, st' = setArr st xs /\ Kp lo (arrOf st) xs /\ SegS κ xs lo (min k n))
  (Q := fun c st' => c = (none, ()) /\ ∃ xs, st' = setArr st xs /\ Kp lo (arrOf st) xs /\ SegS κ xs lo n) ?step ?fin ?init) ?post)
 case post =>
  rintro c st' ⟨rfl, xs, rfl, kp, hs'⟩
  exact wpS_pure (h xs kp hs')
 case init =>
  refine ⟨rfl, arrOf st, rfl, .refl _ _, fun i j hij hj => ?_⟩
  by_cases h1 : ok = 0
  ·have : i = j := by omega
   subst this; exact KeyOrd.kle_refl _
  ·exact hs i j hij ω
 case fin =>
  rintro c st' ⟨hc, xs, e, kp, hs'⟩
  refine ⟨hc, xs, e, kp, ?_⟩
  rwa [show min (max (max ok 1) n) n = n by omega] at hs'
 case step =>
  rintro k c st' hak hkn ⟨rfl, xs, rfl, kp, hs'⟩
  rw [show min k n = k by omega] at hs';have hsize := kp.size;have hkx : lo + k < xs.size := by omega
  refine wpS_bind (wpS_mono (wpS_forRange (I := fun x c st'' => st'' = setArr st xs /\ ∃ l r, c = (none, l, r) /\ l <= r /\ r <= k /\ r - l <= k - x /\
    (∀ i, i < l -> κ.kle (KK κ xs (lo + i)) (KK κ xs (lo + k))) /\ (∀ i, r <= i -> i < k -> κ.klt (KK κ xs (lo + k)) (KK κ xs (lo + i))))
   (Q := fun c st'' => st'' = setArr st xs /\ ∃ l r, c = (none, l, r) /\ l <= k /\
    (∀ i, i < l -> κ.kle (KK κ xs (lo + i)) (KK κ xs (lo + k))) /\ (∀ i, l <= i -> i < k -> κ.klt (KK κ xs (lo + k)) (KK κ xs (lo + i)))) ?istep ?ifin ?iinit) ?ipost)
  case iinit => exact ⟨rfl, 0, k, rfl,ω,ω,ω, fun i hi => by omega, fun i h1 h2 => by omega⟩
  case ifin =>
   rintro c st'' ⟨rfl, l, r, rfl, hlr, hrk, hm, hlo, hhi⟩
   have : l = r := by omega
   subst this;exact ⟨rfl, l, l, rfl, hrk, hlo, hhi⟩
  case istep =>
   rintro x c st'' _ hxk ⟨rfl, l, r, rfl, hlr, hrk, hm, hlo, hhi⟩
   dsimp only
   by_cases hge : l ≥ r
   ·rw [if_pos hge];have : l = r := by omega
    subst this;exact wpS_pure ⟨rfl, l, l, rfl, hrk, hlo, hhi⟩
   ·rw [if_neg hge];refine wpS_bind (zd0 (st := setArr st xs) hO hk (kp.kd hK) hkx (show lo + (l + r) / 2 < xs.size by omega) ?_);cases hless : κ.blt (KK κ xs (lo + k)) (KK κ xs (lo + (l + r) / 2))
    case true =>
     refine wpS_pure ⟨rfl, l, (l + r) / 2, rfl,ω,ω,ω, hlo, fun i h1 h2 => ?_⟩;exact KeyOrd.klt_of_klt_of_kle hless (hs' _ _ h1 h2)
    case false =>
     refine wpS_pure ⟨rfl, (l + r) / 2 + 1, r, rfl,ω,ω,ω, fun i h1 => ?_, hhi⟩;exact KeyOrd.kle_trans (hs' i ((l + r) / 2) ω ω) (show κ.kle _ _ from hless)
  case ipost =>
   rintro c st'' ⟨rfl, l, r, rfl, hlk, hlo, hhi⟩
   show wpS _ _ _ _ (do moveDown' (lo + k) (lo + l); pure (ForInStep.yield (none, ()))) _ _;rw [moveDown'_eq];refine wpS_bind (wpS_modify (wpS_pure ⟨rfl, _, rfl, kp.trans ⟨bubble_perm _ _ _, fun i hi => ?_⟩, ?_⟩))
   ·show (bubble xs (lo + k) (lo + k - (lo + l)))[i]? = xs[i]?;rw [getElem?_bubble hkx _ ω, if_neg ω, if_neg ω]
   rw [show min (k + 1) n = k + 1 by omega];intro i j hij hj;show κ.kle (KK κ (bubble xs (lo + k) (lo + k - (lo + l))) (lo + i)) (KK κ (bubble xs (lo + k) (lo + k - (lo + l))) (lo + j));rw [KK_bubble hkx ω, KK_bubble hkx ω, show lo + k - (lo + k - (lo + l)) = lo + l by omega];have ei : ∀ t, 0 < t -> lo + t - 1 = lo + (t - 1) := fun t ht => by omega
   repeat' split
   all_goals first
    | (exfalso; omega)
    | exact KeyOrd.kle_refl _
    | (rw [ei _ ω, ei _ ω]; exact hs' _ _ ω ω)
    | (rw [ei _ ω]; exact hlo _ ω)
    | (rw [ei _ ω]; exact KeyOrd.kle_of_klt (hhi _ ω ω))
    | (rw [ei _ ω]; exact hs' _ _ ω ω)
    | exact hlo _ ω
    | exact KeyOrd.kle_of_klt (hhi _ ω ω)
    | exact hs' _ _ ω ω
def zbt : Nat -> List (List Keyed) -> List (Nat × Nat)
 | _, [] => []
 | n, r :: rs => (n, r.length) :: zbt (n + r.length) rs
theorem zbk : ∀ (n : Nat) (A B : List (List Keyed)), zbt n (A ++ B) = zbt n A ++ zbt (n + A.flatten.length) B
 | n, [], B => by simp [zbt]
 | n, r :: A, B => by
  rw [List.cons_append, zbt, zbk (n + r.length) A B, zbt, List.flatten_cons, yae, List.cons_append, Nat.add_assoc]
theorem zbz : ∀ (n : Nat) (A : List (List Keyed)), (zbt n A).length = A.length
 | _, [] => rfl
 | n, r :: A => by rw [zbt, List.length_cons, zbz, List.length_cons]
def pr (x : Nat × Nat × Nat) : Nat × Nat := (x.1, x.2.1)
structure Rn (κ : KeyKind) (l : List Keyed) (pend : List (Nat × Nat × Nat)) (runs : List (List Keyed)) (T : List Keyed) : Prop where
 eq : l = runs.flatten ++ T
 pos : ∀ r ∈ runs, 0 < r.length
 srt : ∀ r ∈ runs, Srt κ r
 pnd : pend.map pr = zbt 0 runs
theorem Rn.len {l : List Keyed} {pend : List (Nat × Nat × Nat)} {runs : List (List Keyed)} {T : List Keyed} (h : Rn κ l pend runs T) : pend.length = runs.length := by
 have := congrArg List.length h.pnd
 rwa [yaf, zbz] at this
theorem zgG : ∀ (runs : List (List Keyed)), (∀ r ∈ runs, 0 < r.length) -> runs.length <= runs.flatten.length
 | [], _ => yai _
 | r :: runs, h => by
  have := zgG runs fun x hx => h x (List.mem_cons_of_mem _ hx);have := h r (List.mem_cons_self ..);rw [List.flatten_cons, yae, List.length_cons];omega
theorem Rn.merge {l l' : List Keyed} {pend : List (Nat × Nat × Nat)} {R1 R2 : List (List Keyed)} {r1 r2 m T : List Keyed} {p : Nat} (h : Rn κ l pend (R1 ++ r1 :: r2 :: R2) T) (hm : Mg κ r1 r2 m) (hl : l' = R1.flatten ++ (m ++ (R2.flatten ++ T))) :
  Rn κ l' ((pend.set R1.length (R1.flatten.length, r1.length + r2.length, p)).eraseIdx (R1.length + 1)) (R1 ++ m :: R2) T := by
 have ml : m.length = r1.length + r2.length := by rw [hm.perm.length_eq, yae]
 refine ⟨by rw [hl, List.flatten_append, List.flatten_cons, List.append_assoc, List.append_assoc], fun r hr => ?_, fun r hr => ?_, ?_⟩
 ·rcases yay.mp hr with z | z
  ·exact h.pos r (List.mem_append_left _ z)
  ·rcases yau.mp z with z | z
   ·rw [z, ml]; have := h.pos r1 ς; omega
   ·exact h.pos r (by simp [z])
 ·rcases yay.mp hr with z | z
  ·exact h.srt r (List.mem_append_left _ z)
  ·rcases yau.mp z with z | z
   ·rw [z]; exact hm.srt
   ·exact h.srt r (by simp [z])
 ·have hp := h.pnd;rw [zbk, Nat.zero_add] at hp;obtain ⟨A, B, rfl, hA, hB⟩ := List.map_eq_append_iff.mp hp;have lA : A.length = R1.length := by have := congrArg List.length hA; rwa [yaf, zbz] at this
  rw [zbt, zbt] at hB
  match B, hB with
  | [], hB => simp at hB
  | [_], hB => simp at hB
  | x :: y :: B, hB =>
   simp only [List.map_cons, List.cons.injEq] at hB;obtain ⟨_, _, hB⟩ := hB;have e1 : (A ++ x :: y :: B).set R1.length (R1.flatten.length, r1.length + r2.length, p) = A ++ (R1.flatten.length, r1.length + r2.length, p) :: y :: B := by
    rw [List.set_append_right _ _ ω, lA, Nat.sub_self]; rfl
   have e2 : (A ++ (R1.flatten.length, r1.length + r2.length, p) :: y :: B).eraseIdx (R1.length + 1) = A ++ (R1.flatten.length, r1.length + r2.length, p) :: B := by
    rw [List.eraseIdx_append_of_length_le ω, lA, Nat.add_sub_cancel_left]; rfl
   rw [e1, e2, ya0, List.map_cons, hA, hB, zbk, zbt, ml];simp only [Nat.zero_add, pr];rw [Nat.add_assoc]
theorem zet {st : SortSt} {R1 R2 : List (List Keyed)} {r1 r2 T : List Keyed} {Q : Bool -> SortSt -> Prop} (hO : LtAt κ kx prog w A s) (hk : kindOf st = kx) (hf : failedOf st = none) (hK : ∀ x ∈ (arrOf st).toList, Kd κ x) (h : Rn κ (arrOf st).toList (pendingOf st).toList (R1 ++ r1 :: r2 :: R2) T)
  (hq : ∀ m xs pend g, xs.Perm (arrOf st) -> Rn κ xs.toList pend.toList (R1 ++ m :: R2) T -> xs.toList.drop (R1 ++ r1 :: r2 :: R2).flatten.length = T -> Q true (SortSt.mk' (kindOf st) xs pend g (failedOf st))) : wpS (model prog w) A E s (mergeAt' R1.length) Q st := by
 have hp := h.pnd;rw [zbk, Nat.zero_add] at hp;obtain ⟨PA, PB, hAB, hA, hB⟩ := List.map_eq_append_iff.mp hp;have lA : PA.length = R1.length := by have := congrArg List.length hA; rwa [yaf, zbz] at this
 rw [zbt, zbt] at hB
 match PB, hB with
 | [], hB => simp at hB
 | [_], hB => simp at hB
 | x :: y :: PB, hB =>
  simp only [List.map_cons, List.cons.injEq] at hB;obtain ⟨hx, hy, _⟩ := hB;obtain ⟨x1, x2, x3⟩ := x;obtain ⟨y1, y2, y3⟩ := y;cases hx;cases hy;have ea : (arrOf st).toList = R1.flatten ++ (r1 ++ (r2 ++ (R2.flatten ++ T))) := by rw [h.eq]; simp [List.append_assoc]
  refine zgb (P := R1.flatten) (r1 := r1) (r2 := r2) (S := R2.flatten ++ T) (p := x3) (q := y3) hO hk hf hK ea ?_ ?_ (h.pos r1 ς) (h.pos r2 ς) (h.srt r1 ς) (h.srt r2 ς) fun m xs g hm hxs => ?_
  ·rw [<- Array.getElem?_toList, hAB, List.getElem?_append_right ω, lA, Nat.sub_self]; rfl
  ·rw [<- Array.getElem?_toList, hAB, List.getElem?_append_right ω, lA, Nat.add_sub_cancel_left]; rfl
  ·have ml : m.length = r1.length + r2.length := by rw [hm.perm.length_eq, yae]
   have hr := h.merge (p := x3) hm hxs;refine hq m xs _ g ?_ (by rw [Array.toList_eraseIdxIfInBounds, Array.toList_setIfInBounds]; exact hr) ?_
   ·rw [Array.perm_iff_toList_perm, hxs, ea];refine List.Perm.append_left _ ?_;rw [<- List.append_assoc r1];exact hm.perm.append_right _
   ·rw [hxs];simp only [List.flatten_append, List.flatten_cons, <- List.append_assoc];exact List.drop_left' (by simp [ml]; omega)
theorem Kp.take {lo : Nat} {xs ys : Array Keyed} (h : Kp lo xs ys) (hl : lo <= xs.size) : ys.toList.take lo = xs.toList.take lo := by
 refine List.ext_getElem? fun i => ?_;rw [List.getElem?_take, List.getElem?_take]
 by_cases c : i < lo
 ·rw [if_pos c, if_pos c, Array.getElem?_toList, Array.getElem?_toList]; exact h.keep i c
 ·rw [if_neg c, if_neg c]
theorem zl6 {lo n : Nat} {xs : Array Keyed} {F T : List Keyed} (hF : xs.toList.take lo = F) (hn : lo + n <= xs.size) (hs : SegS κ xs lo n) : ∃ R T', xs.toList = F ++ (R ++ T') /\ R.length = n /\ Srt κ R := by
 refine ⟨(xs.toList.drop lo).take n, (xs.toList.drop lo).drop n, ?_, ?_, ?_⟩
 ·rw [List.take_append_drop, <- hF, List.take_append_drop]
 ·rw [ya3, List.length_drop, Array.length_toList]; omega
 ·refine List.pairwise_iff_getElem.mpr fun i j hi hj hij => ?_;rw [ya3, List.length_drop, Array.length_toList] at hi hj;have := hs i j ω ω;rw [zdX ω, zdX ω] at this;simpa using this
theorem Rn.push {l l' : List Keyed} {pend : List (Nat × Nat × Nat)} {runs : List (List Keyed)} {R T T' : List Keyed} {lo n p : Nat} (h : Rn κ l pend runs T) (hl : l' = runs.flatten ++ (R ++ T')) (hlo : runs.flatten.length = lo) (hn : R.length = n) (h0 : 0 < n) (hs : Srt κ R) : Rn κ l' (pend ++ [(lo, n, p)]) (runs ++ [R]) T' := by
 refine ⟨by rw [hl]; simp [List.append_assoc], fun r hr => ?_, fun r hr => ?_, ?_⟩
 ·rcases yay.mp hr with z | z
  ·exact h.pos r z
  ·rw [yah.mp z]; omega
 ·rcases yay.mp hr with z | z
  ·exact h.srt r z
  ·rw [yah.mp z]; exact hs
 ·rw [ya0, h.pnd, zbk, Nat.zero_add, zbt, zbt, hlo, hn]; rfl
structure So (κ : KeyKind) (kx : SortKind) (st st' : SortSt) (runs : List (List Keyed)) (T : List Keyed) : Prop where
 kind : kindOf st' = kx
 failed : failedOf st' = none
 perm : (arrOf st').Perm (arrOf st)
 rn : Rn κ (arrOf st').toList (pendingOf st').toList runs T
theorem So.kd {st st' : SortSt} {runs : List (List Keyed)} {T : List Keyed} (h : So κ kx st st' runs T) (hK : ∀ x ∈ arrOf st, Kd κ x) : ∀ x ∈ arrOf st', Kd κ x := fun x hx => hK x (h.perm.mem_iff.mp hx)
theorem zkJ {α : Type} : ∀ (l : List α) (i : Nat), i + 1 < l.length -> ∃ A x y B, l = A ++ x :: y :: B /\ A.length = i
 | x :: y :: B, 0, _ => ⟨[], x, y, B, rfl, rfl⟩
 | x :: l, i + 1, h => by
  obtain ⟨A, u, v, B, e, hl⟩ := zkJ l i (by simpa using h);exact ⟨x :: A, u, v, B, by rw [e]; rfl, by rw [List.length_cons, hl]⟩
 | [_], 0, h => by simp at h
 | [], _, h => by simp at h
theorem zd1 {st st' : SortSt} {runs : List (List Keyed)} {T : List Keyed} {i : Nat} {Q : Bool -> SortSt -> Prop} (hO : LtAt κ kx prog w A s) (hK : ∀ x ∈ arrOf st, Kd κ x) (h : So κ kx st st' runs T) (hi : i + 1 < runs.length)
  (hq : ∀ st2 runs2, So κ kx st st2 runs2 T -> runs2.length + 1 = runs.length -> runs2.flatten.length = runs.flatten.length -> Q true st2) : wpS (model prog w) A E s (mergeAt' i) Q st' := by
 obtain ⟨R1, r1, r2, R2, e, hl⟩ := zkJ runs i hi;subst e hl;refine zet hO h.kind h.failed (fun x hx => h.kd hK x (by simpa using hx)) h.rn fun m xs pend g hp hr hd => ?_;refine hq _ (R1 ++ m :: R2) ⟨h.kind, h.failed, hp.trans h.perm, hr⟩ (by simp; omega) ?_;have e1 := congrArg List.length hr.eq;have e2 := congrArg List.length h.rn.eq;rw [yae, Array.length_toList] at e1 e2;have := hp.size_eq;show (R1 ++ m :: R2).flatten.length = _;have e3 : xs.size = (arrOf st').size := this;omega
theorem zhx {l : List (Nat × Nat × Nat)} {i : Nat} {f : Nat × Nat × Nat -> Nat × Nat × Nat} (hf : ∀ x, pr (f x) = pr x) : (l.modify i f).map pr = l.map pr := by
 refine List.ext_getElem? fun j => ?_;rw [yav, yav, List.getElem?_modify];cases l[j]? with
 | none => rfl
 | some x =>
  by_cases c : i = j
  ·simp [c, hf]
  ·simp [c]
theorem zeu {st : SortSt} {Q : Unit -> SortSt -> Prop} (hO : LtAt κ kx prog w A s) (hk : kindOf st = kx) (hf : failedOf st = none) (hp : pendingOf st = #[]) (hK : ∀ x ∈ arrOf st, Kd κ x)
  (h : ∀ st', (arrOf st').Perm (arrOf st) -> failedOf st' = none -> Srt κ (arrOf st').toList -> Q () st') : wpS (model prog w) A E s sortRuns' Q st := by
 rw [sortRuns'_eq];refine wpS_bind (wpS_get ?_);dsimp only;generalize minRun' (arrOf st).size (arrOf st).size 0 = mr;generalize hsize : (arrOf st).size = size;refine wpS_bind (wpS_mono (wpS_forRange
  (I := fun x c st' => ∃ lo runs T, c = (none, lo) /\ So κ kx st st' runs T /\ runs.flatten.length = lo /\ x <= lo /\ lo <= size)
  (Q := fun c st' => ∃ runs, c = (none, size) /\ So κ kx st st' runs []) ?step ?fin ⟨0, [], (arrOf st).toList, rfl, ⟨hk, hf, Array.Perm.refl _, ⟨rfl,ς,ς, by rw [hp]; rfl⟩⟩, rfl,ω,ω⟩) ?post)
 case fin =>
  rintro c st' ⟨lo, runs, T, rfl, hS, hl, h1, h2⟩
  have e : lo = size := by omega
  have hT : T = [] := by
   have e1 := congrArg List.length hS.rn.eq;rw [yae, Array.length_toList, hS.perm.size_eq] at e1;exact List.eq_nil_of_length_eq_zero ω
  subst hT;exact ⟨runs, by rw [e], hS⟩
 case post =>
  rintro c st' ⟨runs, rfl, hS⟩
  dsimp only;have hsz : (arrOf st').size = size := hS.perm.size_eq.trans hsize;have hfl : runs.length <= size := by
   have e1 := congrArg List.length hS.rn.eq;rw [List.append_nil, Array.length_toList] at e1;have := zgG runs hS.rn.pos;omega
  refine wpS_bind (wpS_mono (wpS_forRange (I := fun x c st2 => c = (none, ()) /\ ∃ runs2, So κ kx st st2 runs2 [] /\ runs2.length + x <= size) (Q := fun c st2 => c = (none, ()) /\ ∃ runs2, So κ kx st st2 runs2 [] /\ runs2.length <= 1) ?step2 ?fin2 ⟨rfl, runs, hS,ω⟩) ?post2)
  case fin2 =>
   rintro c st2 ⟨hc, runs2, h1, h2⟩
   exact ⟨hc, runs2, h1,ω⟩
  case post2 =>
   rintro c st2 ⟨rfl, runs2, h1, h2⟩
   refine wpS_pure (h st2 h1.perm h1.failed ?_);rw [h1.rn.eq, List.append_nil]
   match runs2, h1.rn.srt, h2 with
   | [], _, _ => exact List.Pairwise.nil
   | [r], hs, _ => simpa using hs r ς
   | _ :: _ :: _, _, h2 => simp at h2
  case step2 =>
   rintro x c st2 _ hx ⟨rfl, runs2, h1, h2⟩
   refine wpS_bind (wpS_get ?_);have Qe : (pendingOf st2).size = runs2.length := by have := h1.rn.len; rwa [Array.length_toList] at this
   by_cases hle : (pendingOf st2).size <= 1
   ·rw [if_pos hle];exact wpS_pure ⟨rfl, runs2, h1,ω⟩
   rw [if_neg hle];have go : ∀ i, i + 1 < runs2.length -> wpS (model prog w) A E s (do
     let b <- mergeAt' i
     if (!b) = true then pure (ForInStep.done (some (), ())) else pure (ForInStep.yield (none, ()))) (fun r st3 => match r with
      | ForInStep.done c => c = (none, ()) /\ ∃ runs2, So κ kx st st3 runs2 [] /\ runs2.length <= 1
      | ForInStep.yield c => c = (none, ()) /\ ∃ runs2, So κ kx st st3 runs2 [] /\ runs2.length + (x + 1) <= size) st2 := fun i hi => by
    refine wpS_bind (zd1 hO hK h1 hi fun st3 runs3 h3 h4 _ => ?_);exact wpS_pure ⟨rfl, runs3, h3,ω⟩
   have hif : ∀ (p : Prop) [Decidable p] (a b : Nat), a + 1 < runs2.length -> b + 1 < runs2.length -> (if p then a else b) + 1 < runs2.length := fun p _ a b ha hb => by split <;> assumption
   exact wpS_mono (go _ (hif _ _ _ ω ω)) fun r st3 hr => by cases r <;> exact hr
 case step =>
  rintro x c st' _ hx ⟨lo, runs, T, rfl, hS, hl, h1, h2⟩
  dsimp only;have hsz : (arrOf st').size = size := hS.perm.size_eq.trans hsize
  by_cases hge : lo ≥ size
  ·rw [if_pos hge];have hT : T = [] := by
    have e1 := congrArg List.length hS.rn.eq;rw [yae, Array.length_toList] at e1;exact List.eq_nil_of_length_eq_zero ω
   subst hT;exact wpS_pure ⟨runs, by rw [show lo = size by omega], hS⟩
  rw [if_neg hge];have hF : (arrOf st').toList.take lo = runs.flatten := by rw [hS.rn.eq, List.take_left' hl]
  refine wpS_bind (zfl hO hS.kind (hS.kd hK) ω ω fun m xs kp hm1 hm2 hseg => ?_);dsimp only;have mkS : ∀ {n : Nat} {ys : Array Keyed}, Kp lo (arrOf st') ys -> SegS κ ys lo n -> lo + n <= size -> ∃ R T', So κ kx st (setArr st' ys) runs (R ++ T') /\ R.length = n /\ Srt κ R := fun {n ys} k2 sg hn => by
   have e := k2.size;obtain ⟨R, T', e1, e2, e3⟩ := zl6 (κ := κ) (F := runs.flatten) (T := T) ((k2.take ω).trans hF) ω sg;exact ⟨R, T', ⟨hS.kind, hS.failed, k2.perm.trans hS.perm, ⟨e1, hS.rn.pos, hS.rn.srt, hS.rn.pnd⟩⟩, e2, e3⟩
  by_cases hlt : m < mr
  case' pos =>
   rw [if_pos hlt];refine wpS_bind (wpS_lift (wpAny_rule ⟨rfl, ?_⟩));refine wpS_bind (zhw (st := setArr st' xs) hO hS.kind (kp.kd (hS.kd hK)) (by show lo + min (size - lo) mr <= xs.size; rw [kp.size]; omega) ω hseg fun ys kp2 hs2 => ?_);rw [if_neg δ];have hn0 : 0 < min (size - lo) mr := by omega
   have hnl : lo + min (size - lo) mr <= size := by omega
   obtain ⟨R, T', hS2, eR, sR⟩ := mkS (kp.trans kp2) hs2 hnl;generalize min (size - lo) mr = n at hn0 hnl eR hs2 ⊢;generalize setArr (setArr st' xs) ys = st2 at hS2 ⊢
  case' neg =>
   rw [if_neg hlt];obtain ⟨R, T', hS2, eR, sR⟩ := mkS kp hseg ω;have hn0 : 0 < m := by omega
   have hnl : lo + m <= size := by omega
   generalize m = n at hn0 hnl eR hseg ⊢;generalize setArr st' xs = st2 at hS2 ⊢
  all_goals
   refine wpS_bind (wpS_get ?_);cases hb : (pendingOf st2).back? with
   | none =>
    refine wpS_bind (wpS_modify (wpS_pure ⟨lo + n, runs ++ [R], T', rfl, ⟨hS2.kind, hS2.failed, hS2.perm, ?_⟩, by simp [hl, eR],ω, hnl⟩));show Rn κ (arrOf st2).toList ((pendingOf st2).push (lo, n, 0)).toList _ _;rw [Array.toList_push];exact hS2.rn.push hS2.rn.eq hl eR hn0 sR
   | some b =>
    obtain ⟨s1, n1, p1⟩ := b;dsimp only;refine wpS_bind (wpS_mono (wpS_forRange (I := fun _ c st3 => c = (none, ()) /\ ∃ runs3, So κ kx st st3 runs3 (R ++ T') /\ runs3.flatten.length = lo) (Q := fun c st3 => c = (none, ()) /\ ∃ runs3, So κ kx st st3 runs3 (R ++ T') /\ runs3.flatten.length = lo) ?istep ?ifin ⟨rfl, runs, hS2, hl⟩) ?ipost)
    case ifin => exact fun _ _ hh => hh
    case istep =>
     rintro x3 c3 st3 _ _ ⟨rfl, runs3, hS3, hl3⟩
     refine wpS_bind (wpS_get ?_);have Qe : (pendingOf st3).size = runs3.length := by have := hS3.rn.len; rwa [Array.length_toList] at this
     by_cases hp1 : (pendingOf st3).size > 1
     ·rw [if_pos hp1, getElem?_pos (pendingOf st3) ((pendingOf st3).size - 2) ω];dsimp only
      split
      ·exact wpS_pure ⟨rfl, runs3, hS3, hl3⟩
      ·refine wpS_bind (zd1 hO hK hS3 ω fun st4 runs4 h4 _ h5 => ?_);exact wpS_pure ⟨rfl, runs4, h4,ω⟩
     ·rw [if_neg hp1];exact wpS_pure ⟨rfl, runs3, hS3, hl3⟩
    case ipost =>
     rintro c3 st3 ⟨rfl, runs3, hS3, hl3⟩
     refine wpS_bind (wpS_modify (wpS_bind (wpS_modify (wpS_pure ⟨lo + n, runs3 ++ [R], T', rfl, ⟨hS3.kind, hS3.failed, hS3.perm, ?_⟩, by simp [hl3, eR],ω, hnl⟩))));show Rn κ (arrOf st3).toList (((pendingOf st3).modify ((pendingOf st3).size - 1) _).push (lo, n, 0)).toList _ _;rw [Array.toList_push, Array.toList_modify];have hr : Rn κ (arrOf st3).toList ((pendingOf st3).toList.modify ((pendingOf st3).size - 1) fun x => (x.1, x.2.1, power' size (2 * s1 + n1) (2 * s1 + n1 + n1 + n) size)) runs3 (R ++ T') := ⟨hS3.rn.eq, hS3.rn.pos, hS3.rn.srt, (by refine Eq.trans (zhx ?_) hS3.rn.pnd; exact fun _ => rfl)⟩
     exact hr.push hr.eq hl3 eR hn0 sR
end
section
variable {prog : Program} {w : World} {A : Around} {E : ZQ} {s : Shared}
theorem zni {κ : KeyKind} {xs : Array Keyed} (h : Srt κ xs.toList) : SortedToK κ xs xs.size := fun i j hij hj => by
 rw [zdX ω, zdX hj];exact h.at hij hj
def Kps (a : Addr) (s s2 : Shared) : Prop := ∀ b o, b ≠ a -> s.heap.get? b = some o -> s2.heap.get? b = some o
theorem zbA {κ : KeyKind} {kx : SortKind} {a : Addr} {vs : List Value} {n : Nat} {P : PySem.Fin -> Shared -> Prop} (ho : s.heap.get? a = some (seqObj "list" vs.toArray n))
  (h0 : KeysOf κ (pairsOf vs)) (hO : ∀ s2, Kps a s s2 -> LtAt κ kx prog w A s2) (hkk : ∀ s2, Kps a s s2 -> 2 <= vs.length -> wpAny (model prog w) A (keyKind' vs.toArray) (fun k s3 => k = kx /\ s3 = s2) E s2) (hmx : vs.length <= 1000)
  (h : ∀ st' : SortSt, (arrOf st').Perm (pairsOf vs) -> SortedToK κ (arrOf st') (pairsOf vs).size -> P (.done (.ret .none)) { s with heap := sortedHeap s.heap a vs ((arrOf st').map (·.2)) }) :
  wpAny (model prog w) A (Builtin.«list.sort» ⟨[.ref a], []⟩) P E s := by
 rw [list_sort_plain];have ha : a < s.heap.objs.size := yan ho;refine yaa (listItems_at ho rfl ?_);refine yaa (listUpdate_at ho rfl ?_);obtain ⟨e1, ho1⟩ : ∃ e1, (s.heap.update a (Obj.mapSeq fun _ => #[])).get? a = some (seqObj "list" #[] e1) := ⟨_, get?_update_seq ho (fun _ => #[])⟩
 refine yaa (seqEpoch_at ho1 rfl ?_);refine yaa (wpAny_newTuple ?_);refine yaa (wpAny_newList ?_);refine wpAny_holding ?_;have ho6 : (((s.heap.update a (Obj.mapSeq fun _ => #[])).push (seqObj "tuple" vs.toArray 0)).push (seqObj "list" #[] 0)).get? a = some (seqObj "list" #[] e1) := by
  rw [Heap.get?_push_ne _ _ _ (by rw [size_push', Heap.size_update]; exact Nat.ne_of_lt (Nat.lt_succ_of_lt ha)), Heap.get?_push_ne _ _ _ (by rw [Heap.size_update]; exact Nat.ne_of_lt ha)];exact ho1
 show wpAny (model prog w) A _ P E { s with heap := ((s.heap.update a (Obj.mapSeq fun _ => #[])).push (seqObj "tuple" vs.toArray 0)).push (seqObj "list" #[] 0) };dsimp only;have hK2 : Kps a s { s with heap := ((s.heap.update a (Obj.mapSeq fun _ => #[])).push (seqObj "tuple" vs.toArray 0)).push (seqObj "list" #[] 0) } := fun b o hb hg => by
  have hlt := yan hg;show (((s.heap.update a (Obj.mapSeq fun _ => #[])).push (seqObj "tuple" vs.toArray 0)).push (seqObj "list" #[] 0)).get? b = some o;rw [Heap.get?_push_ne _ _ _ (by rw [size_push', Heap.size_update]; exact Nat.ne_of_lt (Nat.lt_succ_of_lt hlt)), Heap.get?_push_ne _ _ _ (by rw [Heap.size_update]; exact Nat.ne_of_lt hlt), Heap.get?_update_ne _ _ _ _ hb];exact hg
 have hsz : vs.toArray.size = vs.length := by simp
 by_cases h2 : vs.toArray.size < 2
 ·rw [if_pos h2, if_pos h2];refine yaa (yab ?_);rw [StateT.run_pure];refine yaa (yab ?_);dsimp only;refine yaa (seqEpoch_at ho6 rfl ?_);refine yaa (listUpdate_at ho6 rfl ?_ (hsz2 := by rw [Array.size_map]; show (pairsOf vs).size <= _; rw [pairsOf_size, sizeLine_eq]; omega));simp only [bne_self_eq_false, Bool.false_eq_true, if_false];refine yab (h (SortSt.mk' general' (vs.toArray.zip vs.toArray) #[] 7 none) (Array.Perm.refl _) ?_);intro i j hij hj;have : i = j := by rw [pairsOf_size] at hj; omega
  subst this; exact KeyOrd.kle_refl _
 ·rw [if_neg h2, if_neg h2];obtain ⟨v₁, v₂, rest, rfl⟩ : ∃ v₁ v₂ rest, vs = v₁ :: v₂ :: rest := by
   match vs, hsz, h2 with
   | [], _, h2 => simp at h2
   | [_], _, h2 => simp at h2
   | v₁ :: v₂ :: rest, _, _ => exact ⟨v₁, v₂, rest, rfl⟩
  refine yaa (wpAny_mono (hkk _ hK2 ς) (fun k s3 hk => ?_) fun _ _ e => e);obtain ⟨rfl, rfl⟩ := hk;refine yaa (wpAny_mono (zeu (κ := κ) (hO _ hK2) (st := SortSt.mk' _ ((v₁ :: v₂ :: rest).toArray.zip (v₁ :: v₂ :: rest).toArray) #[] 7 none)
   (Q := fun _ st' => (arrOf st').Perm (pairsOf (v₁ :: v₂ :: rest)) /\ failedOf st' = none /\ SortedToK κ (arrOf st') (pairsOf (v₁ :: v₂ :: rest)).size)
   rfl rfl rfl (fun x hx => h0 x (Array.mem_toList_iff.2 hx)) fun st' a1 a2 a3 => ⟨a1, a2, by have := zni a3; rwa [a1.size_eq] at this⟩) ?_ fun _ _ e => e)
  rintro ⟨⟨⟩, st'⟩ s' ⟨rfl, hp, hf, hs⟩
  dsimp only;refine yaa (seqEpoch_at ho6 rfl ?_);refine yaa (listUpdate_at ho6 rfl ?_ (hsz2 := by refine yat (Nat.le_of_eq ((Array.size_map ..).trans (hp.size_eq.trans (pairsOf_size _)))) ?_; rw [sizeLine_eq]; omega));rw [hf];simp only [bne_self_eq_false, Bool.false_eq_true, if_false];exact yab (h st' hp hs)
theorem zc4 {vs : List Value} {ss : List Str} (hS : StrsAre vs ss) (h2 : 2 <= vs.length) : wpAny (model prog w) A (keyKind' vs.toArray) (fun k s3 => k = oneType' /\ s3 = s) E s := by
 match vs, hS, h2 with
 | v₁ :: v₂ :: rest, hS, _ => rw [keyKind_strs hS]; exact yab ⟨rfl, rfl⟩
theorem zgH {κ : KeyKind} {kx : SortKind} {l : Addr} {vs : List Value} {Q : ZQ} (hl : s.heap.IsList l vs.toArray) (h0 : KeysOf κ (pairsOf vs))
  (hO : ∀ s2, (∀ b o, s.heap.get? b = some o -> s2.heap.get? b = some o) -> LtAt κ kx prog w A.in1.in1 s2) (hkk : ∀ s2 E, (∀ b o, s.heap.get? b = some o -> s2.heap.get? b = some o) -> 2 <= vs.length -> wpAny (model prog w) A.in1.in1 (keyKind' vs.toArray) (fun k s3 => k = kx /\ s3 = s2) E s2) (hmx : vs.length <= 1000)
  (h : ∀ st' : SortSt, (arrOf st').Perm (pairsOf vs) -> SortedToK κ (arrOf st') (pairsOf vs).size -> Q (.ref (s.heap.objs.size + 1)) { s with heap := sortedAll s.heap vs ((arrOf st').map (·.2)) }) :
  wpAny (model prog w) A (call (.builtin "sorted") [.ref l]) Q E s := by
 refine Calls.call_function_entry kind_sorted plain_sorted entry_sorted (args_sorted1 _) ?_;unfold Builtin.«sorted»;refine yaa (m := checkCount "sorted" 1 1 _) (yab ?_);refine yaa (collect_list hl ?_);refine yaa (wpAny_newList ?_);have hsz : ((s.heap.push (seqObj "list" #[] 0)).update s.heap.objs.size (Obj.mapSeq (· ++ vs.toArray))).objs.size = s.heap.objs.size + 1 := by
  rw [Heap.size_update, size_push']
 have hoL : (((s.heap.push (seqObj "list" #[] 0)).update s.heap.objs.size (Obj.mapSeq (· ++ vs.toArray))).push (seqObj "list" vs.toArray 0)).get? (s.heap.objs.size + 1) = some (seqObj "list" vs.toArray 0) := by
  rw [<- hsz]; exact yaj _ rfl
 show wpAny _ _ _ _ _ { s with heap := ((s.heap.push (seqObj "list" #[] 0)).update s.heap.objs.size (Obj.mapSeq (· ++ vs.toArray))).push (seqObj "list" vs.toArray 0) };rw [hsz];have kk : ∀ b o, s.heap.get? b = some o -> b ≠ s.heap.objs.size + 1 /\ (((s.heap.push (seqObj "list" #[] 0)).update s.heap.objs.size (Obj.mapSeq (· ++ vs.toArray))).push (seqObj "list" vs.toArray 0)).get? b = some o := fun b o hg => by
  have hlt := yan hg;refine ⟨Nat.ne_of_lt (Nat.lt_succ_of_lt hlt), ?_⟩;rw [Heap.get?_push_ne _ _ _ (by rw [hsz]; exact Nat.ne_of_lt (Nat.lt_succ_of_lt hlt)), Heap.get?_update_ne _ _ _ _ (Nat.ne_of_lt hlt), Heap.get?_push_ne _ _ _ (Nat.ne_of_lt hlt)];exact hg
 refine yaa (wpAny_holding (wpAny_call_entry slot_list_sort ⟨_, hoL, rfl⟩ entry_list_sort (zbA hoL h0 (fun s2 h2 => hO s2 fun b o hg => h2 b o (kk b o hg).1 (kk b o hg).2) (fun s2 h2 => hkk s2 _ fun b o hg => h2 b o (kk b o hg).1 (kk b o hg).2) hmx fun st' a1 a2 => ⟨_, rfl, ?_⟩) (args_list_sort _)));exact yab ⟨_, rfl, h st' a1 a2⟩
theorem zfm {l : Addr} {vs : List Value} {ss : List Str} {Q : ZQ} (hl : s.heap.IsList l vs.toArray) (hS : StrsAre vs ss) (hmx : vs.length <= 1000)
  (h : ∀ (out : Array Value) (ss' : List Str), StrsAre out.toList ss' -> ss'.Perm ss -> sortedS ss' = true -> Q (.ref (s.heap.objs.size + 1)) { s with heap := sortedAll s.heap vs out }) :
  wpAny (model prog w) A (call (.builtin "sorted") [.ref l]) Q E s := by
 refine zgH hl hS.keysOf (fun s2 _ => LtAt.one strKind_oneLt) (fun s2 E _ h2 => zc4 hS h2) hmx fun st' hp hs => ?_;obtain ⟨ss', h1, h2, h3⟩ := sorted_out_str hS hp hs;exact h _ ss' h1 h2 h3
theorem zfn {x : Value} {n : Nat} {Q : ZQ} (hx : wpAny (model prog w) A.in1 (collect x) (fun vs s1 => ∃ ts, StrsAre vs ts /\ ts.length <= 1000 /\
   ∀ l hp (us : List Str) (out : List Value), (∀ b o, s1.heap.get? b = some o -> hp.get? b = some o) -> s1.heap.objs.size <= l -> (∃ c, hp.get? l = some { cls := .type "list", data := .seq out.toArray c }) -> StrsAre out us -> us.Perm ts -> sortedS us = true -> Q (.ref l) { s1 with heap := hp }) E s) :
  wpAny (model prog w) A (call (.builtin "sorted") [x]) Q E s := by
 refine Calls.call_function_entry kind_sorted plain_sorted entry_sorted (args_sorted1 _) ?_;unfold Builtin.«sorted»;apply yaa (m := checkCount "sorted" 1 1 _);refine yab (yaa (wpAny_mono hx (fun vs s1 q => ?_) fun _ _ z => z));obtain ⟨ts, hvs, h64, k⟩ := q;have hl : vs.length = ts.length := hvs.length;refine yaa (wpAny_newList ?_ (by rw [hl]; exact zak ω));have ho : (s1.heap.push (seqObj "list" vs.toArray 0)).get? s1.heap.objs.size = some (seqObj "list" vs.toArray 0) := yaj _ rfl;have sz : (s1.heap.push (seqObj "list" vs.toArray 0)).objs.size = s1.heap.objs.size + 1 := Heap.size_push ..;have k1 : ∀ b o, s1.heap.get? b = some o -> (s1.heap.push (seqObj "list" vs.toArray 0)).get? b = some o := zay;show wpAny _ _ _ _ _ { s1 with heap := s1.heap.push (seqObj "list" vs.toArray 0) };refine yaa (wpAny_holding (wpAny_call_entry slot_list_sort ⟨_, ho, rfl⟩ entry_list_sort (zbA ho hvs.keysOf (fun s2 _ => LtAt.one strKind_oneLt) (fun s2 _ h2 => zc4 hvs h2) ω fun st' a1 a2 => ⟨_, rfl, ?_⟩) (args_list_sort _)));obtain ⟨us, b1, b2, b3⟩ := sorted_out_str hvs a1 a2;obtain ⟨c, hc⟩ := sortedHeap_at (vs := vs) (out := (arrOf st').map (·.2)) ho;refine yab ⟨_, rfl, k _ _ us ((arrOf st').map (·.2)).toList (fun b o e => ?_) (yai _) ⟨c, ?_⟩ b1 b2 b3⟩
 ·have hlt := yan e;rw [sortedHeap_old (Nat.ne_of_lt hlt) (by rw [sz]; exact Nat.lt_succ_of_lt hlt)];exact k1 b o e
 ·rw [hc]
end
section
variable {X : Cx}
def zev (P : Program) (w : World) (K : W.Frag) : List V -> Hp -> VK -> Prop := fun xs H Q => ∃ (a : Addr) (us : List Str), xs = [.ref a] /\ (H a = some (SetO P w a us) \/ SqL K H a (us.map V.str)) /\ us.length <= 1000 /\
 ∀ l vs, H l = none -> sortedS vs = true -> vs.Perm us -> Q (.ref l) (upd H l (.lst (vs.map V.str)))
theorem zfo (hc : X.calm = true) : zaN X (.builtin "sorted") (zev X.prog X.w X.K) := by
 intro Qa s σ H xs us Q I r h;obtain ⟨a, ts, rfl, hq, hl, k⟩ := h;obtain ⟨u, rfl, ru⟩ := zcn r;cases ru;have fin : ∀ (hp : Heap) (tk : Nat) (d : Drawn), (∀ b o, s.heap.get? b = some o -> hp.get? b = some o) -> s.heap.objs.size <= hp.objs.size -> ∀ us' : List Str, us'.Perm ts -> ∀ (l : Addr) (hp2 : Heap) (vs : List Str) (out : List Value), (∀ b o, hp.get? b = some o -> hp2.get? b = some o) -> hp.objs.size <= l ->
   (∃ c, hp2.get? l = some { cls := .type "list", data := .seq out.toArray c }) -> StrsAre out vs -> vs.Perm us' -> sortedS vs = true -> EP X Qa σ Q (.ref l) { s with heap := hp2, toks := tk, drawn := d } := fun hp tk d k1 z1 us' p1 l hp2 vs out k2 hn ⟨c, hc'⟩ ho pv hs => by
  have hsz : s.heap.objs.size <= l := yat z1 hn;refine ⟨.ref l, _, (I.laid (t' := tk) (o := .lst (vs.map V.str)) (fun b o e => k2 b o (k1 b o e)) hsz ⟨?_, out, c, zdy ho, hc'⟩).draw d, rfl, k l vs (I.hok.fresh hsz) hs (pv.trans p1)⟩;rw [yaf, (pv.trans p1).length_eq];exact zak ω
 rcases hq with hq | hq
 ·have S : SetS X.prog X.w s.heap a ts := (I.hok a _ hq).1;refine zfn (n := 0) (zfS (I.ok.hd hc) S (zak ω) fun hp tk d vs us' k1 z1 hv hp' => ⟨us', hv, by rw [hp'.length_eq]; exact hl, fun l hp2 vs2 out k2 hn hl2 ho pv hs => fin hp tk d k1 z1 us' hp' l hp2 vs2 out k2 hn hl2 ho pv hs⟩)
 ·obtain ⟨its, rv, pl, _⟩ := I.list hq;have Qe : its.length = ts.length := by have := rv.length; simpa using this.symm
  refine zfm pl.isList (zcC rv) ω fun out vs ho pv hs => ?_;obtain ⟨c, hc'⟩ := sortedAll_at s.heap its out;have z : ({ s with heap := sortedAll s.heap its out } : Shared) = { s with heap := sortedAll s.heap its out, toks := s.toks, drawn := s.drawn } := rfl;rw [z];refine ⟨.ref (s.heap.objs.size + 1), _, (I.laid (t' := s.toks) (o := .lst (vs.map V.str)) (fun b o e => sortedAll_old e) (Nat.le_succ _) ⟨?_, out.toList, c, zdy ho, by rw [hc']⟩).draw s.drawn, rfl, k _ vs (I.hok.fresh (Nat.le_succ _)) hs pv⟩;rw [yaf, pv.length_eq];exact zak ω
variable {P : Program} {w : World} {K : W.Frag} {H : Hp} {Q : VK} {p : Addr}
theorem zbX (P : Program) (w : World) (K : W.Frag) (hc : X.calm = true) (hK : X.K = K := by rfl) (hP : X.prog = P := by rfl) (hw : X.w = w := by rfl) : zaN X (.builtin "sorted") (zev P w K) := by
 subst hK hP hw; exact zfo hc
theorem ziF : zev P w K [.ref p] H Q = ∃ us : List Str, (H p = some (SetO P w p us) \/ SqL K H p (us.map V.str)) /\ us.length <= 1000 /\ ∀ l vs, H l = none -> sortedS vs = true -> vs.Perm us -> Q (.ref l) (upd H l (.lst (vs.map V.str))) := by
 refine propext ⟨fun ⟨_, us, e, h⟩ => ?_, fun ⟨us, h⟩ => ⟨p, us, rfl, h⟩⟩;cases e; exact ⟨us, h⟩
end
inductive Dt where
 | int (i : Int) | str (x : Str) | non | tup (l : List Dt) | lst (l : List Dt)
mutual
def Dt.beq : Dt -> Dt -> Bool
 | .int i, .int j => i == j
 | .str x, .str y => decide (x = y)
 | .non, .non => true
 | .tup l, .tup m => Dt.beqs l m
 | .lst l, .lst m => Dt.beqs l m
 | _, _ => false
def Dt.beqs : List Dt -> List Dt -> Bool
 | [], [] => true
 | a :: l, b :: m => Dt.beq a b && Dt.beqs l m
 | _, _ => false
end
mutual
theorem Dt.beq_iff : ∀ a b : Dt, Dt.beq a b = true ↔ a = b
 | .int i, b => by cases b <;> simp [Dt.beq]
 | .str x, b => by cases b <;> simp [Dt.beq]
 | .non, b => by cases b <;> simp [Dt.beq]
 | .tup l, b => by cases b with
  | tup m => simp only [Dt.beq, Dt.tup.injEq]; exact Dt.beqs_iff l m
  | _ => simp [Dt.beq]
 | .lst l, b => by cases b with
  | lst m => simp only [Dt.beq, Dt.lst.injEq]; exact Dt.beqs_iff l m
  | _ => simp [Dt.beq]
theorem Dt.beqs_iff : ∀ l m : List Dt, Dt.beqs l m = true ↔ l = m
 | [], m => by cases m <;> simp [Dt.beqs]
 | a :: l, m => by cases m with
  | nil => simp [Dt.beqs]
  | cons b m => simp only [Dt.beqs, Bool.and_eq_true, List.cons.injEq]; rw [Dt.beq_iff a b, Dt.beqs_iff l m]
end
instance : DecidableEq Dt := fun a b => if h : Dt.beq a b = true then isTrue ((Dt.beq_iff a b).mp h) else isFalse fun e => h ((Dt.beq_iff a b).mpr e)
theorem Dt.beq_dec (a b : Dt) : Dt.beq a b = decide (a = b) := by
 by_cases h : a = b
 ·rw [ya9 h]; exact (Dt.beq_iff a b).mpr h
 ·rw [ya8 h]; exact Bool.eq_false_iff.mpr fun e => h ((Dt.beq_iff a b).mp e)
theorem Dt.beqs_all : ∀ (l m : List Dt) (e : Nat -> Bool), (∀ (j : Nat) a b, l[j]? = some a -> m[j]? = some b -> e j = Dt.beq a b) -> ((List.range (min l.length m.length)).all e && l.length == m.length) = Dt.beqs l m
 | [], [], e, _ => by simp [Dt.beqs]
 | [], b :: m, e, _ => by simp [Dt.beqs]
 | a :: l, [], e, _ => by simp [Dt.beqs]
 | a :: l, b :: m, e, h => by
  have ih := Dt.beqs_all l m (fun j => e (j + 1)) fun j x y h1 h2 => h (j + 1) x y (by simpa using h1) (by simpa using h2);have h0 := h 0 a b rfl rfl;simp only [Dt.beqs];rw [<- ih, <- h0];simp only [List.length_cons];rw [show min (l.length + 1) (m.length + 1) = min l.length m.length + 1 by omega, List.range_succ_eq_map];simp only [List.all_cons, List.all_map];have : ((l.length + 1 == m.length + 1) : Bool) = (l.length == m.length) := by simp
  rw [this, Bool.and_assoc]
  rfl
mutual
def Dt.dep : Dt -> Nat
 | .tup l => Dt.deps l + 1
 | .lst l => Dt.deps l + 1
 | _ => 0
def Dt.deps : List Dt -> Nat
 | [] => 0
 | a :: l => max (Dt.dep a) (Dt.deps l)
end
theorem Dt.dep_mem : ∀ {l : List Dt} {j : Nat} {a : Dt}, l[j]? = some a -> Dt.dep a <= Dt.deps l
 | [], j, a, h => by simp at h
 | b :: l, 0, a, h => by simp at h; subst h; simp only [Dt.deps]; omega
 | b :: l, j + 1, a, h => by have := Dt.dep_mem (l := l) (j := j) (a := a) (by simpa using h); simp only [Dt.deps]; omega
inductive RepD (K : W.Frag) (H : Hp) : Dt -> V -> Prop
 | int (i : Int) : RepD K H (.int i) (.int i)
 | str (x : Str) : RepD K H (.str x) (.str x)
 | non : RepD K H .non .non
 | tup {a : Addr} {xs : List V} {l : List Dt} (h : SqT K H a xs) (hl : l.length = xs.length) (hr : ∀ (j : Nat) d x, l[j]? = some d -> xs[j]? = some x -> RepD K H d x) : RepD K H (.tup l) (.ref a)
 | lst {a : Addr} {xs : List V} {l : List Dt} (h : SqL K H a xs) (hl : l.length = xs.length) (hr : ∀ (j : Nat) d x, l[j]? = some d -> xs[j]? = some x -> RepD K H d x) : RepD K H (.lst l) (.ref a)
theorem isL {X : Cx} {Qa : ZP} {σ : St} {H : Hp} {s : Shared} {a : Addr} {xs : List V} (I : Inv X Qa σ H s) (h : SqL X.K H a xs) : ∃ its : List Value, Vals xs its /\ s.heap.IsList a its.toArray := by
 obtain ⟨its, r, p, _⟩ := I.list h;exact ⟨its, r, p.isList⟩
theorem isT {X : Cx} {Qa : ZP} {σ : St} {H : Hp} {s : Shared} {a : Addr} {xs : List V} (I : Inv X Qa σ H s) (h : SqT X.K H a xs) : ∃ its : List Value, Vals xs its /\ s.heap.IsTuple a its.toArray := by
 obtain ⟨its, r, p, _⟩ := I.tuple h;exact ⟨its, r, p⟩
section
variable {X : Cx} {Qa : ZP} {σ : St} {H : Hp} {s : Shared}
theorem RepD.inj (I : Inv X Qa σ H s) {d : Dt} {x : V} (h : RepD X.K H d x) : ∀ {d' : Dt}, RepD X.K H d' x -> d = d' := by
 induction h with
 | int i => intro d' h; cases h; rfl
 | str x => intro d' h; cases h; rfl
 | non => intro d' h; cases h; rfl
 | @tup a xs l h hl hr ih =>
  intro d' h';cases h' with
  | @tup _ xs' l' h' hl' hr' =>
   obtain rfl := I.tuple_inj h h'
   congr 1
   apply List.ext_getElem?;intro j
   by_cases hj : j < l.length
   ·have e1 : l[j]? = some l[j] := by simp [hj]
    have e2 : xs[j]? = some xs[j] := by simp
    have hj' : j < l'.length := by omega
    have e3 : l'[j]? = some l'[j] := by simp [hj']
    rw [e1, e3, ih j _ _ e1 e2 (hr' j _ _ e3 e2)]
   ·rw [List.getElem?_eq_none ω, List.getElem?_eq_none ω]
  | @lst _ xs' l' h' hl' hr' =>
   obtain ⟨_, _, p⟩ := isT I h;obtain ⟨_, _, q⟩ := isL I h';exact absurd rfl (SeqAt.ne_of_list_tuple q p)
 | @lst a xs l h hl hr ih =>
  intro d' h';cases h' with
  | @lst _ xs' l' h' hl' hr' =>
   obtain rfl := I.list_inj h h'
   congr 1
   apply List.ext_getElem?;intro j
   by_cases hj : j < l.length
   ·have e1 : l[j]? = some l[j] := by simp [hj]
    have e2 : xs[j]? = some xs[j] := by simp
    have hj' : j < l'.length := by omega
    have e3 : l'[j]? = some l'[j] := by simp [hj']
    rw [e1, e3, ih j _ _ e1 e2 (hr' j _ _ e3 e2)]
   ·rw [List.getElem?_eq_none ω, List.getElem?_eq_none ω]
  | @tup _ xs' l' h' hl' hr' =>
   obtain ⟨_, _, p⟩ := isL I h;obtain ⟨_, _, q⟩ := isT I h';exact absurd rfl (SeqAt.ne_of_list_tuple p q)
theorem RepD.at (I : Inv X Qa σ H s) {d : Dt} {x : V} (h : RepD X.K H d x) : ∀ {d' : Dt} {y : V}, RepD X.K H d' y -> ∀ {A : Around} {u v : Value}, A.units + Dt.dep d < cLine -> RelV x u -> RelV y v ->
  SeqAt.RcAt A s u v (Dt.beq d d') /\ SeqAt.EqAt A s u v (Dt.beq d d') := by
 induction h with
 | int i =>
  intro d' y h' A u v hu ru rv;obtain ⟨t, rfl⟩ := ru;cases h' with
  | int j => obtain ⟨t', rfl⟩ := rv; exact ⟨SeqAt.RcAt.int_int _ _ _ _, SeqAt.EqAt.int_int _ _ _ _⟩
  | str z => obtain ⟨t', rfl⟩ := rv; exact ⟨SeqAt.RcAt.int_str _ _ _ _, SeqAt.EqAt.int_str _ _ _ _⟩
  | non => cases rv; exact ⟨SeqAt.RcAt.int_none _ _, SeqAt.EqAt.int_none _ _⟩
  | tup h => cases rv; obtain ⟨_, _, p⟩ := isT I h; exact ⟨SeqAt.RcAt.int_tuple _ _ p ω, SeqAt.EqAt.int_tuple _ _ p ω⟩
  | lst h => cases rv; obtain ⟨_, _, p⟩ := isL I h; exact ⟨SeqAt.RcAt.int_list _ _ p ω, SeqAt.EqAt.int_list _ _ p ω⟩
 | str z =>
  intro d' y h' A u v hu ru rv;obtain ⟨t, rfl⟩ := ru;cases h' with
  | int j => obtain ⟨t', rfl⟩ := rv; exact ⟨SeqAt.RcAt.str_int _ _ _ _, SeqAt.EqAt.str_int _ _ _ _⟩
  | str z' =>
   obtain ⟨t', rfl⟩ := rv;have e : (z == z') = Dt.beq (.str z) (.str z') := by simp only [Dt.beq]; rw [Bool.beq_eq_decide_eq]
   rw [<- e]; exact ⟨SeqAt.RcAt.str_str _ _ _ _, SeqAt.EqAt.str_str _ _ _ _⟩
  | non => cases rv; exact ⟨SeqAt.RcAt.str_none _ _, SeqAt.EqAt.str_none _ _⟩
  | tup h => cases rv; obtain ⟨_, _, p⟩ := isT I h; exact ⟨SeqAt.RcAt.str_tuple _ _ p ω, SeqAt.EqAt.str_tuple _ _ p ω⟩
  | lst h => cases rv; obtain ⟨_, _, p⟩ := isL I h; exact ⟨SeqAt.RcAt.str_list _ _ p ω, SeqAt.EqAt.str_list _ _ p ω⟩
 | non =>
  intro d' y h' A u v hu ru rv;cases ru;cases h' with
  | int j => obtain ⟨t', rfl⟩ := rv; exact ⟨SeqAt.RcAt.none_int _ _, SeqAt.EqAt.none_int _ _⟩
  | str z' => obtain ⟨t', rfl⟩ := rv; exact ⟨SeqAt.RcAt.none_str _ _, SeqAt.EqAt.none_str _ _⟩
  | non => cases rv; exact ⟨SeqAt.RcAt.none_none, SeqAt.EqAt.same _⟩
  | tup h => cases rv; obtain ⟨_, _, p⟩ := isT I h; exact ⟨SeqAt.RcAt.none_tuple p ω, SeqAt.EqAt.none_tuple p ω⟩
  | lst h => cases rv; obtain ⟨_, _, p⟩ := isL I h; exact ⟨SeqAt.RcAt.none_list p ω, SeqAt.EqAt.none_list p ω⟩
 | @tup a xs l h hl hr ih =>
  intro d' y h' A u v hu ru rv;have h0 := h';cases ru;obtain ⟨its, r1, p1⟩ := isT I h;cases h' with
  | int j => obtain ⟨t', rfl⟩ := rv; exact ⟨SeqAt.RcAt.tuple_int _ _ p1 ω, SeqAt.EqAt.tuple_int _ _ p1 ω⟩
  | str z' => obtain ⟨t', rfl⟩ := rv; exact ⟨SeqAt.RcAt.tuple_str _ _ p1 ω, SeqAt.EqAt.tuple_str _ _ p1 ω⟩
  | non => cases rv; exact ⟨SeqAt.RcAt.tuple_none p1 ω, SeqAt.EqAt.tuple_none p1 ω⟩
  | lst h2 => cases rv; obtain ⟨_, _, p2⟩ := isL I h2; exact ⟨SeqAt.RcAt.tuple_list p1 p2 ω, SeqAt.EqAt.tuple_list p1 p2 ω⟩
  | @tup b ys m h2 hl2 hr2 =>
   cases rv;obtain ⟨its2, r2, p2⟩ := isT I h2;have l1 : its.toArray.size = xs.length := by rw [yad]; exact r1.length.symm
   have l2 : its2.toArray.size = ys.length := by rw [yad]; exact r2.length.symm
   have rc : SeqAt.RcAt A s (.ref a) (.ref b) (Dt.beq (.tup l) (.tup m)) := by
    have hd : Dt.dep (.tup l) = Dt.deps l + 1 := by simp only [Dt.dep]
    rw [hd] at hu;have := SeqAt.RcAt.tuples (A := A) (e := fun j => match l[j]?, m[j]? with | some x, some y => Dt.beq x y | _, _ => true) p1 p2 ω (fun j h1 h2 => by
     obtain ⟨x, ex, rx⟩ := getD_some r1 h1;obtain ⟨y, ey, ry⟩ := getD_some r2 h2;have j1 : j < l.length := by omega
     have j2 : j < m.length := by omega
     have e1 : l[j]? = some l[j] := by simp [j1]
     have e2 : m[j]? = some m[j] := by simp [j2]
     rw [e1, e2];exact (ih j _ _ e1 ex (hr2 j _ _ e2 ey) (A := A.in1) (by show A.units + 1 + _ < cLine; have := Dt.dep_mem e1; omega) rx ry).2)
    rw [l1, l2, <- hl, <- hl2, Dt.beqs_all l m _ (fun j x y h1 h2 => by simp only [h1, h2])] at this;simp only [Dt.beq];exact this
   refine ⟨rc, ?_⟩
   by_cases hab : a = b
   ·subst hab;rw [(Dt.beq_iff _ _).mpr ((RepD.tup h hl hr).inj I h0)];exact SeqAt.EqAt.same _
   ·exact SeqAt.EqAt.of_refs hab rc
 | @lst a xs l h hl hr ih =>
  intro d' y h' A u v hu ru rv;have h0 := h';cases ru;obtain ⟨its, r1, p1⟩ := isL I h;cases h' with
  | int j => obtain ⟨t', rfl⟩ := rv; exact ⟨SeqAt.RcAt.list_int _ _ p1 ω, SeqAt.EqAt.list_int _ _ p1 ω⟩
  | str z' => obtain ⟨t', rfl⟩ := rv; exact ⟨SeqAt.RcAt.list_str _ _ p1 ω, SeqAt.EqAt.list_str _ _ p1 ω⟩
  | non => cases rv; exact ⟨SeqAt.RcAt.list_none p1 ω, SeqAt.EqAt.list_none p1 ω⟩
  | tup h2 => cases rv; obtain ⟨_, _, p2⟩ := isT I h2; exact ⟨SeqAt.RcAt.list_tuple p1 p2 ω, SeqAt.EqAt.list_tuple p1 p2 ω⟩
  | @lst b ys m h2 hl2 hr2 =>
   cases rv;obtain ⟨its2, r2, p2⟩ := isL I h2;have l1 : its.toArray.size = xs.length := by rw [yad]; exact r1.length.symm
   have l2 : its2.toArray.size = ys.length := by rw [yad]; exact r2.length.symm
   have rc : SeqAt.RcAt A s (.ref a) (.ref b) (Dt.beq (.lst l) (.lst m)) := by
    have hd : Dt.dep (.lst l) = Dt.deps l + 1 := by simp only [Dt.dep]
    rw [hd] at hu;simp only [Dt.beq]
    by_cases Qe : l.length = m.length
    ·have := SeqAt.RcAt.lists (A := A) (e := fun j => match l[j]?, m[j]? with | some x, some y => Dt.beq x y | _, _ => true) p1 p2 ω ω (fun j h1 h2 => by
      obtain ⟨x, ex, rx⟩ := getD_some r1 h1;obtain ⟨y, ey, ry⟩ := getD_some r2 h2;have j1 : j < l.length := by omega
      have j2 : j < m.length := by omega
      have e1 : l[j]? = some l[j] := by simp [j1]
      have e2 : m[j]? = some m[j] := by simp [j2]
      rw [e1, e2];exact (ih j _ _ e1 ex (hr2 j _ _ e2 ey) (A := A.in1) (by show A.units + 1 + _ < cLine; have := Dt.dep_mem e1; omega) rx ry).2)
     have q := Dt.beqs_all l m (fun j => match l[j]?, m[j]? with | some x, some y => Dt.beq x y | _, _ => true) (fun j x y h1 h2 => by simp only [h1, h2]);rw [<- q];have q1 : (l.length == m.length) = true := by simpa using Qe
     have q2 : min l.length m.length = its.toArray.size := by omega
     rw [q1, Bool.and_true, q2];exact this
    ·have q : Dt.beqs l m = false := Bool.eq_false_iff.mpr fun e => Qe (congrArg List.length ((Dt.beqs_iff l m).mp e));rw [q];exact SeqAt.RcAt.lists_lengths p1 p2 (by rw [l1, l2]; simp; omega) ω
   refine ⟨rc, ?_⟩
   by_cases hab : a = b
   ·subst hab;rw [(Dt.beq_iff _ _).mpr ((RepD.lst h hl hr).inj I h0)];exact SeqAt.EqAt.same _
   ·exact SeqAt.EqAt.of_refs hab rc
theorem RepD.ne (I : Inv X Qa σ H s) {d d' : Dt} {x y : V} (h : RepD X.K H d x) (h' : RepD X.K H d' y) {A : Around} {u v : Value} (hu : A.units + Dt.dep d < cLine) (ru : RelV x u) (rv : RelV y v) :
  SeqAt.RcNeAt A s u v (!Dt.beq d d') := by
 cases h with
 | int i =>
  obtain ⟨t, rfl⟩ := ru;cases h' with
  | int j => obtain ⟨t', rfl⟩ := rv; exact SeqAt.RcNeAt.int_int _ _ _ _
  | str z => obtain ⟨t', rfl⟩ := rv; exact SeqAt.RcNeAt.int_str _ _ _ _
  | non => cases rv; exact SeqAt.RcNeAt.int_none _ _
  | tup h => cases rv; obtain ⟨_, _, p⟩ := isT I h; exact SeqAt.RcNeAt.int_tuple _ _ p ω
  | lst h => cases rv; obtain ⟨_, _, p⟩ := isL I h; exact SeqAt.RcNeAt.int_list _ _ p ω
 | str z =>
  obtain ⟨t, rfl⟩ := ru;cases h' with
  | int j => obtain ⟨t', rfl⟩ := rv; exact SeqAt.RcNeAt.str_int _ _ _ _
  | str z' =>
   obtain ⟨t', rfl⟩ := rv;have e : (z == z') = Dt.beq (.str z) (.str z') := by simp only [Dt.beq]; rw [Bool.beq_eq_decide_eq]
   rw [<- e]; exact SeqAt.RcNeAt.str_str _ _ _ _
  | non => cases rv; exact SeqAt.RcNeAt.str_none _ _
  | tup h => cases rv; obtain ⟨_, _, p⟩ := isT I h; exact SeqAt.RcNeAt.str_tuple _ _ p ω
  | lst h => cases rv; obtain ⟨_, _, p⟩ := isL I h; exact SeqAt.RcNeAt.str_list _ _ p ω
 | non =>
  cases ru;cases h' with
  | int j => obtain ⟨t', rfl⟩ := rv; exact SeqAt.RcNeAt.none_int _ _
  | str z' => obtain ⟨t', rfl⟩ := rv; exact SeqAt.RcNeAt.none_str _ _
  | non => cases rv; exact SeqAt.RcNeAt.none_none
  | tup h => cases rv; obtain ⟨_, _, p⟩ := isT I h; exact SeqAt.RcNeAt.none_tuple p ω
  | lst h => cases rv; obtain ⟨_, _, p⟩ := isL I h; exact SeqAt.RcNeAt.none_list p ω
 | @tup a xs l h hl hr =>
  cases ru;obtain ⟨its, r1, p1⟩ := isT I h;cases h' with
  | int j => obtain ⟨t', rfl⟩ := rv; exact SeqAt.RcNeAt.tuple_int _ _ p1 ω
  | str z' => obtain ⟨t', rfl⟩ := rv; exact SeqAt.RcNeAt.tuple_str _ _ p1 ω
  | non => cases rv; exact SeqAt.RcNeAt.tuple_none p1 ω
  | lst h2 => cases rv; obtain ⟨_, _, p2⟩ := isL I h2; exact SeqAt.RcNeAt.tuple_list p1 p2 ω
  | @tup b ys m h2 hl2 hr2 =>
   cases rv;obtain ⟨its2, r2, p2⟩ := isT I h2;have l1 : its.toArray.size = xs.length := by rw [yad]; exact r1.length.symm
   have l2 : its2.toArray.size = ys.length := by rw [yad]; exact r2.length.symm
   have hd : Dt.dep (.tup l) = Dt.deps l + 1 := by simp only [Dt.dep]
   rw [hd] at hu;have := SeqAt.RcNeAt.tuples (A := A) (e := fun j => match l[j]?, m[j]? with | some x, some y => Dt.beq x y | _, _ => true) p1 p2 ω (fun j h1 h2 => by
    obtain ⟨x, ex, rx⟩ := getD_some r1 h1;obtain ⟨y, ey, ry⟩ := getD_some r2 h2;have j1 : j < l.length := by omega
    have j2 : j < m.length := by omega
    have e1 : l[j]? = some l[j] := by simp [j1]
    have e2 : m[j]? = some m[j] := by simp [j2]
    rw [e1, e2];exact (RepD.at I (hr j _ _ e1 ex) (hr2 j _ _ e2 ey) (A := A.in1) (by show A.units + 1 + _ < cLine; have := Dt.dep_mem e1; omega) rx ry).2)
   rw [l1, l2, <- hl, <- hl2, Dt.beqs_all l m _ (fun j x y h1 h2 => by simp only [h1, h2])] at this;simp only [Dt.beq];exact this
 | @lst a xs l h hl hr =>
  cases ru;obtain ⟨its, r1, p1⟩ := isL I h;cases h' with
  | int j => obtain ⟨t', rfl⟩ := rv; exact SeqAt.RcNeAt.list_int _ _ p1 ω
  | str z' => obtain ⟨t', rfl⟩ := rv; exact SeqAt.RcNeAt.list_str _ _ p1 ω
  | non => cases rv; exact SeqAt.RcNeAt.list_none p1 ω
  | tup h2 => cases rv; obtain ⟨_, _, p2⟩ := isT I h2; exact SeqAt.RcNeAt.list_tuple p1 p2 ω
  | @lst b ys m h2 hl2 hr2 =>
   cases rv;obtain ⟨its2, r2, p2⟩ := isL I h2;have l1 : its.toArray.size = xs.length := by rw [yad]; exact r1.length.symm
   have l2 : its2.toArray.size = ys.length := by rw [yad]; exact r2.length.symm
   have hd : Dt.dep (.lst l) = Dt.deps l + 1 := by simp only [Dt.dep]
   rw [hd] at hu;simp only [Dt.beq]
   by_cases Qe : l.length = m.length
   ·have := SeqAt.RcNeAt.lists (A := A) (e := fun j => match l[j]?, m[j]? with | some x, some y => Dt.beq x y | _, _ => true) p1 p2 ω ω (fun j h1 h2 => by
     obtain ⟨x, ex, rx⟩ := getD_some r1 h1;obtain ⟨y, ey, ry⟩ := getD_some r2 h2;have j1 : j < l.length := by omega
     have j2 : j < m.length := by omega
     have e1 : l[j]? = some l[j] := by simp [j1]
     have e2 : m[j]? = some m[j] := by simp [j2]
     rw [e1, e2];exact (RepD.at I (hr j _ _ e1 ex) (hr2 j _ _ e2 ey) (A := A.in1) (by show A.units + 1 + _ < cLine; have := Dt.dep_mem e1; omega) rx ry).2)
    have q := Dt.beqs_all l m (fun j => match l[j]?, m[j]? with | some x, some y => Dt.beq x y | _, _ => true) (fun j x y h1 h2 => by simp only [h1, h2]);rw [<- q];have q1 : (l.length == m.length) = true := by simpa using Qe
    have q2 : min l.length m.length = its.toArray.size := by omega
    rw [q1, Bool.and_true, q2];exact this
   ·have q : Dt.beqs l m = false := Bool.eq_false_iff.mpr fun e => Qe (congrArg List.length ((Dt.beqs_iff l m).mp e));rw [q];exact SeqAt.RcNeAt.lists_lengths p1 p2 (by rw [l1, l2]; simp; omega) ω
theorem RepD.mem (I : Inv X Qa σ H s) {d : Dt} {x : V} {l : List Dt} {xs : List V} {its : List Value} (hx : RepD X.K H d x) (hl : l.length = xs.length) (hr : ∀ (j : Nat) d x, l[j]? = some d -> xs[j]? = some x -> RepD X.K H d x)
  (r : Vals xs its) {A : Around} {v : Value} (hu : ∀ a ∈ l, A.units + Dt.dep a < cLine) (rv : RelV x v) :
  ∃ e : Value -> Bool, (∀ u ∈ its, SeqAt.EqAt A s u v (e u)) /\ its.any e = decide (d ∈ l) := by
 classical
 have item : ∀ u ∈ its, ∃ (j : Nat) (y : V) (a : Dt), its[j]? = some u /\ xs[j]? = some y /\ l[j]? = some a /\ RelV y u := fun u hm => by
  obtain ⟨j, hj, e⟩ := List.getElem_of_mem hm;have hx' : j < xs.length := by rw [r.length]; exact hj
  have hl' : j < l.length := by omega
  obtain ⟨u', e', ru⟩ := r.get (i := j) (x := xs[j]) (by simp [hx']);have : its[j]? = some u := by simp [hj, e]
  rw [this] at e'; cases e';exact ⟨j, xs[j], l[j], this, by simp [hx'], by simp [hl'], ru⟩
 refine ⟨fun u => decide (∃ y, RelV y u /\ RepD X.K H d y), fun u hm => ?_, ?_⟩
 ·obtain ⟨j, y, a, _, hy, ha, ru⟩ := item u hm;have ry := hr j a y ha hy;have e : decide (∃ y, RelV y u /\ RepD X.K H d y) = Dt.beq a d := by
   rw [Dt.beq_dec]
   congr 1
   refine propext ⟨fun ⟨y', r1, r2⟩ => ?_, fun z => ⟨y, ru, z ▸ ry⟩⟩;obtain rfl := ru.inj r1;exact ry.inj I r2
  show SeqAt.EqAt A s u v (decide (∃ y, RelV y u /\ RepD X.K H d y));rw [e];exact (ry.at I hx (hu a (ya1 ha)) ru rv).2
 ·apply Bool.eq_iff_iff.mpr;simp only [List.any_eq_true, decide_eq_true_eq]
  constructor
  ·rintro ⟨u, hm, y', r1, r2⟩
   obtain ⟨j, y, a, _, hy, ha, ru⟩ := item u hm;obtain rfl := ru.inj r1;have := (hr j a y ha hy).inj I r2;subst this;exact ya1 ha
  ·intro hm;obtain ⟨j, hj, e⟩ := List.getElem_of_mem hm;have hx' : j < xs.length := by omega
   obtain ⟨u, hu', ru⟩ := r.get (i := j) (x := xs[j]) (by simp [hx']);exact ⟨u, ya1 hu', xs[j], ru, e ▸ hr j l[j] xs[j] (by simp [hj]) (by simp [hx'])⟩
end
section
variable {X : Cx} {K : W.Frag} {H : Hp} {Q : VK}
def rEqT (K : W.Frag) : R2 := fun x y H Q => ∃ d d', RepD K H d x /\ RepD K H d' y /\ Dt.dep d <= 60 /\ Q (.bl (decide (d = d'))) H
def rNeT (K : W.Frag) : R2 := fun x y H Q => ∃ d d', RepD K H d x /\ RepD K H d' y /\ Dt.dep d <= 60 /\ Q (.bl (!decide (d = d'))) H
theorem znj (hu : X.A.units + 64 < cLine) : OpR X (compareOp .Eq) (rEqT X.K) := by
 intro Qa s σ H x y v u Q I rx ry ⟨d, d', h, h', hd, q⟩;exact (h.at I h' (A := X.A) ω rx ry).1 X.prog X.w X.xe _ ⟨.bl _, H, I, rfl, by rw [Dt.beq_dec]; exact q⟩
theorem znk (hu : X.A.units + 64 < cLine) : OpR X (compareOp .NotEq) (rNeT X.K) := by
 intro Qa s σ H x y v u Q I rx ry ⟨d, d', h, h', hd, q⟩;exact (h.ne I h' (A := X.A) ω rx ry) X.prog X.w X.xe _ ⟨.bl _, H, I, rfl, by rw [Dt.beq_dec]; exact q⟩
def rInT (K : W.Frag) (neg : Bool) : R2 := fun x y H Q => ∃ d l, RepD K H d x /\ (RepD K H (.tup l) y \/ RepD K H (.lst l) y) /\ Dt.deps l <= 60 /\ Q (.bl (if neg then !decide (d ∈ l) else decide (d ∈ l))) H
theorem Dt.deps_mem {l : List Dt} {a : Dt} (h : a ∈ l) : Dt.dep a <= Dt.deps l := by
 obtain ⟨j, hj, e⟩ := List.getElem_of_mem h;exact Dt.dep_mem (j := j) (by simp [hj, e])
theorem znl (hu : X.A.units + 64 < cLine) : OpR X (compareOp .In) (rInT X.K false) := by
 intro Qa s σ H x y v u Q I rx ry ⟨d, l, h, h', hd, q⟩;rcases h' with h' | h'
 ·cases h' with
  | @tup a xs _ hq hl hr =>
   cases ry;obtain ⟨its, r, p⟩ := isT I hq;obtain ⟨e, he, ha⟩ := RepD.mem I h hl hr r (A := X.A.in1) (fun a hm => by show X.A.units + 1 + _ < cLine; have := Dt.deps_mem hm; omega) rx;refine SeqAt.in_tupleAt e p (fun w hw => he w (by simpa using hw)) ⟨.bl _, H, I, rfl, ?_⟩;rw [show its.toArray.any e = its.any e by simp, ha];exact q
 ·cases h' with
  | @lst a xs _ hq hl hr =>
   cases ry;obtain ⟨its, r, p⟩ := isL I hq;obtain ⟨e, he, ha⟩ := RepD.mem I h hl hr r (A := X.A.in1) (fun a hm => by show X.A.units + 1 + _ < cLine; have := Dt.deps_mem hm; omega) rx;refine SeqAt.in_listAt e p (fun w hw => he w (by simpa using hw)) ⟨.bl _, H, I, rfl, ?_⟩;rw [show its.toArray.any e = its.any e by simp, ha];exact q
theorem ziG (hu : X.A.units + 64 < cLine) : OpR X (compareOp .NotIn) (rInT X.K true) := by
 intro Qa s σ H x y v u Q I rx ry ⟨d, l, h, h', hd, q⟩;rcases h' with h' | h'
 ·cases h' with
  | @tup a xs _ hq hl hr =>
   cases ry;obtain ⟨its, r, p⟩ := isT I hq;obtain ⟨e, he, ha⟩ := RepD.mem I h hl hr r (A := X.A.in1) (fun a hm => by show X.A.units + 1 + _ < cLine; have := Dt.deps_mem hm; omega) rx;refine SeqAt.notIn_tupleAt e p (fun w hw => he w (by simpa using hw)) ⟨.bl _, H, I, rfl, ?_⟩;rw [show its.toArray.any e = its.any e by simp, ha];exact q
 ·cases h' with
  | @lst a xs _ hq hl hr =>
   cases ry;obtain ⟨its, r, p⟩ := isL I hq;obtain ⟨e, he, ha⟩ := RepD.mem I h hl hr r (A := X.A.in1) (fun a hm => by show X.A.units + 1 + _ < cLine; have := Dt.deps_mem hm; omega) rx;refine SeqAt.notIn_listAt e p (fun w hw => he w (by simpa using hw)) ⟨.bl _, H, I, rfl, ?_⟩;rw [show its.toArray.any e = its.any e by simp, ha];exact q
end
theorem RepD.same {K : W.Frag} {H H' : Hp} (e : Same H H') {d : Dt} {x : V} (h : RepD K H d x) : RepD K H' d x := by
 induction h with
 | int i => exact .int i
 | str x => exact .str x
 | non => exact .non
 | tup h hl hr ih => exact .tup (e.seqT h) hl ih
 | lst h hl hr ih => exact .lst (e.seq h) hl ih
theorem RepD.ints {K : W.Frag} {H : Hp} {a : Addr} {ts : List Int} (h : SqT K H a (ts.map V.int)) : RepD K H (.tup (ts.map Dt.int)) (.ref a) :=
 .tup h ς fun j d x h1 h2 => by
  rw [yav] at h1 h2;cases e : ts[j]? with
  | none => rw [e] at h1; cases h1
  | some t => rw [e] at h1 h2; cases h1; cases h2; exact .int t
theorem RepD.t2 {K : W.Frag} {H : Hp} {a : Addr} {x y : V} {d d2 : Dt} (h : SqT K H a [x, y]) (h1 : RepD K H d x) (h2 : RepD K H d2 y) : RepD K H (.tup [d, d2]) (.ref a) :=
 .tup h rfl fun j d' x' e1 e2 => match j, e1, e2 with
  | 0, e1, e2 => by cases e1; cases e2; exact h1
  | 1, e1, e2 => by cases e1; cases e2; exact h2
theorem RepD.t3 {K : W.Frag} {H : Hp} {a : Addr} {x y z : V} {d d2 d3 : Dt} (h : SqT K H a [x, y, z]) (h1 : RepD K H d x) (h2 : RepD K H d2 y) (h3 : RepD K H d3 z) : RepD K H (.tup [d, d2, d3]) (.ref a) :=
 .tup h rfl fun j d' x' e1 e2 => match j, e1, e2 with
  | 0, e1, e2 => by cases e1; cases e2; exact h1
  | 1, e1, e2 => by cases e1; cases e2; exact h2
  | 2, e1, e2 => by cases e1; cases e2; exact h3
namespace Stm
theorem deps_strs : ∀ ts : List Str, Dt.deps (ts.map Dt.str) = 0
 | [] => rfl
 | t :: r => by simp [Dt.deps, Dt.dep, deps_strs r]
end Stm
section
variable {X : Cx}
def rEqC (K : W.Frag) : R2 := fun x y H Q => rEq x y H Q \/ rEqT K x y H Q
def rNeC (K : W.Frag) : R2 := fun x y H Q => rNe x y H Q \/ rNeT K x y H Q
def rInC (K : W.Frag) (neg : Bool) : R2 := fun x y H Q => rInA K neg x y H Q \/ rInT K neg x y H Q
theorem zbj (K : W.Frag) (hu : X.A.units + 64 < cLine) (hK : X.K = K := by rfl) : OpR X (compareOp .Eq) (rEqC K) := hK ▸ (OpR.or zok (znj hu) : OpR X (compareOp .Eq) (rEqC X.K))
theorem zgI (K : W.Frag) (hu : X.A.units + 64 < cLine) (hK : X.K = K := by rfl) : OpR X (compareOp .NotEq) (rNeC K) := hK ▸ (OpR.or zol (znk hu) : OpR X (compareOp .NotEq) (rNeC X.K))
theorem znm (K : W.Frag) (hu : X.A.units + 64 < cLine) (hK : X.K = K := by rfl) : OpR X (compareOp .In) (rInC K false) := hK ▸ (OpR.or (zin X.K) (znl hu) : OpR X (compareOp .In) (rInC X.K false))
theorem zd2 (K : W.Frag) (hu : X.A.units + 64 < cLine) (hK : X.K = K := by rfl) : OpR X (compareOp .NotIn) (rInC K true) := hK ▸ (OpR.or (zbW X.K) (ziG hu) : OpR X (compareOp .NotIn) (rInC X.K true))
end
section
variable {K : W.Frag} {H : Hp} {Q : VK} {i j : Int} {x y : Str} {p q : Addr} {u : V} {neg : Bool}
theorem RepD.of_int {d : Dt} (h : RepD K H d (.int i)) : d = .int i := by cases h; rfl
theorem RepD.of_str {d : Dt} (h : RepD K H d (.str x)) : d = .str x := by cases h; rfl
theorem znn : rEqC K (.int i) (.int j) H Q = Q (.bl (decide (i = j))) H := by
 refine propext ⟨fun h => ?_, fun h => .inl ⟨rfl, by simpa using h⟩⟩;rcases h with ⟨_, h⟩ | ⟨d, d', h1, h2, _, h⟩
 ·simpa using h
 ·rw [h1.of_int, h2.of_int] at h; simpa using h
theorem zgJ : rEqC K (.str x) (.str y) H Q = Q (.bl (decide (x = y))) H := by
 refine propext ⟨fun h => ?_, fun h => .inl ⟨rfl, by simpa using h⟩⟩;rcases h with ⟨_, h⟩ | ⟨d, d', h1, h2, _, h⟩
 ·simpa using h
 ·rw [h1.of_str, h2.of_str] at h; simpa using h
theorem zno : rNeC K (.int i) (.int j) H Q = Q (.bl (!decide (i = j))) H := by
 refine propext ⟨fun h => ?_, fun h => .inl ⟨rfl, by simpa using h⟩⟩;rcases h with ⟨_, h⟩ | ⟨d, d', h1, h2, _, h⟩
 ·simpa using h
 ·rw [h1.of_int, h2.of_int] at h; simpa using h
theorem znp : rNeC K (.str x) (.str y) H Q = Q (.bl (!decide (x = y))) H := by
 refine propext ⟨fun h => ?_, fun h => .inl ⟨rfl, by simpa using h⟩⟩;rcases h with ⟨_, h⟩ | ⟨d, d', h1, h2, _, h⟩
 ·simpa using h
 ·rw [h1.of_str, h2.of_str] at h; simpa using h
theorem znq : rEqC K (.ref p) u H Q = ∃ d d', RepD K H d (.ref p) /\ RepD K H d' u /\ Dt.dep d <= 60 /\ Q (.bl (decide (d = d'))) H := by
 refine propext ⟨fun h => ?_, fun h => .inr h⟩;rcases h with ⟨e, _⟩ | h
 ·cases u <;> cases e
 ·exact h
theorem znr : rEqC K u (.ref p) H Q = ∃ d d', RepD K H d u /\ RepD K H d' (.ref p) /\ Dt.dep d <= 60 /\ Q (.bl (decide (d = d'))) H := by
 refine propext ⟨fun h => ?_, fun h => .inr h⟩;rcases h with ⟨e, _⟩ | h
 ·cases u <;> cases e
 ·exact h
theorem zns : rNeC K (.ref p) u H Q = ∃ d d', RepD K H d (.ref p) /\ RepD K H d' u /\ Dt.dep d <= 60 /\ Q (.bl (!decide (d = d'))) H := by
 refine propext ⟨fun h => ?_, fun h => .inr h⟩;rcases h with ⟨e, _⟩ | h
 ·cases u <;> cases e
 ·exact h
theorem znt : rNeC K u (.ref p) H Q = ∃ d d', RepD K H d u /\ RepD K H d' (.ref p) /\ Dt.dep d <= 60 /\ Q (.bl (!decide (d = d'))) H := by
 refine propext ⟨fun h => ?_, fun h => .inr h⟩;rcases h with ⟨e, _⟩ | h
 ·cases u <;> cases e
 ·exact h
theorem znu : rInC K false (.str x) (.str y) H Q = Q (.bl (inS x y)) H := by
 refine propext ⟨fun h => ?_, fun h => .inl (.inl ⟨x, y, rfl, rfl, h⟩)⟩;rcases h with (⟨_, _, e1, e2, h⟩ | ⟨_, _, e, _⟩) | ⟨_, _, _, h, _⟩
 ·cases e1; cases e2; exact h
 ·cases e
 ·rcases h with h | h <;> cases h
theorem ziH : rInC K true (.str x) (.str y) H Q = Q (.bl (!inS x y)) H := by
 refine propext ⟨fun h => ?_, fun h => .inl (.inl ⟨x, y, rfl, rfl, h⟩)⟩;rcases h with (⟨_, _, e1, e2, h⟩ | ⟨_, _, e, _⟩) | ⟨_, _, _, h, _⟩
 ·cases e1; cases e2; exact h
 ·cases e
 ·rcases h with h | h <;> cases h
theorem znv : rInC K neg u (.ref p) H Q = (rIn K neg u (.ref p) H Q \/ rInT K neg u (.ref p) H Q) := by
 refine propext ⟨fun h => ?_, fun h => ?_⟩
 ·rcases h with (⟨_, _, _, e2, _⟩ | h) | h
  ·cases e2
  ·exact .inl h
  ·exact .inr h
 ·rcases h with h | h
  ·exact .inl (.inr h)
  ·exact .inr h
end
end L2
namespace L2
open PySem PySem.Spec PyProof.Rows PySem.SeqAt
open AutoSeq1 (wpAny_loadPart')
open MeetsSeq MeetsSeq2 MeetsSeq3 SeqRoads2
def LtA (A : Around) (s : Shared) (u v : Value) (b : Bool) : Prop := ∀ (prog : Program) (w : World) (E : ZQ) (Q : ZQ), Q (.bool b) s -> wpAny (model prog w) A (richCompare .Lt u v) Q E s
section
variable {A : Around} {s : Shared}
theorem LtA.int (i j : Int) (t u : Tok) : LtA A s (.int i t) (.int j u) (decide (i < j)) := fun prog w E Q h => wpAny_lt_int h
theorem LtA.str (x y : Str) (t u : Tok) : LtA A s (.str x t) (.str y u) (decide (x.cps.toList < y.cps.toList)) := fun prog w E Q h =>
 wpAny_richCompare_same (op := .Lt) (T := "str") (typeIs_str s x t) (typeIs_str s y u) slot_str_lt (call_str_lt ⟨ς, h⟩)
end
def lexB (e l : Nat -> Bool) (z : Bool) : List Nat -> Bool
 | [] => z
 | i :: r => if e i then lexB e l z r else l i
theorem ziI (a b : Addr) (xs ys : Array Value) (n n2 : Nat) (d1 d2 : Option Addr) (s1 s2 : Array (Option Value)) (e l : Nat -> Bool) :
  Meets (Builtin.«tuple.__lt__» ⟨[.ref a, .ref b], []⟩)
   (fun A R s => s.heap.get? a = some { cls := .type "tuple", dict := d1, data := .seq xs n, slots := s1 } /\ s.heap.get? b = some { cls := .type "tuple", dict := d2, data := .seq ys n2, slots := s2 } /\
    (∀ j (h1 : j < xs.size) (h2 : j < ys.size), EqAt A.in1 s xs[j] ys[j] (e j)) /\ (∀ j (h1 : j < xs.size) (h2 : j < ys.size), e j = false -> LtA A.in1 s xs[j] ys[j] (l j)) /\
    R (.ok (.ret (.bool (lexB e l (decide (xs.size < ys.size)) (List.range (min xs.size ys.size)))))) s) :=
 .of_wp fun prog w A R s h => by
  obtain ⟨hp, g, d, tk, os⟩ := s;obtain ⟨ha, hb, he, hlt, h⟩ := h;have f2 := AutoSeq1.sub_tuple_tuple;have hZ : (xs.toList.zip ys.toList).length = min xs.size ys.size := by simp
  wp_walk using wpAny_loadPart' ha, wpAny_loadPart' hb, wpAny_forIn_list _ (fun rest c s' => c.1 = none /\ s' = ⟨hp, g, d, tk, os⟩ /\ ∃ i, rest = (xs.toList.zip ys.toList).drop i /\
   R (.ok (.ret (.bool (lexB e l (decide (xs.size < ys.size)) ((List.range (min xs.size ys.size)).drop i))))) ⟨hp, g, d, tk, os⟩) _
  case turn =>
   rintro ⟨y, x⟩ rest c s' ⟨hc, rfl, i, hz, hR⟩
   have hl : i < (xs.toList.zip ys.toList).length := by
    by_cases z : i < (xs.toList.zip ys.toList).length
    ·exact z
    ·rw [List.drop_of_length_le ω] at hz; cases hz
   have hm : i < min xs.size ys.size := hZ ▸ hl;have k1 : i < xs.size := by omega
   have k2 : i < ys.size := by omega
   rw [List.drop_eq_getElem_cons hl] at hz
   injection hz with hyx hrest
   obtain rfl : y = xs[i] := by have := congrArg Prod.fst hyx; simpa using this
   obtain rfl : x = ys[i] := by have := congrArg Prod.snd hyx; simpa using this
   have hd : (List.range (min xs.size ys.size)).drop i = i :: (List.range (min xs.size ys.size)).drop (i + 1) := by simp [List.drop_eq_getElem_cons, hm]
   rw [hd, lexB] at hR;refine yaa (he i k1 k2 prog w _ _ ?_);cases hy : e i with
   | true =>
    rw [hy] at hR
    wp_walk
    exact ⟨rfl, rfl, i + 1, hrest, by simpa using hR⟩
   | false =>
    rw [hy] at hR;simp only [Bool.not_false, if_true];refine yaa (wpAny_rule (yaa (hlt i k1 k2 hy prog w _ _ (yaa (yab (yab ?_))))));exact yab ⟨_, rfl, by simpa using hR⟩
  case fin =>
   rintro ⟨c1, c2⟩ s' ⟨hc, rfl, i, hz, hR⟩
   simp only at hc;subst hc;have hge : min xs.size ys.size <= i := by
    by_cases z : i < (xs.toList.zip ys.toList).length
    ·rw [List.drop_eq_getElem_cons z] at hz; cases hz
    ·omega
   rw [List.drop_of_length_le (by simpa using hge), lexB] at hR
   wp_walk
   exact ⟨_, rfl, by simpa [Builtin.Tuple.tupleCompareSizes] using hR⟩
  case h =>
   exact ⟨rfl, rfl, 0, rfl, by simpa using h⟩
section
variable {A : Around} {s : Shared}
theorem LtA.tup {a b : Addr} {xs ys : Array Value} {e l : Nat -> Bool} (ha : s.heap.IsTuple a xs) (hb : s.heap.IsTuple b ys) (hu : A.units < cLine)
  (he : ∀ j (h1 : j < xs.size) (h2 : j < ys.size), EqAt A.in1 s xs[j] ys[j] (e j)) (hl : ∀ j (h1 : j < xs.size) (h2 : j < ys.size), e j = false -> LtA A.in1 s xs[j] ys[j] (l j)) :
  LtA A s (.ref a) (.ref b) (lexB e l (decide (xs.size < ys.size)) (List.range (min xs.size ys.size))) := fun prog w E Q h => by
 obtain ⟨⟨c1, d1, t1, s1⟩, ho, e1, n, e2⟩ := id ha;obtain ⟨⟨c2, d2, t2, s2⟩, ho2, e3, n2, e4⟩ := id hb;simp only at e1 e2 e3 e4;subst e1 e2 e3 e4;exact richCompare_meets_room (op := .Lt) ⟨_, ho, rfl⟩ ⟨_, ho2, rfl⟩ F.slot_tuple_lt F.entry_tuple_lt (F.args_tuple_lt_2 _ _) (ziI a b xs ys n n2 d1 d2 s1 s2 e l)
  ⟨ho, ho2, he, hl, (fun x => nomatch x), h⟩ hu
end
end L2
namespace L2
open PySem PySem.Spec PyProof.Rows PySem.SeqAt
theorem zew (b : Bool) (x y : Value) : keyLt' (tuples' b) x y = (do
  let xs <- Builtin.List.listItems x
  let ys <- Builtin.List.listItems y
  for ((p, q), i) in (xs.toList.zip ys.toList).zipIdx do
   if !(<- eqBool p q) then return <- oneLt' (b && i == 0) p q
  return decide (xs.size < ys.size)) := rfl
section
variable {prog : Program} {w : World} {A : Around} {E : ZQ} {s : Shared}
theorem ziJ {a b : Addr} {x1 x2 y1 y2 : Value} {e1 e2 l1 l2 : Bool} {Q : Bool -> Shared -> Prop} (ha : s.heap.IsTuple a #[x1, x2]) (hb : s.heap.IsTuple b #[y1, y2])
  (h1 : EqAt A s x1 y1 e1) (h2 : EqAt A s x2 y2 e2) (k1 : e1 = false -> ∀ (E : ZQ) (Q : Bool -> Shared -> Prop), Q l1 s -> wpAny (model prog w) A (oneLt' true x1 y1) Q E s) (k2 : e2 = false -> LtA A s x2 y2 l2) (h : Q (if e1 then (if e2 then false else l2) else l1) s) :
  wpAny (model prog w) A (keyLt' (tuples' true) (.ref a) (.ref b)) Q E s := by
 obtain ⟨o, ho, _, n, hd⟩ := ha;obtain ⟨o2, ho2, _, n2, hd2⟩ := hb;rw [zew];refine yaa (listItems_at ho hd (yaa (listItems_at ho2 hd2 ?_)));simp only [List.zip_cons_cons, List.zip_nil_left, List.zipIdx_cons, List.zipIdx_nil, List.forIn_cons, List.forIn_nil, Nat.zero_add];refine yaa (yaa (yaa (h1 prog w _ _ ?_)));cases e1 with
 | false =>
  simp only [Bool.not_false, if_true];refine yaa (k1 rfl _ _ (yab (yab (yab ?_))));simpa using h
 | true =>
  simp only [Bool.not_true, Bool.false_eq_true, if_false];refine yab (yaa (yaa (h2 prog w _ _ ?_)));cases e2 with
  | false =>
   simp only [Bool.not_false, if_true];rw [show ((true && 1 == 0 : Bool)) = false from rfl, oneLt'_eq];simp only [Bool.false_eq_true, if_false];refine yaa (yaa (k2 rfl prog w _ _ (wpAny_truthy_bool (yab (yab (yab ?_))))));simpa using h
  | true =>
   simp only [Bool.not_true, Bool.false_eq_true, if_false];refine yab (yab (yab ?_));simpa using h
end
def zbe (a b : List Nat × List Int) : Prop := a.1 < b.1 \/ (a.1 = b.1 /\ a.2 < b.2)
instance (a b : List Nat × List Int) : Decidable (zbe a b) := by unfold zbe; infer_instance
theorem rowLt_tri (a b : List Nat × List Int) : zbe a b \/ a = b \/ zbe b a := by
 by_cases h1 : a.1 < b.1
 ·exact .inl (.inl h1)
 by_cases h2 : b.1 < a.1
 ·exact .inr (.inr (.inl h2))
 have e : a.1 = b.1 := List.le_antisymm (List.not_lt.mp h2) (List.not_lt.mp h1)
 by_cases h3 : a.2 < b.2
 ·exact .inl (.inr ⟨e, h3⟩)
 by_cases h4 : b.2 < a.2
 ·exact .inr (.inr (.inr ⟨e.symm, h4⟩))
 exact .inr (.inl (Prod.ext e (List.le_antisymm (List.not_lt.mp h4) (List.not_lt.mp h3))))
theorem zbY (a : List Nat × List Int) : ¬ zbe a a := fun h => by
 rcases h with h | ⟨_, h⟩
 ·exact List.lt_irrefl _ h
 ·exact List.lt_irrefl _ h
theorem zcs {a b c : List Nat × List Int} (h1 : zbe a b) (h2 : zbe b c) : zbe a c := by
 rcases h1 with h1 | ⟨e1, h1⟩ <;> rcases h2 with h2 | ⟨e2, h2⟩
 ·exact .inl (List.lt_trans h1 h2)
 ·exact .inl (e2 ▸ h1)
 ·exact .inl (e1 ▸ h2)
 ·exact .inr ⟨e1.trans e2, List.lt_trans h1 h2⟩
def SecR (h : Heap) (f : Bool) (v : Value) (l : List Int) : Prop := match f with
 | false => ∃ i t, v = .int i t /\ l = [i]
 | true => ∃ c xs, v = .ref c /\ h.IsTuple c xs /\ IntsAre xs.toList l
def RowR (h : Heap) (f : Bool) (v : Value) (k : List Nat × List Int) : Prop := ∃ a x t u l, v = .ref a /\ h.IsTuple a #[.str x t, u] /\ SecR h f u l /\ k = (x.cps.toList, l)
theorem zbD {h : Heap} {a : Addr} {xs ys : Array Value} (h1 : h.IsTuple a xs) (h2 : h.IsTuple a ys) : xs = ys := by
 obtain ⟨o, e1, _, n, d1⟩ := h1;obtain ⟨o2, e2, _, n2, d2⟩ := h2;rw [e1] at e2; cases e2;rw [d1] at d2; cases d2; rfl
theorem zex : ∀ {vs : List Value} {l m : List Int}, IntsAre vs l -> IntsAre vs m -> l = m
 | _, _, _, .nil, .nil => rfl
 | _, _, _, .cons n t h, .cons _ _ h' => by rw [zex h h']
theorem SecR.uniq {h : Heap} {f : Bool} {v : Value} {l m : List Int} (h1 : SecR h f v l) (h2 : SecR h f v m) : l = m := by
 cases f with
 | false => obtain ⟨i, t, rfl, rfl⟩ := h1; obtain ⟨j, t', e, rfl⟩ := h2; cases e; rfl
 | true =>
  obtain ⟨c, xs, rfl, p, q⟩ := h1;obtain ⟨c', ys, e, p', q'⟩ := h2;cases e;rw [zbD p p'] at q;exact zex q q'
theorem RowR.uniq {h : Heap} {f : Bool} {v : Value} {k k' : List Nat × List Int} (h1 : RowR h f v k) (h2 : RowR h f v k') : k = k' := by
 obtain ⟨a, x, t, u, l, rfl, p, q, rfl⟩ := h1;obtain ⟨a', x', t', u', l', e, p', q', rfl⟩ := h2;cases e;have e := zbD p p';simp only [Array.mk.injEq, List.cons.injEq, Value.str.injEq, and_true] at e;obtain ⟨⟨rfl, _⟩, rfl⟩ := e;rw [q.uniq q']
open Classical in
noncomputable def zbB (h : Heap) (f : Bool) : KeyKind where
 α := List Nat × List Int
 blt a b := decide (zbe a b)
 irrefl a := by simpa using zbY a
 trans a b c h1 h2 := by simp only [decide_eq_true_eq] at *; exact zcs h1 h2
 negTrans a b c h := by
  simp only [decide_eq_true_eq] at *;rcases rowLt_tri a b with z | rfl | z
  ·exact .inl z
  ·exact .inr h
  ·exact .inr (zcs z h)
 total a b h1 h2 := by
  simp only [decide_eq_false_iff_not] at *;rcases rowLt_tri a b with z | z | z
  ·exact absurd z h1
  ·exact z
  ·exact absurd z h2
 keyOf v := if z : ∃ k, RowR h f v k then some z.choose else none
 dflt := ([], [])
theorem zcS {h : Heap} {f : Bool} {v : Value} {k : List Nat × List Int} (hk : (zbB h f).keyOf v = some k) : RowR h f v k := by
 unfold zbB at hk;simp only at hk
 split at hk
 ·rename_i z; cases hk; exact z.choose_spec
 ·cases hk
theorem zcH {h : Heap} {f : Bool} {v : Value} {k : List Nat × List Int} (hk : RowR h f v k) : (zbB h f).keyOf v = some k := by
 unfold zbB;simp only;rw [dif_pos ⟨k, hk⟩];exact congrArg some ((⟨k, hk⟩ : ∃ k, RowR h f v k).choose_spec.uniq hk)
theorem zbZ {prog : Program} {w : World} : ∀ {vs : List Value} {l : List Int}, IntsAre vs l -> ItemsAre (intKind prog w) l vs
 | _, _, .nil => .nil
 | _, _, .cons n t h => .cons (by simp [intKind, Value.isInt]) (zbZ h)
theorem zc5 : ∀ {vs : List Value} {l : List Int}, IntsAre vs l -> ∀ (j : Nat) (h : j < vs.length), ∃ t, ∃ h' : j < l.length, vs[j] = .int l[j] t
 | _, _, .nil, j, h => by simp at h
 | _, _, .cons n t _, 0, _ => ⟨t,ς, rfl⟩
 | _, _, .cons n t q, j + 1, h => by
  obtain ⟨t', h', e⟩ := zc5 q j (by simpa using h);exact ⟨t', by simpa using h', by simpa using e⟩
theorem zey : ∀ {vs : List Value} {l : List Int}, IntsAre vs l -> vs.length = l.length
 | _, _, .nil => rfl
 | _, _, .cons n t q => by simp [zey q]
theorem zfp : ∀ (l m : List Int) (e lt : Nat -> Bool) (z : Bool) (k : Nat), (∀ j (h : j < l.length) (h' : j < m.length), e (k + j) = decide (l[j] = m[j])) -> (∀ j (h : j < l.length) (h' : j < m.length), lt (k + j) = decide (l[j] < m[j])) -> z = decide (l.length < m.length) ->
  lexB e lt z ((List.range (min l.length m.length)).map (k + ·)) = decide (l < m)
 | [], [], e, lt, z, k, _, _, hz => by subst hz; rfl
 | [], b :: m, e, lt, z, k, _, _, hz => by subst hz; simp [lexB]
 | a :: l, [], e, lt, z, k, _, _, hz => by subst hz; simp [lexB]
 | a :: l, b :: m, e, lt, z, k, he, hl, hz => by
  have e0 := he 0 ς ς;have l0 := hl 0 ς ς;simp only [Nat.add_zero, List.getElem_cons_zero] at e0 l0;have ih := zfp l m e lt z (k + 1) (fun j h h' => by have := he (j + 1) (by simpa using h) (by simpa using h'); rw [show k + 1 + j = k + (j + 1) by omega]; simpa using this)
   (fun j h h' => by have := hl (j + 1) (by simpa using h) (by simpa using h'); rw [show k + 1 + j = k + (j + 1) by omega]; simpa using this) (by rw [hz]; simp)
  have hr : (List.range (min (a :: l).length (b :: m).length)).map (k + ·) = k :: (List.range (min l.length m.length)).map (k + 1 + ·) := by
   rw [List.length_cons, List.length_cons, Nat.succ_min_succ, List.range_succ_eq_map, List.map_cons, List.map_map, Nat.add_zero]
   congr 1
   exact List.map_congr_left fun j _ => by simp; omega
  rw [hr, lexB, e0, l0, ih]
  by_cases c : a = b
  ·subst c; simp [List.cons_lt_cons_iff]
  ·simp [c, List.cons_lt_cons_iff]
section
variable {A : Around} {s : Shared}
theorem SecR.eqAt {f : Bool} {u v : Value} {l m : List Int} (hu : A.units < cLine) (h1 : SecR s.heap f u l) (h2 : SecR s.heap f v m) : EqAt A s u v (decide (l = m)) := by
 cases f with
 | false =>
  obtain ⟨i, t, rfl, rfl⟩ := h1; obtain ⟨j, t', rfl, rfl⟩ := h2;have : decide ([i] = [j]) = (i == j) := by simp [Bool.beq_eq_decide_eq]
  rw [this]; exact EqAt.int_int _ _ _ _
 | true =>
  obtain ⟨c, xs, rfl, p, q⟩ := h1;obtain ⟨c', ys, rfl, p', q'⟩ := h2;intro prog w E Q h;obtain ⟨o, ho, hc, n, hd⟩ := p;obtain ⟨o2, ho2, hc2, n2, hd2⟩ := p';exact wpAny_eqBool_tuple (knd := intKind prog w) hu ⟨o, xs, n, ho, hc, hd, zbZ q⟩ ⟨o2, ys, n2, ho2, hc2, hd2, zbZ q'⟩ h
theorem SecR.ltA {f : Bool} {u v : Value} {l m : List Int} (hu : A.units < cLine) (h1 : SecR s.heap f u l) (h2 : SecR s.heap f v m) : LtA A s u v (decide (l < m)) := by
 cases f with
 | false =>
  obtain ⟨i, t, rfl, rfl⟩ := h1; obtain ⟨j, t', rfl, rfl⟩ := h2;have : decide ([i] < [j]) = decide (i < j) := by simp [List.cons_lt_cons_iff]
  rw [this]; exact LtA.int _ _ _ _
 | true =>
  obtain ⟨c, xs, rfl, p, q⟩ := h1;obtain ⟨c', ys, rfl, p', q'⟩ := h2;have z := LtA.tup (A := A) (e := fun j => decide (l[j]? = m[j]?)) (l := fun j => decide (l.getD j 0 < m.getD j 0)) p p' hu (fun j k1 k2 => by
    obtain ⟨t, g1, e1⟩ := zc5 q j (by simpa using k1);obtain ⟨t', g2, e2⟩ := zc5 q' j (by simpa using k2);have z1 : xs[j] = .int l[j] t := by simpa using e1
    have z2 : ys[j] = .int m[j] t' := by simpa using e2
    rw [z1, z2];have : decide (l[j]? = m[j]?) = (l[j] == m[j]) := by simp [g1, g2, Bool.beq_eq_decide_eq]
    rw [this]; exact EqAt.int_int _ _ _ _) (fun j k1 k2 _ => by
    obtain ⟨t, g1, e1⟩ := zc5 q j (by simpa using k1);obtain ⟨t', g2, e2⟩ := zc5 q' j (by simpa using k2);have z1 : xs[j] = .int l[j] t := by simpa using e1
    have z2 : ys[j] = .int m[j] t' := by simpa using e2
    rw [z1, z2];have : decide (l.getD j 0 < m.getD j 0) = decide (l[j] < m[j]) := by simp [List.getD, g1, g2]
    rw [this]; exact LtA.int _ _ _ _)
  have n1 : xs.size = l.length := by have := zey q; simpa using this
  have n2 : ys.size = m.length := by have := zey q'; simpa using this
  rw [n1, n2] at z;have k := zfp l m (fun j => decide (l[j]? = m[j]?)) (fun j => decide (l.getD j 0 < m.getD j 0)) (decide (l.length < m.length)) 0 (fun j h h' => by simp [h, h']) (fun j h h' => by simp [List.getD, h, h']) rfl;rw [show ((List.range (min l.length m.length)).map (0 + ·)) = List.range (min l.length m.length) by simp] at k;rw [k] at z;exact z
theorem zgK {x y : Str} (h : x.cps.toList = y.cps.toList) : x = y := by
 cases x; cases y; simp only [Str.mk.injEq]; exact Array.ext' h
theorem zfq {prog : Program} {w : World} {h : Heap} {f : Bool} (hu : A.units < cLine) (hk : ∀ b o, h.get? b = some o -> s.heap.get? b = some o) : LtAt (zbB h f) (tuples' true) prog w A s := fun E x y a b Q ha hb hq => by
 have up : ∀ {c : Addr} {xs : Array Value}, h.IsTuple c xs -> s.heap.IsTuple c xs := fun ⟨o, e, r⟩ => ⟨o, hk _ _ e, r⟩
 have upS : ∀ {u : Value} {l : List Int}, SecR h f u l -> SecR s.heap f u l := fun {u l} z => by
  cases f with
  | false => exact z
  | true => obtain ⟨c, xs, e, p, q⟩ := z; exact ⟨c, xs, e, up p, q⟩
 obtain ⟨p1, x1, t1, u1, l1, rfl, q1, r1, rfl⟩ := zcS ha;obtain ⟨p2, x2, t2, u2, l2, rfl, q2, r2, rfl⟩ := zcS hb;refine ziJ (up q1) (up q2) (EqAt.str_str _ _ _ _) ((upS r1).eqAt hu (upS r2)) (fun _ E Q h => oneLt_str h) (fun _ => (upS r1).ltA hu (upS r2)) ?_;have : (zbB h f).blt (x1.cps.toList, l1) (x2.cps.toList, l2) = (if (x1 == x2) = true then (if decide (l1 = l2) = true then false else decide (l1 < l2)) else decide (x1.cps.toList < x2.cps.toList)) := by
  show decide (zbe (x1.cps.toList, l1) (x2.cps.toList, l2)) = _
  by_cases c : x1 = x2
  ·subst c
   by_cases c2 : l1 = l2
   ·subst c2; simp [zbY]
   ·simp [zbe, c2, List.lt_irrefl]
  ·have c' : ¬ x1.cps.toList = x2.cps.toList := fun e => c (zgK e);have : (x1 == x2) = false := by simpa using c
   simp [zbe, this, c']
 rw [this] at hq;exact hq
end
end L2
namespace L2
open PySem PySem.Spec PyProof.Rows PySem.SeqAt
theorem zcV (v : Value) : firstOfTuple' v = (do
  if (<- typeOf v) != .type "tuple" then return none
  return (<- Builtin.List.listItems v)[0]?) := rfl
section
variable {prog : Program} {w : World} {A : Around} {E : ZQ} {s : Shared}
theorem zd3 {α β : Type} {f : α -> Sem β} {g : α -> β} : ∀ (l : List α) {Q : List β -> Shared -> Prop}, (∀ x ∈ l, ∀ Q : β -> Shared -> Prop, Q (g x) s -> wpAny (model prog w) A (f x) Q E s) -> Q (l.map g) s -> wpAny (model prog w) A (l.mapM f) Q E s
 | [], Q, _, h => by rw [List.mapM_nil]; exact yab h
 | x :: l, Q, hf, h => by
  rw [List.mapM_cons];refine yaa (hf x ς _ (yaa (zd3 l (fun y hy => hf y (by simp [hy])) (yab ?_))));exact h
theorem ziK {f : Bool} {v : Value} {k : List Nat × List Int} (h : RowR s.heap f v k) : ∃ x t, ∀ Q : Option Value -> Shared -> Prop, Q (some (.str x t)) s -> wpAny (model prog w) A (firstOfTuple' v) Q E s := by
 obtain ⟨a, x, t, u, l, rfl, ⟨o, ho, hc, n, hd⟩, _, _⟩ := h;refine ⟨x, t, fun Q hq => ?_⟩;rw [zcV];refine yaa (wpAny_typeOf (T := "tuple") ⟨o, ho, hc⟩ ?_);simp only [bne_self_eq_false, Bool.false_eq_true, if_false];refine yaa (listItems_at ho hd (yab ?_));exact hq
theorem zd4 : ∀ {l : List (Option Value)}, (∀ o ∈ l, ∃ x t, o = some (.str x t)) -> (l.filterMap id).mapM typeOf = (pure (l.map fun _ => Value.type "str") : Sem _)
 | [], _ => by simp
 | o :: l, h => by
  obtain ⟨x, t, rfl⟩ := h o ς;have e : (some (Value.str x t) :: l).filterMap id = .str x t :: l.filterMap id := rfl;rw [e, List.mapM_cons, zd4 fun o ho => h o (by simp [ho])]
  rfl
theorem zcT {f : Bool} {vs : List Value} (h : ∀ v ∈ vs, ∃ k, RowR s.heap f v k) (h2 : 2 <= vs.length) : wpAny (model prog w) A (keyKind' vs.toArray) (fun k s3 => k = tuples' true /\ s3 = s) E s := by
 have hx : ∀ v : Value, ∃ o : Option Value, v ∈ vs -> (∃ x t, o = some (.str x t)) /\ ∀ Q : Option Value -> Shared -> Prop, Q o s -> wpAny (model prog w) A (firstOfTuple' v) Q E s := fun v => by
  by_cases c : v ∈ vs
  ·obtain ⟨k, hk⟩ := h v c;obtain ⟨x, t, z⟩ := ziK (prog := prog) (w := w) (A := A) (E := E) hk;exact ⟨some (.str x t), fun _ => ⟨⟨x, t, rfl⟩, z⟩⟩
  ·exact ⟨none, fun z => absurd z c⟩
 have ⟨g, hg⟩ := Classical.axiomOfChoice hx;rw [keyKind'_eq, List.mapM_toArray];refine yaa ?_;rw [map_eq_pure_bind];refine yaa (zd3 (g := g) vs (fun v hv => (hg v hv).2) (yab ?_));have all : ∀ o ∈ vs.map g, ∃ x t, o = some (Value.str x t) := fun o ho => by
  obtain ⟨v, hv, rfl⟩ := ya6.mp ho;exact (hg v hv).1
 have c1 : ((vs.map g).toArray.all (·.isSome)) = true := by
  rw [List.all_toArray, List.all_eq_true];intro o ho;obtain ⟨x, t, rfl⟩ := all o ho
  rfl
 rw [if_pos c1];refine yaa (wpAny_rule (yaa ?_));rw [oneTypeOnly'_eq, List.filterMap_toArray, List.mapM_toArray, zd4 all]
 match vs, h2, all with
 | v :: r, _, all =>
  simp only [map_pure, pure_bind];have hall : ((List.map (fun _ => Value.type "str") (List.map g (v :: r))).toArray.all fun x => x == Value.type "str") = true := by
   rw [List.all_toArray, List.all_eq_true];intro x hx;obtain ⟨_, _, rfl⟩ := ya6.mp hx;simp
  have h0 : (List.map (fun _ => Value.type "str") (List.map g (v :: r))).toArray[0]? = some (Value.type "str") := by simp
  rw [h0];refine yab (yab ?_);rw [hall];exact ⟨rfl, rfl⟩
end
inductive F2 {α β : Type} (R : α -> β -> Prop) : List α -> List β -> Prop
 | nil : F2 R [] []
 | cons {a : α} {b : β} {l : List α} {m : List β} : R a b -> F2 R l m -> F2 R (a :: l) (b :: m)
theorem F2.perm {α β : Type} {R : α -> β -> Prop} {m' m : List β} (hp : m'.Perm m) : ∀ {l : List α}, F2 R l m -> ∃ l', l'.Perm l /\ F2 R l' m' := by
 induction hp with
 | nil => exact fun h => ⟨_, .refl _, h⟩
 | cons b _ ih =>
  intro l h;cases h with
  | cons r h => obtain ⟨l', p, q⟩ := ih h; exact ⟨_, p.cons _, .cons r q⟩
 | swap a b m =>
  intro l h;cases h with
  | cons r h =>
   cases h with
   | cons r2 h => exact ⟨_, .swap _ _ _, .cons r2 (.cons r h)⟩
 | trans _ _ ih1 ih2 =>
  intro l h;obtain ⟨l2, p2, q2⟩ := ih2 h;obtain ⟨l1, p1, q1⟩ := ih1 q2;exact ⟨l1, p1.trans p2, q1⟩
theorem F2.get {α β : Type} {R : α -> β -> Prop} : ∀ {l : List α} {m : List β}, F2 R l m -> ∀ (i : Nat) (h : i < l.length), ∃ h' : i < m.length, R l[i] m[i]
 | _, _, .nil, i, h => by simp at h
 | _, _, .cons r _, 0, _ => ⟨ς, r⟩
 | _, _, .cons _ q, i + 1, h => by
  obtain ⟨h', z⟩ := F2.get q i (by simpa using h);exact ⟨by simpa using h', by simpa using z⟩
theorem F2.len {α β : Type} {R : α -> β -> Prop} : ∀ {l : List α} {m : List β}, F2 R l m -> l.length = m.length
 | _, _, .nil => rfl
 | _, _, .cons _ q => by simp [F2.len q]
abbrev Rw : Type := Str × List Int
def rowK (k : Rw) : List Nat × List Int := (k.1.cps.toList, k.2)
def rowD (f : Bool) (k : Rw) : Dt := match f with
 | false => .tup [.str k.1, .int (k.2.headD 0)]
 | true => .tup [.str k.1, .tup (k.2.map .int)]
def SrtR (l : List (V × Rw)) : Prop := l.Pairwise fun a b => ¬ zbe (rowK b.2) (rowK a.2)
def zez (K : W.Frag) (f : Bool) : List V -> Hp -> VK -> Prop := fun xs H Q => ∃ (a : Addr) (zs : List (V × Rw)), xs = [.ref a] /\ SqL K H a (zs.map (·.1)) /\ (∀ z ∈ zs, RepD K H (rowD f z.2) z.1 /\ (f = false -> z.2.2.length = 1)) /\ zs.length <= 1000 /\
 ∀ l zs', H l = none -> zs'.Perm zs -> SrtR zs' -> Q (.ref l) (upd H l (.lst (zs'.map (·.1))))
section
variable {X : Cx} {Qa : ZP} {σ : St} {H : Hp} {s : Shared}
theorem zea {us : List Value} (r : Vals [] us) : us = [] := by cases r; rfl
theorem ziL : ∀ {l : List Int} {xs : List V} {its : List Value}, Vals xs its -> l.length = xs.length -> (∀ (j : Nat) d x, (l.map Dt.int)[j]? = some d -> xs[j]? = some x -> RepD X.K H d x) -> IntsAre its l
 | [], [], _, r, _, _ => by rw [zea r]; exact .nil
 | i :: l, x :: xs, its, r, hl, hr => by
  have h0 := hr 0 (.int i) x rfl rfl;cases h0;cases r with
  | cons r rs =>
   obtain ⟨t, rfl⟩ := r;exact .cons i t (ziL rs (by simpa using hl) fun j d x h1 h2 => hr (j + 1) d x (by simpa using h1) (by simpa using h2))
theorem RepD.two {K : W.Frag} {d1 d2 : Dt} {x : V} (h : RepD K H (.tup [d1, d2]) x) : ∃ a x1 x2, x = .ref a /\ SqT K H a [x1, x2] /\ RepD K H d1 x1 /\ RepD K H d2 x2 := by
 cases h with
 | @tup a xs _ h hl hr =>
  match xs, hl with
  | [x1, x2], _ => exact ⟨a, x1, x2, rfl, h, hr 0 _ _ rfl rfl, hr 1 _ _ rfl rfl⟩
theorem isT2 (I : Inv X Qa σ H s) {a : Addr} {x1 x2 : V} (h : SqT X.K H a [x1, x2]) : ∃ u1 u2, RelV x1 u1 /\ RelV x2 u2 /\ s.heap.IsTuple a #[u1, u2] := by
 obtain ⟨its, rv, p⟩ := isT I h;cases rv with
 | cons r1 rv =>
  cases rv with
  | cons r2 rv =>
   cases rv;exact ⟨_, _, r1, r2, p⟩
theorem zd5 (I : Inv X Qa σ H s) {f : Bool} {k : Rw} {x : V} {v : Value} (h : RepD X.K H (rowD f k) x) (h1 : f = false -> k.2.length = 1) (r : RelV x v) : RowR s.heap f v (rowK k) := by
 obtain ⟨n, l⟩ := k;cases f with
 | false =>
  match l, h1 rfl, h with
  | [i], _, h =>
   obtain ⟨a, x1, x2, rfl, hs, e1, e2⟩ := RepD.two h;cases r;obtain ⟨u1, u2, r1, r2, p⟩ := isT2 I hs;cases e1;cases e2;obtain ⟨t1, rfl⟩ := r1;obtain ⟨t2, rfl⟩ := r2;exact ⟨a, n, t1, _, [i], rfl, p, ⟨i, t2, rfl, rfl⟩, rfl⟩
 | true =>
  obtain ⟨a, x1, x2, rfl, hs, e1, e2⟩ := RepD.two h;cases r;obtain ⟨u1, u2, r1, r2, p⟩ := isT2 I hs;cases e1;obtain ⟨t1, rfl⟩ := r1;generalize hm : l.map Dt.int = dl at e2;cases e2 with
  | @tup b ys _ g gl gr =>
   cases r2;subst hm;obtain ⟨its2, rv2, p2⟩ := isT I g;exact ⟨a, n, t1, _, l, rfl, p, ⟨b, _, rfl, p2, ziL rv2 (by simpa using gl) gr⟩, rfl⟩
theorem znw (I : Inv X Qa σ H s) {f : Bool} : ∀ {zs : List (V × Rw)} {its : List Value}, Vals (zs.map (·.1)) its -> (∀ z ∈ zs, RepD X.K H (rowD f z.2) z.1 /\ (f = false -> z.2.2.length = 1)) -> F2 (fun z v => RelV z.1 v /\ RowR s.heap f v (rowK z.2)) zs its
 | [], its, r, _ => by rw [zea r]; exact .nil
 | z :: zs, its, r, h => by
  cases r with
  | cons r rs =>
   obtain ⟨h1, h2⟩ := h z ς;exact .cons ⟨r, zd5 I h1 h2 r⟩ (znw I rs fun y hy => h y (by simp [hy]))
theorem ziM {P : V × Rw -> Value -> Prop} : ∀ {zs : List (V × Rw)} {its : List Value}, F2 (fun z v => RelV z.1 v /\ P z v) zs its -> Vals (zs.map (·.1)) its
 | _, _, .nil => .nil
 | _, _, .cons h q => .cons h.1 (ziM q)
theorem F2.memR {α β : Type} {R : α -> β -> Prop} : ∀ {l : List α} {m : List β}, F2 R l m -> ∀ b ∈ m, ∃ a ∈ l, R a b
 | _, _, .cons r q, b, h => by
  rcases yau.mp h with rfl | h
  ·exact ⟨_,ς, r⟩
  ·obtain ⟨a, ha, z⟩ := F2.memR q b h; exact ⟨a, by simp [ha], z⟩
theorem zgL {h : Heap} {f : Bool} {vs : List Value} {zs : List (V × Rw)} (F : F2 (fun z v => RelV z.1 v /\ RowR h f v (rowK z.2)) zs vs) {xs : Array Keyed} (hp : xs.Perm (pairsOf vs)) (hs : SortedToK (zbB h f) xs (pairsOf vs).size) :
  ∃ zs', zs'.Perm zs /\ Vals (zs'.map (·.1)) (xs.map (·.2)).toList /\ SrtR zs' := by
 have hl : xs.toList.Perm (vs.zip vs) := by rw [<- pairsOf_toList]; exact Array.perm_iff_toList_perm.mp hp
 have hm : ∀ p, p ∈ xs.toList -> p.1 = p.2 /\ p.1 ∈ vs := fun p q => mem_zip_self (hl.mem_iff.mp q);have h1 : (xs.map (·.2)).toList.Perm vs := by
  have := hl.map Prod.snd;rw [List.map_snd_zip (yai _)] at this;rw [Array.toList_map]; exact this
 obtain ⟨zs', p, q⟩ := F2.perm h1 F;refine ⟨zs', p, ziM q, List.pairwise_iff_getElem.mpr fun i j hi hj hij => ?_⟩;obtain ⟨g1, _, r1⟩ := F2.get q i hi;obtain ⟨g2, _, r2⟩ := F2.get q j hj;have s1 : i < xs.size := by simpa using g1
 have s2 : j < xs.size := by simpa using g2
 have key : ∀ (n : Nat) (hn : n < xs.size) (k : List Nat × List Int), RowR h f xs[n].2 k -> KK (zbB h f) xs n = k := fun n hn k hk => by
  unfold KK;rw [getElem?_pos xs n hn];have e := (hm xs[n] ς).1;show ((zbB h f).keyOf xs[n].1).getD _ = k;rw [e, zcH hk]; rfl
 have := hs i j (Nat.le_of_lt hij) (by rw [<- hp.size_eq]; exact s2);rw [key i s1 _ (by simpa using r1), key j s2 _ (by simpa using r2)] at this;have : decide (zbe (rowK zs'[j].2) (rowK zs'[i].2)) = false := this;simpa using this
theorem zfr (f : Bool) (hu : X.A.units + 64 < cLine) : zaN X (.builtin "sorted") (zez X.K f) := by
 intro Qa s σ H xs us Q I r h;obtain ⟨a, zs, rfl, hq, hz, hl, k⟩ := h;obtain ⟨u, rfl, ru⟩ := zcn r;cases ru;obtain ⟨its, rv, pl, _⟩ := I.list hq;have F := znw I rv hz;have Qe : its.length = zs.length := F.len.symm;have hr : ∀ v ∈ its, ∃ k, RowR s.heap f v k := fun v hv => by
  obtain ⟨z, _, _, q⟩ := F.memR v hv;exact ⟨_, q⟩
 refine zgH (κ := zbB s.heap f) (kx := tuples' true) pl.isList (fun p hp => ?_) (fun s2 h2 => zfq (by show X.A.units + 1 + 1 < cLine; omega) h2) (fun s2 E h2 hn => zcT (f := f) (fun v hv => ?_) hn) ω fun st' hp hs => ?_
 ·rw [pairsOf_toList] at hp;obtain ⟨k, hk⟩ := hr _ (mem_zip_self hp).2;exact ⟨k, zcH hk⟩
 ·obtain ⟨k, a, x, t, u, l, e, ⟨o, g, g2⟩, q, e2⟩ := hr v hv;refine ⟨k, a, x, t, u, l, e, ⟨o, h2 _ _ g, g2⟩, ?_, e2⟩;cases f with
  | false => exact q
  | true => obtain ⟨c, ys, e3, ⟨o2, g3, g4⟩, q2⟩ := q; exact ⟨c, ys, e3, ⟨o2, h2 _ _ g3, g4⟩, q2⟩
 ·obtain ⟨zs', p, q, srt⟩ := zgL F hp hs;obtain ⟨c, hc'⟩ := sortedAll_at s.heap its ((arrOf st').map (·.2));refine ⟨.ref (s.heap.objs.size + 1), _, (I.laid (t' := s.toks) (o := .lst (zs'.map (·.1))) (fun b o e => sortedAll_old e) (Nat.le_succ _) ⟨?_, _, c, q, by rw [hc']⟩).draw s.drawn, rfl, k _ zs' (I.hok.fresh (Nat.le_succ _)) p srt⟩;rw [yaf, p.length_eq];exact zak ω
variable {K : W.Frag} {Q : VK} {p : Addr} {f : Bool}
theorem zfs (f : Bool) (K : W.Frag) (hu : X.A.units + 64 < cLine) (hK : X.K = K := by rfl) : zaN X (.builtin "sorted") (zez K f) := by
 subst hK; exact zfr f hu
theorem ziN : zez K f [.ref p] H Q = ∃ zs : List (V × Rw), SqL K H p (zs.map (·.1)) /\ (∀ z ∈ zs, RepD K H (rowD f z.2) z.1 /\ (f = false -> z.2.2.length = 1)) /\ zs.length <= 1000 /\
  ∀ l zs', H l = none -> zs'.Perm zs -> SrtR zs' -> Q (.ref l) (upd H l (.lst (zs'.map (·.1)))) := by
 refine propext ⟨fun ⟨_, zs, e, h⟩ => ?_, fun ⟨zs, h⟩ => ⟨p, zs, rfl, h⟩⟩;cases e; exact ⟨zs, h⟩
end
end L2
namespace L2
open PySem
def advM (m : Nat) (p : SetTable.Probe) : SetTable.Probe :=
 if p.more > 0 then { p with j := p.j + 1, more := p.more - 1 } else
 { p with j := (SetTable.leap m p.i p.perturb).1, more := SetTable.runEnd m (SetTable.leap m p.i p.perturb).1 - (SetTable.leap m p.i p.perturb).1, i := (SetTable.leap m p.i p.perturb).1, perturb := (SetTable.leap m p.i p.perturb).2 }
def runP (m i q : Nat) : SetTable.Probe := { j := i, more := SetTable.runEnd m i - i, i := i, perturb := q, dummy := none }
def atM (m : Nat) (h : Int) : Nat -> SetTable.Probe
 | 0 => runP m (SetTable.bits h % (m + 1)) (SetTable.bits h)
 | n + 1 => advM m (atM m h n)
def pth (m : Nat) (h : Int) (n : Nat) : Nat := (atM m h n).j
def rnI (m : Nat) (h : Int) : Nat -> Nat × Nat
 | 0 => (SetTable.bits h % (m + 1), SetTable.bits h)
 | k + 1 => SetTable.leap m (rnI m h k).1 (rnI m h k).2
def nI (m : Nat) (h : Int) : Nat -> Nat
 | 0 => 0
 | k + 1 => nI m h k + (SetTable.runEnd m (rnI m h k).1 - (rnI m h k).1) + 1
theorem ziO {m : Nat} {h : Int} {n i q : Nat} (e : atM m h n = runP m i q) : ∀ d, d <= SetTable.runEnd m i - i -> atM m h (n + d) = { j := i + d, more := SetTable.runEnd m i - i - d, i := i, perturb := q, dummy := none }
 | 0, _ => by rw [Nat.add_zero, e]; rfl
 | d + 1, hd => by
  have ih := ziO e d ω;show advM m (atM m h (n + d)) = _;rw [ih];unfold advM;rw [if_pos (by show SetTable.runEnd m i - i - d > 0; omega)]
  rfl
theorem zkK (m : Nat) (h : Int) : ∀ k, atM m h (nI m h k) = runP m (rnI m h k).1 (rnI m h k).2
 | 0 => rfl
 | k + 1 => by
  have e := ziO (zkK m h k) _ (yai _);show advM m (atM m h (nI m h k + (SetTable.runEnd m (rnI m h k).1 - (rnI m h k).1))) = _;rw [e];unfold advM;rw [if_neg (by show ¬ (_ - _ > 0); omega)]
  rfl
theorem zd6 {m : Nat} {h : Int} (k : Nat) {d : Nat} (hd : d <= SetTable.runEnd m (rnI m h k).1 - (rnI m h k).1) : pth m h (nI m h k + d) = (rnI m h k).1 + d := by
 unfold pth;rw [ziO (zkK m h k) d hd]
theorem zd7 (m : Nat) (h : Int) : ∀ n, (atM m h n).dummy = none
 | 0 => rfl
 | n + 1 => by
  show (advM m (atM m h n)).dummy = none;unfold advM
  split
  ·exact zd7 m h n
  ·exact zd7 m h n
theorem zc6 {m i : Nat} (h : i <= m) : SetTable.runEnd m i <= m /\ i <= SetTable.runEnd m i /\ SetTable.runEnd m i - i <= 9 := by
 unfold SetTable.runEnd
 split <;> omega
theorem ziP (m : Nat) (h : Int) : ∀ k, (rnI m h k).1 <= m
 | 0 => Nat.le_of_lt_succ (Nat.mod_lt _ ω)
 | k + 1 => Nat.le_of_lt_succ (Nat.mod_lt _ ω)
theorem zkL (m : Nat) (h : Int) : ∀ n, (atM m h n).j + (atM m h n).more <= m /\ (atM m h n).i <= m
 | 0 => by
  have h1 : SetTable.bits h % (m + 1) <= m := Nat.le_of_lt_succ (Nat.mod_lt _ ω);have := zc6 h1;refine ⟨?_, h1⟩;show SetTable.bits h % (m + 1) + (SetTable.runEnd m (SetTable.bits h % (m + 1)) - SetTable.bits h % (m + 1)) <= m;omega
 | n + 1 => by
  have ih := zkL m h n;show (advM m (atM m h n)).j + (advM m (atM m h n)).more <= m /\ (advM m (atM m h n)).i <= m;unfold advM
  split
  ·refine ⟨?_, ih.2⟩;show (atM m h n).j + 1 + ((atM m h n).more - 1) <= m;omega
  ·have h1 : (SetTable.leap m (atM m h n).i (atM m h n).perturb).1 <= m := Nat.le_of_lt_succ (Nat.mod_lt _ ω);have := zc6 h1;refine ⟨?_, h1⟩;show (SetTable.leap m (atM m h n).i (atM m h n).perturb).1 + (SetTable.runEnd m _ - (SetTable.leap m (atM m h n).i (atM m h n).perturb).1) <= m;omega
theorem zkM (m : Nat) (h : Int) (n : Nat) : pth m h n <= m := by have := (zkL m h n).1; unfold pth; omega
theorem znx (m : Nat) (h : Int) : ∀ k, nI m h k <= 10 * k
 | 0 => yai _
 | k + 1 => by
  have ih := znx m h k;have := zc6 (ziP m h k);show nI m h k + _ + 1 <= _;omega
theorem zl7 (m : Nat) (h : Int) {a b : Nat} (hab : a <= b) : nI m h a <= nI m h b := by
 induction hab with
 | refl => exact yai _
 | step _ ih => exact yat ih (by show _ <= nI m h _ + _ + 1; omega)
def fC (m x : Nat) : Nat := (x * 5 + 1) % (m + 1)
def itC (m : Nat) : Nat -> Nat -> Nat
 | 0, x => x
 | n + 1, x => fC m (itC m n x)
theorem ze0 (m : Nat) (x : Nat) : ∀ a b, itC m (a + b) x = itC m a (itC m b x)
 | 0, b => by rw [Nat.zero_add]; rfl
 | a + 1, b => by rw [Nat.succ_add]; show fC m _ = fC m _; rw [ze0 m x a b]
def Msk (m : Nat) : Prop := m = 7 \/ m = 31 \/ m = 127
def lstC (m : Nat) : Nat -> Nat -> List Nat
 | 0, _ => []
 | n + 1, x => x :: lstC m n (fC m x)
theorem zgM (m : Nat) : ∀ a x, itC m (a + 1) x = itC m a (fC m x)
 | 0, x => rfl
 | a + 1, x => by show fC m _ = fC m _; rw [zgM m a x]
theorem zdb (m : Nat) : ∀ n x y, y ∈ lstC m n x -> ∃ a, a < n /\ itC m a x = y
 | 0, x, y, h => by simp [lstC] at h
 | n + 1, x, y, h => by
  rcases yau.mp h with rfl | h
  ·exact ⟨0,ω, rfl⟩
  ·obtain ⟨a, ha, e⟩ := zdb m n _ y h;exact ⟨a + 1,ω, by rw [zgM]; exact e⟩
theorem cyc7 : ∀ y, y < 8 -> y ∈ lstC 7 8 0 := by decide
theorem zoF : ∀ y, y < 32 -> y ∈ lstC 31 32 0 := by decide +kernel
theorem zny : ∀ y, y < 128 -> y ∈ lstC 127 128 0 := by decide +kernel
theorem cyc0 {m : Nat} (hm : Msk m) : (∀ y, y <= m -> ∃ a, a <= m /\ itC m a 0 = y) /\ itC m (m + 1) 0 = 0 := by
 rcases hm with rfl | rfl | rfl
 ·exact ⟨fun y hy => let ⟨a, h1, h2⟩ := zdb _ _ _ _ (cyc7 y ω); ⟨a,ω, h2⟩, by decide +kernel⟩
 ·exact ⟨fun y hy => let ⟨a, h1, h2⟩ := zdb _ _ _ _ (zoF y ω); ⟨a,ω, h2⟩, by decide +kernel⟩
 ·exact ⟨fun y hy => let ⟨a, h1, h2⟩ := zdb _ _ _ _ (zny y ω); ⟨a,ω, h2⟩, by decide +kernel⟩
theorem cyc {m : Nat} (hm : Msk m) {x y : Nat} (hx : x <= m) (hy : y <= m) : ∃ a, a <= m /\ itC m a x = y := by
 obtain ⟨h1, h2⟩ := cyc0 hm;obtain ⟨a, ha, ea⟩ := h1 x hx;obtain ⟨b, hb, eb⟩ := h1 y hy
 by_cases c : a <= b
 ·refine ⟨b - a,ω, ?_⟩;rw [<- ea, <- ze0, show b - a + a = b by omega];exact eb
 ·refine ⟨b + (m + 1) - a,ω, ?_⟩;rw [<- ea, <- ze0, show b + (m + 1) - a + a = b + (m + 1) by omega, ze0, h2];exact eb
theorem zl8 (h : Int) : SetTable.bits h < 2 ^ 64 := by
 unfold SetTable.bits;have h1 := yao h (show (2 ^ 64 : Int) ≠ 0 by decide);have h2 := yak h (show (0 : Int) < 2 ^ 64 by decide);omega
theorem ziQ (m : Nat) (h : Int) : ∀ k, (rnI m h k).2 = SetTable.bits h / 32 ^ k
 | 0 => by show SetTable.bits h = _; rw [Nat.pow_zero, Nat.div_one]
 | k + 1 => by
  show (rnI m h k).2 / 32 = _;rw [ziQ m h k, Nat.div_div_eq_div_mul, Nat.pow_succ]
theorem znz (m : Nat) (h : Int) (r : Nat) : (rnI m h (13 + r)).2 = 0 := by
 rw [ziQ];refine Nat.div_eq_of_lt (Nat.lt_of_lt_of_le (zl8 h) ?_);rw [Nat.pow_add];exact yat δ (Nat.mul_le_mul_left _ (Nat.pow_pos δ))
theorem ziR (m : Nat) (h : Int) : ∀ r, (rnI m h (13 + r)).1 = itC m r (rnI m h 13).1
 | 0 => rfl
 | r + 1 => by
  show (SetTable.leap m (rnI m h (13 + r)).1 (rnI m h (13 + r)).2).1 = fC m (itC m r (rnI m h 13).1);rw [znz, ziR m h r]
  rfl
theorem zn0 {m : Nat} (hm : Msk m) (h : Int) {j : Nat} (hj : j <= m) : ∃ k, k <= m + 13 /\ (rnI m h k).1 = j := by
 obtain ⟨a, ha, e⟩ := cyc hm (ziP m h 13) hj;exact ⟨13 + a,ω, by rw [ziR]; exact e⟩
theorem ze1 {xs : Array Nat} {j : Nat} (hr : ∀ a b, a < b -> b < xs.size -> xs.getD a 0 < xs.getD b 0) : ∀ fuel lo hi, lo <= hi -> hi <= xs.size -> hi - lo <= fuel -> (∀ a, a < lo -> xs.getD a 0 < j) -> (∀ a, hi <= a -> a < xs.size -> j <= xs.getD a 0) ->
  SetTable.below.go xs j fuel lo hi <= xs.size /\ (∀ a, a < SetTable.below.go xs j fuel lo hi -> xs.getD a 0 < j) /\ ∀ a, SetTable.below.go xs j fuel lo hi <= a -> a < xs.size -> j <= xs.getD a 0
 | 0, lo, hi, h1, h2, h3, h4, h5 => by
  have : lo = hi := by omega
  subst this;exact ⟨h2, h4, h5⟩
 | fuel + 1, lo, hi, h1, h2, h3, h4, h5 => by
  unfold SetTable.below.go
  by_cases c : lo < hi
  ·rw [if_pos c];have hmid : (lo + hi) / 2 < xs.size := by omega
   have eg : xs.getD ((lo + hi) / 2) j = xs.getD ((lo + hi) / 2) 0 := by simp [Array.getD, hmid]
   dsimp only;rw [eg]
   by_cases c2 : xs.getD ((lo + hi) / 2) 0 < j
   ·rw [if_pos c2];refine ze1 hr fuel _ _ ω h2 ω (fun a ha => ?_) h5
    by_cases e : a = (lo + hi) / 2
    ·rw [e]; exact c2
    ·exact Nat.lt_trans (hr a _ ω hmid) c2
   ·rw [if_neg c2];refine ze1 hr fuel _ _ ω ω ω h4 (fun a ha hb => ?_)
    by_cases e : a = (lo + hi) / 2
    ·rw [e]; omega
    ·have := hr ((lo + hi) / 2) a ω hb;omega
  ·rw [if_neg c];have : lo = hi := by omega
   subst this;exact ⟨h2, h4, h5⟩
theorem zkN {xs : Array Nat} (h : xs.toList.Pairwise (· < ·)) : ∀ a b, a < b -> b < xs.size -> xs.getD a 0 < xs.getD b 0 := fun a b hab hb => by
 have := List.pairwise_iff_getElem.mp h a b (by simpa using Nat.lt_trans hab hb) (by simpa using hb) hab;have ha : a < xs.size := Nat.lt_trans hab hb;simpa [Array.getD, ha, hb] using this
theorem zcI {xs : Array Nat} (h : xs.toList.Pairwise (· < ·)) (j : Nat) : SetTable.below xs j <= xs.size /\ (∀ a, a < SetTable.below xs j -> xs.getD a 0 < j) /\ ∀ a, SetTable.below xs j <= a -> a < xs.size -> j <= xs.getD a 0 :=
 ze1 (zkN h) xs.size 0 xs.size (yaq _) (yai _) ω (fun a ha => by omega) fun a ha hb => by omega
theorem zkg {xs : Array Nat} {a j : Nat} (h : xs[a]? = some j) : a < xs.size /\ xs.getD a 0 = j := by
 obtain ⟨h1, h2⟩ := Array.getElem?_eq_some_iff.mp h;exact ⟨h1, by simp [Array.getD, h1, h2]⟩
theorem zbl {t : SetTable} {i j : Nat} (hr : t.place.toList.Pairwise (· < ·)) (h : t.place[i]? = some j) : t.slot j = .live i := by
 obtain ⟨hi, e⟩ := zkg h;obtain ⟨b1, b2, b3⟩ := zcI hr j;have : SetTable.below t.place j = i := by
  by_cases c : SetTable.below t.place j < i
  ·have h1 := b3 _ (yai _) ω;have h2 := zkN hr _ _ c hi;omega
  ·by_cases c2 : i < SetTable.below t.place j
   ·have := b2 i c2; omega
   ·omega
 unfold SetTable.slot;dsimp only;rw [this, h];simp
theorem zhy {t : SetTable} {j : Nat} (hd : t.dummies = #[]) (h : j ∉ t.place.toList) : t.slot j = .empty := by
 unfold SetTable.slot;dsimp only;have h1 : ¬ (t.place[SetTable.below t.place j]? == some j) = true := fun z => by
  have z' : t.place[SetTable.below t.place j]? = some j := by simpa using z
  obtain ⟨hi, e⟩ := Array.getElem?_eq_some_iff.mp z';exact h (by rw [<- e]; simp)
 rw [if_neg h1];have h2 : SetTable.has t.dummies j = false := by rw [hd]; unfold SetTable.has; simp
 rw [h2]
 rfl
end L2
namespace L2
open PySem
def Rch (m : Nat) (O : Nat -> Prop) (h : Int) (j : Nat) : Prop := ∃ n, pth m h n = j /\ ∀ k, k < n -> O (pth m h k)
theorem Rch.mono {m : Nat} {O O' : Nat -> Prop} {h : Int} {j : Nat} (r : Rch m O h j) (hO : ∀ x, O x -> O' x) : Rch m O' h j := let ⟨n, e, a⟩ := r; ⟨n, e, fun k hk => hO _ (a k hk)⟩
structure TabOk (t : SetTable) (hs : List Int) : Prop where
 len : t.place.toList.length = hs.length
 dum : t.dummies = #[]
 ris : t.place.toList.Pairwise (· < ·)
 le : ∀ j ∈ t.place.toList, j <= t.mask
 msk : Msk t.mask
 ok : ∀ j h, (j, h) ∈ t.place.toList.zip hs -> Rch t.mask (fun x => x ∈ t.place.toList) h j
theorem ziS {l : List Nat} {m : Nat} (hl : l.length <= m) : ∃ j, j <= m /\ j ∉ l := by
 refine yax fun h => ?_;have hsub : (List.range (m + 1)) ⊆ l := fun j hj => yax fun z => h ⟨j, by have := List.mem_range.mp hj; omega, z⟩;have := (List.nodup_range (n := m + 1)).length_le_of_subset hsub;rw [List.length_range] at this;omega
theorem zhz {m : Nat} (hm : Msk m) {l : List Nat} (hl : l.length <= m) (h : Int) : ∃ M, M < 10 * SetTable.turns m /\ pth m h M ∉ l /\ ∀ k, k < M -> pth m h k ∈ l := by
 obtain ⟨j, hj, hn⟩ := ziS hl;obtain ⟨k, hk, e⟩ := zn0 hm h hj;have h1 : pth m h (nI m h k) = j := by have := zd6 (m := m) (h := h) k (yaq _); rw [Nat.add_zero, Nat.add_zero, e] at this; exact this
 have h2 := znx m h k;have key : ∀ N, (∃ n, n <= N /\ pth m h n ∉ l) -> ∃ M, M <= N /\ pth m h M ∉ l /\ ∀ k, k < M -> pth m h k ∈ l := by
  intro N
  induction N with
  | zero => rintro ⟨n, hn, z⟩; exact ⟨0, yai _, by rw [show n = 0 by omega] at z; exact z, fun k hk => by omega⟩
  | succ N ih =>
   rintro ⟨n, hn, z⟩
   by_cases c : ∃ n, n <= N /\ pth m h n ∉ l
   ·obtain ⟨M, a, b, d⟩ := ih c; exact ⟨M,ω, b, d⟩
   ·have hN : n = N + 1 := by
     refine yax fun y => c ⟨n,ω, z⟩
    subst hN;exact ⟨N + 1, yai _, z, fun k hk => yax fun y => c ⟨k,ω, y⟩⟩
 obtain ⟨M, a, b, d⟩ := key (nI m h k) ⟨_, yai _, by rw [h1]; exact hn⟩;exact ⟨M, by unfold SetTable.turns; omega, b, d⟩
theorem probe_go {t : SetTable} {hs : List Int} (T : TabOk t hs) {h : Int} {f : Nat -> Int} {M : Nat} (hM : pth t.mask h M ∉ t.place.toList) : ∀ d n fuel, n + d = M -> d < fuel -> (∀ k, k < M -> pth t.mask h k ∈ t.place.toList) ->
  (SetTable.probe.go t f h fuel (atM t.mask h n) = some (.empty (pth t.mask h M) none) /\ ∀ k i, n <= k -> k < M -> t.place[i]? = some (pth t.mask h k) -> f i ≠ h) \/
  ∃ n1 i, n <= n1 /\ n1 < M /\ t.place[i]? = some (pth t.mask h n1) /\ f i = h /\ SetTable.probe.go t f h fuel (atM t.mask h n) = some (.candidate (pth t.mask h n1) i (atM t.mask h (n1 + 1))) /\ ∀ k i, n <= k -> k < n1 -> t.place[i]? = some (pth t.mask h k) -> f i ≠ h
 | 0, n, fuel + 1, e, _, _ => by
  have : n = M := by omega
  subst this;refine .inl ⟨?_, fun k i h1 h2 => by omega⟩;unfold SetTable.probe.go;rw [show (atM t.mask h n).j = pth t.mask h n from rfl, zhy T.dum hM];dsimp only;rw [zd7]
 | d + 1, n, fuel + 1, e, hf, ho => by
  obtain ⟨i, hi⟩ : ∃ i, t.place[i]? = some (pth t.mask h n) := by
   obtain ⟨i, hi⟩ := List.mem_iff_getElem?.mp (ho n ω);exact ⟨i, by simpa using hi⟩
  have uniq : ∀ i', t.place[i']? = some (pth t.mask h n) -> i' = i := fun i' hi' => by
   have a := zbl T.ris hi;have b := zbl T.ris hi';rw [a] at b;cases b
   rfl
  unfold SetTable.probe.go;rw [show (atM t.mask h n).j = pth t.mask h n from rfl, zbl T.ris hi];dsimp only
  by_cases c : f i = h
  ·rw [if_pos (by simp [c])];exact .inr ⟨n, i, yai _,ω, hi, c, rfl, fun k i' h1 h2 => by omega⟩
  ·rw [if_neg (by simp [c])];have here : ∀ i', t.place[i']? = some (pth t.mask h n) -> f i' ≠ h := fun i' hi' => by rw [uniq i' hi']; exact c
   rcases probe_go T (f := f) hM d (n + 1) fuel ω ω ho with ⟨a, b⟩ | ⟨n1, i1, a1, a2, a3, a4, a5, a6⟩
   ·refine .inl ⟨a, fun k i' h1 h2 h3 => ?_⟩
    by_cases ek : k = n
    ·subst ek; exact here i' h3
    ·exact b k i' ω h2 h3
   ·refine .inr ⟨n1, i1,ω, a2, a3, a4, a5, fun k i' h1 h2 h3 => ?_⟩
    by_cases ek : k = n
    ·subst ek; exact here i' h3
    ·exact a6 k i' ω h2 h3
theorem TabOk.put {t : SetTable} {hs : List Int} (T : TabOk t hs) {j : Nat} {h : Int} (hj : j <= t.mask) (hn : j ∉ t.place.toList) (hr : Rch t.mask (fun x => x ∈ t.place.toList) h j) :
  TabOk (t.put j).1 (hs.take (t.put j).2 ++ h :: hs.drop (t.put j).2) /\ (t.put j).1.mask = t.mask /\ (t.put j).1.led = t.led /\ (t.put j).1.plain = t.plain /\ (t.put j).1.moves = t.moves /\ (t.put j).1.place.size = t.place.size + 1 := by
 obtain ⟨b1, b2, b3⟩ := zcI T.ris j;have hl := T.len;have hd : (if SetTable.has t.dummies j then SetTable.eraseAt t.dummies (SetTable.below t.dummies j) else t.dummies) = #[] := by
  have : SetTable.has t.dummies j = false := by rw [T.dum]; unfold SetTable.has; simp
  rw [this]; exact T.dum
 have ep : (t.put j).1.place.toList = t.place.toList.take (SetTable.below t.place j) ++ j :: t.place.toList.drop (SetTable.below t.place j) := SetTable.toList_insertAt _ _ _;have e2 : (t.put j).2 = SetTable.below t.place j := rfl;have pb : SetTable.below t.place j <= t.place.toList.length := by simpa using b1
 have mem : ∀ x, x ∈ (t.put j).1.place.toList ↔ x = j \/ x ∈ t.place.toList := fun x => by
  rw [ep];have : x ∈ t.place.toList ↔ x ∈ t.place.toList.take (SetTable.below t.place j) \/ x ∈ t.place.toList.drop (SetTable.below t.place j) := by
   conv => lhs; rw [<- List.take_append_drop (SetTable.below t.place j) t.place.toList]
   exact yay
  rw [this, yay, yau]
  constructor
  ·rintro (h | h | h)
   ·exact .inr (.inl h)
   ·exact .inl h
   ·exact .inr (.inr h)
  ·rintro (h | h | h)
   ·exact .inr (.inl h)
   ·exact .inl h
   ·exact .inr (.inr h)
 refine ⟨⟨?_, hd, ?_, fun x hx => ?_, T.msk, fun x y hxy => ?_⟩, rfl, rfl, rfl, rfl, ?_⟩
 ·rw [ep, e2];simp only [List.length_append, List.length_cons, List.length_take, List.length_drop];omega
 ·rw [ep];have lo : ∀ x ∈ t.place.toList.take (SetTable.below t.place j), x < j := fun x hx => by
   obtain ⟨a, ha, e⟩ := List.mem_iff_getElem.mp hx;rw [List.getElem_take] at e;rw [ya3] at ha;have := b2 a ω;have hs : a < t.place.size := by omega
   simp only [Array.getD, hs, dif_pos] at this;rw [<- e];simpa using this
  have hi : ∀ x ∈ t.place.toList.drop (SetTable.below t.place j), j < x := fun x hx => by
   obtain ⟨a, ha, e⟩ := List.mem_iff_getElem.mp hx;rw [List.getElem_drop] at e;rw [List.length_drop] at ha;have hs : SetTable.below t.place j + a < t.place.size := by simpa using (show _ < t.place.toList.length by omega)
   have := b3 (SetTable.below t.place j + a) ω hs;simp only [Array.getD, hs, dif_pos] at this;have h2 : j <= x := by rw [<- e]; simpa using this
   have h3 : j ≠ x := fun z => hn (z ▸ List.mem_of_mem_drop hx);omega
  refine List.pairwise_append.mpr ⟨T.ris.sublist (List.take_sublist _ _), List.pairwise_cons.mpr ⟨hi, T.ris.sublist (List.drop_sublist _ _)⟩, fun a ha b hb => ?_⟩;rcases yau.mp hb with rfl | hb
  ·exact lo a ha
  ·exact Nat.lt_trans (lo a ha) (hi b hb)
 ·rcases (mem x).mp hx with rfl | hx
  ·exact hj
  ·exact T.le x hx
 ·have grow : ∀ x, x ∈ t.place.toList -> x ∈ (t.put j).1.place.toList := fun x hx => (mem x).mpr (.inr hx);rw [ep, e2, List.zip_append (by simp only [List.length_take]; omega), List.zip_cons_cons] at hxy;have zt : ∀ z, z ∈ (t.place.toList.take (SetTable.below t.place j)).zip (hs.take (SetTable.below t.place j)) \/ z ∈ (t.place.toList.drop (SetTable.below t.place j)).zip (hs.drop (SetTable.below t.place j)) -> z ∈ t.place.toList.zip hs := fun z hz => by
   rcases hz with hz | hz
   ·unfold List.zip at hz ⊢;rw [<- List.take_zipWith (f := Prod.mk)] at hz;exact List.mem_of_mem_take hz
   ·unfold List.zip at hz ⊢;rw [<- List.drop_zipWith (f := Prod.mk)] at hz;exact List.mem_of_mem_drop hz
  rcases yay.mp hxy with hz | hz
  ·exact (T.ok x y (zt _ (.inl hz))).mono grow
  ·rcases yau.mp hz with hz | hz
   ·cases hz;exact hr.mono grow
   ·exact (T.ok x y (zt _ (.inr hz))).mono grow
 ·have := congrArg List.length ep;simp only [List.length_append, List.length_cons, List.length_take, List.length_drop, Array.length_toList] at this;omega
end L2
namespace L2
open PySem
def Own (ow : Array (Option Nat)) (j : Nat) : Prop := (ow.getD j none).isSome = true
structure zft (m : Nat) (ow : Array (Option Nat)) (hs : List Int) (k : Nat) : Prop where
 size : ow.size = m + 1
 lt : ∀ j c, ow.getD j none = some c -> c < k
 inj : ∀ i j c, ow.getD i none = some c -> ow.getD j none = some c -> i = j
 has : ∀ c, c < k -> ∃ j, j <= m /\ ow.getD j none = some c
 ok : ∀ j c h, ow.getD j none = some c -> hs[c]? = some h -> Rch m (Own ow) h j
theorem ziT {m : Nat} {ow : Array (Option Nat)} {hs : List Int} {k : Nat} (o : zft m ow hs k) (hk : k <= m) : ∃ j, j <= m /\ ¬ Own ow j := by
 refine yax fun h => ?_;have all : ∀ j, j <= m -> ∃ c, ow.getD j none = some c := fun j hj => by
  refine yax fun z => h ⟨j, hj, fun w => z ?_⟩;exact Option.isSome_iff_exists.mp w
 let f : Nat -> Nat := fun j => (ow.getD j none).getD 0
 have hf : ∀ j, j <= m -> ow.getD j none = some (f j) := fun j hj => by
  obtain ⟨c, e⟩ := all j hj;show _ = some ((ow.getD j none).getD 0);rw [e]; rfl
 have nd : ((List.range (m + 1)).map f).Nodup := by
  refine List.pairwise_map.mpr (List.Pairwise.imp_of_mem (fun {a b} ha hb hab => ?_) (List.nodup_range (n := m + 1)));intro e;refine hab (o.inj a b (f a) (hf a (by have := List.mem_range.mp ha; omega)) ?_);rw [e];exact hf b (by have := List.mem_range.mp hb; omega)
 have sub : ((List.range (m + 1)).map f) ⊆ List.range k := fun c hc => by
  obtain ⟨j, hj, rfl⟩ := ya6.mp hc;exact List.mem_range.mpr (o.lt j _ (hf j (by have := List.mem_range.mp hj; omega)))
 have := nd.length_le_of_subset sub;simp only [List.length_map, List.length_range] at this;omega
theorem zcJ {ow : Array (Option Nat)} {m j : Nat} (hs : ow.size = m + 1) (hj : j <= m) : (ow.getD j (some 0)).isNone = true ↔ ¬ Own ow j := by
 have : j < ow.size := by omega
 unfold Own;simp only [Array.getD, this, dif_pos];cases ow[j] <;> simp
theorem ziU {m : Nat} (hm : Msk m) {ow : Array (Option Nat)} (hsz : ow.size = m + 1) (hfree : ∃ j, j <= m /\ ¬ Own ow j) (h : Int) : ∀ fuel r, r + fuel = SetTable.turns m -> (∀ n, n < nI m h r -> Own ow (pth m h n)) ->
  ∃ n, SetTable.layClean.free m ow fuel (rnI m h r).1 (rnI m h r).2 = some (pth m h n) /\ ¬ Own ow (pth m h n) /\ ∀ k, k < n -> Own ow (pth m h k)
 | 0, r, e, ho => by
  exfalso
  obtain ⟨j, hj, hn⟩ := hfree;obtain ⟨k, hk, ek⟩ := zn0 hm h hj;have h1 : pth m h (nI m h k) = j := by have := zd6 (m := m) (h := h) k (yaq _); rw [Nat.add_zero, Nat.add_zero, ek] at this; exact this
  have h2 : nI m h k < nI m h r := by
   have : nI m h (k + 1) <= nI m h r := zl7 m h (by unfold SetTable.turns at e; omega);refine Nat.lt_of_lt_of_le ?_ this;show nI m h k < nI m h k + _ + 1;omega
  exact hn (h1 ▸ ho _ h2)
 | fuel + 1, r, e, ho => by
  unfold SetTable.layClean.free;have hle := zc6 (ziP m h r);cases hf : (List.range (SetTable.runEnd m (rnI m h r).1 + 1 - (rnI m h r).1)).find? fun k => (ow.getD ((rnI m h r).1 + k) (some 0)).isNone with
  | some k =>
   dsimp only;have hk1 := List.mem_range.mp (List.mem_of_find?_eq_some hf);have hk2 : (ow.getD ((rnI m h r).1 + k) (some 0)).isNone = true := by have := List.find?_some hf; exact this
   have e1 : pth m h (nI m h r + k) = (rnI m h r).1 + k := zd6 r ω;refine ⟨nI m h r + k, by rw [e1], ?_, fun n hn => ?_⟩
   ·rw [e1];exact (zcJ hsz ω).mp hk2
   ·by_cases c : n < nI m h r
    ·exact ho n c
    ·obtain ⟨d, rfl⟩ : ∃ d, n = nI m h r + d := ⟨n - nI m h r,ω⟩
     rw [zd6 r ω];refine yax fun z => ?_;have hd := (zcJ hsz (show (rnI m h r).1 + d <= m by omega)).mpr z;have : d < k := by omega
     obtain ⟨_, as, bs, eq, hno⟩ := List.find?_eq_some_iff_append.mp hf;have hidx : as = List.range k := by
      have e3 : (List.range (SetTable.runEnd m (rnI m h r).1 + 1 - (rnI m h r).1))[as.length]? = some k := by rw [eq]; simp
      have e4 : as.length = k := by
       have := (yag.mp e3)
       obtain ⟨h5, h6⟩ := this;simpa using h6
      have e5 : as = (List.range (SetTable.runEnd m (rnI m h r).1 + 1 - (rnI m h r).1)).take as.length := by rw [eq]; simp
      rw [e5, e4, List.take_range]
      congr 1
      omega
     have hdm : d ∈ as := by rw [hidx]; exact List.mem_range.mpr this
     have := hno d hdm;rw [hd] at this;simp at this
  | none =>
   dsimp only;have hall := List.find?_eq_none.mp hf;have key : ∀ n, n < nI m h (r + 1) -> Own ow (pth m h n) := fun n hn => by
    have hn' : n < nI m h r + (SetTable.runEnd m (rnI m h r).1 - (rnI m h r).1) + 1 := hn
    by_cases c : n < nI m h r
    ·exact ho n c
    ·obtain ⟨d, rfl⟩ : ∃ d, n = nI m h r + d := ⟨n - nI m h r,ω⟩
     rw [zd6 r ω];refine yax fun z => ?_;exact hall d (List.mem_range.mpr ω) ((zcJ hsz (show (rnI m h r).1 + d <= m by omega)).mpr z)
   exact ziU hm hsz hfree h fuel (r + 1) ω key
theorem zl9 {ow : Array (Option Nat)} {m j k i : Nat} (hs : ow.size = m + 1) (hj : j <= m) : (ow.setIfInBounds j (some k)).getD i none = if i = j then some k else ow.getD i none := by
 have hj' : j < ow.size := by omega
 simp only [Array.getD_eq_getD_getElem?, Array.getElem?_setIfInBounds]
 by_cases c : i = j
 ·subst c; simp [hj']
 ·rw [if_neg (fun z => c z.symm), if_neg c]
theorem zkh {m : Nat} (hm : Msk m) {ow : Array (Option Nat)} {hs : List Int} {k : Nat} {h : Int} (o : zft m ow hs k) (hk : k <= m) (hh : hs[k]? = some h) :
  ∃ j, SetTable.layClean.free m ow (SetTable.turns m) (SetTable.bits h % (m + 1)) (SetTable.bits h) = some j /\ zft m (ow.setIfInBounds j (some k)) hs (k + 1) := by
 obtain ⟨n, e, hn, ho⟩ := ziU hm o.size (ziT o hk) h (SetTable.turns m) 0 ω (fun n hn => by exact absurd hn (Nat.not_lt_zero _));have hj := zkM m h n;have hnone : ow.getD (pth m h n) none = none := by
  unfold Own at hn;cases q : ow.getD (pth m h n) none with
  | none => rfl
  | some c => rw [q] at hn; simp at hn
 have gs : ∀ i, (ow.setIfInBounds (pth m h n) (some k)).getD i none = if i = pth m h n then some k else ow.getD i none := fun i => zl9 o.size hj;have up : ∀ x, Own ow x -> Own (ow.setIfInBounds (pth m h n) (some k)) x := fun x hx => by
  unfold Own at hx ⊢;rw [gs]
  split
  ·rfl
  ·exact hx
 refine ⟨pth m h n, e, ⟨by simp [o.size], fun j c hc => ?_, fun i j c hi hc => ?_, fun c hc => ?_, fun j c h' hc hh' => ?_⟩⟩
 ·rw [gs] at hc
  split at hc
  ·cases hc; omega
  ·have := o.lt j c hc; omega
 ·rw [gs] at hi hc
  split at hi <;> split at hc
  ·rename_i a b; rw [a, b]
  ·cases hi; exact absurd (o.lt j _ hc) ω
  ·cases hc; exact absurd (o.lt i _ hi) ω
  ·exact o.inj i j c hi hc
 ·by_cases q : c = k
  ·subst q;exact ⟨_, hj, by rw [gs, if_pos rfl]⟩
  ·obtain ⟨j, h1, h2⟩ := o.has c ω;refine ⟨j, h1, ?_⟩;rw [gs, if_neg (fun z => by rw [z, hnone] at h2; cases h2)];exact h2
 ·rw [gs] at hc
  split at hc
  ·rename_i a
   cases hc;rw [hh] at hh';cases hh';exact ⟨n, a.symm, fun x hx => up _ (ho x hx)⟩
  ·exact (o.ok j c h' hc hh').mono up
theorem ziV {m : Nat} (hm : Msk m) {hs : List Int} (hl : hs.length <= m) : ∀ (l : List Int) (ow : Array (Option Nat)) (k : Nat), hs.drop k = l -> k <= hs.length -> zft m ow hs k ->
  ∃ ow', (l.foldl (fun acc h => do
   let (owner, k) <- acc
   let j <- SetTable.layClean.free m owner (SetTable.turns m) (SetTable.bits h % (m + 1)) (SetTable.bits h)
   pure (owner.setIfInBounds j (some k), k + 1)) (some (ow, k))) = some (ow', hs.length) /\ zft m ow' hs hs.length
 | [], ow, k, e, hkl, o => by
  have hk : k = hs.length := by have := congrArg List.length e; simp at this; omega
  subst hk;exact ⟨ow, rfl, o⟩
 | h :: l, ow, k, e, hkl, o => by
  have hk : hs[k]? = some h := by
   have := congrArg List.head? e;rw [List.head?_drop] at this;simpa using this
  have hlt : k < hs.length := (yag.mp hk).1;obtain ⟨j, e1, o1⟩ := zkh hm o ω hk;obtain ⟨ow', e2, o2⟩ := ziV hm hl l (ow.setIfInBounds j (some k)) (k + 1) (by
   have := congrArg List.tail e;rw [List.tail_drop] at this;exact this) ω o1
  refine ⟨ow', ?_, o2⟩;rw [List.foldl_cons];rw [<- e2]
  congr 1
  show (do let j <- SetTable.layClean.free m ow (SetTable.turns m) (SetTable.bits h % (m + 1)) (SetTable.bits h); pure (ow.setIfInBounds j (some k), k + 1)) = _;rw [e1]
  rfl
theorem own0 (m : Nat) (hs : List Int) : zft m (Array.replicate (m + 1) none) hs 0 := by
 have e : ∀ j, (Array.replicate (m + 1) (none : Option Nat)).getD j none = none := fun j => by
  simp only [Array.getD_eq_getD_getElem?, Array.getElem?_replicate]
  split <;> rfl
 have no : ∀ j c, ¬ (Array.replicate (m + 1) (none : Option Nat)).getD j none = some c := fun j c h => by rw [e] at h; exact absurd h ς
 exact ⟨ς, fun j c h => absurd h (no j c), fun i j c h _ => absurd h (no i c), fun c h => absurd h (Nat.not_lt_zero _), fun j c h' h _ => absurd h (no j c)⟩
theorem zn1 {m : Nat} (hm : Msk m) {hs : Array Int} (hl : hs.size <= m) : ∃ ow, SetTable.layClean m hs = some ow /\ zft m ow hs.toList hs.size := by
 obtain ⟨ow, e, o⟩ := ziV hm (hs := hs.toList) (by simpa using hl) hs.toList (Array.replicate (m + 1) none) 0 rfl (yaq _) (own0 m _);refine ⟨ow, ?_, by simpa using o⟩;unfold SetTable.layClean;rw [<- Array.foldl_toList];rw [e]
 rfl
def zcl (m : Nat) (ow : Array (Option Nat)) : List (Nat × Nat) := (List.range (m + 1)).filterMap fun j => (ow.getD j none).map (j, ·)
theorem live_mem {m : Nat} {ow : Array (Option Nat)} {j c : Nat} : (j, c) ∈ zcl m ow ↔ j <= m /\ ow.getD j none = some c := by
 unfold zcl;rw [List.mem_filterMap]
 constructor
 ·rintro ⟨a, ha, e⟩
  obtain ⟨c', e1, e2⟩ := Option.map_eq_some_iff.mp e;cases e2;exact ⟨by have := List.mem_range.mp ha; omega, e1⟩
 ·rintro ⟨h1, h2⟩
  exact ⟨j, List.mem_range.mpr ω, by rw [h2]; rfl⟩
theorem zgN (m : Nat) (ow : Array (Option Nat)) : ((zcl m ow).map (·.1)).Pairwise (· < ·) := by
 unfold zcl;have key : ∀ l : List Nat, l.Pairwise (· < ·) -> ((l.filterMap fun j => (ow.getD j none).map (j, ·)).map (·.1)).Pairwise (· < ·) /\ ∀ x ∈ (l.filterMap fun j => (ow.getD j none).map (j, ·)).map (·.1), x ∈ l := by
  intro l
  induction l with
  | nil => intro _; exact ⟨List.Pairwise.nil, fun x h => by simp at h⟩
  | cons a l ih =>
   intro hp;obtain ⟨h1, h2⟩ := List.pairwise_cons.mp hp;obtain ⟨i1, i2⟩ := ih h2;cases q : ow.getD a none with
   | none =>
    rw [List.filterMap_cons_none (by rw [q]; rfl)];exact ⟨i1, fun x hx => List.mem_cons_of_mem _ (i2 x hx)⟩
   | some c =>
    rw [List.filterMap_cons_some (b := (a, c)) (by rw [q]; rfl), List.map_cons];refine ⟨List.pairwise_cons.mpr ⟨fun x hx => h1 x (i2 x hx), i1⟩, fun x hx => ?_⟩;rcases yau.mp hx with rfl | hx
    ·exact List.mem_cons_self
    ·exact List.mem_cons_of_mem _ (i2 x hx)
 exact (key _ List.pairwise_lt_range).1
theorem ziW {m : Nat} {ow : Array (Option Nat)} {hs : List Int} {k : Nat} (o : zft m ow hs k) : ((zcl m ow).map (·.2)).Perm (List.range k) := by
 have nd : ((zcl m ow).map (·.2)).Nodup := by
  have hp : (zcl m ow).Pairwise fun a b => a.1 < b.1 := List.pairwise_map.mp (zgN m ow);refine List.pairwise_map.mpr (hp.imp_of_mem fun {a b} ha hb hab => ?_);intro e;have h1 := (live_mem (j := a.1) (c := a.2)).mp ha;have h2 := (live_mem (j := b.1) (c := b.2)).mp hb;have := o.inj a.1 b.1 a.2 h1.2 (by rw [e]; exact h2.2);omega
 refine (List.perm_ext_iff_of_nodup nd List.nodup_range).mpr fun c => ?_;rw [List.mem_range, ya6]
 constructor
 ·rintro ⟨⟨j, c'⟩, h, rfl⟩
  exact o.lt j _ (live_mem.mp h).2
 ·intro hc;obtain ⟨j, h1, h2⟩ := o.has c hc;exact ⟨(j, c), live_mem.mpr ⟨h1, h2⟩, rfl⟩
theorem ziX {t : SetTable} {hs : Array Int} {wanted : Nat} (hm : Msk (SetTable.sizeAbove wanted - 1)) (hl : hs.size <= SetTable.sizeAbove wanted - 1) :
  ∃ t' order, t.relaid hs wanted = some (t', order) /\ order.toList.Perm (List.range hs.size) /\ TabOk t' (order.toList.map fun c => hs.toList.getD c 0) /\ t'.mask = SetTable.sizeAbove wanted - 1 /\ t'.led = t.led /\ t'.plain = t.plain /\ t'.place.size = hs.size := by
 obtain ⟨ow, e, o⟩ := zn1 hm hl;have hp := ziW o;have Qe : (zcl (SetTable.sizeAbove wanted - 1) ow).length = hs.size := by have := hp.length_eq; simpa using this
 refine ⟨{ mask := SetTable.sizeAbove wanted - 1, place := ((zcl (SetTable.sizeAbove wanted - 1) ow).map (·.1)).toArray, dummies := #[], finger := t.finger, led := t.led, moves := t.movedTo (SetTable.sizeAbove wanted - 1), plain := t.plain }, ((zcl (SetTable.sizeAbove wanted - 1) ow).map (·.2)).toArray, by unfold SetTable.relaid SetTable.laid; rw [e]; rfl, ?_, ⟨?_, rfl, ?_, ?_, hm, ?_⟩, rfl, rfl, rfl, ?_⟩
 ·exact hp
 ·show ((zcl _ ow).map (·.1)).length = _;simp
 ·exact zgN _ ow
 ·intro j hj;have hj : j ∈ (zcl (SetTable.sizeAbove wanted - 1) ow).map (·.1) := hj;obtain ⟨⟨j', c⟩, h, rfl⟩ := ya6.mp hj;exact (live_mem.mp h).1
 ·intro j h hz;have hz : (j, h) ∈ ((zcl (SetTable.sizeAbove wanted - 1) ow).map (·.1)).zip (((zcl (SetTable.sizeAbove wanted - 1) ow).map (·.2)).map fun c => hs.toList.getD c 0) := hz;rw [List.map_map, List.zip_map'] at hz;obtain ⟨⟨j', c⟩, hm', e2⟩ := ya6.mp hz;cases e2;obtain ⟨h1, h2⟩ := live_mem.mp hm';have hc := o.lt _ _ h2;have hcl : c < hs.toList.length := by simpa using hc
  refine (o.ok j' c (hs.toList.getD c 0) h2 (by rw [List.getD_eq_getElem?_getD, yal hcl]; rfl)).mono fun x hx => ?_;show x ∈ (zcl (SetTable.sizeAbove wanted - 1) ow).map (·.1);obtain ⟨c', ec⟩ := Option.isSome_iff_exists.mp hx;refine ya6.mpr ⟨(x, c'), live_mem.mpr ⟨?_, ec⟩, rfl⟩;have : x < ow.size := by
   refine yax fun z => ?_;rw [Array.getD, dif_neg z] at ec;cases ec
  have := o.size;omega
 ·show ((zcl _ ow).map (·.1)).toArray.size = _;simp [Qe]
end L2
namespace L2
open PySem PySem.Spec PyProof.Rows PySem.SeqAt
def FactAt (h : Heap) (k : Rw) (a : Addr) : Prop := ∃ t c ys, h.IsTuple a #[.str k.1 t, .ref c] /\ h.IsTuple c ys /\ IntsAre ys.toList k.2
def factHash (prog : Program) (w : World) (k : Rw) : Int := reduceHash (Builtin.Tuple.tupleHashOf [(PySem.strKind prog w).hash k.1, tupleKeyHash (intKind prog w) k.2])
theorem FactAt.inj {h : Heap} {k k' : Rw} {a : Addr} (h1 : FactAt h k a) (h2 : FactAt h k' a) : k = k' := by
 obtain ⟨t, c, ys, p, q, r⟩ := h1;obtain ⟨t', c', ys', p', q', r'⟩ := h2;have e := zbD p p';simp only [Array.mk.injEq, List.cons.injEq, Value.str.injEq, Value.ref.injEq, and_true] at e;obtain ⟨⟨e1, _⟩, rfl⟩ := e;rw [zbD q q'] at r;exact Prod.ext e1 (zex r r')
theorem zc7 {h h' : Heap} {a d : Addr} {o : Obj} {xs : Array Value} {es ep} (x : h.IsTuple a xs) (ho : h.get? d = some o) (hd : o.data = .dict es ep) (hs : Heap.SameBut d h h') : h'.IsTuple a xs := by
 obtain ⟨u, e, c, n, q⟩ := x;have hne : a ≠ d := by
  rintro rfl
  cases e.symm.trans ho;cases hd.symm.trans q
 exact ⟨u, (hs.2 a hne).trans e, c, n, q⟩
section
variable {prog : Program} {w : World} {A : Around} {E : ZQ} {s : Shared}
theorem zfu {k : Rw} {a : Addr} {Q : Int -> Shared -> Prop} (hu : A.units + 1 < cLine) (hk : FactAt s.heap k a) (h : Q (factHash prog w k) { s with toks := s.toks + (k.2.length + 3) }) : wpAny (model prog w) A (pyHash (.ref a)) Q E s := by
 obtain ⟨t, c, ys, p, q, r⟩ := hk;obtain ⟨o, ho, hc, n, hd⟩ := p;have hT : s.TypeIs (.ref a) "tuple" := ⟨o, ho, hc⟩
 unfold pyHash
 first | unfold pyHashByItsType | skip
 first | refine yaa (wpAny_cRoomFor_or (.inr ω) ?_) | skip
 refine yaa (wpAny_specialOf hT F.slot_tuple_hash.lookup ?_);rw [if_neg (show ¬ ((some (Value.builtin "tuple.__hash__") == some Value.none) = true) by rw [beq_builtin_none]; exact yam)];refine yaa (wpAny_specialOf hT F.slot_tuple_hash.lookup ?_);refine yaa (wpAny_callSpecialIfBoundUnlessNone?_slot hT F.slot_tuple_hash (wpAny_call_entry F.slot_tuple_hash hT F.entry_tuple_hash ?_ (F.args_tuple_hash_1 _)));show wpAny _ _ (Builtin.Tuple.tupleItemsOf (.ref a) >>= _) _ _ s;refine yaa (wpAny_tupleItemsOf ho hd (yaa ?_));rw [<- Array.forIn_toList];simp only [List.forIn_cons, List.forIn_nil];have q2 : IsTupleKey (intKind prog w) s.heap k.2 c := let ⟨o2, ho2, hc2, n2, hd2⟩ := q; ⟨o2, ys, n2, ho2, hc2, hd2, zbZ r⟩;refine yaa (yaa ((PySem.strKind prog w).pyHash (k := k.1) (by simp [PySem.strKind, Value.isStrOf]) (yab (yaa (yaa (wpAny_pyHash_tuple (s := { s with toks := s.toks + 1 }) (by show A.units + 1 < cLine; exact hu) q2 (yab (yab ?_))))))));show wpAny _ _ (retInt (Builtin.Tuple.tupleHashOf [(PySem.strKind prog w).hash k.1, tupleKeyHash (intKind prog w) k.2])) _ _ _;generalize hz : Builtin.Tuple.tupleHashOf [(PySem.strKind prog w).hash k.1, tupleKeyHash (intKind prog w) k.2] = z;unfold factHash reduceHash at h;rw [hz] at h;have tk : s.toks + 1 + (k.2.length + 1) + 1 = s.toks + (k.2.length + 3) := by omega
 refine wpAny_ret_mkInt ?_;show wpAny _ _ (if (decide (-(2 : Int) ^ 63 <= z) && decide (z < 2 ^ 63)) = true then _ else _) Q E _
 by_cases hr : (decide (-(2 : Int) ^ 63 <= z) && decide (z < 2 ^ 63)) = true
 ·rw [if_pos hr] at h ⊢;refine yab ?_;show Q _ { s with toks := s.toks + 1 + (k.2.length + 1) + 1 };rw [tk]; exact h
 ·rw [if_neg hr] at h ⊢;refine yaa (wpAny_rule (yab ?_));show Q _ { s with toks := s.toks + 1 + (k.2.length + 1) + 1 };rw [tk]; exact h
theorem zeb {n : Nat} {c : Addr} {ys : Array Value} {Q : Bool -> Shared -> Prop} (q : s.heap.IsTuple c ys) (hb : ∀ v ∈ ys, ∀ Q : Bool -> Shared -> Prop, Q true s -> wpAny (model prog w) A (eqIsQuiet n v) Q E s) (h : Q true s) : wpAny (model prog w) A (eqIsQuiet (n + 1) (.ref c)) Q E s := by
 obtain ⟨o, ho, hc, m, hd⟩ := q;have hT : s.TypeIs (.ref c) "tuple" := ⟨o, ho, hc⟩
 unfold eqIsQuiet;refine yaa (wpAny_specialOf hT F.slot_tuple_eq.lookup ?_);refine yaa (wpAny_isInstance hT isSubtype_tuple_tuple ?_);simp only [Bool.not_true, Bool.false_eq_true, if_false];refine yaa (wpAny_seqItems ho hd (yaa ?_));show wpAny _ _ (forIn ys _ _) _ _ s;rw [<- Array.forIn_toList];refine wpAny_forIn_list _ (fun rest r s' => r.1 = none /\ s' = s /\ ∀ v ∈ rest, v ∈ ys) _ ?_ ?_ _ _ ⟨rfl, rfl, fun v hv => by simpa using hv⟩
 ·rintro v rest r s' ⟨hr, rfl, hall⟩
  refine yaa (hb v (hall v ς) _ ?_);simp only [Bool.not_true, Bool.false_eq_true, if_false];exact yab ⟨rfl, rfl, fun u hu' => hall u (by simp [hu'])⟩
 ·rintro ⟨r1, r2⟩ s' ⟨hr, rfl, _⟩
  simp only at hr;subst hr;exact yab h
theorem zcK {k : Rw} {a : Addr} {Q : Bool -> Shared -> Prop} (hk : FactAt s.heap k a) (h : Q true s) : wpAny (model prog w) A (eqIsQuiet 8 (.ref a)) Q E s := by
 obtain ⟨t, c, ys, p, q, r⟩ := hk;refine zeb (n := 7) p (fun v hv Q hq => ?_) h;rcases (by simpa using hv : v = .str k.1 t \/ v = .ref c) with rfl | rfl
 ·rw [eqIsQuiet_byValue _ ρ]; exact yab hq
 ·refine zeb (n := 6) q (fun u hu Q hq => ?_) hq;rw [eqIsQuiet_byValue _ ((zbZ (prog := prog) (w := w) r).byValue u (by simpa using hu))]; exact yab hq
theorem zgc {x y : Rw} {a b : Addr} {Q : Bool -> Shared -> Prop} (hu : A.units + 1 < cLine) (hx : FactAt s.heap x a) (hy : FactAt s.heap y b) (h : Q (decide (x = y)) s) : wpAny (model prog w) A (eqBool (.ref a) (.ref b)) Q E s := by
 by_cases e : a = b
 ·subst e;rw [hx.inj hy] at h;simp only [decide_true] at h;exact EqAt.same _ prog w E Q h
 ·obtain ⟨t, c, ys, p, q, r⟩ := hx;obtain ⟨t', c', ys', p', q', r'⟩ := hy;have z := RcAt.tuples (A := A) (e := fun j => match j with | 0 => x.1 == y.1 | _ => decide (x.2 = y.2)) p p' ω (fun j h1 h2 => by
   have h1' : j < 2 := h1
   match j, h1' with
   | 0, _ => exact EqAt.str_str _ _ _ _
   | 1, _ => exact SecR.eqAt (f := true) (by show A.units + 1 < cLine; exact hu) ⟨c, ys, rfl, q, r⟩ ⟨c', ys', rfl, q', r'⟩)
  have ez : ((List.range (min (#[Value.str x.1 t, .ref c]).size (#[Value.str y.1 t', .ref c']).size)).all (fun j => match j with | 0 => x.1 == y.1 | _ => decide (x.2 = y.2)) && (#[Value.str x.1 t, .ref c]).size == (#[Value.str y.1 t', .ref c']).size) = decide (x = y) := by
   show ((List.range 2).all (fun j => match j with | 0 => x.1 == y.1 | _ => decide (x.2 = y.2)) && (2 == 2)) = _;have : List.range 2 = [0, 1] := rfl;rw [this];simp only [List.all_cons, List.all_nil, Bool.and_true, beq_self_eq_true];obtain ⟨x1, x2⟩ := x;obtain ⟨y1, y2⟩ := y;simp [Prod.ext_iff, Bool.beq_eq_decide_eq]
  rw [ez] at z;exact EqAt.of_refs e z prog w E Q h
end
def zki (prog : Program) (w : World) : HeapKind prog w Rw where
 is := FactAt
 hash := factHash prog w
 draws := fun k => k.2.length + 3
 room := fun A => A.units + 1 < cLine
 inj := fun h1 h2 => h1.inj h2
 keeps := fun x ho hd hs => let ⟨t, c, ys, p, q, r⟩ := x; ⟨t, c, ys, zc7 p ho hd hs, zc7 q ho hd hs, r⟩
 pyHash := fun hu hk h => zfu hu hk h
 eqBool := fun hu hx hy h => zgc hu hx hy h
 quiet := fun hk h => zcK hk h
end L2
namespace L2
open PySem PySem.Spec PyProof.Rows PySem.SeqAt
def ElF (prog : Program) (w : World) (h : Heap) (es : List (Int × Value)) (ks : List Rw) : Prop := ks.length = es.length /\ ∀ (i : Nat) e k, es[i]? = some e -> ks[i]? = some k -> e.1 = factHash prog w k /\ ∃ b, e.2 = .ref b /\ FactAt h k b
section
variable {prog : Program} {w : World} {A : Around} {E : ZQ} {s : Shared}
theorem zfv {n : Nat} {c : Addr} {ys : Array Value} {Q : Bool -> Shared -> Prop} (q : s.heap.IsTuple c ys) (hb : ∀ v ∈ ys, ∀ Q : Bool -> Shared -> Prop, Q false s -> wpAny (model prog w) A (ofAClassStatement n v) Q E s) (h : Q false s) : wpAny (model prog w) A (ofAClassStatement (n + 1) (.ref c)) Q E s := by
 obtain ⟨o, ho, hc, m, hd⟩ := q;have hT : s.TypeIs (.ref c) "tuple" := ⟨o, ho, hc⟩
 unfold ofAClassStatement;refine yaa (wpAny_typeOf hT ?_);dsimp only;rw [if_pos δ];refine yaa (yab ?_);simp only [Bool.not_true, Bool.false_eq_true, if_false];refine yaa (wpAny_seqItems ho hd ?_);dsimp only;refine yaa ?_;rw [<- Array.forIn_toList];refine wpAny_forIn_list _ (fun rest r s' => r.1 = none /\ s' = s /\ ∀ v ∈ rest, v ∈ ys) _ ?_ ?_ _ _ ⟨rfl, rfl, fun v hv => by simpa using hv⟩
 ·rintro v rest r s' ⟨hr, rfl, hall⟩
  refine yaa (hb v (hall v ς) _ ?_);simp only [Bool.false_eq_true, if_false];exact yab ⟨rfl, rfl, fun u hu' => hall u (by simp [hu'])⟩
 ·rintro ⟨r1, r2⟩ s' ⟨hr, rfl, _⟩
  simp only at hr;subst hr;exact yab h
theorem zgO {k : Rw} {a : Addr} {Q : Bool -> Shared -> Prop} (hk : FactAt s.heap k a) (h : Q false s) : wpAny (model prog w) A (ofAClassStatement 8 (.ref a)) Q E s := by
 obtain ⟨t, c, ys, p, q, r⟩ := hk;refine zfv (n := 7) p (fun v hv Q hq => ?_) h;rcases (by simpa using hv : v = .str k.1 t \/ v = .ref c) with rfl | rfl
 ·unfold ofAClassStatement; exact yab hq
 ·refine zfv (n := 6) q (fun u hu Q hq => ?_) hq;have hi : ∃ i t, u = .int i t := by
   have key : ∀ {vs : List Value} {ns : List Int}, IntsAre vs ns -> ∀ u ∈ vs, ∃ i t, u = .int i t := by
    intro vs
    induction vs with
    | nil => intro ns _ u hu; simp at hu
    | cons v vs ih =>
     intro ns hI u hu;cases hI with
     | cons _ _ h =>
      rcases yau.mp hu with rfl | hu
      ·exact ⟨_, _, rfl⟩
      ·exact ih h u hu
   exact key r u (by simpa using hu)
  obtain ⟨i, t', rfl⟩ := hi;unfold ofAClassStatement; exact yab hq
theorem zn2 {k : Rw} {c : Addr} (hc : FactAt s.heap k c) {ys : List Value} (hy : ∀ y ∈ ys, ∃ k' b, y = .ref b /\ FactAt s.heap k' b) {Q : Bool -> Shared -> Prop} (h : Q false s) : wpAny (model prog w) A (searchCouldBeSeen (.ref c) ys) Q E s := by
 unfold searchCouldBeSeen;refine yaa ?_;refine wpAny_forIn_list _ (fun rest r s' => r.1 = none /\ s' = s /\ ∀ v ∈ rest, v ∈ ys) _ ?_ ?_ _ _ ⟨rfl, rfl, fun v hv => hv⟩
 ·rintro v rest r s' ⟨hr, rfl, hall⟩
  obtain ⟨k', b, rfl, hb⟩ := hy v (hall v ς);have fin : (none : Option Bool) = none /\ s' = s' /\ ∀ v ∈ rest, v ∈ ys := ⟨rfl, rfl, fun u hu' => hall u (by simp [hu'])⟩
  dsimp only
  split
  ·exact yab fin
  ·refine yaa (zcK hc ?_);simp only [Bool.not_true, Bool.false_eq_true, if_false];refine yaa (zcK hb ?_);simp only [Bool.not_true, Bool.false_eq_true, if_false];refine yaa (zgO hc ?_);simp only [Bool.false_eq_true, if_false];refine yaa (zgO hb ?_);simp only [Bool.false_eq_true, if_false];exact yab fin
 ·rintro ⟨r1, r2⟩ s' ⟨hr, rfl, _⟩
  simp only at hr;subst hr;exact yab h
theorem zgd {a c : Addr} {o : Obj} {es : Array (Int × Value)} {ep : Nat} {tb : SetTable} {ks : List Rw} {k : Rw} {M : Nat} (hu : A.units + 1 < cLine) (ho : s.heap.get? a = some o) (hd : o.data = .set es ep tb)
  (T : TabOk tb (es.toList.map (·.1))) (hf : tb.fits es.size = true) (hE : ElF prog w s.heap es.toList ks) (hc : FactAt s.heap k c)
  (hM0 : M < 10 * SetTable.turns tb.mask) (hM : pth tb.mask (factHash prog w k) M ∉ tb.place.toList) (hMo : ∀ i : Nat, i < M -> pth tb.mask (factHash prog w k) i ∈ tb.place.toList)
  {Q : SetFound -> Shared -> Prop} (yes : k ∈ ks -> Q (.there none) s) (no : k ∉ ks -> Q (.free (pth tb.mask (factHash prog w k) M) false) s) :
  ∀ (d n fuel : Nat) (st : Option SetTable.Probe), n + d = M -> d < fuel -> st.getD (tb.probeStart (factHash prog w k)) = atM tb.mask (factHash prog w k) n ->
   (∀ (i q : Nat), q < n -> tb.place[i]? = some (pth tb.mask (factHash prog w k) q) -> ks[i]? ≠ some k) -> wpAny (model prog w) A (setSearchFrom a (.ref c) (factHash prog w k) true fuel st) Q E s := by
 have hsz : tb.place.size = es.size := by have := T.len; simpa using this
 have hgw : tb.gaveWay = false := by
  unfold SetTable.gaveWay;rcases T.msk with h | h | h <;> rw [h] <;> rfl
 intro d
 induction d using Nat.strongRecOn with
 | ind d ih =>
  intro n fuel st hn hfu hst hno;obtain ⟨fuel, rfl⟩ : ∃ g, fuel = g + 1 := ⟨fuel - 1,ω⟩
  unfold setSearchFrom;refine yaa (wpAny_setState_of ho hd hf ?_);dsimp only;rw [hgw];simp only [Bool.false_eq_true, if_false];rw [hst];unfold SetTable.probe;have hst2 : ∀ (i : Nat) e, es[i]? = some e -> (fun i => ((es[i]?).map (·.1)).getD 0) i = e.1 := fun i e h => by dsimp only; rw [h]; rfl
  rcases probe_go T (h := factHash prog w k) (f := fun i => ((es[i]?).map (·.1)).getD 0) hM d n (10 * SetTable.turns tb.mask) hn ω hMo with ⟨e, hx⟩ | ⟨n1, i, a1, a2, a3, a4, a5, a6⟩
  ·erw [e]
   dsimp only;refine yab (no fun hk => ?_);obtain ⟨i, hi⟩ := List.mem_iff_getElem?.mp hk;have hik : i < ks.length := (yag.mp hi).1;have hie : i < es.toList.length := by rw [<- hE.1]; exact hik
   obtain ⟨h1, _⟩ := hE.2 i _ k (yal hie) hi;have hip : i < tb.place.toList.length := by rw [Array.length_toList, hsz]; simpa using hie
   obtain ⟨n', e', hr⟩ := T.ok (tb.place.toList[i]) (es.toList[i]).1 (by
    rw [List.mem_iff_getElem?];refine ⟨i, ?_⟩;rw [List.getElem?_zip_eq_some];exact ⟨yal hip, by rw [yav, yal hie]; rfl⟩)
   rw [h1] at e' hr;have hpl : tb.place[i]? = some (pth tb.mask (factHash prog w k) n') := by
    rw [e', <- Array.getElem?_toList];exact yal hip
   have hlt : n' < M := by
    refine yax fun z => ?_
    by_cases q : n' = M
    ·subst q;exact hM (by rw [e']; exact List.getElem_mem hip)
    ·exact hM (hr M ω)
   by_cases q : n' < n
   ·exact hno i n' q hpl hi
   ·refine hx n' i ω hlt hpl ?_;exact (hst2 i _ (by rw [<- Array.getElem?_toList]; exact yal hie)).trans h1
  ·erw [a5]
   dsimp only;have hie : i < es.size := by rw [<- hsz]; exact (Array.getElem?_eq_some_iff.mp a3).1
   have hiE : es[i]? = some es[i] := Array.getElem?_eq_getElem hie;have hik : i < ks.length := by rw [hE.1]; simpa using hie
   obtain ⟨h1, b, h2, h3⟩ := hE.2 i es[i] ks[i] (by rw [Array.getElem?_toList]; exact hiE) (yal hik);have hall : ∀ y ∈ (es.filter (fun x => x.fst == factHash prog w k)).toList.map (fun x => x.snd), ∃ k' b, y = .ref b /\ FactAt s.heap k' b := fun y hy => by
    obtain ⟨x, hx, rfl⟩ := ya6.mp hy;have hx : x ∈ es.toList := by rw [Array.toList_filter] at hx; exact (List.mem_filter.mp hx).1
    obtain ⟨j, hj⟩ := List.mem_iff_getElem?.mp hx;have hjk : j < ks.length := by rw [hE.1]; exact (yag.mp hj).1
    obtain ⟨_, b, e1, e2⟩ := hE.2 j x _ hj (yal hjk);exact ⟨_, b, e1, e2⟩
   by_cases hled : (!tb.led) = true
   ·rw [if_pos hled];refine yaa (zn2 hc hall ?_);simp only [Bool.false_eq_true, if_false];rw [hiE];dsimp only;rw [h2];refine yaa (wpAny_holding (zgc hu h3 hc ?_));refine yaa (wpAny_setState_of ho hd hf ?_);dsimp only
    by_cases q : ks[i] = k
    ·rw [ya9 q];simp only [Bool.and_self, if_true];exact yab (yes (q ▸ List.getElem_mem hik))
    ·rw [ya8 q];simp only [Bool.and_false, Bool.false_eq_true, if_false];have hsm : tb.sameMemory tb.moves tb.mask = some true := by unfold SetTable.sameMemory; simp
     rw [hsm];dsimp only;rw [if_pos rfl, zbl T.ris a3];dsimp only;rw [hiE];dsimp only;rw [h2];refine yaa (wpAny_isSame_ref_self ?_);refine yaa (yab ?_);simp only [if_true];refine ih (M - (n1 + 1)) ω (n1 + 1) fuel _ ω ω rfl fun i' q' hq' hp' => ?_
     by_cases c1 : q' < n
     ·exact hno i' q' c1 hp'
     ·by_cases c2 : q' < n1
      ·intro z;have hi'k : i' < ks.length := (yag.mp z).1;have hi'e : i' < es.toList.length := by rw [<- hE.1]; exact hi'k
       obtain ⟨g1, _⟩ := hE.2 i' _ k (yal hi'e) z;exact a6 q' i' ω c2 hp' ((hst2 i' _ (by rw [<- Array.getElem?_toList]; exact yal hi'e)).trans g1)
      ·have : q' = n1 := by omega
       subst this;have := zbl T.ris a3;rw [zbl T.ris hp'] at this;cases this;intro z;rw [yal hik] at z;exact q (Option.some.inj z)
   ·rw [if_neg hled];rw [hiE];dsimp only;rw [h2];refine yaa (wpAny_holding (zgc hu h3 hc ?_));refine yaa (wpAny_setState_of ho hd hf ?_);dsimp only
    by_cases q : ks[i] = k
    ·rw [ya9 q];simp only [Bool.and_self, if_true];exact yab (yes (q ▸ List.getElem_mem hik))
    ·rw [ya8 q];simp only [Bool.and_false, Bool.false_eq_true, if_false];have hsm : tb.sameMemory tb.moves tb.mask = some true := by unfold SetTable.sameMemory; simp
     rw [hsm];dsimp only;rw [if_pos rfl, zbl T.ris a3];dsimp only;rw [hiE];dsimp only;rw [h2];refine yaa (wpAny_isSame_ref_self ?_);refine yaa (yab ?_);simp only [if_true];refine ih (M - (n1 + 1)) ω (n1 + 1) fuel _ ω ω rfl fun i' q' hq' hp' => ?_
     by_cases c1 : q' < n
     ·exact hno i' q' c1 hp'
     ·by_cases c2 : q' < n1
      ·intro z;have hi'k : i' < ks.length := (yag.mp z).1;have hi'e : i' < es.toList.length := by rw [<- hE.1]; exact hi'k
       obtain ⟨g1, _⟩ := hE.2 i' _ k (yal hi'e) z;exact a6 q' i' ω c2 hp' ((hst2 i' _ (by rw [<- Array.getElem?_toList]; exact yal hi'e)).trans g1)
      ·have : q' = n1 := by omega
       subst this;have := zbl T.ris a3;rw [zbl T.ris hp'] at this;cases this;intro z;rw [yal hik] at z;exact q (Option.some.inj z)
end
end L2
namespace L2
open PySem PySem.Spec PyProof.Rows PySem.SeqAt
def entF (prog : Program) (w : World) (f : Rw × Addr) : Int × Value := (factHash prog w f.1, .ref f.2)
def SetG (prog : Program) (w : World) (h : Heap) (a : Addr) (fs : List (Rw × Addr)) : Prop :=
 ∃ o es ep tb, h.get? a = some o /\ o.ExactSet /\ o.data = .set es ep tb /\ es.toList = fs.map (entF prog w) /\ (fs.map (·.1)).Nodup /\ TabOk tb (es.toList.map (·.1)) /\ tb.place.size * 5 < tb.mask * 3 /\ tb.led = !zbS w /\ (fs ≠ [] -> tb.plain = false)
def FsAt (h : Heap) (fs : List (Rw × Addr)) : Prop := ∀ f ∈ fs, FactAt h f.1 f.2
def SetF (prog : Program) (w : World) (h : Heap) (a : Addr) (fs : List (Rw × Addr)) : Prop := SetG prog w h a fs /\ FsAt h fs
theorem zn3 {prog : Program} {w : World} {h : Heap} {es : List (Int × Value)} {fs : List (Rw × Addr)} (e : es = fs.map (entF prog w)) (hF : FsAt h fs) : ElF prog w h es (fs.map (·.1)) := by
 subst e;refine ⟨ς, fun i e k h1 h2 => ?_⟩;rw [yav] at h1 h2;obtain ⟨f, ef, rfl⟩ := Option.map_eq_some_iff.mp h1;rw [ef] at h2;cases h2;exact ⟨rfl, f.2, rfl, hF f (ya1 ef)⟩
theorem FactAt.keep {h h' : Heap} {k : Rw} {b : Addr} (x : FactAt h k b) (hk : ∀ b o, h.get? b = some o -> (∀ es ep t, o.data ≠ .set es ep t) -> h'.get? b = some o) : FactAt h' k b := by
 obtain ⟨t, c, ys, ⟨o, p1, p2, n, p3⟩, ⟨o', q1, q2, n', q3⟩, r⟩ := x;exact ⟨t, c, ys, ⟨o, hk _ _ p1 (fun _ _ _ z => by rw [p3] at z; cases z), p2, n, p3⟩, ⟨o', hk _ _ q1 (fun _ _ _ z => by rw [q3] at z; cases z), q2, n', q3⟩, r⟩
theorem FactAt.up {h h' : Heap} {k : Rw} {b : Addr} (x : FactAt h k b) (hk : ∀ b o, h.get? b = some o -> h'.get? b = some o) : FactAt h' k b := x.keep fun b o e _ => hk b o e
theorem FactAt.but {h h' : Heap} {k : Rw} {a b : Addr} {o : Obj} {es : Array (Int × Value)} {ep : Nat} {tb : SetTable} (x : FactAt h k b) (ho : h.get? a = some o) (hd : o.data = .set es ep tb) (hs : Heap.SameBut a h h') : FactAt h' k b := x.keep fun b u e hn => by
 have : b ≠ a := by
  rintro rfl
  rw [ho] at e;cases e;exact hn _ _ _ hd
 exact (hs.2 b this).trans e
theorem SetG.at {prog : Program} {w : World} {h h' : Heap} {a : Addr} {fs : List (Rw × Addr)} (s : SetG prog w h a fs) (k : ∀ o, h.get? a = some o -> h'.get? a = some o) : SetG prog w h' a fs := by
 obtain ⟨o, es, ep, tb, ho, r⟩ := s;exact ⟨o, es, ep, tb, k o ho, r⟩
theorem zge {t : SetTable} {hs : List Int} {n : Nat} (T : TabOk t hs) (hn : hs.length = n) (hm : t.place.size <= t.mask) : t.fits n = true := by
 unfold SetTable.fits SetTable.fill;have h1 : t.place.size = n := by have := T.len; rw [hn] at this; simpa using this
 have h2 : t.dummies.size = 0 := by rw [T.dum]; rfl
 simp only [Bool.and_eq_true, beq_iff_eq, decide_eq_true_eq];omega
section
variable {prog : Program} {w : World} {A : Around} {E : ZQ} {s : Shared}
theorem zgf {k : Rw} {a : Addr} {Q : Bool -> Shared -> Prop} (hk : FactAt s.heap k a) (h : Q false s) : wpAny (model prog w) A (hashByValue 8 (.ref a)) Q E s := by
 obtain ⟨t, c, ys, ⟨o, ho, hc, n, hd⟩, q, r⟩ := hk;have hT : s.TypeIs (.ref a) "tuple" := ⟨o, ho, hc⟩
 unfold hashByValue;refine yaa (wpAny_specialOf hT F.slot_tuple_hash.lookup ?_);dsimp only;refine yaa (wpAny_seqItems ho hd ?_);refine yaa ?_;show wpAny _ _ (forIn #[Value.str k.1 t, Value.ref c] _ _) _ _ s;rw [<- Array.forIn_toList];simp only [List.forIn_cons];refine yaa (yaa ?_);rw [show hashByValue 7 (Value.str k.1 t) = pure false from rfl];refine yab ?_;simp only [Bool.not_false, if_true];exact yab (yab (yab h))
theorem ziY {h : Heap} {a : Addr} {o : Obj} {es : Array (Int × Value)} {ep : Nat} {t : SetTable} (ho : h.get? a = some o) (hd : o.data = .set es ep t) (es' : Array (Int × Value)) (t' : SetTable) :
  (h.update a (Obj.putSet es' t')).get? a = some { o with data := .set es' (ep + 1) t' } := by
 have := Heap.get?_update_self (Obj.putSet es' t') ho (by rw [putSet_of es' t' hd]; rfl);rw [putSet_of es' t' hd] at this; exact this
theorem zn4 : SetTable.sizeAbove (SetTable.grown 5) = 32 := by decide
theorem zlA : SetTable.sizeAbove (SetTable.grown 19) = 128 := by decide
theorem ziZ {a : Addr} {o : Obj} {es : Array (Int × Value)} {ep : Nat} {tb : SetTable} {fs : List (Rw × Addr)} {wanted : Nat} (ho : s.heap.get? a = some o) (hx : o.ExactSet) (hd : o.data = .set es ep tb) (hE : es.toList = fs.map (entF prog w)) (hF : FsAt s.heap fs) (nd : (fs.map (·.1)).Nodup)
  (T : TabOk tb (es.toList.map (·.1))) (hf : tb.fits es.size = true) (hl : tb.led = !zbS w) (hp : tb.plain = false)
  (hm : Msk (SetTable.sizeAbove wanted - 1)) (hn : es.size * 5 < (SetTable.sizeAbove wanted - 1) * 3) (h60 : es.size <= 60) {Q : Unit -> Shared -> Prop}
  (q : ∀ hp fs', Heap.SameBut a s.heap hp -> List.Perm fs' fs -> SetF prog w hp a fs' -> Q () { s with heap := hp }) : wpAny (model prog w) A (setRelay a wanted) Q E s := by
 have hm' : SetTable.sizeAbove wanted - 1 = 7 \/ SetTable.sizeAbove wanted - 1 = 31 \/ SetTable.sizeAbove wanted - 1 = 127 := hm;have hsz : (es.map (·.1)).size = es.size := by simp
 obtain ⟨t', order, e1, e2, e3, e4, e5, e6, e7⟩ := ziX (t := tb) (hs := es.map (·.1)) (wanted := wanted) hm ω;unfold setRelay;refine yaa (wpAny_setState_of ho hd hf ?_);dsimp only;rw [if_neg (by rw [sizeLine_eq]; omega)];rw [e1];have hkl : fs.length = es.size := by have := congrArg List.length hE; simpa using this.symm
 have hol : ∀ c ∈ order.toList, c < es.size := fun c hc => by have := List.mem_range.mp (e2.mem_iff.mp hc); omega
 let f : Nat -> Rw × Addr := fun c => fs.getD c ((Str.empty, []), 0)
 have get : ∀ c, c < es.size -> es.toList[c]? = some (entF prog w (f c)) := fun c hc => by
  have hf : fs[c]? = some (f c) := by
   show _ = some (fs.getD c _);rw [List.getD_eq_getElem?_getD, yal ω, Option.getD_some]
  rw [hE, yav, hf, Option.map_some]
 have hes : (order.filterMap (es[·]?)).toList = (order.toList.map f).map (entF prog w) := by
  rw [Array.toList_filterMap];have key : ∀ l : List Nat, (∀ c ∈ l, c < es.size) -> l.filterMap (es[·]?) = (l.map f).map (entF prog w) := by
   intro l
   induction l with
   | nil => intro _; rfl
   | cons c l ih =>
    intro hl;have : es[c]? = some (entF prog w (f c)) := by rw [<- Array.getElem?_toList]; exact get c (hl c ς)
    rw [List.filterMap_cons_some this, List.map_cons, List.map_cons, ih fun d hd => hl d (List.mem_cons_of_mem _ hd)]
  exact key _ hol
 have hes2 : (order.filterMap (es[·]?)).size = es.size := by
  rw [<- Array.length_toList, hes, yaf, yaf, e2.length_eq, List.length_range, hsz]
 refine yaa (wpAny_of_eq (a := (order.filterMap (es[·]?), t')) ?_ ?_)
 ·show (if ((order.filterMap (es[·]?)).size != es.size) = true then _ else _) = _;rw [if_neg (by simp [hes2])]
 dsimp only;refine wpAny_storeSet_of ho hd ?_ (by rw [hes2, sizeLine_eq]; omega);have sb := Heap.SameBut.update s.heap a (Obj.putSet (order.filterMap (es[·]?)) t');have pk : (order.toList.map f).Perm fs := by
  have : (List.range fs.length).map f = fs := by
   refine List.ext_getElem ς fun i h1 h2 => ?_;simp only [List.getElem_map, List.getElem_range];show fs.getD i _ = _;rw [List.getD_eq_getElem?_getD, yal h2]; rfl
  have p := e2.map f;rw [hsz, <- hkl, this] at p;exact p
 refine q _ (order.toList.map f) sb pk ⟨⟨_, _, ep + 1, t', ziY ho hd _ _, hx, rfl, hes, (pk.map (·.1)).nodup_iff.mpr nd, ?_, ?_, e5.trans hl, fun _ => e6.trans hp⟩, fun z hz => (hF z (pk.mem_iff.mp hz)).but ho hd sb⟩
 ·have : (order.filterMap (es[·]?)).toList.map (·.1) = order.toList.map fun c => (es.map (·.1)).toList.getD c 0 := by
   rw [hes, List.map_map, List.map_map];refine List.map_congr_left fun c hc => ?_;rw [List.getD_eq_getElem?_getD, Array.toList_map, yav, get c (hol c hc), Option.map_some, Option.getD_some, Function.comp_apply, Function.comp_apply]
  rw [this];exact e3
 ·rw [e7, e4, hsz];exact hn
theorem zfw {a c : Addr} {fs : List (Rw × Addr)} {k : Rw} {Q : Bool -> Shared -> Prop} (hu : A.units + 1 < cLine) (hS : SetF prog w s.heap a fs) (hroom : fs.length < 60) (hc : FactAt s.heap k c)
  (yes : k ∈ fs.map (·.1) -> Q false s) (no : k ∉ fs.map (·.1) -> ∀ hp fs', Heap.SameBut a s.heap hp -> List.Perm fs' (fs ++ [(k, c)]) -> SetF prog w hp a fs' -> Q true { s with heap := hp }) :
  wpAny (model prog w) A (setAddHashed a (.ref c) (factHash prog w k)) Q E s := by
 obtain ⟨⟨o, es, ep, tb, ho, hex, hd, hE, nd, T, few, hl, hpl⟩, hF⟩ := hS;have hkl : fs.length = es.size := by have := congrArg List.length hE; simpa using this.symm
 have hps : tb.place.size = es.size := by have := T.len; simpa using this
 have hf : tb.fits es.size = true := zge T ς ω;obtain ⟨M, hM0, hM, hMo⟩ := zhz T.msk (l := tb.place.toList) (by rw [Array.length_toList]; omega) (factHash prog w k);have hturn : 10 * SetTable.turns tb.mask <= 1420 := by
  unfold SetTable.turns;rcases T.msk with h | h | h <;> omega
 unfold setAddHashed setAddHashedIn;refine wpAny_holding (yaa (wpAny_setState_of ho hd hf ?_));dsimp only;have hscan : byScan (.ref c) es = false := by unfold byScan; simp [Value.scannable]
 rw [hscan];simp only [Bool.false_eq_true, if_false];unfold setSearch;refine yaa (zgd hu ho hd T hf (zn3 hE hF) hc hM0 hM hMo (fun hk => ?_) (fun hk => ?_) M 0 100000 none ω ω rfl fun i q hq => absurd hq (Nat.not_lt_zero _))
 ·exact yab (yes hk)
 ·dsimp only;refine yaa (wpAny_setState_of ho hd hf ?_);dsimp only;obtain ⟨T1, m1, l1, p1, mv1, sz1⟩ := T.put (zkM tb.mask (factHash prog w k) M) hM ⟨M, rfl, hMo⟩;have hp2 : (tb.put (pth tb.mask (factHash prog w k) M)).2 <= es.size := by
   have := (zcI T.ris (pth tb.mask (factHash prog w k) M)).1;show SetTable.below tb.place _ <= _;omega
  generalize (tb.put (pth tb.mask (factHash prog w k) M)).1 = t1 at *;generalize (tb.put (pth tb.mask (factHash prog w k) M)).2 = p at *;have e1 : (SetTable.insertAt es p (factHash prog w k, Value.ref c)).toList = (fs.take p ++ (k, c) :: fs.drop p).map (entF prog w) := by
   rw [SetTable.toList_insertAt, hE, ya0, List.map_cons, List.map_take, List.map_drop]
   rfl
  have e2 : (SetTable.insertAt es p (factHash prog w k, Value.ref c)).toList.map (·.1) = (es.toList.map (·.1)).take p ++ factHash prog w k :: (es.toList.map (·.1)).drop p := by
   rw [SetTable.toList_insertAt, ya0, List.map_cons, List.map_take, List.map_drop]
  have es1 : (SetTable.insertAt es p (factHash prog w k, Value.ref c)).size = es.size + 1 := by
   rw [<- Array.length_toList, SetTable.toList_insertAt];simp only [List.length_append, List.length_cons, List.length_take, List.length_drop, Array.length_toList];omega
  generalize SetTable.insertAt es p (factHash prog w k, Value.ref c) = es' at *;have pk : List.Perm (fs.take p ++ (k, c) :: fs.drop p) (fs ++ [(k, c)]) := by
   refine List.perm_middle.trans ?_;rw [List.take_append_drop];exact (List.perm_append_singleton (k, c) fs).symm
  have nd1 : ((fs.take p ++ (k, c) :: fs.drop p).map (·.1)).Nodup := (pk.map (·.1)).nodup_iff.mpr (by
   rw [ya0];exact List.nodup_append.mpr ⟨nd,ς, fun y hy z hz => by
    have : z = k := by simpa using hz
    subst this;exact fun e => hk (e ▸ hy)⟩)
  have hF1 : ∀ h' : Heap, (∀ k b, FactAt s.heap k b -> FactAt h' k b) -> FsAt h' (fs.take p ++ (k, c) :: fs.drop p) := fun h' hup z hz => by
   rcases yay.mp (pk.mem_iff.mp hz) with hz | hz
   ·exact hup _ _ (hF z hz)
   ·rw [yah.mp hz];exact hup _ _ hc
  have go : ∀ t2 : SetTable, TabOk t2 (es'.toList.map (·.1)) -> t2.mask = tb.mask -> t2.led = tb.led -> t2.plain = false -> t2.place.size = tb.place.size + 1 -> wpAny (model prog w) A (do
    storeSet a es' t2
    if (!false && t2.tooFull) = true then do
      setRelay a (SetTable.grown (es.size + 1))
      pure true
     else pure true) Q E s := fun t2 T2 m2 l2 g2 z2 => by
   refine yaa (wpAny_storeSet_of ho hd ?_ (by rw [es1, sizeLine_eq]; omega));have o1 := ziY ho hd es' t2;have sb1 := Heap.SameBut.update s.heap a (Obj.putSet es' t2);have up1 : ∀ k b, FactAt s.heap k b -> FactAt (s.heap.update a (Obj.putSet es' t2)) k b := fun k b x => x.but ho hd sb1;have f2 : t2.fits es'.size = true := zge T2 ς ω
   by_cases full : t2.tooFull = true
   ·rw [if_pos (by simp [full])];have hfull : t2.place.size * 5 ≥ t2.mask * 3 := by
     unfold SetTable.tooFull SetTable.fill at full;have := T2.dum;rw [this] at full;simpa using full
    have wm : Msk (SetTable.sizeAbove (SetTable.grown (es.size + 1)) - 1) /\ (es.size + 1) * 5 < (SetTable.sizeAbove (SetTable.grown (es.size + 1)) - 1) * 3 := by
     rcases T.msk with h | h | h
     ·have : es.size + 1 = 5 := by omega
      rw [this, zn4];exact ⟨.inr (.inl rfl),δ⟩
     ·have : es.size + 1 = 19 := by omega
      rw [this, zlA];exact ⟨.inr (.inr rfl),δ⟩
     ·omega
    refine yaa (ziZ (s := { s with heap := s.heap.update a (Obj.putSet es' t2) }) o1 hex rfl e1 (hF1 _ up1) nd1 T2 f2 (l2.trans hl) g2 wm.1 (by rw [es1]; exact wm.2) ω fun hp fs' sb2 pk2 S2 => yab ?_);exact no hk hp fs' (sb1.trans sb2) (pk2.trans pk) S2
   ·rw [if_neg (by simp [full])];refine yab (no hk _ _ sb1 pk ⟨⟨_, es', ep + 1, t2, o1, hex, rfl, e1, nd1, T2, ?_, l2.trans hl, fun _ => g2⟩, hF1 _ up1⟩);unfold SetTable.tooFull SetTable.fill at full;have := T2.dum;rw [this] at full;simp at full;omega
  rw [<- e2] at T1
  split
  ·refine yaa (zgf hc ?_);simp only [Bool.false_eq_true, if_false];exact go { t1 with plain := false } ⟨T1.len, T1.dum, T1.ris, T1.le, T1.msk, T1.ok⟩ m1 l1 rfl sz1
  ·rename_i hq
   refine yaa (yab ?_);simp only [if_true];exact go t1 T1 m1 l1 (by simpa using hq) sz1
end
end L2
namespace L2
open PySem PySem.Spec PyProof.Rows PySem.SeqAt
theorem zja {prog : Program} {w : World} {hp : Heap} {a : Addr} (e : hp.get? a = some (za6 w)) : SetF prog w hp a [] :=
 ⟨⟨_, #[], 0, _, e, ⟨rfl, rfl, rfl⟩, rfl, rfl, List.nodup_nil, ⟨rfl, rfl, List.Pairwise.nil, fun j hj => by simp [SetTable.fresh] at hj, .inl rfl, fun j h hj => by simp [SetTable.fresh] at hj⟩, (show 0 * 5 < 7 * 3 by decide), rfl, fun z => absurd rfl z⟩, fun f hf => by simp at hf⟩
section
variable {prog : Program} {w : World} {A : Around} {R : Result -> Shared -> Prop} {I : Addr} {fp wr : List Addr} {G : Array GenState -> Array GenState -> Prop} {n : Nat} {P : Nat -> Value -> Prop} {St : Nat -> Shared -> Prop}
theorem zjb (W : WalksS prog w A.in1 I fp wr G n P St) {S : Addr} (hSf : S ∉ fp) (h0 : Heap) (hS0 : h0.get? S = none) (hw0 : ∀ b ∈ wr, h0.get? b = none) (hu : A.in1.units + 1 < cLine)
  (val : Nat -> Rw) (adr : Nat -> Addr) (hfa : ∀ j, j < n -> FactAt h0 (val j) (adr j)) (hval : ∀ i v, P i v -> v = .ref (adr i)) (hb : n < 60) :
  ∀ (k i : Nat) (s : Shared) (fs : List (Rw × Addr)), n - i = k -> i <= n -> St i s -> (∀ b o, h0.get? b = some o -> s.heap.get? b = some o) -> SetG prog w s.heap S fs -> fs.length <= i -> (∀ x, x ∈ fs.map (·.1) ↔ ∃ j, j < i /\ val j = x) -> (∀ f ∈ fs, ∃ j, j < i /\ f = (val j, adr j)) ->
   (∀ s' fs', Moved (S :: wr) G s s' -> SetG prog w s'.heap S fs' -> fs'.length <= n -> (∀ x, x ∈ fs'.map (·.1) ↔ ∃ j, j < n /\ val j = x) -> (∀ f ∈ fs', ∃ j, j < n /\ f = (val j, adr j)) -> R (.ok (.ret .none)) s') ->
   codeAny (model prog w) A (.builtin "set.update.loop" ⟨[.ref S, .ref I], []⟩) R s := by
 have hSw : S ∉ wr := fun q => hSf (W.sub _ q);have sub : ∀ b ∈ wr, b ∈ S :: wr := fun b q => List.mem_cons_of_mem _ q;have keepM : ∀ {s s' : Shared}, Moved wr G s s' -> (∀ b o, h0.get? b = some o -> s.heap.get? b = some o) -> ∀ b o, h0.get? b = some o -> s'.heap.get? b = some o := fun hm hk b o e => hm.heap b o (fun q => by rw [hw0 b q] at e; cases e) (hk b o e);intro k
 induction k with
 | zero =>
  intro i s fs hk hi st hk0 hS Qe hmem hadr hR;obtain rfl : i = n := by omega
  apply codeAny_builtin PyProof.Rows.F.entry_set_update_loop;rw [Around.under_plainId PyProof.Rows.F.plain_set_update_loop _];show wpAny _ A.in1 (pyNext (.ref I) >>= _) _ _ s;apply yaa;refine W.done s _ _ st fun s' hm => ?_;show wpAny _ A.in1 (ret Value.none) _ _ s';exact yab (hR s' fs (hm.mono sub) (hS.at fun o ho => hm.heap S o hSw ho) Qe hmem hadr)
 | succ k ih =>
  intro i s fs hk hi st hk0 hS Qe hmem hadr hR;have hlt : i < n := by omega
  apply codeAny_builtin PyProof.Rows.F.entry_set_update_loop;rw [Around.under_plainId PyProof.Rows.F.plain_set_update_loop _];show wpAny _ A.in1 (pyNext (.ref I) >>= _) _ _ s;apply yaa;refine W.item i s _ _ hlt st fun v s' hP st' hm => ?_;obtain rfl := hval i v hP;have hk1 := keepM hm hk0;have hS' : SetF prog w s'.heap S fs := ⟨hS.at fun o ho => hm.heap S o hSw ho, fun f hf => by
   obtain ⟨j, hj, rfl⟩ := hadr f hf;exact (hfa j ω).up hk1⟩
  show wpAny _ A.in1 (holding [Value.ref (adr i)] (setAdd S (.ref (adr i))) >>= _) _ _ s';apply yaa; apply wpAny_holding;unfold setAdd;apply wpAny_holding; apply yaa;refine zfu hu ((hfa i hlt).up hk1) ?_;have step : ∀ (hp : Heap) (fs' : List (Rw × Addr)), Heap.SameBut S s'.heap hp -> SetG prog w hp S fs' -> fs'.length <= i + 1 -> (∀ x, x ∈ fs'.map (·.1) ↔ ∃ j, j < i + 1 /\ val j = x) -> (∀ f ∈ fs', ∃ j, j < i + 1 /\ f = (val j, adr j)) ->
    wpAny (model prog w) A.in1 (again (.builtin "set.update.loop" ⟨[.ref S, .ref I], []⟩)) (fun fin s₂ => match fin with | .done f => R (.ok f) s₂ | .again c => c.quiet = true /\ codeAny (model prog w) A c R s₂) (fun e s₂ => R (.error e) s₂) { s' with heap := hp, toks := s'.toks + ((val i).2.length + 3) } := fun hp fs' sb S2 l2 m2 d2 => by
   refine yab ⟨plainId_quiet PyProof.Rows.F.plain_set_update_loop _, ih (i + 1) _ fs' ω hlt (W.frame _ s' _ _ st' (Nat.le_add_right _ _) fun b q o e => ?_) (fun b o e => ?_) S2 l2 m2 d2 fun s'' fs2 hm2 S3 l3 m3 d3 => ?_⟩
   ·exact (sb.2 b fun z : b = S => hSf (z ▸ q)).trans e
   ·exact (sb.2 b fun z : b = S => by rw [z, hS0] at e; cases e).trans (hk1 b o e)
   ·exact hR s'' fs2 (Moved.trans W.gtrans ((hm.mono sub).then_heap (Nat.le_add_right _ _) fun b o q e => (sb.2 b fun z : b = S => q (z ▸ List.mem_cons_self)).trans e) hm2) S3 l3 m3 d3
  refine zfw (s := { s' with toks := s'.toks + ((val i).2.length + 3) }) hu hS' ω ((hfa i hlt).up hk1) (fun hx => ?_) fun hx hp fs' sb pu S2 => ?_
  ·refine step s'.heap fs (Heap.SameBut.refl S s'.heap) hS'.1 ω (fun x => ?_) fun f hf => ?_
   ·rw [hmem]
    constructor
    ·rintro ⟨j, hj, e⟩; exact ⟨j,ω, e⟩
    ·rintro ⟨j, hj, e⟩
     by_cases q : j = i
     ·subst q; exact (hmem x).mp (e ▸ hx)
     ·exact ⟨j,ω, e⟩
   ·obtain ⟨j, hj, e⟩ := hadr f hf;exact ⟨j,ω, e⟩
  ·refine step hp fs' sb S2.1 (by rw [pu.length_eq, yae]; simp; omega) (fun x => ?_) fun f hf => ?_
   ·rw [(pu.map (·.1)).mem_iff, ya0, yay, hmem, List.map_singleton, yah]
    constructor
    ·rintro (⟨j, hj, e⟩ | rfl)
     ·exact ⟨j,ω, e⟩
     ·exact ⟨i,ω, rfl⟩
    ·rintro ⟨j, hj, e⟩
     by_cases q : j = i
     ·subst q; exact .inr e.symm
     ·exact .inl ⟨j,ω, e⟩
   ·rcases yay.mp (pu.mem_iff.mp hf) with h | h
    ·obtain ⟨j, hj, e⟩ := hadr f h;exact ⟨j,ω, e⟩
    ·exact ⟨i,ω, yah.mp h⟩
end
section
variable {prog : Program} {w : World} {A : Around} {E : ZQ} {s : Shared}
def zgP (prog : Program) (w : World) (s : Shared) (n : Nat) (val : Nat -> Rw) (adr : Nat -> Addr) (s' : Shared) : Prop :=
 ∃ hp tk fs, s' = { s with heap := hp, toks := tk } /\ SetG prog w hp s.heap.objs.size fs /\ fs.length <= n /\ (∀ x, x ∈ fs.map (·.1) ↔ ∃ j, j < n /\ val j = x) /\ (∀ f ∈ fs, ∃ j, j < n /\ f = (val j, adr j)) /\ ∀ b o, b < s.heap.objs.size -> s.heap.get? b = some o -> hp.get? b = some o
set_option maxHeartbeats 8000000 in
theorem zdL {l : Addr} {items : Array Value} {val : Nat -> Rw} {adr : Nat -> Addr} {Q : ZQ} (hh : A.handled = none) (hu : A.in1.in1.in1.units + 1 < cLine) (hl : s.heap.IsList l items) (hi : ∀ (i : Nat) v, items[i]? = some v -> v = .ref (adr i)) (hfa : ∀ j, j < items.size -> FactAt s.heap (val j) (adr j)) (hb : items.size < 60)
  (h : ∀ s', zgP prog w s items.size val adr s' -> Q (.ref s.heap.objs.size) s') : wpAny (model prog w) A (call (.type "set") [.ref l]) Q E s := by
 obtain ⟨c, tl, hmro⟩ := PySem.F.called_set.mro;have made := PySem.F.called_set.made;have sub := PySem.F.called_set.sub;apply wpAny_call; apply codeAny_of_tree;show wpAny _ _ (callAny (.type "set") _) _ _ _;apply yab; refine ⟨Code.quiet_builtin _ (by decide +kernel), codeAny_builtin PySem.F.entry_type_call ?_⟩;rw [show A.under (.builtin "type.__call__" ⟨.type "set" :: [.ref l], []⟩) = A.in1 from Around.under_plain (weight_type_call_type "set" [.ref l] []) rfl];have q1 := PySem.F.called_set.notType;have q2 := PySem.F.called_set.canCreate;have q3 := PySem.F.typeCall_set_1 (.ref l)
 repeat (any_goals (first | assumption | wp_step))
 refine codeAny_mono (zds (.ref l) (E := E) (Q := fun obj s₁ => obj = .ref s.heap.objs.size /\ s₁ = { s with heap := s.heap.push (za6 w) }) ⟨rfl, rfl⟩) fun r s₁ hr => ?_;cases r with
 | error e => exact hr
 | ok fl =>
  cases fl with
  | ret obj =>
   obtain ⟨rfl, rfl⟩ := hr;have hS : (s.heap.push (za6 w)).get? s.heap.objs.size = some (za6 w) := yaj _ rfl;have hT : Shared.TypeIs { s with heap := s.heap.push (za6 w) } (.ref s.heap.objs.size) "set" := ⟨_, hS, rfl⟩
   have li := PySem.F.called_set.init.lookup;have bi := PySem.F.called_set.init.bind (.ref s.heap.objs.size)
   repeat (any_goals (first | assumption | wp_step))
   refine codeAny_mono (codeAny_call_builtin (R := wants (fun r s₂ => r = .none /\ zgP prog w s items.size val adr s₂) E) PySem.F.called_set.init.plain PySem.F.entry_set_init (check_set_init_1 hT ?_)) fun r₂ s₂ hr₂ => ?_
   ·obtain ⟨⟨oc, od, odt, osl⟩, hol, hcl, nl, hdl⟩ := hl;simp only at hcl hdl;subst hcl; subst hdl;have hol' : (s.heap.push (za6 w)).get? l = some { cls := .type "list", dict := od, data := .seq items nl, slots := osl } := yac _ hol;have z1 := PySem.F.sub_list_set;have z2 := PySem.F.sub_list_frozenset;have z3 : (Value.type "list" == Value.type "dict") = false := by decide
    have isl : (s.heap.push (za6 w)).IsList l items := ⟨_, hol', rfl, nl, rfl⟩
    unfold Builtin.«set.__init__» noKeywords Builtin.Frozenset.updateFrom;generalize hPI : pyIter = PI
    wp_walk
    subst hPI;refine wpAny_pyIter_list isl (yaa (wpAny_runValue ?_));have hlS : l < s.heap.objs.size := yan hol;have a3 : A.in1.in1.in1.handled = none := by simp [hh]
    have sz : (s.heap.push (za6 w)).objs.size = s.heap.objs.size + 1 := Heap.size_push ..;have nI : l ≠ (s.heap.push (za6 w)).objs.size := Nat.ne_of_lt (by rw [sz]; exact Nat.lt_succ_of_lt hlS);have nf : s.heap.objs.size ∉ [(s.heap.push (za6 w)).objs.size, l] := by
     simp only [List.mem_cons, List.not_mem_nil, or_false, not_or];exact ⟨Nat.ne_of_lt (by rw [sz]; exact Nat.lt_succ_self _), Nat.ne_of_gt hlS⟩
    refine zjb ((Walks.list a3 _ l nI items).toS) nf s.heap (Heap.get?_none_of_le (yai _)) (fun b hb' => ?_) hu val adr hfa hi hb (items.size - 0) 0 _ [] ω (yaq _)
     ⟨⟨_, yaj _ rfl, rfl, rfl⟩, isl.push _⟩ (fun b o e => yac _ (yac _ e)) (zja (yac _ hS)).1 (yaq _) (fun x => by simp) (fun f hf => by simp at hf) fun s' fs' hm S' l' m' d' => ?_
    ·rw [yah.mp hb'];exact Heap.get?_none_of_le (by rw [sz]; omega)
    obtain ⟨hp, g', d2, tk', os'⟩ := s';obtain rfl : g' = s.gens := hm.gens;obtain rfl : d2 = s.drawn := hm.drawn;obtain rfl : os' = s.os := hm.os;show wpAny _ _ _ _ _ _;apply yab;show wpAny _ _ (ret Value.none) _ _ _;refine yab ⟨rfl, hp, tk', fs', rfl, S', l', m', d', fun b o hb' e => ?_⟩;refine hm.heap b o ?_ (yac _ (yac _ e));simp only [List.mem_cons, List.not_mem_nil, or_false, not_or];exact ⟨Nat.ne_of_lt hb', Nat.ne_of_lt (by rw [sz]; exact Nat.lt_succ_of_lt hb')⟩
   ·cases r₂ with
    | error e => exact hr₂
    | ok fl₂ =>
     cases fl₂ with
     | ret r =>
      obtain ⟨rfl, hm⟩ := hr₂;obtain ⟨hp, tk, us, rfl, S', r1, r2, r3⟩ := id hm
      repeat (any_goals (first | assumption | wp_step))
      exact h _ hm
     | _ => exact hr₂.elim
  | _ => exact hr.elim
end
open PySem.Builtin PySem.Builtin.Str
section
variable {X : Cx}
def rIs (f : Str -> Bool) : V -> List V -> Hp -> VK -> Prop := fun x vs H Q => ∃ z, x = .str z /\ vs = [] /\ Q (.bl (f z)) H
def rIs2 (f : Str -> Str -> Bool) : V -> List V -> Hp -> VK -> Prop := fun x vs H Q => ∃ z y, x = .str z /\ vs = [.str y] /\ Q (.bl (f z y)) H
def zn5 : V -> List V -> Hp -> VK -> Prop := fun x vs H Q => ∃ z, x = .str z /\ vs = [] /\ z.length <= sizeLine /\ Q (.str (Txt.strip z)) H
def zn6 : V -> List V -> Hp -> VK -> Prop := fun x vs H Q => ∃ z y, x = .str z /\ vs = [.str y] /\ y ≠ Str.empty /\ z.length <= 1000000 /\ ∀ p, H p = none -> Q (.ref p) (upd H p (.lst ((Txt.split z y).map V.str)))
def zkO (z : Str) (n : Nat) : Str := ⟨(List.replicate n z.cps).foldl (· ++ ·) #[]⟩
def zoG : R2 := fun x y H Q => ∃ z n, x = .str z /\ y = .int n /\ n < 1000 /\ -1000 < n /\ z.length <= 1000 /\ Q (.str (zkO z n.toNat)) H
end
section
variable {K : W.Frag} {H : Hp} {Q : VK} {x y : Str} {f : Str -> Bool} {g : Str -> Str -> Bool}
theorem zn7 {n : Int} : zoG (.str x) (.int n) H Q = (n < 1000 /\ -1000 < n /\ x.length <= 1000 /\ Q (.str (zkO x n.toNat)) H) := propext ⟨fun ⟨_, _, e, e', h⟩ => by cases e; cases e'; exact h, fun h => ⟨x, n, rfl, rfl, h⟩⟩
theorem w_is : rIs f (.str x) [] H Q = Q (.bl (f x)) H := propext ⟨fun ⟨_, e, _, h⟩ => by cases e; exact h, fun h => ⟨x, rfl, rfl, h⟩⟩
theorem zoH : rIs2 g (.str x) [.str y] H Q = Q (.bl (g x y)) H := propext ⟨fun ⟨_, _, e, e', h⟩ => by cases e; cases e'; exact h, fun h => ⟨x, y, rfl, rfl, h⟩⟩
theorem zlB : zn5 (.str x) [] H Q = (x.length <= sizeLine /\ Q (.str (Txt.strip x)) H) := propext ⟨fun ⟨_, e, _, h⟩ => by cases e; exact h, fun h => ⟨x, rfl, rfl, h⟩⟩
theorem zlC : zn6 (.str x) [.str y] H Q = (y ≠ Str.empty /\ x.length <= 1000000 /\ ∀ p, H p = none -> Q (.ref p) (upd H p (.lst ((Txt.split x y).map V.str)))) := propext ⟨fun ⟨_, _, e, e', h⟩ => by cases e; cases e'; exact h, fun h => ⟨x, y, rfl, rfl, h⟩⟩
end
structure Fnc (X : Cx) : Prop where
 stk : X.stack = X.env :: X.outer
 fr : X.env.frame = some X.env.locals
 ex : X.ex = []
def xnames : List Str := ["__init__", "__getattribute__", "__getattr__", "__class__"]
inductive zlD (h : Heap) (bmB : List Value) : List Value -> Prop
 | base : zlD h bmB bmB
 | own {A : Addr} {c0 : Value} {dd : Option Addr} {cd : ClassData} {sl : Array (Option Value)} {mA : Str -> Option Value} {tl : List Value} :
   h.get? A = some { cls := c0, dict := dd, data := .cls cd, slots := sl } -> h.Ns cd.ns mA -> (∀ n ∈ xnames, mA n = none) -> zlD h bmB tl -> zlD h bmB (.ref A :: tl)
section
variable {prog : Program} {w : World} {A : Around} {E : ZQ} {h : Heap} {g : Array GenState} {d : Drawn} {t : Nat} {os : OsState} {a : Addr} {o : Obj} {vs : Array Value}
 {nm q : Str} {C N : Addr} {bs bm bmB : List Value} {hdct : Bool} {sn : List Str} {sub : List Value} {ab : Bool} {col : Option Bool} {dd : Option Addr} {k0 k1 k2 k3 k5 : Option Value} {B newId : String} {mN : Str -> Option Value}
structure zph (B : String) (bmB : List Value) : Prop extends ExcAttrBase B bmB where
 lkC : typeLookup (.type B) "__class__" = pure (some (.builtin "object.__class__"))
 hasObj : bmB.contains (.type "object") = true
end
structure zoI (k : Nat) (A : Around) : Prop where
 dp : A.depth + 3 * k + 5 < recursionLimit
 un : A.units + 16 * k + 200 < cLine
structure zpi (P : Program) (w : World) (K : W.Frag) (mg : Str -> Option Value) (base : Heap) (k : Nat) (f : Addr) (fd : FuncData) (ps : List Str) (sp : Sp) : Prop where
 len : ∀ vs H Q E, sp vs H Q E -> vs.length = ps.length
 run : ∀ (A : Around) (outer : List Env) (s : Shared) (H : Hp) (args : Args) (us : List Value) (vs : List V) (Q : VK), zoI k A -> Env0 P w K mg base A outer s H -> BindsTo s fd args (ps.zip us) -> Vals vs us -> sp vs H Q E0 ->
  codeAny (model P w) A (.call (.ref f) args) (CR CX0 outer P w H s Q E0) s
structure CNs (K : W.Frag) (N : Addr) : Prop where
 ok : ∃ oc od es ep sl, K.lookup N = some ⟨oc, od, .dict (List.toArray es) ep, sl⟩ /\ (es.all fun e => match e.key with | .str _ _ => true | _ => false) = true
 n1 : W.nsIn K N "__init__" = some none
 n2 : W.nsIn K N "__getattribute__" = some none
 n3 : W.nsIn K N "__getattr__" = some none
 n4 : W.nsIn K N "__class__" = some none
abbrev TJ := Str -> St -> Hp -> (Str -> Hp -> Prop) -> Prop
section
variable {σ : St} {H : Hp} {Q : VK} {D : Ends} {te : TE} {tr : TJ} {acc y : Str} {i : Int} {R : Str -> Hp -> Prop} {G : Addr -> St -> Hp -> Prop} {sp : Sp} {dvs : List V} {t : TA}
theorem zlE {p : Str -> Prop} : (∃ y', V.str y = V.str y' /\ p y') = p y := propext ⟨fun ⟨_, e, h⟩ => by cases e; exact h, fun h => ⟨y, rfl, h⟩⟩
theorem zlF {p : Str -> Prop} {q : Int -> Prop} : ((∃ y', V.str y = V.str y' /\ p y') \/ ∃ i, V.str y = V.int i /\ q i) = p y := propext ⟨fun h => by rcases h with ⟨_, e, h⟩ | ⟨_, e, _⟩ <;> cases e; exact h, fun h => .inl ⟨y, rfl, h⟩⟩
theorem zlG {p : Str -> Prop} {q : Int -> Prop} : ((∃ y', V.int i = V.str y' /\ p y') \/ ∃ j, V.int i = V.int j /\ q j) = q i := propext ⟨fun h => by rcases h with ⟨_, e, _⟩ | ⟨_, e, h⟩ <;> cases e; exact h, fun h => .inr ⟨i, rfl, h⟩⟩
end
abbrev TM := St -> Hp -> (Hp -> Prop) -> Prop
structure zpj (P : Program) (w : World) (K : W.Frag) (mg : Str -> Option Value) (base : Heap) (CX : CXT) (k : Nat) (f : Addr) (fd : FuncData) (ps : List Str) (sp : Sp) : Prop where
 len : ∀ vs H Q E, sp vs H Q E -> vs.length = ps.length
 run : ∀ (A : Around) (outer : List Env) (s : Shared) (H : Hp) (args : Args) (us : List Value) (vs : List V) (Q : VK) (E : XK), 1 <= s.toks -> Room k A -> Env0 P w K mg base A outer s H -> BindsTo s fd args (ps.zip us) -> Vals vs us -> sp vs H Q E ->
  codeAny (model P w) A (.call (.ref f) args) (CR CX outer P w H s Q E) s
theorem zkj (x : Str) : x.length = x.cps.toList.length := by simp [Str.length]
def sgn (c : Nat) : Prop := c = 40 \/ c = 41 \/ c = 44
instance (c : Nat) : Decidable (sgn c) := by unfold sgn; infer_instance
section
variable {X : Cx}
def rAny (K : W.Frag) : List V -> Hp -> VK -> Prop := fun xs H Q => ∃ (p : Addr) (bs : List Bool), xs = [.ref p] /\ SqL K H p (bs.map V.bl) /\ Q (.bl (bs.any id)) H
theorem zoJ {K : W.Frag} {p : Addr} {H : Hp} {Q : VK} : rAny K [.ref p] H Q = ∃ bs : List Bool, SqL K H p (bs.map V.bl) /\ Q (.bl (bs.any id)) H := by
 refine propext ⟨fun ⟨_, bs, e, h⟩ => ?_, fun ⟨bs, h⟩ => ⟨p, bs, rfl, h⟩⟩;cases e; exact ⟨bs, h⟩
def rSum (K : W.Frag) : List V -> Hp -> VK -> Prop := fun xs H Q => ∃ (p : Addr) (ns : List Int), xs = [.ref p] /\ SqL K H p (ns.map V.int) /\ Q (.int ns.sum) H
theorem zgg : ∀ (ns : List Int), preSum (fun i => ns.getD i 0) ns.length = ns.sum := by
 have gen : ∀ (ns : List Int) (k : Nat), k <= ns.length -> preSum (fun i => ns.getD i 0) k = (ns.take k).sum := by
  intro ns k
  induction k with
  | zero => intro _; rfl
  | succ k ih =>
   intro hk;show preSum (fun i => ns.getD i 0) k + ns.getD k 0 = _;rw [ih ω];have e : ns[k]? = some ns[k] := by simp
   have e2 : List.take (k + 1) ns = List.take k ns ++ [ns[k]] := by rw [List.take_succ, e]; rfl
   rw [e2, List.sum_append];have : ns.getD k 0 = ns[k] := by rw [List.getD_eq_getElem?_getD, e]; rfl
   rw [this];simp
 intro ns;rw [gen ns ns.length (yai _), List.take_length]
theorem zkk (hc : X.calm = true) : zaN X (.builtin "sum") (rSum X.K) := by
 intro Qa s σ H xs us Q I r h;obtain ⟨p, ns, rfl, hq, q⟩ := h;obtain ⟨u, rfl, rx⟩ := zcn r;cases rx;obtain ⟨its, rv, pl, hz⟩ := I.list hq;have Qe : ns.length = its.length := by have := rv.length; simpa using this
 refine call_sum_walkG (wpAny_pyIter_list pl.isList ?_);have hlt : p < s.heap.objs.size := by
  obtain ⟨o, _, e, _⟩ := pl;exact yan e
 refine ⟨s.heap.objs.size, _, _, _, _, _, fun i => ns.getD i 0, rfl, Walks.list (A := X.A.in1) (show X.A.in1.handled = none from I.ok.hd hc) _ p (Nat.ne_of_lt hlt) its.toArray, ⟨⟨_, yaj _ rfl, rfl, rfl⟩, pl.isList.push _⟩, ?_, ?_, fun h' tk t' hk => ?_⟩
 ·intro b hb;show b < (s.heap.push _).objs.size;rw [Heap.size_push];simp at hb;have hlt' : (p : Nat) < s.heap.objs.size := hlt;rcases hb with rfl | rfl
  ·first | exact Nat.lt_succ_self _ | exact Nat.lt_succ_of_lt hlt
  ·first | exact Nat.lt_succ_of_lt hlt | exact Nat.lt_succ_self _
 ·intro i v hP;have hv : its[i]? = some v := by simpa using hP
  have hi : i < ns.length := by rw [Qe]; exact (yag.mp hv).1
  obtain ⟨v', hv', rv'⟩ := rv.get (i := i) (x := V.int ns[i]) (by simp [hi]);rw [hv] at hv'; cases hv';obtain ⟨t, e⟩ := (show ∃ t, v = Value.int ns[i] t from rv')
  exact ⟨t, by rw [e]; simp [hi]⟩
 ·have e : preSum (fun i => ns.getD i 0) its.toArray.size = ns.sum := by
   rw [yad, <- Qe]; exact zgg ns
  rw [e];refine ⟨.int ns.sum, H, ?_, ⟨t', rfl⟩, q⟩;exact I.kept (t' := tk) fun b o e => hk b o (fun z => absurd (yan e) (Nat.not_lt.mpr (Nat.le_of_eq (yah.mp z).symm))) (yac _ e)
theorem zjc (K : W.Frag) (hc : X.calm = true) (hK : X.K = K := by rfl) : zaN X (.builtin "sum") (rSum K) := hK ▸ zkk hc
theorem zoK {K : W.Frag} {p : Addr} {H : Hp} {Q : VK} : rSum K [.ref p] H Q = ∃ ns : List Int, SqL K H p (ns.map V.int) /\ Q (.int ns.sum) H := by
 refine propext ⟨fun ⟨_, bs, e, h⟩ => ?_, fun ⟨bs, h⟩ => ⟨p, bs, rfl, h⟩⟩;cases e; exact ⟨bs, h⟩
end
section
variable {K : W.Frag} {σ : St} {H : Hp} {Q : VK} {D : Ends} {ta tb tc te : TE} {r r' : R2} {i n : Nat} {ti : TIp} {g : TG} {gs : TGs} {v : V} {vs : List V} {R : St -> Hp -> Prop} {f : Int -> Int -> Int} {a b : Int}
theorem zlH : zk9 r r' ta tb tc σ H Q = ta σ H fun x H1 => tb σ H1 fun y H2 => r x y H2 fun z H3 => ∃ k, z = .bl k /\ (if k = true then tc σ H3 fun w' H4 => r' y w' H4 Q else Q (.bl false) H3) := rfl
theorem zoL : ipI f (.int a) (.int b) H Q = Q (.int (f a b)) H := propext ⟨fun ⟨_, _, e, e', h⟩ => by cases e; cases e'; exact h, fun h => ⟨a, b, rfl, rfl, h⟩⟩
theorem zkP {p : Addr} : gTup K n gs (.ref p) σ H R = ∃ xs, SqT K H p xs /\ xs.length = n /\ gs xs σ H R := propext ⟨fun ⟨_, xs, e, h⟩ => by cases e; exact ⟨xs, h⟩, fun ⟨xs, h⟩ => ⟨p, xs, rfl, h⟩⟩
theorem zlI : zhc g gs (v :: vs) σ H R = g v σ H fun σ' H' => gs vs σ' H' R := propext ⟨fun ⟨_, _, e, h⟩ => by cases e; exact h, fun h => ⟨v, vs, rfl, h⟩⟩
theorem zn8 : gNil [] σ H R = R σ H := propext ⟨fun h => h.2, fun h => ⟨rfl, h⟩⟩
end
end L2
namespace HT
open PySem PyProof.Rows
section
variable {prog : Program} {w : World} {A : Around} {E : ZQ} {s : Shared}
theorem getItem_tuple_whole {t sl : Addr} {items : Array Value} {vl vu : Value} {lo hi : Option Int} {Q : ZQ} (ht : IsTup s.heap t items) (hs : s.heap.IsSliceOf sl vl vu .none) (pl : IsPart vl lo) (pu : IsPart vu hi)
  (hw : sIx items.size 0 lo = 0 /\ sIx items.size items.size hi = items.size) (h : Q (.ref t) s) : wpAny (model prog w) A (getItem (.ref t) (.ref sl)) Q E s := by
 obtain ⟨os, hos, hcs, hds⟩ := id hs;have hTs : s.TypeIs (.ref sl) "slice" := ⟨os, hos, hcs⟩
 unfold getItem
 try with_reducible refine wpAny_holding ?_
 first | refine yaa (yab ?_) | skip
 refine yaa (wpAny_sequenceKey ht.typeIs δ ?_);refine yaa (wpAny_callSpecial?_slot (name := Str.ofString "__getitem__") ht.typeIs PyProof.Rows.slot_tuple_getitem
  (wpAny_call_entry PyProof.Rows.slot_tuple_getitem ht.typeIs entry_tuple_getitem ?_ (args_tuple_getitem _ _)))
 show wpAny _ _ (Builtin.Tuple.tupleItemsOf (.ref t) >>= _) _ _ s;refine yaa (tupleItemsOf_ ht ?_);refine yaa (wpAny_typeOf hTs ?_);rw [if_pos δ];refine yaa (zbR hs pl pu ?_);show wpAny _ _ (if (((sIx items.size 0 lo : Nat) : Int) == 0 && (1 : Int) == 1 && (sIx items.size items.size hi - sIx items.size 0 lo) == items.size) = true then _ else _) _ _ s;rw [hw.1, hw.2, if_pos ς];refine yaa (m := Builtin.Tuple.tupleIsExact _) (yaa (wpAny_typeOf ht.typeIs (yab ?_)));rw [if_pos δ];exact yaa (wpAny_rule (yab ⟨_, rfl, yab h⟩))
theorem cat_tup0 {t b : Addr} {vs ws : List Value} {Q : ZQ} (ht : IsTup s.heap t vs.toArray) (hb : IsTup s.heap b ws.toArray) (hv : vs = [])
  (h1 : Q (.ref b) s) : wpAny (model prog w) A (binaryOp .Add (.ref t) (.ref b)) Q E s := by
 obtain ⟨⟨cls, dd, data, sl⟩, ho, hc, n, hd⟩ := id ht;obtain ⟨⟨cls2, dd2, data2, sl2⟩, ho2, hc2, n2, hd2⟩ := id hb;simp only at hc hd hc2 hd2;subst hc hd hc2 hd2;exact concat_meets ⟨_, ho, rfl⟩ ⟨_, ho2, rfl⟩ noFill_tuple_add seq_tuple_add PySem.F.slot_tuple_add PySem.F.entry_tuple_add (PySem.F.args_tuple_add_2 _ _)
   (tuple_addW0 t b vs.toArray ws.toArray n n2 dd dd2 sl sl2 (by simp [hv])) ⟨ho, ho2, h1⟩
end
end HT
namespace L2
open PySem PySem.Spec PyProof.Rows
section
variable {X : Cx}
def zn9 (K : W.Frag) : V -> Option Int -> Option Int -> Hp -> VK -> Prop := fun x lo hi H Q => ∃ a xs, x = .ref a /\ SqT K H a xs /\ ∀ q H', Same H H' -> SqT K H' q (cutV xs lo hi) -> Q (.ref q) H'
theorem zlJ : SlR X (zn9 X.K) := by
 intro Qa s σ H x v vl vu lo hi sl Q I rx hs pl pu h;obtain ⟨a, xs, rfl, hx, q⟩ := h
 by_cases hw : HT.sIx xs.length 0 lo = 0 /\ HT.sIx xs.length xs.length hi = xs.length
 ·cases rx;obtain ⟨its, r, ht, hz⟩ := I.tuple hx;have Qe : its.toArray.size = xs.length := by rw [yad]; exact r.length.symm
  refine ⟨"tuple", _, PyProof.Rows.slot_tuple_getitem.lookup, ht.typeIs, ?_⟩;refine HT.getItem_tuple_whole ht hs pl pu (by rw [Qe]; exact hw) ⟨.ref a, H, I, rfl, q a H (Same.refl H) ?_⟩;have e : cutV xs lo hi = xs := by unfold cutV; rw [hw.1, hw.2]; simp
  rw [e]; exact hx
 ·exact zm8 Qa s σ H _ v vl vu lo hi sl Q I rx hs pl pu ⟨a, xs, rfl, hx, hw, fun p hp => q p _ (zab hp _) (SqT.of zac)⟩
def rSlB (K : W.Frag) : V -> Option Int -> Option Int -> Hp -> VK -> Prop := fun x lo hi H Q => rSlS x lo hi H Q \/ (rSlL K x lo hi H Q \/ zn9 K x lo hi H Q)
theorem slB (K : W.Frag) (hK : X.K = K := by rfl) : SlR X (rSlB K) := hK ▸ (SlR.or zmF (SlR.or zll zlJ) : SlR X (rSlB X.K))
def zkQ (K : W.Frag) : R2 := fun x y H Q => ∃ a b xs ys, x = .ref a /\ y = .ref b /\ SqT K H a xs /\ SqT K H b ys /\ xs.length + ys.length <= sizeLine /\ ∀ q H', Same H H' -> SqT K H' q (xs ++ ys) -> Q (.ref q) H'
theorem zkl : OpR X (binaryOp .Add) (zkQ X.K) := by
 intro Qa s σ H x y v u Q I rx ry h;obtain ⟨a, b, xs, ys, rfl, rfl, ha, hb, hz, q⟩ := h
 by_cases hx : xs = []
 ·subst hx;cases rx; cases ry;obtain ⟨its, r1, p1, _⟩ := I.tuple ha;obtain ⟨its2, r2, p2, _⟩ := I.tuple hb;exact HT.cat_tup0 p1 p2 (r1.nil_iff.mpr rfl) ⟨.ref b, H, I, rfl, q b H (Same.refl H) hb⟩
 ·exact zli Qa s σ H _ _ v u Q I rx ry ⟨a, b, xs, ys, rfl, rfl, ha, hb, hx, hz, fun e => q a H (Same.refl H) (by subst e; rw [List.append_nil]; exact ha), fun _ p hp => q p _ (zab hp _) (SqT.of zac)⟩
def zgh (K : W.Frag) : R2 := fun x y H Q => rI0 (fun i j => .int (i + j)) x y H Q \/ (zmI x y H Q \/ (rCat x y H Q \/ zkQ K x y H Q))
theorem za9 (K : W.Frag) (hK : X.K = K := by rfl) : OpR X (binaryOp .Add) (zgh K) := hK ▸ (OpR.or zm2 (OpR.or zhg (OpR.or zmD zkl)) : OpR X (binaryOp .Add) (zgh X.K))
end
section
variable {K : W.Frag} {σ : St} {H : Hp} {Q : VK} {D : Ends} {p q : Addr} {x y : Str} {i j : Int} {lo hi : Option Int} {a b : Bool} {tc : TT} {tb : TS} {ta : TA} {te : TE} {R : It -> Hp -> Prop}
theorem znA : rSlB K (.str x) lo hi H Q = (x.length <= sizeLine /\ Q (.str (Txt.slice x lo hi)) H) := by
 refine propext ⟨fun h => ?_, fun ⟨h, k⟩ => .inl ⟨x, rfl, h, k⟩⟩;rcases h with ⟨_, e, h⟩ | ⟨_, _, e, _⟩ | ⟨_, _, e, _⟩
 ·cases e; exact h
 ·cases e
 ·cases e
theorem znB : rSlB K (.ref p) lo hi H Q = ∃ xs, (SqL K H p xs /\ ∀ q, H q = none -> Q (.ref q) (upd H q (.lst (cutV xs lo hi)))) \/
  (SqT K H p xs /\ ∀ q H', Same H H' -> SqT K H' q (cutV xs lo hi) -> Q (.ref q) H') := by
 refine propext ⟨fun h => ?_, fun ⟨xs, h⟩ => ?_⟩
 ·rcases h with ⟨_, e, _⟩ | ⟨_, xs, e, h⟩ | ⟨_, xs, e, h⟩
  ·cases e
  ·cases e; exact ⟨xs, .inl h⟩
  ·cases e; exact ⟨xs, .inr h⟩
 ·rcases h with h | h
  ·exact .inr (.inl ⟨p, xs, rfl, h⟩)
  ·exact .inr (.inr ⟨p, xs, rfl, h⟩)
theorem zlK : zgh K (.int i) (.int j) H Q = Q (.int (i + j)) H := by
 refine propext ⟨fun h => ?_, fun h => .inl ⟨i, j, rfl, rfl, h⟩⟩;rcases h with ⟨_, _, e1, e2, h⟩ | ⟨_, _, e, _⟩ | ⟨_, _, _, _, e, _⟩ | ⟨_, _, _, _, e, _⟩
 ·cases e1; cases e2; exact h
 ·cases e
 ·cases e
 ·cases e
theorem zjd : zgh K (.str x) (.str y) H Q = (x.length + y.length <= sizeLine /\ Q (.str (x ++ y)) H) := by
 refine propext ⟨fun h => ?_, fun ⟨h, k⟩ => .inr (.inl ⟨x, y, rfl, rfl, h, k⟩)⟩;rcases h with ⟨_, _, e, _⟩ | ⟨_, _, e1, e2, h⟩ | ⟨_, _, _, _, e, _⟩ | ⟨_, _, _, _, e, _⟩
 ·cases e
 ·cases e1; cases e2; exact h
 ·cases e
 ·cases e
theorem zlL : zgh K (.ref p) (.ref q) H Q = ∃ xs zs, (H p = some (.lst xs) /\ H q = some (.lst zs) /\ xs.length + zs.length <= sizeLine /\ ∀ r, H r = none -> Q (.ref r) (upd H r (.lst (xs ++ zs)))) \/
  (SqT K H p xs /\ SqT K H q zs /\ xs.length + zs.length <= sizeLine /\ ∀ r H', Same H H' -> SqT K H' r (xs ++ zs) -> Q (.ref r) H') := by
 refine propext ⟨fun h => ?_, fun ⟨xs, zs, h⟩ => ?_⟩
 ·rcases h with ⟨_, _, e, _⟩ | ⟨_, _, e, _⟩ | ⟨_, _, xs, zs, e1, e2, h⟩ | ⟨_, _, xs, zs, e1, e2, h⟩
  ·cases e
  ·cases e
  ·cases e1; cases e2; exact ⟨xs, zs, .inl h⟩
  ·cases e1; cases e2; exact ⟨xs, zs, .inr h⟩
 ·rcases h with h | h
  ·exact .inr (.inr (.inl ⟨p, q, xs, zs, rfl, rfl, h⟩))
  ·exact .inr (.inr (.inr ⟨p, q, xs, zs, rfl, rfl, h⟩))
theorem zje {T : String} : zdq K T [.bl a, .ty T] H Q = ∃ c, W.kitOne K (.type "bool") (.type T) = some c /\ Q (.bl c) H := by
 refine propext ⟨fun ⟨_, _, b, e, t, h⟩ => ?_, fun ⟨b, h⟩ => ⟨_, _, b, rfl, .of (.bl a), h⟩⟩;cases e;rcases t with t | t | t
 cases t; exact ⟨b, h⟩
theorem zkR : rEq (.bl a) (.bl b) H Q = Q (.bl (decide (a = b))) H := by
 refine propext ⟨fun ⟨_, h⟩ => ?_, fun h => ⟨rfl, ?_⟩⟩
 ·rw [zdP] at h; exact h
 ·rw [zdP]; exact h
theorem zjf : rNe (.bl a) (.bl b) H Q = Q (.bl (!decide (a = b))) H := by
 refine propext ⟨fun ⟨_, h⟩ => ?_, fun h => ⟨rfl, ?_⟩⟩
 ·rw [zdP] at h; exact h
 ·rw [zdP]; exact h
theorem zlM : rEqC K (.bl a) (.bl b) H Q = Q (.bl (decide (a = b))) H := by
 refine propext ⟨fun h => ?_, fun h => .inl (zkR ▸ h)⟩;rcases h with h | ⟨d, d', h, _⟩
 ·rw [zkR] at h; exact h
 ·cases h
theorem zlN : rNeC K (.bl a) (.bl b) H Q = Q (.bl (!decide (a = b))) H := by
 refine propext ⟨fun h => ?_, fun h => .inl (zjf ▸ h)⟩;rcases h with h | ⟨d, d', h, _⟩
 ·rw [zjf] at h; exact h
 ·cases h
theorem znC : zm1 ta σ H R = ta σ H fun vs H1 => ∃ i j : Int, vs = [.int i, .int j] /\ (-(2 ^ 62) <= i /\ i < 2 ^ 62 /\ -(2 ^ 62) <= j /\ j < 2 ^ 62) /\ R (Itr i (j - i).toNat) H1 := rfl
theorem zlO : zk8 tc tb D σ H = ∃ W : Nat -> St -> Hp -> Prop, (∃ m, W m σ H) /\ ∀ m σ H, W m σ H ->
 tc σ H fun b H1 => if b = true then ∃ N : St -> Hp -> Prop, (∀ σ' H', N σ' H' -> ∃ m', m' < m /\ W m' σ' H') /\ tb { D with nx := N, ct := N, bk := D.nx } σ H1 else D.nx σ H1 := rfl
theorem zlP : rLtA (.str x) (.str y) H Q = Q (.bl (decide (x.cps.toList < y.cps.toList))) H := by
 refine propext ⟨fun h => ?_, fun h => .inr ⟨x, y, rfl, rfl, h⟩⟩;rcases h with ⟨_, _, e, _⟩ | ⟨_, _, e1, e2, h⟩
 ·cases e
 ·cases e1; cases e2; exact h
theorem znD (xs : List V) (n : Nat) : cutV xs none (some (n : Int)) = xs.take n := by
 unfold cutV;rw [HT.sIx_none, HT.sIx_nat, List.drop_zero, Nat.sub_zero]
 by_cases h : n <= xs.length
 ·rw [Nat.min_eq_left h]
 ·rw [Nat.min_eq_right ω, List.take_of_length_le (yai _), List.take_of_length_le ω]
theorem zkm (xs : List V) : cutV xs none (some (-1)) = xs.take (xs.length - 1) := by
 unfold cutV;rw [HT.sIx_none, List.drop_zero, Nat.sub_zero];show List.take ((-1 : Int) + (xs.length : Int)).toNat xs = _
 congr 1
 omega
theorem SqT.keepL {xs ys zs : List V} (h : SqT K H q xs) (hp : H p = some (.lst ys)) : SqT K (upd H p (.lst zs)) q xs := by
 rcases h with (h | ⟨o, h⟩) | h
 ·exact .inl (.inl (by rw [zaE]; exact h; rintro rfl; rw [hp] at h; cases h))
 ·exact .inl (.inr ⟨o, by rw [zaE]; exact h; rintro rfl; rw [hp] at h; cases h⟩)
 ·exact .inr h
end
section
variable {K : W.Frag} {H H' : Hp} {a q p : Addr} {us : List V} {f : Nat -> List Nat}
theorem zkn (h : SqL K H a []) : RepD K H (.lst []) (.ref a) := .lst h rfl fun j d x h1 _ => by simp at h1
end
theorem at0 {α : Type} {xs : List α} {i : Nat} {v : α} (h : xs[i]? = some v) : atI xs (0 + (i : Int)) = some v := by rw [Int.zero_add]; exact zam h
section
variable {K : W.Frag} {σ : St} {H H' : Hp} {Q : VK} {ta : TA} {p : Addr} {k : Int}
theorem znE : zjM (.ref p) (.int k) H Q = ∃ xs, H p = some (.lst xs) /\ -(2 ^ 63) <= k /\ k < 2 ^ 63 /\ xs.length * k.toNat <= sizeLine /\ ∀ q, H q = none -> Q (.ref q) (upd H q (.lst (List.replicate k.toNat xs).flatten)) := by
 refine propext ⟨fun h => ?_, fun ⟨xs, h⟩ => .inr ⟨p, k, xs, rfl, rfl, h⟩⟩;rcases h with ⟨_, _, e, _⟩ | ⟨_, _, xs, e1, e2, h⟩
 ·cases e
 ·cases e1; cases e2; exact ⟨xs, h⟩
theorem zct {c : Prop} [Decidable c] {tt : TT} {t u : TS} {D : Ends} (ht : ∀ Qb : Bool -> Hp -> Prop, Qb (decide c) H -> tt σ H Qb) (h1 : c -> t { D with nx := u D } σ H) (h2 : ¬ c -> u D σ H) : tSeq (tIfS tt t zlb) u D σ H := by
 show tt σ H fun b H1 => if b = true then t { D with nx := u D } σ H1 else u D σ H1;refine ht _ ?_
 by_cases hc : c
 ·rw [ya9 hc, if_pos rfl]; exact h1 hc
 ·rw [ya8 hc, if_neg δ]; exact h2 hc
theorem RepL.snoc {A : List Stm} {U : List V} {S : Stm} {u : V} (h : RepL K H A U) (hs : RepS K H S u) : RepL K H (A ++ [S]) (U ++ [u]) := by
 induction h with
 | nil => exact .cons hs .nil
 | cons h1 _ ih => exact .cons h1 ih
theorem RepL.last {Ss : List Stm} {us : List V} (h : RepL K H Ss us) (hn : Ss ≠ []) : ∃ A S U u, Ss = A ++ [S] /\ us = U ++ [u] /\ RepL K H A U /\ RepS K H S u := by
 induction h with
 | nil => exact absurd rfl hn
 | @cons a b l m h1 h2 ih =>
  by_cases z : l = []
  ·subst z;cases h2;exact ⟨[], a, [], b, rfl, rfl, .nil, h1⟩
  ·obtain ⟨A, S, U, u, rfl, rfl, h3, h4⟩ := ih z;exact ⟨a :: A, S, b :: U, u, rfl, rfl, .cons h1 h3, h4⟩
theorem zdc (U : List V) (u : V) : cutV (U ++ [u]) none (some (-1)) = U := by rw [zkm]; simp
theorem zfx (U : List V) (u v : V) : cutV (U ++ [u, v]) none (some (-2)) = U := by
 unfold cutV;rw [HT.sIx_none, List.drop_zero, Nat.sub_zero];show List.take ((-2 : Int) + ((U ++ [u, v]).length : Int)).toNat (U ++ [u, v]) = _;have e : ((-2 : Int) + ((U ++ [u, v]).length : Int)).toNat = U.length := by simp; omega
 rw [e]; simp
theorem zjg (U : List V) (u v : V) : atI (U ++ [u, v]) (-2) = some u := by
 have hl : (U ++ [u, v]).length = U.length + 2 := by simp
 have e : ixN (U ++ [u, v]).length (-2) = some U.length := by
  unfold ixN;rw [hl, if_neg δ, if_pos ω]
  congr 1
  omega
 unfold atI;rw [e];simp
def znF (K : W.Frag) : Sp := fun vs H Q _ => ∃ (a : Addr) (ns : List Int), vs = [.ref a] /\ SqL K H a (ns.map V.int) /\ ns.length <= 100 /\ ∀ (p : Addr) (ms : List Int) H', Same H H' -> H' p = some (.lst (ms.map V.int)) -> ms.length = ns.length -> (∀ m ∈ ms, 0 <= m) -> Q (.ref p) H'
theorem RepS.parts_at {S : Stm} {v : V} (h : RepS K H S v) (h1 : S.tag ≠ "is") (h2 : ¬ (S.tag = "all" \/ S.tag = "some")) : ∃ a xs, v = .ref a /\ SqT K H a (.str S.tag :: xs) /\ RepL K H S.parts xs := by
 cases S with
 | is x ts => exact absurd rfl h1
 | fls => obtain ⟨a, rfl, q⟩ := h; exact ⟨a, [], rfl, q, .nil⟩
 | neg B => obtain ⟨a, u, rfl, q, hb⟩ := h; exact ⟨a, [u], rfl, q, .cons hb .nil⟩
 | bi o B C => obtain ⟨a, u, u', rfl, q, hb, hc⟩ := h; exact ⟨a, [u, u'], rfl, q, .cons hb (.cons hc .nil)⟩
 | qu q X B => exact absurd (by cases q; exact .inr rfl; exact .inl rfl) h2
theorem zec (S : Stm) : (S.parts.map Stm.size).sum + 1 = S.size \/ (S.parts.map Stm.size).sum + 1 <= S.size := by
 cases S <;> simp [Stm.parts, Stm.size] <;> omega
theorem zdd (x : V) (us : List V) : cutV (x :: us) (some 1) none = us := by
 unfold cutV;rw [HT.sIx_none];show List.take _ (List.drop (min 1 (us.length + 1)) (x :: us)) = us;rw [show min 1 (us.length + 1) = 1 by omega, List.drop_one, List.tail_cons];exact List.take_of_length_le (by show us.length <= (us.length + 1) - min 1 (us.length + 1); omega)
theorem zjh {a : Addr} {ts : List Str} (h : SqL K H a (ts.map V.str)) : RepD K H (.lst (ts.map Dt.str)) (.ref a) :=
 .lst h ς fun j d x h1 h2 => by
  rw [yav] at h1 h2;cases e : ts[j]? with
  | none => rw [e] at h1; cases h1
  | some t => rw [e] at h1 h2; cases h1; cases h2; exact .str t
theorem zji (ts : List Str) : Dt.dep (.lst (ts.map Dt.str)) <= 60 := by
 show Dt.deps (ts.map Dt.str) + 1 <= 60;rw [Stm.deps_strs]; omega
end
end L2
namespace L2
open PySem PySem.Spec PySem.Calls PyProof.V PyProof.Rows PyProof.Rows.KTD
section
variable {X : Cx}
def TabK (K : W.Frag) (a : Addr) (D : List (Str × V)) : Prop :=
 (a == sysModules) = false /\ ∃ (o : Obj) (es : Array DictEntry) (ep : Nat), K.lookup a = some o /\ o.ExactDict /\ o.data = .dict es ep /\ KTD.Rows (fun d v => RelV d v) es.toList D
def znG (K : W.Frag) : R2 := fun x y H Q => ∃ k p D, x = .str k /\ y = .ref p /\ TabK K p D /\ Q (.bl (inKeys k D)) H
def znH (K : W.Frag) : R2 := fun x y H Q => ∃ k p D z, x = .ref p /\ y = .str k /\ TabK K p D /\ datumAt k D = some z /\ Q z H
end
open AutoSeq1 (wpAny_loadPart')
section
variable {prog : Program} {w : World} {A : Around} {E : ZQ} {s : Shared}
theorem zh0 {j t : Addr} {i : Nat} {us : Array Value} {v : Value} {R : ZQ} (hJ : s.heap.IsTupleIter j t i) (hT : s.heap.IsTuple t us) (hv : us[i]? = some v)
  (k : ∀ h1, h1.IsTupleIter j t (i + 1) -> Heap.SameBut j s.heap h1 -> R v { s with heap := h1 }) : wpAny (model prog w) A (Builtin.SmallTypes.nextOf (.ref j)) R E s := by
 obtain ⟨oj, gj, cj, dj⟩ := id hJ;obtain ⟨ot, gt, _, n, dt⟩ := hT;unfold Builtin.SmallTypes.nextOf;refine yaa (wpAny_callSpecial?_slot (name := Str.ofString "__next__") hJ.typeIs PySem.F.slot_tuple_iterator_next (wpAny_call_entry PySem.F.slot_tuple_iterator_next hJ.typeIs PySem.F.entry_tuple_iterator_next ?_ (PySem.F.args_tuple_iterator_next_1 _)));show wpAny _ _ (field (.ref j) 0 >>= _) _ _ s;refine yaa (wpAny_field gj dj (x := .ref t) rfl ?_);show wpAny _ _ (if ((Value.ref t : Value) == Value.none) = true then _ else _) _ _ s;rw [if_neg (by intro z; cases z)];show wpAny _ _ (field (.ref j) 1 >>= _) _ _ s;refine yaa (wpAny_field gj dj (x := .int i 0) rfl ?_);refine yaa (m := seqItems? (.ref t)) (wpAny_seqItems gt dt ?_);simp only [Int.toNat_natCast, hv];refine yaa (wpAny_setField gj dj ς (yab ⟨v, rfl, yab (k _ ?_ (Heap.SameBut.update ..))⟩));refine ⟨_, Heap.get?_update_self _ gj (Obj.isFreed_of_fields (Obj.data_mapFields dj _)), (Obj.cls_mapFields ..).trans cj, ?_⟩;rw [Obj.data_mapFields dj];simp [rawInt]
theorem zjj {j t : Addr} {i : Nat} {us : Array Value} {R : ZQ} (hh : A.handled = none) (hJ : s.heap.IsTupleIter j t i) (hT : s.heap.IsTuple t us) (hv : us[i]? = none)
  (k : ∀ h1 x, Heap.ExtBut j s.heap h1 -> (∃ o, h1.get? x = some o /\ o.cls = .type "StopIteration") -> E (.ref x) { s with heap := h1 }) : wpAny (model prog w) A (Builtin.SmallTypes.nextOf (.ref j)) R E s := by
 obtain ⟨oj, gj, cj, dj⟩ := id hJ;obtain ⟨ot, gt, _, n, dt⟩ := hT;unfold Builtin.SmallTypes.nextOf;refine yaa (wpAny_callSpecial?_slot (name := Str.ofString "__next__") hJ.typeIs PySem.F.slot_tuple_iterator_next (wpAny_call_entry PySem.F.slot_tuple_iterator_next hJ.typeIs PySem.F.entry_tuple_iterator_next ?_ (PySem.F.args_tuple_iterator_next_1 _)));show wpAny _ _ (field (.ref j) 0 >>= _) _ _ s;refine yaa (wpAny_field gj dj (x := .ref t) rfl ?_);show wpAny _ _ (if ((Value.ref t : Value) == Value.none) = true then _ else _) _ _ s;rw [if_neg (by intro z; cases z)];show wpAny _ _ (field (.ref j) 1 >>= _) _ _ s;refine yaa (wpAny_field gj dj (x := .int i 0) rfl ?_);refine yaa (m := seqItems? (.ref t)) (wpAny_seqItems gt dt ?_);simp only [Int.toNat_natCast, hv];refine yaa (wpAny_rule (yaa (wpAny_setField gj dj ς ?_)));show wpAny _ _ ((newExc (.type "StopIteration") []) >>= _) _ _ _;refine yaa ?_;simp only [newExc, newTuple];refine yaa (wpAny_newObj_type (yaa (m := firstArgMember _ _) (wpAny_of_eq (a := Value.none) (by first | rfl | (simp only [firstArgMember]; rfl)) (wpAny_newObj_type ?_ (by size_fits)))) (by size_fits));simp only [raiseNew];refine yaa (wpAny_handled ?_)
 first | rw [show A.in1.handled = none from hh] | rw [hh]
 refine yaa (yab (wpAny_throw ?_));exact k _ _ (((Heap.SameBut.update ..).extBut.push _).push _) ⟨_, yaj _ rfl, rfl⟩
theorem zh1 {e j t : Addr} {i : Nat} {us : Array Value} {v old : Value} {R : Option Value -> Shared -> Prop} (hE : IsEnum s.heap e j i old) (hJ : s.heap.IsTupleIter j t i) (hT : s.heap.IsTuple t us) (hv : us[i]? = some v) (hne : e ≠ j)
  (k : ∀ (h3 h' : Heap), (∀ b o, b ≠ e -> b ≠ j -> s.heap.get? b = some o -> h3.get? b = some o) -> h3.objs.size = s.heap.objs.size ->
   Heap.SameBut e (h3.push { cls := .type "tuple", data := .seq #[.int i s.toks, v] }) h' -> IsEnumOut h' e j ((i : Int) + 1) v s.heap.objs.size -> h'.IsTupleIter j t (i + 1) ->
   R (some (.ref s.heap.objs.size)) { s with heap := h', toks := s.toks + 1 }) : wpAny (model prog w) A (pyNext (.ref e)) R E s := by
 have hTy : s.TypeIs (.ref e) "enumerate" := ⟨_, hE, rfl⟩
 unfold pyNext;refine yaa (wpAny_attempt (wpAny_callSpecial?_slot (name := Str.ofString "__next__") hTy PySem.F.slot_enumerate_next (wpAny_call_entry PySem.F.slot_enumerate_next hTy PySem.F.entry_enumerate_next ?_ (PySem.F.args_enumerate_next_1 _))));obtain ⟨hp, g, d, tk, os⟩ := s;show wpAny _ _ (field (.ref e) 2 >>= _) _ _ _;refine yaa (wpAny_field hE rfl (x := .ref j) rfl (yaa (zh0 hJ hT hv fun h1 hJ1 hs1 => ?_)));replace hs1 : Heap.SameBut j hp h1 := hs1;have e1 : IsEnum h1 e j i old := (hs1.2 e hne).trans hE;show wpAny _ _ (field (.ref e) 3 >>= _) _ _ ⟨h1, g, d, tk, os⟩;refine yaa (wpAny_field e1 rfl (x := rawInt i) rfl ?_);show wpAny _ _ (field (.ref e) 4 >>= _) _ _ ⟨h1, g, d, tk, os⟩;refine yaa (wpAny_field e1 rfl (x := .none) rfl ?_);show wpAny _ _ (mkInt i >>= _) _ _ ⟨h1, g, d, tk, os⟩;refine yaa (wpAny_mkInt ?_);show wpAny _ _ (setField (.ref e) 3 (rawInt ((i : Int) + 1)) >>= _) _ _ ⟨h1, g, d, tk + 1, os⟩;refine yaa (wpAny_setField_rec e1 ς fun h2 e2 hs2 => ?_);replace hs2 : Heap.SameBut e h1 h2 := hs2;replace e2 : IsEnum h2 e j ((i : Int) + 1) old := e2;show wpAny _ _ (setField (.ref e) 4 .none >>= _) _ _ ⟨h2, g, d, tk + 1, os⟩;refine yaa (wpAny_setField_rec e2 ς fun h3 e3 hs3 => ?_);replace hs3 : Heap.SameBut e h2 h3 := hs3;replace e3 : IsEnum h3 e j ((i : Int) + 1) old := e3;show wpAny _ _ (newTuple [.int i tk, v] >>= _) _ _ ⟨h3, g, d, tk + 1, os⟩;refine yaa (wpAny_newTuple ?_);have hsz : h3.objs.size = hp.objs.size := by rw [hs3.1, hs2.1, hs1.1]
 have hJ3 : h3.IsTupleIter j t (i + 1) := (hJ1.extBut hs2.extBut (Ne.symm hne)).extBut hs3.extBut (Ne.symm hne);have k3 : ∀ b o, b ≠ e -> b ≠ j -> hp.get? b = some o -> h3.get? b = some o := fun b o he hj hb => hs3.extBut b o he (hs2.extBut b o he (hs1.extBut b o hj hb));have e4 : IsEnum (h3.push { cls := .type "tuple", data := .seq #[.int i tk, v] }) e j ((i : Int) + 1) old := yac _ e3;have hJ4 : (h3.push { cls := .type "tuple", data := .seq #[.int i tk, v] }).IsTupleIter j t (i + 1) := let ⟨o, a, r⟩ := hJ3; ⟨o, yac _ a, r⟩;have k' := k h3;generalize h3.push { cls := .type "tuple", data := .seq #[.int i tk, v] } = h4 at e4 hJ4 k';show wpAny _ _ (Builtin.SmallTypes.ownedTupleIsFree (.ref e) >>= _) _ _ ⟨h4, g, d, tk + 1, os⟩;rw [hsz];refine yaa ?_;unfold Builtin.SmallTypes.ownedTupleIsFree;refine yaa (wpAny_field e4 rfl (x := .none) rfl (yab ?_));simp only [if_true];refine yaa (wpAny_rule (yaa (wpAny_field e4 rfl (x := old) rfl (yaa (wpAny_setField_rec e4 ς fun h5 e5 hs5 => ?_)))));replace hs5 : Heap.SameBut e h4 h5 := hs5;replace e5 : IsEnum h5 e j ((i : Int) + 1) v := e5;show wpAny _ _ (Builtin.SmallTypes.ownedTupleHandOut (.ref e) (.ref hp.objs.size) >>= _) _ _ ⟨h5, g, d, tk + 1, os⟩;refine yaa ?_;unfold Builtin.SmallTypes.ownedTupleHandOut;refine yaa (wpAny_setField_rec e5 ς fun h6 e6 hs6 => ?_);replace hs6 : Heap.SameBut e h5 h6 := hs6;replace e6 : IsEnumOut h6 e j ((i : Int) + 1) v hp.objs.size := e6;refine wpAny_setField_rec e6 ς fun h7 e7 hs7 => ?_;replace hs7 : Heap.SameBut e h6 h7 := hs7;replace e7 : IsEnumOut h7 e j ((i : Int) + 1) v hp.objs.size := e7;have hs : Heap.SameBut e h4 h7 := ⟨by rw [hs7.1, hs6.1, hs5.1], fun b hb => (hs7.2 b hb).trans ((hs6.2 b hb).trans (hs5.2 b hb))⟩
 exact yaa (wpAny_letGo (yab ⟨_, rfl, yab (k' h7 k3 hsz hs e7 (hJ4.extBut hs.extBut (Ne.symm hne)))⟩))
theorem zjk {e j t : Addr} {i : Nat} {us : Array Value} {old : Value} {R : Option Value -> Shared -> Prop} (hh : A.handled = none) (hE : IsEnum s.heap e j i old) (hJ : s.heap.IsTupleIter j t i) (hT : s.heap.IsTuple t us) (hv : us[i]? = none)
  (k : ∀ h1, Heap.ExtBut j s.heap h1 -> R none { s with heap := h1 }) : wpAny (model prog w) A (pyNext (.ref e)) R E s := by
 have hTy : s.TypeIs (.ref e) "enumerate" := ⟨_, hE, rfl⟩
 unfold pyNext;refine yaa (wpAny_attempt (wpAny_callSpecial?_slot (name := Str.ofString "__next__") hTy PySem.F.slot_enumerate_next (wpAny_call_entry PySem.F.slot_enumerate_next hTy PySem.F.entry_enumerate_next ?_ (PySem.F.args_enumerate_next_1 _))));show wpAny _ _ (field (.ref e) 2 >>= _) _ _ _;refine yaa (wpAny_field hE rfl (x := .ref j) rfl (yaa (zjj hh hJ hT hv fun h1 x hb ⟨o, ho, hc⟩ => ?_)));exact yaa (wpAny_isInstance (T := "StopIteration") (b := true) ⟨o, ho, hc⟩ isSubtype_stop (yab (k _ hb)))
theorem zh2 (l : Addr) (us : Array Value) (n : Nat) (dct : Option Addr) (sl : Array (Option Value)) :
  Meets (Builtin.«enumerate.__new__» ⟨[.type "enumerate", .ref l], []⟩) (fun _ R s => s.heap.get? l = some { cls := .type "tuple", dict := dct, data := .seq us n, slots := sl } /\
   R (.ok (.ret (.ref (s.heap.push { cls := .type "tuple_iterator", data := .fields #[.ref l, .int 0 0] }).objs.size)))
    { s with heap := (s.heap.push { cls := .type "tuple_iterator", data := .fields #[.ref l, .int 0 0] }).push { cls := .type "enumerate", data := .fields #[.none, .bool false, .ref s.heap.objs.size, rawInt 0, .none, .none] } }) :=
 .of_wp fun prog w A R s z => by
  obtain ⟨hp, g, d, tk, os⟩ := s; obtain ⟨hl, z⟩ := z;have hsub := sub_enumerate;have hL : Heap.IsTuple (Shared.heap ⟨hp, g, d, tk, os⟩) l us := ⟨_, hl, rfl, n, rfl⟩
  wp_walk using wpAny_loadPart' hl
  refine wpAny_stack_any fun st => yab ?_
  split
  ·rename_i c _ _ _ _ _
   cases (c == Value.type "enumerate") <;> (wp_walk using wpAny_loadPart' hl, wpAny_pyIter_tuple hL; exact ⟨_, rfl, z⟩)
  ·wp_walk using wpAny_loadPart' hl, wpAny_pyIter_tuple hL; exact ⟨_, rfl, z⟩
theorem zjl {l : Addr} {us : Array Value} {R : ZQ} (hL : s.heap.IsTuple l us)
  (k : ∀ h', IsEnum h' (s.heap.objs.size + 1) s.heap.objs.size 0 .none -> h'.IsTupleIter s.heap.objs.size l 0 -> h'.objs.size = s.heap.objs.size + 2 ->
   (∀ b o, s.heap.get? b = some o -> h'.get? b = some o) -> R (.ref (s.heap.objs.size + 1)) { s with heap := h' }) : wpAny (model prog w) A (call (.type "enumerate") [.ref l]) R E s := by
 obtain ⟨⟨c, dct, dt, sl⟩, hl, hc, n, hd⟩ := hL;replace hc : c = .type "tuple" := hc;replace hd : dt = .seq us n := hd;subst hc hd;have hz : (s.heap.push { cls := .type "tuple_iterator", data := .fields #[.ref l, .int 0 0] }).objs.size = s.heap.objs.size + 1 := Heap.size_push ..;have he := yaj (s.heap.push { cls := .type "tuple_iterator", data := .fields #[.ref l, .int 0 0] }) (o := { cls := .type "enumerate", data := .fields #[.none, .bool false, .ref s.heap.objs.size, rawInt 0, .none, .none] }) rfl;rw [hz] at he;refine callType_new PySem.F.called_enumerate δ (PySem.F.typeCall_enumerate_1 _) (PySem.F.newCall_enumerate_1 _) (fun obj => PySem.F.args_object_init_2 obj _) PySem.F.entry_enumerate_new (zh2 l us n dct sl) ⟨hl, ?_⟩;show _ /\ _;rw [hz];exact ⟨⟨_, he, rfl⟩, k _ he ⟨_, yac _ (yaj _ rfl), rfl, rfl⟩ (by rw [Heap.size_push, hz]) fun b o x => yac _ (yac _ x)⟩
end
section
variable {X : Cx} {Qa : ZP} {σ : St} {H : Hp} {s : Shared} {h' : Heap}
theorem Inv.turned2 {t' : Nat} {e j : Addr} (I : Inv X Qa σ H s) (k : ∀ b o, b ≠ e -> b ≠ j -> s.heap.get? b = some o -> h'.get? b = some o) (fe : FpOk X Qa H e) (fj : FpOk X Qa H j) : Inv X Qa σ H { s with heap := h', toks := t' } := by
 have ne : ∀ b u, H b = some u -> b ≠ e := fun b u q z => by rw [z, fe.1] at q; cases q
 have nj : ∀ b u, H b = some u -> b ≠ j := fun b u q z => by rw [z, fj.1] at q; cases q
 have k2 : ∀ b o, b ∉ [e, j] -> s.heap.get? b = some o -> h'.get? b = some o := fun b o hb q => k b o (fun z => hb (by simp [z])) (fun z => hb (by simp [z])) q;refine I.step (g' := s.gens) (d' := s.drawn) (ch := [e, j]) (fun b hb => ?_) (fun b o _ _ hc q _ => k2 b o hc q) (fun b o _ _ hc q _ => ⟨o.slots, k2 b o hc q⟩) (fun _ _ _ _ n => n)
  (fun b o hc q => ⟨o, k2 b o hc q⟩) (fun _ _ q => q) (fun _ _ _ q => q) (fun b ps q => ⟨#[], by rw [q]; simp⟩) (fun m hm => ?_) (fun b u q => ?_) I.bare
 ·rcases yau.mp hb with rfl | hb
  ·exact ⟨fe.2.2.2.1, fe.2.1, fe.2.2.2.2.1, fe.2.2.2.2.2⟩
  ·rw [yah.mp hb]; exact ⟨fj.2.2.2.1, fj.2.1, fj.2.2.2.2.1, fj.2.2.2.2.2⟩
 ·obtain ⟨o, es, ep, ho, r⟩ := hm;exact ⟨o, es, ep, k _ o (Ne.symm fe.2.1) (Ne.symm fj.2.1) ho, r⟩
 ·refine (I.hok b u q).stay (fun c v hc q2 => ?_) (fun _ q => q) fun _ _ q => q;rcases hc with z | z
  ·rw [z] at q2 ⊢; exact k b v (ne b u q) (nj b u q) q2
  ·exact k c v (ne c _ z) (nj c _ z) q2
end
def Ite (K : W.Frag) (a : Addr) : It :=
 ⟨fun i H => ∃ xs x, SqT K H a xs /\ xs[i]? = some x, fun i H v H' => ∃ t y, v = .ref t /\ H t = none /\ H' = upd H t (.tup [.int i, y]) /\ ∀ xs, SqT K H a xs -> xs[i]? = some y, fun i H => ∃ xs, SqT K H a xs /\ xs.length <= i⟩
theorem zjm {P : Program} {w : World} {K : W.Frag} {es : List Expr} {kx : Nat} {pos : Pos} (a e j : Addr) (hne : e ≠ j) : Turn P w K (.Tuple es kx pos) (Ite K a) [e, j] e (fun i h => (∃ old, IsEnum h e j i old) /\ h.IsTupleIter j a i) where
 mem := by simp
 obj := fun i h st b hb => by
  obtain ⟨⟨old, he⟩, hj⟩ := st;rcases yau.mp hb with rfl | hb
  ·exact ⟨_, he, fun v z => by
    have z' : Data.fields _ = Data.cell v := z;cases z'⟩
  ·rw [yah.mp hb];obtain ⟨o, e1, c, d⟩ := hj;exact ⟨o, e1, fun v z => by rw [d] at z; cases z⟩
 keep := fun i h h' st k => let ⟨⟨old, he⟩, hj⟩ := st; ⟨⟨old, k e ς _ he⟩, hj.at fun o q => k j ς o q⟩
 item := by
  intro X hP hw hK hc i Qa s σ H E I hf st hg;subst hP hw hK;obtain ⟨xs, x, hq, hx⟩ := hg;obtain ⟨its, rv, p, hz⟩ := I.tuple hq;obtain ⟨u, hu, ru⟩ := rv.get hx;have fe := hf e ς;have fj := hf j ς;obtain ⟨⟨old, he⟩, hj⟩ := st;have hlt : e < s.heap.objs.size := yan he;have hltj : j < s.heap.objs.size := let ⟨_, q, _⟩ := hj; yan q;refine zh1 he hj (show s.heap.IsTuple a its.toArray from p) (v := u) (by simpa using hu) hne fun h3 h' k3 hsz hs ho hj' => ?_;have I3 : Inv X Qa σ H { s with heap := h3, toks := s.toks + 1 } := I.turned2 k3 fe fj;have I4 : Inv X Qa σ (upd H s.heap.objs.size (.tup [.int i, x])) { s with heap := h3.push { cls := .type "tuple", data := .seq #[.int i s.toks, u] }, toks := s.toks + 1 } := by
   rw [<- hsz];exact I3.laid (t' := s.toks + 1) (fun b o q => yac _ q) (yai _) ⟨zak (by decide : 2 <= 100000), _, .cons ⟨s.toks, rfl⟩ (.cons ru .nil), IsTup.new _ _⟩
  have ne : upd H s.heap.objs.size (.tup [.int i, x]) e = none := by rw [zaE (Nat.ne_of_lt hlt)]; exact fe.1
  have nj : upd H s.heap.objs.size (.tup [.int i, x]) j = none := by rw [zaE (Nat.ne_of_lt hltj)]; exact fj.1
  have I5 := I4.turned (h' := h') (it := e) (t' := s.toks + 1) (fun b o hb q => (hs.2 b hb).trans q) ne fe.2.1 fe.2.2.2.1 fe.2.2.2.2.1 fe.2.2.2.2.2;refine ⟨_, rfl, wpAny_letOwnedTupleGo_enum ho fun h8 he8 hs8 => ?_⟩;have I6 := I5.turned (h' := h8) (it := e) (t' := s.toks + 1) (fun b o hb q => (hs8.2 b hb).trans q) ne fe.2.1 fe.2.2.2.1 fe.2.2.2.2.1 fe.2.2.2.2.2;refine ⟨.ref s.heap.objs.size, _, I6, rfl, ⟨_, x, rfl, I.hok.fresh (yai _), rfl, fun ys hy => by rw [I.tuple_inj hy hq]; exact hx⟩, ⟨⟨_, by simpa using he8⟩, hj'.extBut hs8.extBut (Ne.symm hne)⟩, fun b hb => ?_⟩;rcases yau.mp hb with rfl | hb
  ·exact ne
  ·rw [yah.mp hb]; exact nj
 done := by
  intro X hP hw hK hc i Qa s σ H E I hf st hg;subst hP hw hK;obtain ⟨xs, hq, hx⟩ := hg;obtain ⟨its, rv, p, hz⟩ := I.tuple hq;obtain ⟨f0, f1, f2, f3, f4, f5⟩ := hf j ς;obtain ⟨⟨old, he⟩, hj⟩ := st;have hl := rv.length;exact zjk (I.ok.hd hc) he hj (show s.heap.IsTuple a its.toArray from p) (by simp; omega) fun h' eb => ⟨rfl, I.turned (t' := s.toks) (fun b o hb e => eb b o hb e) f0 f1 f3 f4 f5⟩
 self := fun _ _ _ _ _ st h => let ⟨⟨_, he⟩, _⟩ := st; wpAny_pyIter_enum he h
section
variable {X : Cx}
def znI (K : W.Frag) (ta : TA) : TI := fun σ H R => ta σ H fun vs H1 => ∃ a, vs = [.ref a] /\ (∃ xs, SqT K H1 a xs) /\ R (Ite K a) H1
theorem zlQ (K : W.Frag) {es : List Expr} {kx : Nat} {pt p pos : Pos} {a : Expr} {ta : TA} (hg : Gl X "enumerate") (hm : X.mg "enumerate" = none) (ha : PA X [a] ta) (hs : starEach [a] X.env = [(false, eval a X.env)] := by rfl) (hK : X.K = K := by rfl) :
  PI X (.Tuple es kx pt) (.Call (.Name "enumerate" p) [a] [] pos) (znI K ta) := by
 subst hK;intro Qa s σ H R I h;refine Call_ (zdN I hg hm boot_enumerate (PyProof.Rows.callWith_type1 (thn (ha pos Qa s σ H _ I h) fun us s1 ⟨vs, H1, I1, r1, q1⟩ => ?_) hs rfl));obtain ⟨a, e, ⟨xs, hq⟩, q⟩ := q1;subst e;cases r1 with
 | cons r rr =>
  cases rr;cases r;obtain ⟨its, rv, pp, hz⟩ := I1.tuple hq;refine zjl (show s1.heap.IsTuple a its.toArray from pp) fun h' he hj hsz kk => wpAny_pyIter_enum he ?_;refine ⟨s1.heap.objs.size + 1, [s1.heap.objs.size + 1, s1.heap.objs.size], _, _, H1, rfl, I1.kept (t' := s1.toks) kk, zjm a (s1.heap.objs.size + 1) s1.heap.objs.size (Nat.succ_ne_self _), ⟨⟨_, he⟩, hj⟩, fun b hb => ?_, q⟩;rcases yau.mp hb with rfl | hb
  ·exact I1.fpOk ω (I1.hok.fresh ω)
  ·rw [yah.mp hb]; exact I1.fpOk (yai _) (I1.hok.fresh (yai _))
theorem znJ {K : W.Frag} {σ : St} {H : Hp} {R : It -> Hp -> Prop} {ta : TA} : znI K ta σ H R = ta σ H fun vs H1 => ∃ a, vs = [.ref a] /\ (∃ xs, SqT K H1 a xs) /\ R (Ite K a) H1 := rfl
def znK (K : W.Frag) : V -> List V -> Hp -> VK -> Prop := fun x vs H Q => ∃ p xs k, x = .ref p /\ vs = [k] /\ SqL K H p xs /\ xs.all zbG = true /\ zbG k = true /\ Q (.int ((xs.countP fun y => eqV y k : Nat) : Int)) H
theorem zlR {K : W.Frag} {p : Addr} {k : V} {H : Hp} {Q : VK} : znK K (.ref p) [k] H Q = ∃ xs, SqL K H p xs /\ xs.all zbG = true /\ zbG k = true /\ Q (.int ((xs.countP fun y => eqV y k : Nat) : Int)) H := by
 refine propext ⟨fun ⟨_, xs, _, e1, e2, h⟩ => ?_, fun ⟨xs, h⟩ => ⟨p, xs, k, rfl, rfl, h⟩⟩;cases e1; cases e2; exact ⟨xs, h⟩
end
open AutoSeq1 (wpAny_loadPart')
section
variable {K : W.Frag} {nt : Nat} {is : List Nat} {g : TG} {tt : TT} {te : TE} {σ : St} {H : Hp} {Q : VK}
theorem zh3 {n : Nat} (hn : 2 <= n) : ∀ x (σ : St) (H : Hp) R, gTup K 2 (zhc (zdG 0) (zhc (zdG 1) gNil)) x σ H R -> gTup K 2 (zhc (zdG 0) (zhc (zdG 1) gNil)) x σ H fun σ2 H2 => σ2.drop n = σ.drop n /\ R σ2 H2 := by
 rintro x σ H R ⟨a, xs, rfl, hq, hl, v, r, rfl, v2, r2, rfl, rfl, h⟩
 exact ⟨a, _, rfl, hq, hl, v, _, rfl, v2, _, rfl, rfl, by rw [List.drop_set_of_lt ω, List.drop_set_of_lt ω], h⟩
end
section
variable {X : Cx}
theorem Inv.past {Qa : ZP} {σ : St} {H : Hp} {s : Shared} (I : Inv X Qa σ H s) : sysModules < s.heap.objs.size := by
 exact Nat.lt_trans δ (I.mod.glob.keeps I.bk).lt
theorem zlS {K : W.Frag} {k : Str} {p : Addr} {H : Hp} {Q : VK} : znG K (.str k) (.ref p) H Q = ∃ D, TabK K p D /\ Q (.bl (KTD.inKeys k D)) H := by
 refine propext ⟨fun ⟨_, _, D, e1, e2, h⟩ => ?_, fun ⟨D, h⟩ => ⟨k, p, D, rfl, rfl, h⟩⟩;cases e1; cases e2; exact ⟨D, h⟩
theorem zlT {K : W.Frag} {k : Str} {p : Addr} {H : Hp} {Q : VK} : znH K (.ref p) (.str k) H Q = ∃ D z, TabK K p D /\ KTD.datumAt k D = some z /\ Q z H := by
 refine propext ⟨fun ⟨_, _, D, z, e1, e2, h⟩ => ?_, fun ⟨D, z, h⟩ => ⟨k, p, D, z, rfl, rfl, h⟩⟩;cases e1; cases e2; exact ⟨D, z, h⟩
end
section
variable {K : W.Frag} {H : Hp} {p : Addr} {ys zs : List V}
theorem RepS.keepL (hp : H p = some (.lst ys)) : ∀ {S : Stm} {v : V}, RepS K H S v -> RepS K (upd H p (.lst zs)) S v
 | .is _ _, _, ⟨a, b, h1, h2, h3⟩ => ⟨a, b, h1, h2.keepL hp, h3.keepL hp⟩
 | .fls, _, ⟨a, h1, h2⟩ => ⟨a, h1, h2.keepL hp⟩
 | .neg _, _, ⟨a, u, h1, h2, h3⟩ => ⟨a, u, h1, h2.keepL hp, RepS.keepL hp h3⟩
 | .bi _ _ _, _, ⟨a, u, u', h1, h2, h3, h4⟩ => ⟨a, u, u', h1, h2.keepL hp, RepS.keepL hp h3, RepS.keepL hp h4⟩
 | .qu _ _ _, _, ⟨a, u, h1, h2, h3⟩ => ⟨a, u, h1, h2.keepL hp, RepS.keepL hp h3⟩
theorem RepL.keepL {Ss : List Stm} {vs : List V} (hp : H p = some (.lst ys)) (h : RepL K H Ss vs) : RepL K (upd H p (.lst zs)) Ss vs := Paired.mapP h fun _ _ => RepS.keepL hp
end
section
variable {X : Cx}
def dS (l : List (Str × V)) : List (Key × V) := l.map fun p => (Sum.inr p.1, p.2)
def valS (l : List (Str × V)) (k : Str) : Option V := (l.find? fun p => decide (p.1 = k)).map (·.2)
theorem zgQ {k : Str} : ∀ {l : List (Str × V)} {vs : List (Key × Value)}, KV (dS l) vs -> (valS l k = none -> valueAt vs (Sum.inr k : Key) = none) /\ ∀ z, valS l k = some z -> ∃ u, valueAt vs (Sum.inr k : Key) = some u /\ RelV z u
 | [], _, .nil => ⟨fun _ => rfl, fun z e => by cases e⟩
 | p :: l, _, .cons (b := q) h1 h2 => by
  obtain ⟨i1, i2⟩ := zgQ (k := k) (l := l) h2;obtain ⟨e1, r1⟩ := h1;have e1' : q.1 = (Sum.inr p.1 : Key) := e1.symm
  by_cases c : p.1 = k
  ·have ev : valS (p :: l) k = some p.2 := by simp [valS, List.find?_cons, c]
   have ew : ∀ m, valueAt (q :: m) (Sum.inr k : Key) = some q.2 := fun m => by simp [valueAt, List.find?_cons, e1', c]
   exact ⟨fun z => (by rw [ev] at z; cases z), fun z e => (by rw [ev] at e; cases e; exact ⟨_, ew _, r1⟩)⟩
  ·have ev : valS (p :: l) k = valS l k := by simp [valS, List.find?_cons, c]
   have ew : ∀ m, valueAt (q :: m) (Sum.inr k : Key) = valueAt m (Sum.inr k : Key) := fun m => by simp [valueAt, List.find?_cons, e1', c]
   rw [ev, ew];exact ⟨i1, i2⟩
def zoM : V -> List V -> Hp -> VK -> Prop := fun x xs H Q => ∃ a k v l, x = .ref a /\ xs = [.str k, v] /\ H a = some (.dK (dS l)) /\ Q ((valS l k).getD v) H
def zlU : V -> List V -> Hp -> VK -> Prop := fun x xs H Q => ∃ a k v l, x = .ref a /\ xs = [.str k, v] /\ H a = some (.dK (dS l)) /\ l.length < 100000 /\ (∀ z, valS l k = some z -> Q z H) /\ (valS l k = none -> Q v (upd H a (.dK (dS (l ++ [(k, v)])))))
theorem zoi {p : Addr} {k : Str} {v : V} {H : Hp} {Q : VK} : zlU (.ref p) [.str k, v] H Q = ∃ l, H p = some (.dK (dS l)) /\ l.length < 100000 /\ (∀ z, valS l k = some z -> Q z H) /\ (valS l k = none -> Q v (upd H p (.dK (dS (l ++ [(k, v)]))))) :=
 propext ⟨fun ⟨_, _, _, l, e1, e2, h⟩ => by cases e1; cases e2; exact ⟨l, h⟩, fun ⟨l, h⟩ => ⟨p, k, v, l, rfl, rfl, h⟩⟩
theorem zpd {p : Addr} {k : Str} {v : V} {H : Hp} {Q : VK} : zoM (.ref p) [.str k, v] H Q = ∃ l, H p = some (.dK (dS l)) /\ Q ((valS l k).getD v) H :=
 propext ⟨fun ⟨_, _, _, l, e1, e2, h⟩ => by cases e1; cases e2; exact ⟨l, h⟩, fun ⟨l, h⟩ => ⟨p, k, v, l, rfl, rfl, h⟩⟩
def putS (l : List (Str × V)) (k : Str) (v : V) : List (Str × V) := if l.any (fun p => decide (p.1 = k)) = true then l.map (fun p => if p.1 = k then (p.1, v) else p) else l ++ [(k, v)]
theorem zlV (l : List (Str × V)) (k : Str) (v : V) : dS (l ++ [(k, v)]) = dS l ++ [(Sum.inr k, v)] := by simp [dS]
theorem KV.snoc {κ : Type} {l : List (κ × V)} {m : List (κ × Value)} {k : κ} {v : V} {u : Value} (r : KV l m) (h : RelV v u) : KV (l ++ [(k, v)]) (m ++ [(k, u)]) := by
 induction r with
 | nil => exact .cons ⟨rfl, h⟩ .nil
 | cons h1 _ ih => exact .cons h1 ih
theorem zkS {k : Str} : ∀ {l : List (Str × V)} {vs : List (Key × Value)}, KV (dS l) vs -> (vs.any fun kv => decide (kv.1 = (Sum.inr k : Key))) = l.any fun p => decide (p.1 = k)
 | [], _, .nil => rfl
 | p :: l, _, .cons (b := q) h1 h2 => by
  have e : q.1 = (Sum.inr p.1 : Key) := h1.1.symm;rw [List.any_cons, List.any_cons, zkS (l := l) h2, e]
  congr 1
  simp
theorem zkT {k : Str} {v : V} {u : Value} (hv : RelV v u) : ∀ {l : List (Str × V)} {vs : List (Key × Value)}, KV (dS l) vs -> KV (dS (l.map fun p => if p.1 = k then (p.1, v) else p)) (vs.map fun kv => if kv.1 = (Sum.inr k : Key) then (kv.1, u) else kv)
 | [], _, .nil => .nil
 | p :: l, _, .cons (b := q) h1 h2 => by
  have e : (Sum.inr p.1 : Key) = q.1 := h1.1;refine .cons ?_ (zkT hv (l := l) h2);dsimp only
  by_cases c : p.1 = k
  ·rw [if_pos c, if_pos (by rw [<- e, c])]; exact ⟨e, hv⟩
  ·rw [if_neg c, if_neg (fun z => c (by rw [<- e] at z; exact Sum.inr.inj z))]; exact h1
theorem zko {k : Str} {v : V} {u : Value} {l : List (Str × V)} {vs : List (Key × Value)} (r : KV (dS l) vs) (hv : RelV v u) : KV (dS (putS l k v)) (stored vs (Sum.inr k) u) := by
 unfold putS stored;have e := zkS (k := k) r
 by_cases c : (l.any fun p => decide (p.1 = k)) = true
 ·rw [if_pos c, if_pos (by rw [<- c, <- e])]; exact zkT hv r
 ·rw [if_neg c, if_neg (fun z => c (by rw [<- z, <- e])), zlV]; exact KV.snoc r hv
theorem zkp (l : List (Str × V)) (k : Str) (v : V) : (putS l k v).length <= l.length + 1 := by
 unfold putS; split <;> simp
def zoN : V -> V -> V -> Hp -> (Hp -> Prop) -> Prop := fun o i v H Q => ∃ p k l, o = .ref p /\ i = .str k /\ H p = some (.dK (dS l)) /\ l.length < 4000 /\ Q (upd H p (.dK (dS (putS l k v))))
def znL : R2 := fun x y H Q => ∃ k p l z, x = .ref p /\ y = .str k /\ Rd H p (.dK (dS l)) /\ valS l k = some z /\ Q z H
theorem zoO : IxR X znL := by
 intro value slice Qa s σ H x y v u Q I rx ry h hs;obtain ⟨k, p, l, z, rfl, rfl, hp, hat, q⟩ := h;cases rx;obtain ⟨t, rfl⟩ := ry;obtain ⟨_, hd, vs, rel, dd⟩ := (show ObjOk X.prog X.w H s.heap p (.dK (dS l)) from hp.ok I.hok)
 obtain ⟨w', hw, rw'⟩ := (zgQ (k := k) rel).2 z hat;refine subscriptTail_builtinR (x := w') dd.typeIs slot_dict_getitem.lookup (wpAny_getItem_of (zde X.prog X.w k t) dd.mapOf hw ?_) hs;exact ⟨rfl, z, H, I.tok _, rw', q⟩
def rawF (x : Rw × Addr) : Rw × Addr × Value := (x.1, x.2, .bool true)
def FdO (P : Program) (w : World) (d : Addr) (fs : List (Rw × Addr)) : HO := .ext fun h => (d == sysModules) = false /\ fs.length <= sizeLine /\ ∃ o es ep, h.get? d = some o /\ o.ExactDict /\ o.data = .dict es ep /\ es.toList = (fs.map rawF).map (entryOfKey (zki P w)) /\ (fs.map (·.1)).Nodup
def FdAt (P : Program) (w : World) (H : Hp) (d : Addr) (fs : List (Rw × Addr)) : Prop := H d = some (FdO P w d fs) \/ (fs = [] /\ H d = some (.dK []))
theorem zjn {Qa : ZP} {σ : St} {H : Hp} {s : Shared} (I : Inv X Qa σ H s) {k : Rw} {b : Addr} (h : RepD X.K H (rowD true k) (.ref b)) : FactAt s.heap k b := by
 obtain ⟨a, x, t, u, l, e, p, ⟨c, xs, rfl, q, r⟩, e2⟩ := zd5 I h (fun z => nomatch z) (rfl : RelV (.ref b) (.ref b));cases e;have e1 : k.1.cps.toList = x.cps.toList := congrArg Prod.fst e2;have e3 : k.2 = l := congrArg Prod.snd e2;subst e3;rw [<- zgK e1] at p;exact ⟨t, c, xs, p, q, r⟩
def pFs (fs : List (Rw × Addr)) (k : Rw) (b : Addr) : List (Rw × Addr) := if (fs.map (·.1)).contains k = true then fs else fs ++ [(k, b)]
def zoP (P : Program) (w : World) (K : W.Frag) : V -> V -> V -> Hp -> (Hp -> Prop) -> Prop := fun o i v H Q => ∃ p b k fs, o = .ref p /\ i = .ref b /\ v = .bl true /\ FdAt P w H p fs /\ RepD K H (rowD true k) (.ref b) /\ (∀ z ∈ fs, RepD K H (rowD true z.1) (.ref z.2)) /\ fs.length < 4000 /\ Q (upd H p (FdO P w p (pFs fs k b)))
def znM (P : Program) (w : World) : List V -> Hp -> VK -> Prop := fun xs H Q => ∃ d fs, xs = [.ref d] /\ FdAt P w H d fs /\ ∀ l, H l = none -> Q (.ref l) (upd H l (.lst (fs.map fun f => .ref f.2)))
variable {K : W.Frag} {H H' : Hp} {Q : VK} {i j : Int} {x y : Str}
def RepX (K : W.Frag) (H : Hp) (ds : List Dt) (xs : List V) : Prop := ds.length = xs.length /\ ∀ (j : Nat) d x, ds[j]? = some d -> xs[j]? = some x -> RepD K H d x
theorem RepX.nil : RepX K H [] [] := ⟨rfl, fun j d x e => by simp at e⟩
theorem RepX.same (e : Same H H') {ds : List Dt} {xs : List V} (h : RepX K H ds xs) : RepX K H' ds xs := ⟨h.1, fun j d x a b => (h.2 j d x a b).same e⟩
theorem RepX.snoc {ds : List Dt} {xs : List V} {d : Dt} {v : V} (h : RepX K H ds xs) (hd : RepD K H d v) : RepX K H (ds ++ [d]) (xs ++ [v]) := by
 refine ⟨by simp [h.1], fun j d' x e1 e2 => ?_⟩
 by_cases c : j < ds.length
 ·rw [ya5 c] at e1;rw [ya5 (by rw [<- h.1]; exact c)] at e2;exact h.2 j d' x e1 e2
 ·rw [List.getElem?_append_right ω] at e1;rw [List.getElem?_append_right (by have := h.1; omega)] at e2;have z : j - ds.length = 0 := by
   have := (yag.mp e1).1;simp at this; omega
  rw [z] at e1;rw [<- h.1, z] at e2;cases e1; cases e2; exact hd
theorem RepX.tup {a : Addr} {ds : List Dt} {xs : List V} (h : RepX K H ds xs) (s : SqT K H a xs) : RepD K H (.tup ds) (.ref a) := .tup s h.1 h.2
theorem RepD.toT {ds : List Dt} {v : V} (h : RepD K H (.tup ds) v) : ∃ a xs, v = .ref a /\ SqT K H a xs /\ RepX K H ds xs := by
 cases h with
 | @tup a xs _ h hl hr => exact ⟨a, xs, rfl, h, hl, hr⟩
def prR (p : Str × Int) : Rw := (p.1, [p.2])
structure Wd where
 size : Int
 cs : List (Str × Int)
 fs : List Rw
def Wd.dt (W : Wd) : Dt := .tup [.int W.size, .tup ((W.cs.map prR).map (rowD false)), .tup (W.fs.map (rowD true))]
def RisC (cs : List (Str × Int)) : Prop := cs.Pairwise fun a b => a.1.cps.toList < b.1.cps.toList
def RisF (fs : List Rw) : Prop := fs.Pairwise fun a b => zbe (rowK a) (rowK b)
structure Wd.Ok (W : Wd) : Prop where
 s1 : 1 <= W.size
 s2 : W.size <= 40
 rc : RisC W.cs
 rf : RisF W.fs
 nm : ∀ p ∈ W.cs, Nm smallS p.1 /\ 0 <= p.2 /\ p.2 < W.size
 ft : ∀ f ∈ W.fs, Nm smallS f.1 /\ f.2.length <= 3 /\ ∀ i ∈ f.2, 0 <= i /\ i < W.size
 lc : W.cs.length <= 40
 lf : W.fs.length <= 100
structure RepW (K : W.Frag) (H : Hp) (W : Wd) (a c f : Addr) (xs ys : List V) : Prop where
 top : SqT K H a [.int W.size, .ref c, .ref f]
 called : SqT K H c xs
 facts : SqT K H f ys
 rc : RepX K H ((W.cs.map prR).map (rowD false)) xs
 rf : RepX K H (W.fs.map (rowD true)) ys
theorem RepW.same (e : Same H H') {W : Wd} {a c f : Addr} {xs ys : List V} (h : RepW K H W a c f xs ys) : RepW K H' W a c f xs ys := ⟨e.seqT h.top, e.seqT h.called, e.seqT h.facts, h.rc.same e, h.rf.same e⟩
theorem RepW.repD {W : Wd} {a c f : Addr} {xs ys : List V} (h : RepW K H W a c f xs ys) : RepD K H W.dt (.ref a) := RepD.t3 h.top (.int _) (h.rc.tup h.called) (h.rf.tup h.facts)
theorem Wd.dep (W : Wd) : Dt.dep W.dt <= 60 := by
 have z : ∀ l : List Int, Dt.deps (l.map Dt.int) = 0 := fun l => by
  induction l with
  | nil => simp [Dt.deps]
  | cons a l ih => simp [Dt.deps, Dt.dep, ih]
 have h1 : ∀ ks : List Rw, Dt.deps (ks.map (rowD true)) <= 2 := fun ks => by
  induction ks with
  | nil => simp [Dt.deps]
  | cons a l ih =>
   rw [List.map_cons, Dt.deps];have : Dt.dep (rowD true a) <= 2 := by simp [rowD, Dt.dep, Dt.deps, z]
   omega
 have h2 : ∀ ks : List Rw, Dt.deps (ks.map (rowD false)) <= 2 := fun ks => by
  induction ks with
  | nil => simp [Dt.deps]
  | cons a l ih =>
   rw [List.map_cons, Dt.deps];have : Dt.dep (rowD false a) <= 2 := by simp [rowD, Dt.dep, Dt.deps]
   omega
 have a1 := h1 W.fs;have a2 := h2 (W.cs.map prR);simp only [Wd.dt, Dt.dep, Dt.deps];omega
theorem zgR {a b : Rw} (h : rowK a = rowK b) : a = b := Prod.ext (zgK (congrArg Prod.fst h)) (show (rowK a).2 = (rowK b).2 from congrArg Prod.snd h)
theorem zjo {l m : List Rw} (hl : l.Pairwise fun a b => ¬ zbe (rowK b) (rowK a)) (hm : m.Pairwise fun a b => ¬ zbe (rowK b) (rowK a)) (p : l.Perm m) : l = m :=
 List.Perm.eq_of_pairwise (fun a b _ _ h1 h2 => by
  rcases rowLt_tri (rowK a) (rowK b) with z | z | z
  ·exact absurd z h2
  ·exact zgR z
  ·exact absurd z h1) hl hm p
theorem zkq {zs : List (V × Rw)} (h : SrtR zs) : (zs.map (·.2)).Pairwise fun a b => ¬ zbe (rowK b) (rowK a) := List.pairwise_map.mpr h
section
variable {K : W.Frag} {P : Program} {w : World} {H : Hp} {Q : VK} {p b : Addr} {k : Str} {v : V} {Qh : Hp -> Prop}
theorem znN : zoN (.ref p) (.str k) v H Qh = ∃ l, H p = some (.dK (dS l)) /\ l.length < 4000 /\ Qh (upd H p (.dK (dS (putS l k v)))) := by
 refine propext ⟨fun ⟨_, _, l, e1, e2, h⟩ => ?_, fun ⟨l, h⟩ => ⟨p, k, l, rfl, rfl, h⟩⟩;cases e1; cases e2; exact ⟨l, h⟩
theorem znO : zoP P w K (.ref p) (.ref b) (.bl true) H Qh = ∃ k fs, FdAt P w H p fs /\ RepD K H (rowD true k) (.ref b) /\ (∀ z ∈ fs, RepD K H (rowD true z.1) (.ref z.2)) /\ fs.length < 4000 /\ Qh (upd H p (FdO P w p (pFs fs k b))) := by
 refine propext ⟨fun ⟨_, _, k, fs, e1, e2, _, h⟩ => ?_, fun ⟨k, fs, h⟩ => ⟨p, b, k, fs, rfl, rfl, rfl, h⟩⟩;cases e1; cases e2; exact ⟨k, fs, h⟩
theorem zlW : znM P w [.ref p] H Q = ∃ fs, FdAt P w H p fs /\ ∀ l, H l = none -> Q (.ref l) (upd H l (.lst (fs.map fun f => .ref f.2))) := by
 refine propext ⟨fun ⟨_, fs, e, h⟩ => ?_, fun ⟨fs, h⟩ => ⟨p, fs, rfl, h⟩⟩;cases e; exact ⟨fs, h⟩
theorem znP : znL (.ref p) (.str k) H Q = ∃ l z, Rd H p (.dK (dS l)) /\ valS l k = some z /\ Q z H := by
 refine propext ⟨fun ⟨_, _, l, z, e1, e2, h⟩ => ?_, fun ⟨l, z, h⟩ => ⟨k, p, l, z, rfl, rfl, h⟩⟩;cases e1; cases e2; exact ⟨l, z, h⟩
theorem zjp {zs : List (V × Rw)} {l : List Rw} (h : SrtR zs) (p : (zs.map (·.2)).Perm l) (hn : l.Nodup) : RisF (zs.map (·.2)) := by
 have n2 : (zs.map (·.2)).Nodup := p.nodup_iff.mpr hn;refine ((zkq h).and n2).imp fun {a b} ⟨h1, h2⟩ => ?_;rcases rowLt_tri (rowK a) (rowK b) with z | z | z
 ·exact z
 ·exact absurd (zgR z) h2
 ·exact absurd z h1
end
end
end L2
namespace L2
open PySem PySem.Spec PyProof.Rows PySem.SeqAt
open AutoSeq1 (wpAny_loadPart')
open MeetsSeq MeetsSeq2 MeetsSeq3 SeqRoads2
def twoB (b c : Bool) : Nat -> Bool
 | 0 => b
 | _ => c
section
variable {A : Around} {s : Shared}
theorem znQ {f : Bool} {x y : Str} {t t' : Tok} {u v : Value} {l m : List Int} (hu : A.units + 1 < cLine) (r : SecR s.heap f u l) (r' : SecR s.heap f v m) : ∀ j (h1 : j < (#[Value.str x t, u]).size) (h2 : j < (#[Value.str y t', v]).size), EqAt A.in1 s (#[Value.str x t, u])[j] (#[Value.str y t', v])[j] (twoB (x == y) (decide (l = m)) j) := fun j h1 h2 => by
 have h1' : j < 2 := h1
 match j, h1' with
 | 0, _ => exact EqAt.str_str _ _ _ _
 | 1, _ => exact r.eqAt (by show A.units + 1 < cLine; exact hu) r'
theorem znR {f : Bool} {u v : Value} {k k' : List Nat × List Int} (hu : A.units + 1 < cLine) (h1 : RowR s.heap f u k) (h2 : RowR s.heap f v k') : LtA A s u v (decide (zbe k k')) := by
 obtain ⟨a, x, t, u, l, rfl, p, r, rfl⟩ := h1;obtain ⟨b, y, t', v, m, rfl, p', r', rfl⟩ := h2;have z := LtA.tup (A := A) (e := twoB (x == y) (decide (l = m))) (l := twoB (decide (x.cps.toList < y.cps.toList)) (decide (l < m))) p p' ω (znQ hu r r') (fun j h1 h2 _ => by
  have h1' : j < 2 := h1
  match j, h1' with
  | 0, _ => exact LtA.str _ _ _ _
  | 1, _ => exact r.ltA (by show A.units + 1 < cLine; exact hu) r')
 have e : lexB (twoB (x == y) (decide (l = m))) (twoB (decide (x.cps.toList < y.cps.toList)) (decide (l < m))) (decide ((#[Value.str x t, u]).size < (#[Value.str y t', v]).size)) (List.range (min (#[Value.str x t, u]).size (#[Value.str y t', v]).size)) = decide (zbe (x.cps.toList, l) (y.cps.toList, m)) := by
  show lexB _ _ (decide (2 < 2)) (List.range 2) = _;rw [show List.range 2 = [0, 1] from rfl];simp only [lexB, twoB]
  by_cases c : x = y
  ·subst c
   by_cases c2 : l = m
   ·subst c2; simp [zbY]
   ·simp [zbe, c2, List.lt_irrefl]
  ·have c' : ¬ x.cps.toList = y.cps.toList := fun e => c (zgK e);have : (x == y) = false := by simpa using c
   simp [zbe, this, c']
 rw [e] at z;exact z
end
section
variable {X : Cx}
def zjq (K : W.Frag) : R2 := fun x y H Q => ∃ f k k', RepD K H (rowD f k) x /\ RepD K H (rowD f k') y /\ (f = false -> k.2.length = 1 /\ k'.2.length = 1) /\ Q (.bl (decide (zbe (rowK k) (rowK k')))) H
theorem zkr (hu : X.A.units + 64 < cLine) : OpR X (compareOp .Lt) (zjq X.K) := by
 intro Qa s σ H x y v u Q I rx ry h;obtain ⟨f, k, k', h1, h2, h3, q⟩ := h;exact znR ω (zd5 I h1 (fun z => (h3 z).1) rx) (zd5 I h2 (fun z => (h3 z).2) ry) _ _ _ _ (za8 I q rfl)
def rLtW (K : W.Frag) : R2 := fun x y H Q => rLtA x y H Q \/ zjq K x y H Q
theorem znS (K : W.Frag) (hu : X.A.units + 64 < cLine) (hK : X.K = K := by rfl) : OpR X (compareOp .Lt) (rLtW K) := hK ▸ (OpR.or zcO (zkr hu) : OpR X (compareOp .Lt) (rLtW X.K))
variable {K : W.Frag} {H : Hp} {Q : VK} {i j : Int} {x y : Str} {p q : Addr}
theorem RepD.rowRef {f : Bool} {k : Rw} {v : V} (h : RepD K H (rowD f k) v) : ∃ a, v = .ref a := by
 cases f <;> (obtain ⟨a, _, _, e, _⟩ := RepD.two h; exact ⟨a, e⟩)
theorem znT : rLtW K (.int i) (.int j) H Q = Q (.bl (decide (i < j))) H := by
 refine propext ⟨fun h => ?_, fun h => .inl (by rw [zlp]; exact h)⟩;rcases h with h | ⟨f, k, k', h1, _⟩
 ·rwa [zlp] at h
 ·obtain ⟨a, e⟩ := h1.rowRef; cases e
theorem zkU : rLtW K (.str x) (.str y) H Q = Q (.bl (decide (x.cps.toList < y.cps.toList))) H := by
 refine propext ⟨fun h => ?_, fun h => .inl (by rw [zlP]; exact h)⟩;rcases h with h | ⟨f, k, k', h1, _⟩
 ·rwa [zlP] at h
 ·obtain ⟨a, e⟩ := h1.rowRef; cases e
theorem zpe : rLtW K (.ref p) (.ref q) H Q = zjq K (.ref p) (.ref q) H Q := by
 refine propext ⟨fun h => ?_, .inr⟩;rcases h with (⟨_, _, e, _⟩ | ⟨_, _, e, _⟩) | h
 ·cases e
 ·cases e
 ·exact h
def zlX : V -> List V -> Hp -> VK -> Prop := fun x vs H Q => ∃ l xs y n, x = .ref l /\ vs = [.int (n : Nat), y] /\ H l = some (.lst xs) /\ n <= xs.length /\ xs.length < 100000 /\ Q .non (upd H l (.lst (xs.take n ++ y :: xs.drop n)))
theorem zks {l : Addr} {y : V} {N : Int} : zlX (.ref l) [.int N, y] H Q = ∃ xs n, N = (n : Nat) /\ H l = some (.lst xs) /\ n <= xs.length /\ xs.length < 100000 /\ Q .non (upd H l (.lst (xs.take n ++ y :: xs.drop n))) := by
 refine propext ⟨fun ⟨_, xs, _, n, e1, e2, h⟩ => ?_, fun ⟨xs, n, e, h⟩ => ⟨l, xs, y, n, rfl, by rw [e], h⟩⟩;cases e1;simp only [List.cons.injEq, V.int.injEq, and_true] at e2;obtain ⟨e3, rfl⟩ := e2;exact ⟨xs, n, e3, h⟩
def risQ (ks : List (List Nat × List Int)) : Bool := (List.range (ks.length - 1)).all fun j => decide (zbe (ks.getD j ([], [])) (ks.getD (j + 1) ([], [])))
def KeyIt (K : W.Frag) (H : Hp) (t : Bool) (v : V) (k : List Nat × List Int) : Prop := match t with
 | true => ∃ x : Str, v = .str x /\ k = (x.cps.toList, [])
 | false => ∃ (a : Addr) (r : Rw), v = .ref a /\ RepD K H (rowD true r) v /\ k = rowK r
theorem zjr {a b : List Nat} : zbe (a, []) (b, []) ↔ a < b := ⟨fun h => h.elim id fun z => absurd z.2 (List.lt_irrefl _), .inl⟩
theorem KeyIt.lt {t : Bool} {u v : V} {k k' : List Nat × List Int} (h1 : KeyIt K H t u k) (h2 : KeyIt K H t v k') (q : Q (.bl (decide (zbe k k'))) H) : rLtW K u v H Q := by
 cases t with
 | true =>
  obtain ⟨x, rfl, rfl⟩ := h1; obtain ⟨y, rfl, rfl⟩ := h2;rw [zkU]
  rwa [show decide (zbe (x.cps.toList, []) (y.cps.toList, [])) = decide (x.cps.toList < y.cps.toList) from decide_eq_decide.mpr zjr] at q
 | false =>
  obtain ⟨a, r, rfl, e2, rfl⟩ := h1; obtain ⟨b, r', rfl, e2', rfl⟩ := h2;exact Or.inr ⟨true, r, r', e2, e2', (fun z => nomatch z), q⟩
def KeyRow (K : W.Frag) (H : Hp) (xs : List V) (ks : List (List Nat × List Int)) : Prop := ∃ t, ks.length = xs.length /\ ∀ (j : Nat) v k, xs[j]? = some v -> ks[j]? = some k -> KeyIt K H t v k
theorem KeyRow.facts {fs : List Rw} {ys : List V} (h : RepX K H (fs.map (rowD true)) ys) : KeyRow K H ys (fs.map rowK) := by
 refine ⟨false, by have := h.1; simpa using this, fun j v k e1 e2 => ?_⟩;rw [yav] at e2;cases c : fs[j]? with
 | none => rw [c] at e2; cases e2
 | some r =>
  rw [c] at e2;cases e2;have := h.2 j (rowD true r) v (by rw [yav, c]; rfl) e1;obtain ⟨a, rfl⟩ := this.rowRef;exact ⟨a, r, rfl, this, rfl⟩
theorem KeyRow.txts (ts : List Str) : KeyRow K H (ts.map V.str) (ts.map fun x => (x.cps.toList, [])) := by
 refine ⟨true,ς, fun j v k e1 e2 => ?_⟩;rw [yav] at e1 e2;cases c : ts[j]? with
 | none => rw [c] at e2; cases e2
 | some r => rw [c] at e1 e2; cases e1; cases e2; exact ⟨r, rfl, rfl⟩
theorem KeyRow.at {xs : List V} {ks : List (List Nat × List Int)} {t : Bool} (hl : ks.length = xs.length) (h : ∀ (j : Nat) v k, xs[j]? = some v -> ks[j]? = some k -> KeyIt K H t v k) {j : Nat} (hj : j < xs.length) : KeyIt K H t xs[j] (ks.getD j ([], [])) := by
 have h1 : j < ks.length := by omega
 have : ks.getD j ([], []) = ks[j] := by simp [List.getD, h1]
 rw [this];exact h j _ _ (yal hj) (yal h1)
end
end L2
namespace L2
open PySem PySem.Spec PyProof.Rows PySem.SeqAt
theorem zed {α β : Type} (g : β -> α) : ∀ {l m : List α}, l.Perm m -> ∀ {fs : List β}, m = fs.map g -> ∃ fs' : List β, fs'.Perm fs /\ l = fs'.map g := by
 intro l m h
 induction h with
 | nil => intro fs e; exact ⟨fs, .refl _, e⟩
 | cons x _ ih =>
  intro fs e;cases fs with
  | nil => cases e
  | cons f fs =>
   obtain ⟨e1, e2⟩ := List.cons.inj e;obtain ⟨fs', p, q⟩ := ih e2;exact ⟨f :: fs', p.cons f, by rw [e1, q]; rfl⟩
 | swap x y l =>
  intro fs e
  match fs, e with
  | f :: g' :: fs, e =>
   simp only [List.map_cons, List.cons.injEq] at e;obtain ⟨e1, e2, e3⟩ := e;exact ⟨g' :: f :: fs, .swap _ _ _, by rw [e1, e2, e3]; rfl⟩
 | trans _ _ ih1 ih2 =>
  intro fs e;obtain ⟨f1, p1, q1⟩ := ih2 e;obtain ⟨f2, p2, q2⟩ := ih1 q1;exact ⟨f2, p2.trans p1, q2⟩
section
variable {prog : Program} {w : World} {A : Around} {E : ZQ} {s : Shared}
theorem zfy {κ : KeyKind} {kx : SortKind} {x : Value} {Q : ZQ} (hx : wpAny (model prog w) A.in1 (collect x) (fun vs s1 => KeysOf κ (pairsOf vs) /\ (∀ s2, (∀ b o, s1.heap.get? b = some o -> s2.heap.get? b = some o) -> LtAt κ kx prog w A.in1.in1 s2) /\
   (∀ s2 E, (∀ b o, s1.heap.get? b = some o -> s2.heap.get? b = some o) -> 2 <= vs.length -> wpAny (model prog w) A.in1.in1 (keyKind' vs.toArray) (fun k s3 => k = kx /\ s3 = s2) E s2) /\ vs.length <= 1000 /\
   ∀ l hp (st' : SortSt), (∀ b o, s1.heap.get? b = some o -> hp.get? b = some o) -> s1.heap.objs.size <= l -> (∃ c, hp.get? l = some { cls := .type "list", data := .seq ((arrOf st').map (·.2)) c }) -> (arrOf st').Perm (pairsOf vs) -> SortedToK κ (arrOf st') (pairsOf vs).size -> Q (.ref l) { s1 with heap := hp }) E s) :
  wpAny (model prog w) A (call (.builtin "sorted") [x]) Q E s := by
 refine Calls.call_function_entry kind_sorted plain_sorted entry_sorted (args_sorted1 _) ?_;unfold Builtin.«sorted»;apply yaa (m := checkCount "sorted" 1 1 _);refine yab (yaa (wpAny_mono hx (fun vs s1 q => ?_) fun _ _ z => z));obtain ⟨h0, hO, hkk, hmx, k⟩ := q;refine yaa (wpAny_newList ?_ (zak ω));have ho : (s1.heap.push (seqObj "list" vs.toArray 0)).get? s1.heap.objs.size = some (seqObj "list" vs.toArray 0) := yaj _ rfl;have sz : (s1.heap.push (seqObj "list" vs.toArray 0)).objs.size = s1.heap.objs.size + 1 := Heap.size_push ..;have k1 : ∀ b o, s1.heap.get? b = some o -> b ≠ s1.heap.objs.size /\ (s1.heap.push (seqObj "list" vs.toArray 0)).get? b = some o := fun b o e => ⟨Nat.ne_of_lt (yan e), zay _ _ e⟩
 show wpAny _ _ _ _ _ { s1 with heap := s1.heap.push (seqObj "list" vs.toArray 0) };refine yaa (wpAny_holding (wpAny_call_entry slot_list_sort ⟨_, ho, rfl⟩ entry_list_sort (zbA ho h0 (fun s2 h2 => hO s2 fun b o hg => h2 b o (k1 b o hg).1 (k1 b o hg).2) (fun s2 h2 => hkk s2 _ fun b o hg => h2 b o (k1 b o hg).1 (k1 b o hg).2) hmx fun st' a1 a2 => ⟨_, rfl, ?_⟩) (args_list_sort _)));obtain ⟨c, hc⟩ := sortedHeap_at (vs := vs) (out := (arrOf st').map (·.2)) ho;refine yab ⟨_, rfl, k _ _ st' (fun b o e => ?_) (yai _) ⟨c, hc⟩ a1 a2⟩;have hlt := yan e;rw [sortedHeap_old (Nat.ne_of_lt hlt) (by rw [sz]; exact Nat.lt_succ_of_lt hlt)];exact (k1 b o e).2
end
def FsO (prog : Program) (w : World) (S : Addr) (fs : List (Rw × Addr)) : HO := .ext fun h => SetG prog w h S fs
section
variable {X : Cx} {Qa : ZP} {σ : St} {H : Hp} {s : Shared}
def zjs (P : Program) (w : World) (K : W.Frag) : List V -> Hp -> VK -> Prop := fun xs H Q => ∃ (a : Addr) (ks : List (Rw × Addr)), xs = [.ref a] /\ SqL K H a (ks.map fun k => V.ref k.2) /\ (∀ k ∈ ks, RepD K H (rowD true k.1) (.ref k.2)) /\ ks.length < 60 /\
 ∀ S fs, H S = none -> (fs.map (·.1)).Nodup -> (∀ x, x ∈ fs.map (·.1) ↔ x ∈ ks.map (·.1)) -> (∀ f ∈ fs, f ∈ ks) -> fs.length <= ks.length -> Q (.ref S) (upd H S (FsO P w S fs))
theorem zh4 (hc : X.calm = true) (hu : X.A.units + 64 < cLine) : zaN X (.type "set") (zjs X.prog X.w X.K) := by
 intro Qa s σ H xs us Q I r h;obtain ⟨a, ks, rfl, hq, hR, hl, k⟩ := h;obtain ⟨u, rfl, ru⟩ := zcn r;cases ru;obtain ⟨its, rv, pl, _⟩ := I.list hq;have Qe : its.length = ks.length := by have := rv.length; simpa using this.symm
 let val : Nat -> Rw := fun i => (ks.getD i ((Str.empty, []), 0)).1
 let adr : Nat -> Addr := fun i => (ks.getD i ((Str.empty, []), 0)).2
 have gk : ∀ i, i < ks.length -> ∃ z, ks[i]? = some z /\ z = (val i, adr i) /\ z ∈ ks := fun i hi => by
  refine ⟨ks[i], yal hi, ?_, List.getElem_mem hi⟩;show ks[i] = ((ks.getD i _).1, (ks.getD i _).2);rw [List.getD_eq_getElem?_getD, yal hi, Option.getD_some]
 refine zdL (val := val) (adr := adr) (I.ok.hd hc) (by show X.A.units + 3 + 1 < cLine; omega) pl.isList (fun i v e => ?_) (fun j hj => ?_) (by rw [yad]; omega) fun s' hm => ?_
 ·have e' : its[i]? = some v := by simpa using e
  have hi : i < ks.length := by rw [<- Qe]; exact (yag.mp e').1
  obtain ⟨z, ez, e2, _⟩ := gk i hi;obtain ⟨u, hu', ru⟩ := rv.get (i := i) (by rw [yav, ez]; rfl);rw [e'] at hu';cases hu';rw [e2] at ru;exact ru
 ·obtain ⟨z, ez, e2, hz⟩ := gk j (by rw [yad] at hj; omega);have := zjn I (hR z hz);rw [e2] at this;exact this
 ·obtain ⟨hp, tk, fs, rfl, S, l1, m1, d1, kp⟩ := hm;obtain ⟨o, es, ep, tb, ho, hex, hd, hE, nd, rest⟩ := id S;rw [yad, Qe] at l1 m1 d1;refine ⟨.ref s.heap.objs.size, _, I.laid (t' := tk) (o := FsO X.prog X.w s.heap.objs.size fs) (fun b o e => kp b o (yan e) e) (yai _) ⟨S, ⟨o, ho⟩, fun h1 h2 s1 k1 => s1.at k1⟩, rfl, k _ fs (I.hok.fresh (yai _)) nd (fun x => (m1 x).trans ⟨?_, ?_⟩) (fun f hf => ?_) l1⟩
  ·rintro ⟨j, hj, e⟩
   obtain ⟨z, _, e2, hz⟩ := gk j hj;exact ya6.mpr ⟨z, hz, by rw [e2]; exact e⟩
  ·intro hx;obtain ⟨z, hz, rfl⟩ := ya6.mp hx;obtain ⟨j, hj, e⟩ := List.mem_iff_getElem.mp hz;obtain ⟨z', ez, e2, _⟩ := gk j hj;rw [yal hj, e] at ez;cases ez;exact ⟨j, hj, by rw [e2]⟩
  ·obtain ⟨j, hj, e⟩ := d1 f hf;obtain ⟨z, _, e2, hz⟩ := gk j hj;rw [e, <- e2];exact hz
def zd8 (P : Program) (w : World) (K : W.Frag) : List V -> Hp -> VK -> Prop := fun xs H Q => ∃ (a : Addr) (fs : List (Rw × Addr)), xs = [.ref a] /\ H a = some (FsO P w a fs) /\ (∀ f ∈ fs, RepD K H (rowD true f.1) (.ref f.2)) /\ fs.length <= 60 /\
 ∀ l fs', H l = none -> List.Perm fs' fs -> SrtR (fs'.map fun f => (V.ref f.2, f.1)) -> Q (.ref l) (upd H l (.lst (fs'.map fun f => V.ref f.2)))
theorem ze2 (hc : X.calm = true) (hu : X.A.units + 64 < cLine) : zaN X (.builtin "sorted") (zd8 X.prog X.w X.K) := by
 intro Qa s σ H xs us Q I r h;obtain ⟨a, fs, rfl, hq, hR, hl, k⟩ := h;obtain ⟨u, rfl, ru⟩ := zcn r;cases ru;have S : SetG X.prog X.w s.heap a fs := (I.hok a _ hq).1;obtain ⟨o, es, ep, tb, ho, hex, hd, hE, nd, T, few, hld, hpl⟩ := S;have hkl : fs.length = es.size := by have := congrArg List.length hE; simpa using this.symm
 have hps : tb.place.size = es.size := by have := T.len; simpa using this
 have hf : tb.fits es.size = true := zge T ς ω;have hev : es.toList.map (·.2) = fs.map fun f => Value.ref f.2 := by rw [hE, List.map_map]; rfl
 have hrow : ∀ f ∈ fs, RowR s.heap true (.ref f.2) (rowK f.1) := fun f hf => zd5 I (hR f hf) (fun z => nomatch z) (rfl : RelV (.ref f.2) (.ref f.2));refine zfy (κ := zbB s.heap true) (kx := tuples' true) (zcR (I.ok.hd hc) ho hex hd (by show es.size < 4096; omega) hf hld (fun z => hpl fun e => z (by rw [<- hkl, e]; rfl)) fun hp tk d vs k1 z1 pv => ?_);obtain ⟨fs1, p1, e1⟩ := zed (fun f : Rw × Addr => Value.ref f.2) (hev ▸ pv) rfl;have hmem : ∀ v ∈ vs, ∃ f ∈ fs, v = .ref f.2 := fun v hv => by
  rw [e1] at hv;obtain ⟨f, hf, rfl⟩ := ya6.mp hv;exact ⟨f, p1.mem_iff.mp hf, rfl⟩
 have Qe : vs.length = fs.length := by rw [e1, yaf, p1.length_eq]
 have up : ∀ {h2 : Heap} {v : Value} {kk : List Nat × List Int}, (∀ b o, s.heap.get? b = some o -> h2.get? b = some o) -> RowR s.heap true v kk -> RowR h2 true v kk := fun h2 hv => by
  obtain ⟨a, x, t, u, l, e, ⟨o, g, g2⟩, ⟨c, ys, e3, ⟨o2, g3, g4⟩, q2⟩, e2⟩ := hv;exact ⟨a, x, t, u, l, e, ⟨o, h2 _ _ g, g2⟩, ⟨c, ys, e3, ⟨o2, h2 _ _ g3, g4⟩, q2⟩, e2⟩
 refine ⟨fun p hp => ?_, fun s2 h2 => zfq (by show X.A.units + 1 + 1 < cLine; omega) fun b o e => h2 b o (k1 b o e), fun s2 E h2 hn => zcT (f := true) (fun v hv => ?_) hn,ω, fun l hp2 st' k2 hn hc' hpp hss => ?_⟩
 ·rw [pairsOf_toList] at hp;obtain ⟨f, hf, ef⟩ := hmem _ (mem_zip_self hp).2;exact ⟨_, by rw [ef]; exact zcH (hrow f hf)⟩
 ·obtain ⟨f, hf, rfl⟩ := hmem v hv;exact ⟨_, up (fun b o e => h2 b o (k1 b o e)) (hrow f hf)⟩
 ·have F : F2 (fun z v => RelV z.1 v /\ RowR s.heap true v (rowK z.2)) (fs1.map fun f => (V.ref f.2, f.1)) vs := by
   rw [e1];have key : ∀ l : List (Rw × Addr), (∀ f ∈ l, f ∈ fs) -> F2 (fun z v => RelV z.1 v /\ RowR s.heap true v (rowK z.2)) (l.map fun f => (V.ref f.2, f.1)) (l.map fun f => Value.ref f.2) := by
    intro l
    induction l with
    | nil => intro _; exact .nil
    | cons f l ih => intro h; exact .cons ⟨rfl, hrow f (h f ς)⟩ (ih fun g hg => h g (List.mem_cons_of_mem _ hg))
   exact key fs1 fun f hf => p1.mem_iff.mp hf
  obtain ⟨zs', p, q, srt⟩ := zgL F hpp hss;obtain ⟨fs2, p2, e2⟩ := zed (fun f : Rw × Addr => (V.ref f.2, f.1)) p rfl;obtain ⟨c, hc2⟩ := hc';have hsz : s.heap.objs.size <= l := yat z1 hn;have ez : zs'.map (·.1) = fs2.map fun f => V.ref f.2 := by rw [e2, List.map_map]; rfl
  refine ⟨.ref l, _, (I.laid (t' := tk) (o := .lst (fs2.map fun f => V.ref f.2)) (fun b o e => k2 b o (k1 b o e)) hsz ⟨?_, ((arrOf st').map (·.2)).toList, c, by rw [<- ez]; exact q, by rw [hc2]⟩).draw d, rfl, k l fs2 (I.hok.fresh hsz) (p2.trans p1) (by rw [<- e2]; exact srt)⟩;rw [yaf, (p2.trans p1).length_eq];exact zak ω
variable {P : Program} {w : World} {K : W.Frag} {Q : VK} {p : Addr}
theorem zh5 (P : Program) (w : World) (K : W.Frag) (hc : X.calm = true) (hu : X.A.units + 64 < cLine) (hK : X.K = K := by rfl) (hP : X.prog = P := by rfl) (hw : X.w = w := by rfl) : zaN X (.type "set") (zjs P w K) := by
 subst hK; subst hP; subst hw; exact zh4 hc hu
theorem ze3 (P : Program) (w : World) (K : W.Frag) (hc : X.calm = true) (hu : X.A.units + 64 < cLine) (hK : X.K = K := by rfl) (hP : X.prog = P := by rfl) (hw : X.w = w := by rfl) : zaN X (.builtin "sorted") (zd8 P w K) := by
 subst hK; subst hP; subst hw; exact ze2 hc hu
theorem zlY : zjs P w K [.ref p] H Q = ∃ ks : List (Rw × Addr), SqL K H p (ks.map fun k => V.ref k.2) /\ (∀ k ∈ ks, RepD K H (rowD true k.1) (.ref k.2)) /\ ks.length < 60 /\
  ∀ S fs, H S = none -> (fs.map (·.1)).Nodup -> (∀ x, x ∈ fs.map (·.1) ↔ x ∈ ks.map (·.1)) -> (∀ f ∈ fs, f ∈ ks) -> fs.length <= ks.length -> Q (.ref S) (upd H S (FsO P w S fs)) := by
 refine propext ⟨fun ⟨_, ks, e, h⟩ => ?_, fun ⟨ks, h⟩ => ⟨p, ks, rfl, h⟩⟩;cases e; exact ⟨ks, h⟩
theorem zh6 : zd8 P w K [.ref p] H Q = ∃ fs : List (Rw × Addr), H p = some (FsO P w p fs) /\ (∀ f ∈ fs, RepD K H (rowD true f.1) (.ref f.2)) /\ fs.length <= 60 /\
  ∀ l fs', H l = none -> List.Perm fs' fs -> SrtR (fs'.map fun f => (V.ref f.2, f.1)) -> Q (.ref l) (upd H l (.lst (fs'.map fun f => V.ref f.2))) := by
 refine propext ⟨fun ⟨_, ks, e, h⟩ => ?_, fun ⟨ks, h⟩ => ⟨p, ks, rfl, h⟩⟩;cases e; exact ⟨ks, h⟩
end
end L2
namespace L2
open PySem PySem.Spec PyProof.Rows PySem.SeqAt
theorem ze4 : typeLookup (.type "tuple") "keys" = pure none := by rw [typeLookup_type, builtinLookup_eq_fast]; kernel_rfl
section
variable {prog : Program} {w : World} {A : Around} {E : ZQ} {s : Shared}
theorem zjt {a : Addr} {o : Obj} {xs : Array Value} {k : Nat} {Q : Option Value -> Shared -> Prop}
  (hx : s.heap.get? a = some o) (hc : o.cls = .type "tuple") (hdat : o.data = .seq xs k) (hd : o.dict = none) (hA : A.handled = none)
  (h : ∀ h' tk, (∀ b o, s.heap.get? b = some o -> h'.get? b = some o) -> Q none { s with heap := h', toks := tk }) :
  wpAny (model prog w) A (getAttr? (.ref a) "keys") Q E s := by
 obtain ⟨c, dct, dat, sl⟩ := o;simp only at hc hdat hd;subst hc hdat hd;obtain ⟨hp, g, d, tk, os⟩ := s;have hT : ∀ tk', (⟨hp, g, d, tk', os⟩ : Shared).TypeIs (.ref a) "tuple" := fun _ => ⟨_, hx, rfl⟩
 have f1 := sub_AttributeError;have f3 := F.slot_tuple_getattribute.lookup;have f4 := F.slot_tuple_getattribute.bind (.ref a);have f5 := am_tuple_getattr_none;unfold getAttr? getAttrBy? getAttrBy
 repeat (any_goals (first | assumption | exact hT _ | ((with_reducible show wpAny _ _ (call (Value.builtin "tuple.__getattribute__") _ _) _ _ _); refine call_meets F.slot_tuple_getattribute (hT _) am_entry_tuple_getattribute (F.args_tuple_getattribute_2 _ _) (meets_getattribute_miss_tuple a xs k sl "keys" _ ze4 (by decide +kernel) (by size_fits)) ⟨hx, hA, fun h' tk' e hx' => ?_⟩) | wp_step))
 obtain ⟨t', u', he⟩ := hx'.there;show wpAny _ _ (getattributeRaised _ _ _ _ _ _ _) _ _ _;have hTe : (⟨h', g, d, tk', os⟩ : Shared).TypeIs (.ref e) "AttributeError" := ⟨_, he, rfl⟩
 unfold getattributeRaised
 repeat (any_goals (first | assumption | wp_step))
 exact h _ _ hx'.keeps
theorem zfz : entryFor table "dict.update.loop" = some Builtin.«dict.update.loop» := by first | exact entryFor_of_tree (by kernel_rfl) | exact entryFor_of_fast (by kernel_rfl)
theorem zc8 : plainId "dict.update.loop" = true := by decide +kernel
theorem zh7 {K : Type} [DecidableEq K] (l : List (K × Value)) (k : K) (v : Value) : (stored l k v).length <= l.length + 1 := by
 unfold stored; split <;> simp
theorem zgS (ky : Nat -> Str) (vl : Nat -> Value) : ∀ i, ((List.range i).foldl (fun l j => stored l (Sum.inr (ky j) : Key) (vl j)) []).length <= i
 | 0 => yai _
 | i + 1 => by
  rw [List.range_succ, List.foldl_append];exact yat (zh7 _ _ _) (Nat.succ_le_succ (zgS ky vl i))
theorem zh8 {c : Addr} {u v : Value} {Q : List Value -> Shared -> Prop} (h : s.heap.IsTuple c #[u, v]) (q : Q [u, v] s) : wpAny (model prog w) A (Builtin.Dict.pairItems (.ref c)) Q E s := by
 obtain ⟨o, ho, hc, n, hd⟩ := h;unfold Builtin.Dict.pairItems;refine yaa (wpAny_typeOf ⟨o, ho, hc⟩ ?_);rw [if_pos δ];exact yaa (wpAny_seqItems ho hd (yab q))
theorem zh9 {I : Addr} {fp wr : List Addr} {G : Array GenState -> Array GenState -> Prop} {n : Nat} {P : Nat -> Value -> Prop} {St : Nat -> Shared -> Prop} {R : Result -> Shared -> Prop}
  (W : WalksS prog w A.in1 I fp wr G n P St) {d0 : Addr} (hd0 : (d0 == sysModules) = false) (hdf : d0 ∉ fp) (h0 : Heap) (hS0 : h0.get? d0 = none) (hw0 : ∀ b ∈ wr, h0.get? b = none)
  (ky : Nat -> Str) (vl : Nat -> Value) (hval : ∀ i v, P i v -> ∃ c t, v = .ref c /\ h0.IsTuple c #[.str (ky i) t, vl i]) (hb : n <= 1000) (res : Value) :
  ∀ (k i : Nat) (s : Shared) (kvs : List (Key × Value)), n - i = k -> i <= n -> St i s -> (∀ b o, h0.get? b = some o -> s.heap.get? b = some o) -> s.heap.DictOf (mixKind prog w) d0 kvs -> kvs = (List.range i).foldl (fun l j => stored l (Sum.inr (ky j)) (vl j)) [] ->
   (∀ s' kvs', Moved (d0 :: wr) G s s' -> s'.heap.DictOf (mixKind prog w) d0 kvs' -> kvs' = (List.range n).foldl (fun l j => stored l (Sum.inr (ky j)) (vl j)) [] -> R (.ok (.ret res)) s') ->
   codeAny (model prog w) A (.builtin "dict.update.loop" ⟨[.ref d0, .ref I, rawInt i, res], []⟩) R s := by
 have hdw : d0 ∉ wr := fun q => hdf (W.sub _ q);have sub : ∀ b ∈ wr, b ∈ d0 :: wr := fun b q => List.mem_cons_of_mem _ q;have keepM : ∀ {s s' : Shared}, Moved wr G s s' -> (∀ b o, h0.get? b = some o -> s.heap.get? b = some o) -> ∀ b o, h0.get? b = some o -> s'.heap.get? b = some o := fun hm hk b o e => hm.heap b o (fun q => by rw [hw0 b q] at e; cases e) (hk b o e);have keepD : ∀ {s s' : Shared} {kvs : List (Key × Value)}, Moved wr G s s' -> s.heap.DictOf (mixKind prog w) d0 kvs -> s'.heap.DictOf (mixKind prog w) d0 kvs := fun hm ⟨o, es, ep, ho, r⟩ => ⟨o, es, ep, hm.heap d0 o hdw ho, r⟩
 intro k
 induction k with
 | zero =>
  intro i s kvs hk hi st hk0 hD hkv hR;obtain rfl : i = n := by omega
  apply codeAny_builtin zfz;rw [Around.under_plainId zc8 _];show wpAny _ A.in1 (pyNext (.ref I) >>= _) _ _ s;apply yaa;refine W.done s _ _ st fun s' hm => ?_;dsimp only;refine yaa ?_;unfold Builtin.Dict.addKeywords;refine yaa (yab (yab (yab (hR s' kvs (hm.mono sub) (keepD hm hD) hkv))))
 | succ k ih =>
  intro i s kvs hk hi st hk0 hD hkv hR;have hlt : i < n := by omega
  apply codeAny_builtin zfz;rw [Around.under_plainId zc8 _];show wpAny _ A.in1 (pyNext (.ref I) >>= _) _ _ s;apply yaa;refine W.item i s _ _ hlt st fun v s' hP st' hm => ?_;obtain ⟨c, t, rfl, hc⟩ := hval i v hP;have hk1 := keepM hm hk0;have hc' : s'.heap.IsTuple c #[.str (ky i) t, vl i] := let ⟨o, ho, r⟩ := hc; ⟨o, hk1 _ _ ho, r⟩;dsimp only;refine yaa (wpAny_holding ?_);refine yaa (wpAny_tryCatch (zh8 hc' ?_));dsimp only;have hkl : kvs.length <= i := by rw [hkv]; exact zgS ky vl i
  refine wpAny_holding (wpAny_dictSet_pairs (zde prog w (ky i) t) (keepD hm hD) (fun h2 hD2 sb => ?_) (zak ω));show wpAny _ A.in1 (again (.builtin "dict.update.loop" ⟨[.ref d0, .ref I, rawInt ((i : Int) + 1), res], []⟩)) _ _ _;have ei : rawInt ((i : Int) + 1) = rawInt ((i + 1 : Nat) : Int) := by rw [Int.natCast_add]; rfl
  rw [ei];refine yab ⟨plainId_quiet zc8 _, ih (i + 1) _ _ ω hlt (W.frame _ s' _ _ st' (Nat.le_succ _) fun b q o e => ?_) (fun b o e => ?_) hD2 ?_ fun s'' kvs2 hm2 D2 e2 => ?_⟩
  ·exact (sb.2 b fun z : b = d0 => hdf (z ▸ q)).trans e
  ·exact (sb.2 b fun z : b = d0 => by rw [z, hS0] at e; cases e).trans (hk1 b o e)
  ·rw [List.range_succ, List.foldl_append, <- hkv]; rfl
  ·exact hR s'' kvs2 (Moved.trans W.gtrans ((hm.mono sub).then_heap (Nat.le_succ _) fun b o q e => (sb.2 b fun z : b = d0 => q (z ▸ List.mem_cons_self)).trans e) hm2) D2 e2
theorem zd9 {a : Addr} {o : Obj} {items : Array Value} {n0 : Nat} (ky : Nat -> Str) (vl : Nat -> Value) {Q : ZQ} (hh : A.handled = none) (hx : s.heap.get? a = some o) (hc : o.cls = .type "tuple") (hdat : o.data = .seq items n0) (hdi : o.dict = none)
  (hi : ∀ (i : Nat) v, items[i]? = some v -> ∃ c t, v = .ref c /\ s.heap.IsTuple c #[.str (ky i) t, vl i]) (hb : items.size <= 1000) (hmod : (s.heap.objs.size == sysModules) = false)
  (h : ∀ hp tk kvs, hp.DictOf (mixKind prog w) s.heap.objs.size kvs -> kvs = (List.range items.size).foldl (fun l j => stored l (Sum.inr (ky j)) (vl j)) [] -> (∀ b o, s.heap.get? b = some o -> hp.get? b = some o) -> s.heap.objs.size < hp.objs.size -> Q (.ref s.heap.objs.size) { s with heap := hp, toks := tk }) :
  wpAny (model prog w) A (call (.type "dict") [.ref a]) Q E s := by
 refine callType_codes (Q₁ := fun obj s₁ => obj = .ref s.heap.objs.size /\ s₁ = { s with heap := s.heap.push { cls := .type "dict", data := .dict #[] } }) F.kt_called_dict (F.kt_typeCall_dict_1 _) F.entry_dict_init (kt_code_dict_new _ ⟨rfl, rfl⟩) ?_
 rintro obj s₁ ⟨rfl, rfl⟩
 have hnew : (s.heap.push { cls := .type "dict", data := .dict #[] }).DictOf (mixKind prog w) s.heap.objs.size [] := Heap.DictOf.new s.heap;refine ⟨hnew.typeIs, F.args_dict_init_2 _ _, ?_⟩;unfold Builtin.«dict.__init__»;refine yaa ?_;unfold Builtin.Dict.selfAndRest;refine yaa (wpAny_notOrdered_dict hnew.typeIs ?_);show wpAny _ _ (pure (s.heap.objs.size, [Value.ref a])) _ _ _;refine yab ?_;show wpAny _ _ (Builtin.Dict.updateFrom "dict.__init__" s.heap.objs.size (.ref a) [] .none) _ _ _;unfold Builtin.Dict.updateFrom;have hx1 : (s.heap.push { cls := .type "dict", data := .dict #[] }).get? a = some o := zay _ _ hx;have k1 : ∀ b o, s.heap.get? b = some o -> (s.heap.push { cls := .type "dict", data := .dict #[] }).get? b = some o := zay;have hlt : s.heap.objs.size < (s.heap.push { cls := .type "dict", data := .dict #[] }).objs.size := by rw [Heap.size_push]; exact Nat.lt_succ_self _
 have hne : s.heap.objs.size ≠ a := fun e => by rw [<- e, Heap.get?_none_of_le (yai _)] at hx; cases hx
 generalize s.heap.push { cls := .type "dict", data := .dict #[] } = h1 at hnew hx1 k1 hlt;refine yaa (wpAny_typeOf (T := "tuple") ⟨o, hx1, hc⟩ ?_);rw [if_pos δ];refine yaa (zjt (s := { s with heap := h1 }) hx1 hc hdat hdi (by simp [hh]) fun h2 tk2 k2 => ?_);simp only [Option.isNone_none, if_true];refine yaa (wpAny_rule ?_);have isT : Heap.IsTuple h2 a items := ⟨o, k2 _ _ hx1, hc, n0, hdat⟩
 refine yaa (wpAny_pyIter_tuple (s := { s with heap := h2, toks := tk2 }) isT ?_);have hD2 : h2.DictOf (mixKind prog w) s.heap.objs.size [] := let ⟨od, es, ep, ho, r⟩ := hnew; ⟨od, es, ep, k2 _ _ ho, r⟩;have hl2 : s.heap.objs.size < h2.objs.size := let ⟨od, es, ep, ho, r⟩ := hD2; yan ho;have hal : a < h2.objs.size := yan (k2 _ _ hx1);refine yab ⟨plainId_quiet zc8 _, ?_⟩;have e0 : rawInt 0 = rawInt ((0 : Nat) : Int) := rfl;rw [e0];refine zh9 ((Walks.tuple (by simp [hh]) h2.objs.size a (Nat.ne_of_lt hal) items).toS) hmod (fun z => ?_) s.heap (Heap.get?_none_of_le (yai _)) (fun b hb' => ?_) ky vl hi hb .none (items.size - 0) 0 _ [] ω (yaq _)
  ⟨⟨_, yaj _ rfl, rfl, rfl⟩, ⟨o, zay _ _ (k2 _ _ hx1), hc, n0, hdat⟩⟩ (fun b o' e => zay _ _ (k2 _ _ (k1 _ _ e))) (let ⟨od, es, ep, ho, r⟩ := hD2; ⟨od, es, ep, zay _ _ ho, r⟩) rfl fun s' kvs' hm D' e' => ?_
 ·simp only [List.mem_cons, List.not_mem_nil, or_false] at z;rcases z with z | z
  ·exact absurd z (Nat.ne_of_lt hl2)
  ·exact hne z
 ·rw [yah.mp hb'];exact Heap.get?_none_of_le (Nat.le_of_lt hl2)
 ·obtain ⟨hp, g', d2, tk', os'⟩ := s';obtain rfl : g' = s.gens := hm.gens;obtain rfl : d2 = s.drawn := hm.drawn;obtain rfl : os' = s.os := hm.os;refine ⟨rfl, h hp tk' kvs' D' e' (fun b o' e => hm.heap b o' ?_ (zay _ _ (k2 _ _ (k1 _ _ e)))) ?_⟩
  ·have hbl := yan e;simp only [List.mem_cons, List.not_mem_nil, or_false, not_or];exact ⟨Nat.ne_of_lt hbl, Nat.ne_of_lt (Nat.lt_trans hbl hl2)⟩
  ·obtain ⟨od, es, ep, ho, r⟩ := D';exact yan ho
end
def dpS (l : List (Str × V)) : List (Str × V) := l.foldl (fun m p => putS m p.1 p.2) []
section
variable {X : Cx} {Qa : ZP} {σ : St} {H : Hp} {s : Shared}
def zgi (K : W.Frag) : List V -> Hp -> VK -> Prop := fun xs H Q => ∃ p ys, xs = [.ref p] /\ SqL K H p ys /\ ∀ l o, H l = none -> o.cls = .type "tuple" -> o.dict = none -> Q (.ref l) (upd H l (.frz o (.tup ys)))
theorem zgj : zaN X (.type "tuple") (zgi X.K) := by
 intro Qa s σ H xs us Q I r h;obtain ⟨p, ys, rfl, hq, q⟩ := h;obtain ⟨u, rfl, rx⟩ := zcn r;cases rx;obtain ⟨its, r', pl, hz⟩ := I.list hq;have Qe := r'.length;refine call_tuple_list pl.isList (fun h' kp => ?_) (by simp only [List.size_toArray] <;> omega);have I1 : Inv X Qa σ H { s with heap := h' } := I.kept (t' := s.toks) kp;have I2 : Inv X Qa σ (upd H h'.objs.size (.frz { cls := .type "tuple", data := .seq its.toArray } (.tup ys))) { s with heap := h'.push { cls := .type "tuple", data := .seq its.toArray } } :=
  I1.laid (t' := s.toks) (fun b o e => yac _ e) (yai _) ⟨yaj _ rfl, hz, its, r', IsTup.new _ _⟩
 exact ⟨.ref h'.objs.size, _, I2, rfl, q _ _ (I1.hok.fresh (yai _)) rfl rfl⟩
def zju (K : W.Frag) : List V -> Hp -> VK -> Prop := fun xs H Q => ∃ (a : Addr) (o : Obj) (us : List V) (l : List (Str × V)), xs = [.ref a] /\ H a = some (.frz o (.tup us)) /\ o.cls = .type "tuple" /\ o.dict = none /\ us.length = l.length /\
 (∀ (i : Nat) u, us[i]? = some u -> ∀ p, l[i]? = some p -> ∃ c, u = .ref c /\ SqT K H c [.str p.1, p.2]) /\ l.length <= 1000 /\ ∀ d, H d = none -> Q (.ref d) (upd H d (.dK (dS (dpS l))))
theorem zhA (hc : X.calm = true) : zaN X (.type "dict") (zju X.K) := by
 intro Qa s σ H xs us Q I r h;obtain ⟨a, o, vs, l, rfl, ha, hoc, hod, hul, hP, hl, q⟩ := h;obtain ⟨u, rfl, rx⟩ := zcn r;cases rx;obtain ⟨hx, hz, its, rv, o', ho', hc', n0, hd'⟩ := (show ObjOk X.prog X.w H s.heap a (.frz o (.tup vs)) from I.hok a _ ha)
 rw [hx] at ho';cases ho';have Qe : its.length = l.length := by rw [<- hul]; exact rv.length.symm
 have get : ∀ (i : Nat), i < l.length -> ∃ c t y, its[i]? = some (.ref c) /\ s.heap.IsTuple c #[.str (l.getD i ("", .non)).1 t, y] /\ RelV (l.getD i ("", .non)).2 y := fun i hi => by
  have e2 : vs[i]? = some (vs[i]'ω) := yal ω;have e3 : l[i]? = some l[i] := yal hi;obtain ⟨c, ec, hq⟩ := hP i _ e2 _ e3;obtain ⟨u1, u2, r1, r2, ht⟩ := isT2 I hq;obtain ⟨t, rfl⟩ := r1;obtain ⟨z, ez, rz⟩ := rv.get e2;rw [ec] at rz;cases rz;have ed : l.getD i ("", .non) = l[i] := by rw [List.getD_eq_getElem?_getD, e3, Option.getD_some]
  rw [ed];exact ⟨c, t, u2, ez, ht, r2⟩
 let vl : Nat -> Value := fun i => if hi : i < l.length then Classical.choose (Classical.choose_spec (Classical.choose_spec (get i hi))) else .none
 have gv : ∀ (i : Nat), i < l.length -> ∃ c t, its[i]? = some (.ref c) /\ s.heap.IsTuple c #[.str (l.getD i ("", .non)).1 t, vl i] /\ RelV (l.getD i ("", .non)).2 (vl i) := fun i hi => by
  have e : vl i = Classical.choose (Classical.choose_spec (Classical.choose_spec (get i hi))) := dif_pos hi;have := Classical.choose_spec (Classical.choose_spec (Classical.choose_spec (get i hi)));rw [<- e] at this;exact ⟨_, _, this⟩
 have fold : ∀ n, n <= l.length -> KV (dS (dpS (l.take n))) ((List.range n).foldl (fun m j => stored m (Sum.inr (l.getD j ("", .non)).1) (vl j)) []) := by
  intro n
  induction n with
  | zero => intro _; exact .nil
  | succ n ih =>
   intro hn;have hn' : n < l.length := by omega
   obtain ⟨c, t, _, _, rz⟩ := gv n hn';have ed : l.getD n ("", .non) = l[n] := by rw [List.getD_eq_getElem?_getD, yal hn', Option.getD_some]
   have e1 : dpS (l.take (n + 1)) = putS (dpS (l.take n)) l[n].1 l[n].2 := by
    unfold dpS;rw [List.take_succ_eq_append_getElem hn', List.foldl_append]
    rfl
   rw [List.range_succ, List.foldl_append, e1];rw [ed] at rz;show KV _ (stored _ (Sum.inr (l.getD n ("", .non)).1) (vl n));rw [ed];exact zko (ih ω) rz
 have dlen : (dpS l).length <= l.length := by
  have key : ∀ (l m : List (Str × V)), (l.foldl (fun m p => putS m p.1 p.2) m).length <= m.length + l.length := by
   intro l
   induction l with
   | nil => intro m; simp
   | cons p l ih =>
    intro m;have h1 := ih (putS m p.1 p.2);have h2 := zkp m p.1 p.2;rw [List.foldl_cons, List.length_cons];omega
  have := key l [];simpa [dpS] using this
 have hmod : (s.heap.objs.size == sysModules) = false := beq_eq_false_iff_ne.mpr (Ne.symm (Nat.ne_of_lt I.past));refine zd9 (fun i => (l.getD i ("", .non)).1) vl (I.ok.hd hc) hx hoc hd' hod (fun i v e => ?_) (by rw [yad]; omega) hmod fun hp tk kvs D e kp hlt => ?_
 ·have e' : its[i]? = some v := by simpa using e
  have hi : i < l.length := by rw [<- Qe]; exact (yag.mp e').1
  obtain ⟨c, t, e1, ht, _⟩ := gv i hi;rw [e'] at e1;cases e1;exact ⟨c, t, rfl, ht⟩
 ·have rel := fold l.length (yai _);rw [List.take_length] at rel;rw [yad, Qe] at e;rw [<- e] at rel;have hd : ∃ q, hp.get? s.heap.objs.size = some q := let ⟨od, es, ep, ho, _⟩ := D; ⟨od, ho⟩;refine ⟨.ref s.heap.objs.size, _, I.laid (t' := tk) (o := .dK (dS (dpS l))) kp (yai _) ⟨?_, hmod, kvs, rel, D⟩, rfl, q _ (I.hok.fresh (yai _))⟩;have : (dS (dpS l)).length = (dpS l).length := by simp [dS]
  rw [this];exact zak ω
def zgk (K : W.Frag) : V -> List V -> Hp -> VK -> Prop := fun x vs H Q => ∃ (p : Addr) (ts : List Str) (z : Str), x = .ref p /\ vs = [.str z] /\ SqL K H p (ts.map V.str) /\ z ∈ ts /\ ts.length <= 1000 /\ Q (.int ((ts.idxOf z : Nat) : Int)) H
theorem zjv : MtR X "list.index" (zgk X.K) := by
 intro Qa s σ H x vs v us Q I rx rv h;obtain ⟨p, ts, z, rfl, rfl, hq, hz, hl, q⟩ := h;cases rx;obtain ⟨u, rfl, ⟨t, rfl⟩⟩ := rv.one;obtain ⟨its, r, pl, _⟩ := I.list hq;obtain ⟨⟨cls, dd, data, sl⟩, ho, hc, n, hd⟩ := pl.isList;simp only at hc hd;subst hc hd;have Qe : its.length = ts.length := by have := r.length; simpa using this.symm
 have hj : ts.idxOf z < ts.length := List.idxOf_lt_length_iff.mpr hz;have at' : ∀ (i : Nat) (hi : i < its.length), ∃ t', its[i] = .str (ts[i]'ω) t' := fun i hi => by
  obtain ⟨w', ew, rw'⟩ := r.get (i := i) (x := .str (ts[i]'ω)) (by rw [yav, yal ω]; rfl);rw [yal hi] at ew;cases ew;exact rw'
 let e : Value -> Bool := fun v => match v with | .str y _ => y == z | _ => false
 refine call_meets PySem.F.slot_list_index ⟨_, ho, rfl⟩ PySem.F.entry_list_index (PySem.F.args_list_index_2 _ _)
  (list_indexAt p its.toArray n dd sl (.str z t) e (ts.idxOf z) (by simpa [Qe] using hj) ω ?_ ?_) ⟨ho, fun y hy => ?_, ⟨.int _, H, I.tok _, ⟨s.toks, rfl⟩, q⟩⟩
 ·obtain ⟨t', et⟩ := at' (ts.idxOf z) ω;show e its[ts.idxOf z] = true;rw [et];show (ts[ts.idxOf z] == z) = true;simp
 ·intro j hjs hlt;obtain ⟨t', et⟩ := at' j (by simpa using hjs);show e its[j] = false;rw [et];show (ts[j] == z) = false;simpa using List.not_of_lt_findIdx hlt
 ·have hy' : y ∈ its := by simpa using hy
  obtain ⟨j, hj', rfl⟩ := List.mem_iff_getElem.mp hy';obtain ⟨t', et⟩ := at' j hj';rw [et];exact EqAt.str_str _ _ _ _
variable {K : W.Frag} {Q : VK} {p : Addr}
theorem zjw (K : W.Frag) (hK : X.K = K := by rfl) : MtR X "list.index" (zgk K) := hK ▸ zjv
theorem zgl (K : W.Frag) (hK : X.K = K := by rfl) : zaN X (.type "tuple") (zgi K) := hK ▸ zgj
theorem zhB (K : W.Frag) (hc : X.calm = true) (hK : X.K = K := by rfl) : zaN X (.type "dict") (zju K) := by subst hK; exact zhA hc
theorem zlZ {z : Str} : zgk K (.ref p) [.str z] H Q = ∃ ts : List Str, SqL K H p (ts.map V.str) /\ z ∈ ts /\ ts.length <= 1000 /\ Q (.int ((ts.idxOf z : Nat) : Int)) H := by
 refine propext ⟨fun ⟨_, ts, _, e1, e2, h⟩ => ?_, fun ⟨ts, h⟩ => ⟨p, ts, z, rfl, rfl, h⟩⟩;cases e1; cases e2; exact ⟨ts, h⟩
theorem zkt : zgi K [.ref p] H Q = ∃ ys, SqL K H p ys /\ ∀ l o, H l = none -> o.cls = .type "tuple" -> o.dict = none -> Q (.ref l) (upd H l (.frz o (.tup ys))) := by
 refine propext ⟨fun ⟨_, ys, e1, h⟩ => ?_, fun ⟨ys, h⟩ => ⟨p, ys, rfl, h⟩⟩;cases e1; exact ⟨ys, h⟩
theorem zma : zju K [.ref p] H Q = ∃ (o : Obj) (us : List V) (l : List (Str × V)), H p = some (.frz o (.tup us)) /\ o.cls = .type "tuple" /\ o.dict = none /\ us.length = l.length /\
 (∀ (i : Nat) u, us[i]? = some u -> ∀ p, l[i]? = some p -> ∃ c, u = .ref c /\ SqT K H c [.str p.1, p.2]) /\ l.length <= 1000 /\ ∀ d, H d = none -> Q (.ref d) (upd H d (.dK (dS (dpS l)))) := by
 refine propext ⟨fun ⟨_, o, us, l, e1, h⟩ => ?_, fun ⟨o, us, l, h⟩ => ⟨p, o, us, l, rfl, h⟩⟩;cases e1; exact ⟨o, us, l, h⟩
end
theorem zjx : ∀ {l : List (Str × V)}, (l.map (·.1)).Nodup -> dpS l = l := by
 have key : ∀ (l m : List (Str × V)), ((m ++ l).map (·.1)).Nodup -> l.foldl (fun m p => putS m p.1 p.2) m = m ++ l := by
  intro l
  induction l with
  | nil => intro m _; simp
  | cons p l ih =>
   intro m h;have hp : ¬ (m.any fun q => decide (q.1 = p.1)) = true := fun z => by
    obtain ⟨q, hq, e⟩ := List.any_eq_true.mp z;have e := of_decide_eq_true e;rw [ya0, List.map_cons] at h;have := (List.nodup_append.mp h).2.2 q.1 (ya6.mpr ⟨q, hq, rfl⟩) p.1 ς;exact this e
   rw [List.foldl_cons];have e1 : putS m p.1 p.2 = m ++ [p] := by unfold putS; rw [if_neg hp]
   rw [e1, ih (m ++ [p]) (by simpa using h)];simp
 intro l h;have := key l [] (by simpa using h);simpa [dpS] using this
open AutoSeq1 (wpAny_loadPart')
section
variable {X : Cx}
theorem zku {xs : List V} {us : List Value} (h : Vals xs us) : Vals xs.reverse us.reverse := by
 have key : ∀ {a : List V} {b : List Value}, Vals a b -> ∀ {c : List V} {d : List Value}, Vals c d -> Vals (a ++ c) (b ++ d) := by
  intro a b h
  induction h with
  | nil => intro c d h; exact h
  | cons h1 _ ih => intro c d h; exact .cons h1 (ih h)
 induction h with
 | nil => exact .nil
 | cons h1 _ ih => rw [List.reverse_cons, List.reverse_cons]; exact key ih (.cons h1 .nil)
end
open AutoSeq1
theorem zmb (l : Addr) (items : Array Value) (n : Nat) (b : Addr) (items2 : Array Value) (n2 : Nat) (dd : Option Addr) (sl : Array (Option Value)) (hs0 : ¬(!items.isEmpty && Builtin.List.listTooLong (items.size + items2.size)) = true) (hs1 : items.size <= sizeLine) (hs2 : items.size + items2.size <= sizeLine + 1) :
  Meets (Builtin.«list.extend» ⟨[.ref l, .ref b], []⟩) (fun _ R s => s.heap.get? l = some { cls := .type "list", dict := none, data := .seq items n, slots := #[] } /\ s.heap.get? b = some { cls := .type "tuple", dict := dd, data := .seq items2 n2, slots := sl } /\ R (.ok (.ret Value.none)) { s with heap := s.heap.update l (Obj.mapSeq fun x => x ++ items2), toks := s.toks }) :=
 .of_wp fun prog w A R s h => by
  obtain ⟨hp, g, d, tk, os⟩ := s; obtain ⟨hl, hb, h⟩ := h; have f1 := idx_int; have f2 := AutoSeq1.sub_tuple_tuple; have f3 := AutoSeq1.sub_list_list; have f4 := AutoSeq1.sub_tuple_list; have f5 := AutoSeq1.sub_list_tuple;have hz' : (items ++ items2).size <= sizeLine + 1 := by rw [Array.size_append]; exact hs2
  wp_walk using (wpAny_updateSeq hl rfl (hz := hs1) (_hz' := hz')), wpAny_loadPart' hl, wpAny_loadPart' hb; exact ⟨_, rfl, h⟩
section
variable {X : Cx}
def zmc (K : W.Frag) : V -> List V -> Hp -> VK -> Prop := fun x vs H Q => ∃ l b xs zs, x = .ref l /\ vs = [.ref b] /\ H l = some (.lst xs) /\ SqT K H b zs /\ xs.length + zs.length <= sizeLine /\ Q .non (upd H l (.lst (xs ++ zs)))
theorem zmd : MtR X "list.extend" (zmc X.K) := by
 intro Qa s σ H x vs v us Q I rx rv h;obtain ⟨l, b, xs, zs, rfl, rfl, hH, hB, hz, q⟩ := h;cases rx;obtain ⟨u, rfl, ru⟩ := rv.one;cases ru;obtain ⟨z, its, n, r, hl, e⟩ := I.lstM hH;obtain ⟨its2, r2, ⟨⟨c2, dd, d2, sl⟩, e2, hc2, n2, hd2⟩, z2⟩ := I.tuple hB;replace hc2 : c2 = .type "tuple" := hc2;replace hd2 : d2 = .seq its2.toArray n2 := hd2;subst hc2 hd2;have hl2 := r2.length;have hsz : its.toArray.size + its2.toArray.size <= sizeLine := by rw [yad, yad]; omega
 have hlong : ¬ (!its.toArray.isEmpty && Builtin.List.listTooLong (its.toArray.size + its2.toArray.size)) = true := by
  rw [zei hsz, Bool.and_false];exact yam
 refine call_meets F.slot_list_extend ⟨_, e, rfl⟩ F.entry_list_extend (F.args_list_extend_2 _ _)
  (zmb l its.toArray n b its2.toArray n2 dd sl hlong (by rw [yad]; omega) ω) ⟨e, e2, ?_⟩
 refine ⟨.non, _, I.lset (its' := its ++ its2) hH e ς (r.append r2) ?_, rfl, q⟩;rw [yae];omega
theorem zkv (K : W.Frag) (hK : X.K = K := by rfl) : MtR X "list.extend" (zmc K) := hK ▸ zmd
theorem znU {K : W.Frag} {p b : Addr} {H : Hp} {Q : VK} : zmc K (.ref p) [.ref b] H Q = ∃ xs zs, H p = some (.lst xs) /\ SqT K H b zs /\ xs.length + zs.length <= sizeLine /\ Q .non (upd H p (.lst (xs ++ zs))) := by
 refine propext ⟨fun ⟨_, _, xs, zs, e1, e2, h⟩ => ?_, fun ⟨xs, zs, h⟩ => ⟨p, b, xs, zs, rfl, rfl, h⟩⟩;cases e1; cases e2; exact ⟨xs, zs, h⟩
end
end L2
namespace HT
open PySem PySem.Spec PyProof.Rows
section
variable {prog : Program} {w : World} {A : Around} {E : ZQ} {s : Shared}
theorem zhC (n : Nat) : Builtin.Slice.sliceAdjust none none (-1) (n : Int) = ((n : Int) - 1, -1) := by
 unfold Builtin.Slice.sliceAdjust;simp
theorem zhD (n : Nat) : Builtin.Slice.slicePlaces ((n : Int) - 1) (-1) (-1) = n := by
 unfold Builtin.Slice.slicePlaces;simp;omega
theorem zkw (its : List Value) : ((List.range its.length).filterMap fun (m : Nat) => its.toArray[((its.length : Int) - 1 + (m : Int) * (-1)).toNat]?).toArray = its.reverse.toArray := by
 congr 1
 have e2 : ∀ k ∈ List.range its.length, (fun (m : Nat) => its.toArray[((its.length : Int) - 1 + (m : Int) * (-1)).toNat]?) k = some (its.reverse.getD k .none) := fun k hk => by
  have hk := List.mem_range.mp hk;dsimp only;rw [show ((its.length : Int) - 1 + (k : Int) * (-1)).toNat = its.length - 1 - k by omega];rw [List.getElem?_toArray, List.getD_eq_getElem?_getD, List.getElem?_reverse hk, yal ω]
  rfl
 have fm : ∀ {l : List Nat} {f : Nat -> Option Value} {g : Nat -> Value}, (∀ m ∈ l, f m = some (g m)) -> l.filterMap f = l.map g := by
  intro l f g h
  induction l with
  | nil => rfl
  | cons a l ih => rw [List.filterMap_cons, h a ς, ih fun m hm => h m (by simp [hm])]; rfl
 rw [fm e2];refine List.ext_getElem? fun i => ?_;rw [yav]
 by_cases hi : i < its.length
 ·rw [List.getElem?_range hi];show some (its.reverse.getD i .none) = _;rw [List.getD_eq_getElem?_getD, yal (by rw [List.length_reverse]; exact hi)]
  rfl
 ·rw [List.getElem?_eq_none (by rw [List.length_range]; omega), List.getElem?_eq_none (by rw [List.length_reverse]; omega)]
  rfl
theorem getItem_tuple_rev {t sl : Addr} {its : List Value} {u : Tok} {Q : ZQ} (ht : IsTup s.heap t its.toArray) (hs : s.heap.IsSliceOf sl .none .none (.int (-1) u))
  (h : Q (.ref s.heap.objs.size) { s with heap := s.heap.push { cls := .type "tuple", data := .seq its.reverse.toArray } })
  (hsz : its.length <= sizeLine) : wpAny (model prog w) A (getItem (.ref t) (.ref sl)) Q E s := by
 have htake : sizeOk (.seq its.reverse.toArray) := by
  show its.reverse.toArray.size <= sizeLine;rw [yad, List.length_reverse];exact hsz
 obtain ⟨os, hos, hcs, hds⟩ := id hs;have hTs : s.TypeIs (.ref sl) "slice" := ⟨os, hos, hcs⟩
 unfold getItem
 try with_reducible refine wpAny_holding ?_
 first | refine yaa (yab ?_) | skip
 refine yaa (wpAny_sequenceKey ht.typeIs δ ?_);refine yaa (wpAny_callSpecial?_slot (name := Str.ofString "__getitem__") ht.typeIs PyProof.Rows.slot_tuple_getitem
  (wpAny_call_entry PyProof.Rows.slot_tuple_getitem ht.typeIs entry_tuple_getitem ?_ (args_tuple_getitem _ _)))
 show wpAny _ _ (Builtin.Tuple.tupleItemsOf (.ref t) >>= _) _ _ s;refine yaa (tupleItemsOf_ ht ?_);refine yaa (wpAny_typeOf hTs ?_);rw [if_pos δ];refine yaa ?_;unfold Builtin.Slice.sliceApplied Builtin.Slice.sliceFields;refine yaa (yaa (wpAny_field hos hds (x := .none) rfl (yaa (wpAny_field hos hds (x := .none) rfl (yaa (wpAny_field hos hds (x := .int (-1) u) rfl (yab ?_)))))));refine yaa (slicePart_int ?_);show wpAny _ _ (if ((-1 : Int) == 0) = true then _ else _) _ _ s;rw [if_neg δ];refine yaa (slicePart_none (yaa (slicePart_none (yaa (yab ?_)))));show wpAny _ _ (match Builtin.Slice.sliceAdjust none none (-1) (its.toArray.size : Int) with | (lo, hi) => pure (lo, (-1 : Int), Builtin.Slice.slicePlaces lo hi (-1))) _ _ s;rw [yad, zhC];show wpAny _ _ (pure ((its.length : Int) - 1, (-1 : Int), Builtin.Slice.slicePlaces ((its.length : Int) - 1) (-1) (-1))) _ _ s;rw [zhD];refine yab ?_;dsimp only;rw [if_neg ς, zkw]
 first
  | exact yaa (m := Builtin.Tuple.tupleExact _) (wpAny_newObj_type (yab ⟨_, rfl, yab h⟩) htake)
  | exact yaa (m := Builtin.Tuple.tupleExact _) (wpAny_newObj_type (yaa (yab (yab ⟨_, rfl, yab h⟩))) htake)
  | exact yaa (yaa (m := Builtin.Tuple.tupleExact _) (wpAny_newObj_type (yab (yab ⟨_, rfl, yab h⟩)) htake))
  | exact yaa (yaa (m := Builtin.Tuple.tupleExact _) (wpAny_newObj_type (yab ⟨_, rfl, yab h⟩) htake))
end
end HT
namespace L2
open PySem PySem.Spec PyProof.Rows
section
variable {X : Cx} {e st : Expr} {te ts : TE} {pos p2 : Pos}
def tRvT (K : W.Frag) (te ts : TE) : TE := fun σ H Q => te σ H fun x H1 => ts σ H1 fun y H2 => y = .int (-1) /\ ∃ a xs, x = .ref a /\ SqT K H2 a xs /\ ∀ p, H2 p = none -> Q (.ref p) (upd H2 p (.tup xs.reverse))
theorem znV (K : W.Frag) (he : PE X e te) (hs : PE X st ts) (hK : X.K = K := by rfl) (ht : ∀ o r, letTemporaryGo e o r = pure () := by intro _ _; rfl) : PE X (.Subscript e (.Slice none none (some st) p2) pos) (tRvT K te ts) := by
 subst hK;intro Qa s σ H Q I h;refine wpAny_Subscript_Slice_step PyProof.Rows.slot_tuple_getitem.lookup (thn (he Qa s σ H _ I h) fun v s1 ⟨x, H1, I1, r1, q1⟩ => ?_) ht;refine wpAny_Slice ?_;rw [evalPart_none, evalPart_some];refine yab (yab (thn (hs Qa s1 σ H1 _ I1 q1) fun vs s2 ⟨y, H2, I2, r2, q2⟩ => ?_));obtain ⟨rfl, a, xs, rfl, hx, q⟩ := q2;obtain ⟨t, rfl⟩ := r2;cases r1;have I3 : Inv X Qa σ H2 { s2 with heap := s2.heap.push { cls := .type "slice", data := .fields #[.none, .none, .int (-1) t] } } := I2.kept (t' := s2.toks) fun b ob q => yac _ q;obtain ⟨its, r, hT, hz⟩ := I3.tuple hx;have Qe : its.length = xs.length := r.length.symm;refine ⟨hT.typeIs, HT.getItem_tuple_rev hT (Heap.IsSliceOf.new ..) ?_ (by rw [Qe]; exact hz)⟩;exact ⟨.ref _, _, I3.laid (t' := s2.toks) (o := .tup xs.reverse) (fun b o e => yac _ e) (yai _) ⟨by rw [List.length_reverse]; exact hz, its.reverse, zku r, IsTup.new _ _⟩, rfl, q _ (I3.hok.fresh (yai _))⟩
theorem zoQ {K : W.Frag} {σ : St} {H : Hp} {Q : VK} : tRvT K te ts σ H Q = te σ H fun x H1 => ts σ H1 fun y H2 => y = .int (-1) /\ ∃ a xs, x = .ref a /\ SqT K H2 a xs /\ ∀ p, H2 p = none -> Q (.ref p) (upd H2 p (.tup xs.reverse)) := rfl
end
section
variable {X : Cx}
def znW : R2 := fun x y H Q => ∃ a b, x = .bl a /\ y = .bl b /\ Q (.bl (!decide (a = b))) H
theorem zme : OpR X (compareOp .IsNot) znW := by
 intro Qa s σ H x y v u Q I rx ry h;obtain ⟨a, b, rfl, rfl, q⟩ := h;cases rx;cases ry;refine wpAny_isNot_plain (by cases a <;> cases b <;> rfl) (za8 I q ?_);cases a <;> cases b <;> rfl
theorem znX {a b : Bool} {H : Hp} {Q : VK} : znW (.bl a) (.bl b) H Q = Q (.bl (!decide (a = b))) H := by
 refine propext ⟨fun ⟨_, _, e1, e2, h⟩ => ?_, fun h => ⟨a, b, rfl, rfl, h⟩⟩;cases e1; cases e2; exact h
end
end L2
namespace L2
open PySem
theorem i0 {x : V} {r : List V} : atI (x :: r) 0 = some x := zam (j := 0) rfl
theorem i1 {x y : V} {r : List V} : atI (x :: y :: r) 1 = some y := zam (j := 1) rfl
theorem i2 {x y z : V} {r : List V} : atI (x :: y :: z :: r) 2 = some z := zam (j := 2) rfl
theorem i3 {x y z u : V} {r : List V} : atI (x :: y :: z :: u :: r) 3 = some u := zam (j := 3) rfl
end L2
namespace L2
open PySem PySem.Spec PyProof.Rows
abbrev CB (K : W.Frag) (mg : Str -> Option Value) (n : Str) (a : Addr) (d : FuncData) (ps : List Str) : Prop := mg n = some (.ref a) /\ W.keepIn K (.ref a) = true /\ Binds K d ps []
theorem YC {X : Cx} {k : Nat} {f : Addr} {fd : FuncData} {ps : List Str} {sp : Sp} {x : Str} {p pos : Pos} {e : Expr} {es : List Expr} {t : TA} (F : FnOk X.prog X.w X.K X.mg X.base CX0 k f fd ps sp) (hr : Room k X.A) (hg : Gl X x) (hB : CB X.K X.mg x f fd ps) (ha : PA X (e :: es) t) (hdb : (x == ("__debug__" : Str)) = false := by decide) (he : starEach (e :: es) X.env = (false, eval e X.env) :: starEach es X.env := by rfl) (hpl : (backTo pos (starEach es X.env)).any (·.1) = false := by rfl) : PE X (.Call (.Name x p) (e :: es) [] pos) (zm6 sp [] E0 t) := zal F hr hg hB.1 hB.2.1 hB.2.2 .nil zaA ha hdb he hpl
abbrev FU (K : W.Frag) (n : Str) (s : Stmt) (a : Addr) (d : FuncData) : Prop := Fun K n n s a d
end L2
namespace K43
open PySem L2
def top (i : Nat) : Stmt := PySem.Challenge.pw_boxproof_k43_worlds_of_branches.main.body.getD i (.Pass ⟨0, 0, 0, 0⟩)
abbrev zao : Stmt := top 6
abbrev zbm : Stmt := top 7
abbrev zbn : Stmt := top 8
abbrev zbN : Stmt := top 9
abbrev zaZ : Stmt := top 10
abbrev zba : Stmt := top 11
abbrev zbb : Stmt := top 13
abbrev za7 : Stmt := top 14
abbrev zbo : Stmt := top 15
abbrev zaO : Stmt := top 18
abbrev zaH : Stmt := top 19
abbrev zaP : Stmt := top 20
abbrev zbc : Stmt := top 21
abbrev zbO : Stmt := top 22
abbrev zaQ : Stmt := top 24
abbrev zbp : Stmt := top 25
abbrev zb0 : Stmt := top 26
abbrev zaR : Stmt := top 27
abbrev zaB : Stmt := top 28
abbrev zaS : Stmt := top 29
abbrev zaT : Stmt := top 30
abbrev zb1 : Stmt := top 31
abbrev zaU : Stmt := top 32
abbrev zb2 : Stmt := top 33
abbrev zbd : Stmt := top 34
abbrev zaw : Stmt := top 35
abbrev zbq : Stmt := top 36
abbrev zaI : Stmt := top 37
abbrev zbr : Stmt := top 38
abbrev zb3 : Stmt := top 39
abbrev zaV : Stmt := top 40
abbrev ze5 : Stmt := top 41
set_option genInjectivity false in
set_option genSizeOf false in
structure Defs where
 (a_a0 : Addr) (d_a0 : FuncData)
 (a_c4 : Addr) (d_c4 : FuncData)
 (a_c2 : Addr) (d_c2 : FuncData)
 (a_d0 : Addr) (d_d0 : FuncData)
 (a_b7 : Addr) (d_b7 : FuncData)
 (a_b4 : Addr) (d_b4 : FuncData)
 (a_b6 : Addr) (d_b6 : FuncData)
 (a_a2 : Addr) (d_a2 : FuncData)
 (a_c1 : Addr) (d_c1 : FuncData)
 (a_a6 : Addr) (d_a6 : FuncData)
 (a_a5 : Addr) (d_a5 : FuncData)
 (a_a8 : Addr) (d_a8 : FuncData)
 (a_b8 : Addr) (d_b8 : FuncData)
 (a_c9 : Addr) (d_c9 : FuncData)
 (a_b2 : Addr) (d_b2 : FuncData)
 (a_b9 : Addr) (d_b9 : FuncData)
 (a_c5 : Addr) (d_c5 : FuncData)
 (a_b3 : Addr) (d_b3 : FuncData)
 (a_a3 : Addr) (d_a3 : FuncData)
 (a_a7 : Addr) (d_a7 : FuncData)
 (a_b1 : Addr) (d_b1 : FuncData)
 (a_c7 : Addr) (d_c7 : FuncData)
 (a_a9 : Addr) (d_a9 : FuncData)
 (a_c8 : Addr) (d_c8 : FuncData)
 (a_b5 : Addr) (d_b5 : FuncData)
 (a_a1 : Addr) (d_a1 : FuncData)
 (a_c0 : Addr) (d_c0 : FuncData)
 (a_a4 : Addr) (d_a4 : FuncData)
 (a_c3 : Addr) (d_c3 : FuncData)
 (a_c6 : Addr) (d_c6 : FuncData)
 (a_b0 : Addr) (d_b0 : FuncData)
 (a_d1 : Addr) (d_d1 : FuncData)
 (k_KEPT_WORDS : Addr)
 (k_QUANTIFIERS : Addr)
set_option genInjectivity false in
set_option genSizeOf false in
structure Tx (K : W.Frag) (mg : Str -> Option Value) (D : Defs) : Prop where
 F_a0 : FU K "begins_and_goes_on" zao D.a_a0 D.d_a0
 m_a0 : CB K mg "begins_and_goes_on" D.a_a0 D.d_a0 ["text", "first_signs"]
 F_c4 : FU K "is_name" zbm D.a_c4 D.d_c4
 m_c4 : CB K mg "is_name" D.a_c4 D.d_c4 ["text"]
 F_c2 : FU K "is_word" zbn D.a_c2 D.d_c2
 m_c2 : CB K mg "is_word" D.a_c2 D.d_c2 ["text"]
 F_d0 : FU K "parts" zbN D.a_d0 D.d_d0
 m_d0 : CB K mg "parts" D.a_d0 D.d_d0 ["A"]
 F_b7 : FU K "terms_in" zaZ D.a_b7 D.d_b7
 m_b7 : CB K mg "terms_in" D.a_b7 D.d_b7 ["A"]
 F_b4 : FU K "names_in" zba D.a_b4 D.d_b4
 m_b4 : CB K mg "names_in" D.a_b4 D.d_b4 ["A"]
 F_b6 : FU K "names_on" zbb D.a_b6 D.d_b6
 m_b6 : CB K mg "names_on" D.a_b6 D.d_b6 ["statements"]
 F_a2 : FU K "branch_world" za7 D.a_a2 D.d_a2
 m_a2 : CB K mg "branch_world" D.a_a2 D.d_a2 ["statements"]
 F_c1 : FU K "fact_of" zbo D.a_c1 D.d_c1
 m_c1 : CB K mg "fact_of" D.a_c1 D.d_c1 ["A", "things"]
 F_a6 : FU K "fit_world" zaO D.a_a6 D.d_a6
 m_a6 : CB K mg "fit_world" D.a_a6 D.d_a6 ["world"]
 F_a5 : FU K "fit_called" zaH D.a_a5 D.d_a5
 m_a5 : CB K mg "fit_called" D.a_a5 D.d_a5 ["called", "size"]
 F_a8 : FU K "fit_facts" zaP D.a_a8 D.d_a8
 m_a8 : CB K mg "fit_facts" D.a_a8 D.d_a8 ["facts", "size"]
 F_b8 : FU K "is_thing" zbc D.a_b8 D.d_b8
 m_b8 : CB K mg "is_thing" D.a_b8 D.d_b8 ["thing", "size"]
 F_c9 : FU K "rises" zbO D.a_c9 D.d_c9
 m_c9 : CB K mg "rises" D.a_c9 D.d_c9 ["row"]
 F_b2 : FU K "_law_cell_at" zaQ D.a_b2 D.d_b2
 m_b2 : CB K mg "_law_cell_at" D.a_b2 D.d_b2 ["_law_script", "_law_k"]
 F_b9 : FU K "_law_mixed" zbp D.a_b9 D.d_b9
 m_b9 : CB K mg "_law_mixed" D.a_b9 D.d_b9 ["_law_script"]
 F_c5 : FU K "_law_sign" zb0 D.a_c5 D.d_c5
 m_c5 : CB K mg "_law_sign" D.a_c5 D.d_c5 ["_law_cell"]
 F_b3 : FU K "_law_name_by" zaR D.a_b3 D.d_b3
 m_b3 : CB K mg "_law_name_by" D.a_b3 D.d_b3 ["_law_shape", "_law_k"]
 F_a3 : FU K "_law_letter_by" zaB D.a_a3 D.d_a3
 m_a3 : CB K mg "_law_letter_by" D.a_a3 D.d_a3 ["_law_shape", "_law_k"]
 F_a7 : FU K "_law_term_by" zaS D.a_a7 D.d_a7
 m_a7 : CB K mg "_law_term_by" D.a_a7 D.d_a7 ["_law_shape", "_law_cell"]
 F_b1 : FU K "_law_atom_by" zaT D.a_b1 D.d_b1
 m_b1 : CB K mg "_law_atom_by" D.a_b1 D.d_b1 ["_law_shape", "_law_cell"]
 F_c7 : FU K "_law_step" zb1 D.a_c7 D.d_c7
 m_c7 : CB K mg "_law_step" D.a_c7 D.d_c7 ["_law_pile", "_law_shape", "_law_cell"]
 F_a9 : FU K "_law_pile_by" zaU D.a_a9 D.d_a9
 m_a9 : CB K mg "_law_pile_by" D.a_a9 D.d_a9 ["_law_shape", "_law_cells"]
 F_c8 : FU K "_law_free" zb2 D.a_c8 D.d_c8
 m_c8 : CB K mg "_law_free" D.a_c8 D.d_c8 ["_law_ka"]
 F_b5 : FU K "_law_closed" zbd D.a_b5 D.d_b5
 m_b5 : CB K mg "_law_closed" D.a_b5 D.d_b5 ["_law_ka", "_law_cell"]
 F_a1 : FU K "_law_statement_by" zaw D.a_a1 D.d_a1
 m_a1 : CB K mg "_law_statement_by" D.a_a1 D.d_a1 ["_law_shape", "_law_cells"]
 F_c0 : FU K "_law_names" zbq D.a_c0 D.d_c0
 m_c0 : CB K mg "_law_names" D.a_c0 D.d_c0 ["_law_ka"]
 F_a4 : FU K "_law_names_on" zaI D.a_a4 D.d_a4
 m_a4 : CB K mg "_law_names_on" D.a_a4 D.d_a4 ["_law_statements"]
 F_c3 : FU K "_law_facts" zbr D.a_c3 D.d_c3
 m_c3 : CB K mg "_law_facts" D.a_c3 D.d_c3 ["_law_statements", "_law_names_here"]
 F_c6 : FU K "_law_told" zb3 D.a_c6 D.d_c6
 m_c6 : CB K mg "_law_told" D.a_c6 D.d_c6 ["_law_statements"]
 F_b0 : FU K "_law_fact_by" zaV D.a_b0 D.d_b0
 m_b0 : CB K mg "_law_fact_by" D.a_b0 D.d_b0 ["_law_shape", "_law_cell"]
 F_d1 : FU K "law" ze5 D.a_d1 D.d_d1
 m_d1 : CB K mg "law" D.a_d1 D.d_d1 ["_law_script"]
 c_SMALL : ∃ t, mg "SMALL" = some (.str "abcdefghijklmnopqrstuvwxyz" t)
 c_SMALL_OR_FIGURE : ∃ t, mg "SMALL_OR_FIGURE" = some (.str "abcdefghijklmnopqrstuvwxyz0123456789" t)
 c_KEPT_WORDS : mg "KEPT_WORDS" = some (.ref D.k_KEPT_WORDS)
 q_KEPT_WORDS : ∀ H, SqT K H D.k_KEPT_WORDS [V.str "not", V.str "and", V.str "or", V.str "then", V.str "all", V.str "some", V.str "false"]
 c_MOST_SIGNS : ∃ t, mg "MOST_SIGNS" = some (.int 8 t)
 c_QUANTIFIERS : mg "QUANTIFIERS" = some (.ref D.k_QUANTIFIERS)
 q_QUANTIFIERS : ∀ H, SqT K H D.k_QUANTIFIERS [V.str "all", V.str "some"]
 c_MOST_THINGS_OF_A_FACT : ∃ t, mg "MOST_THINGS_OF_A_FACT" = some (.int 3 t)
 z_all : mg "all" = none
 z_dict : mg "dict" = none
 z_enumerate : mg "enumerate" = none
 z_int : mg "int" = none
 z_isinstance : mg "isinstance" = none
 z_len : mg "len" = none
 z_list : mg "list" = none
 z_max : mg "max" = none
 z_range : mg "range" = none
 z_set : mg "set" = none
 z_sorted : mg "sorted" = none
 z_str : mg "str" = none
 z_sum : mg "sum" = none
 z_tuple : mg "tuple" = none
theorem Tx.g_SMALL {K : W.Frag} {mg : Str -> Option Value} {D : Defs} (T : Tx K mg D) {X : Cx} {pos : Pos} (h : Gl X "SMALL") (hm : X.mg = mg := by rfl) : PE X (.Name "SMALL" pos) (tC (.str "abcdefghijklmnopqrstuvwxyz")) := by
 obtain ⟨t, e⟩ := T.c_SMALL;exact zcB h (hm ▸ e) ⟨t, rfl⟩
theorem Tx.g_SMALL_OR_FIGURE {K : W.Frag} {mg : Str -> Option Value} {D : Defs} (T : Tx K mg D) {X : Cx} {pos : Pos} (h : Gl X "SMALL_OR_FIGURE") (hm : X.mg = mg := by rfl) : PE X (.Name "SMALL_OR_FIGURE" pos) (tC (.str "abcdefghijklmnopqrstuvwxyz0123456789")) := by
 obtain ⟨t, e⟩ := T.c_SMALL_OR_FIGURE;exact zcB h (hm ▸ e) ⟨t, rfl⟩
theorem Tx.g_KEPT_WORDS {K : W.Frag} {mg : Str -> Option Value} {D : Defs} (T : Tx K mg D) {X : Cx} {pos : Pos} (h : Gl X "KEPT_WORDS") (hm : X.mg = mg := by rfl) : PE X (.Name "KEPT_WORDS" pos) (tC (.ref D.k_KEPT_WORDS)) := zcB h (hm ▸ T.c_KEPT_WORDS) rfl
theorem Tx.g_MOST_SIGNS {K : W.Frag} {mg : Str -> Option Value} {D : Defs} (T : Tx K mg D) {X : Cx} {pos : Pos} (h : Gl X "MOST_SIGNS") (hm : X.mg = mg := by rfl) : PE X (.Name "MOST_SIGNS" pos) (tC (.int 8)) := by
 obtain ⟨t, e⟩ := T.c_MOST_SIGNS;exact zcB h (hm ▸ e) ⟨t, rfl⟩
theorem Tx.g_QUANTIFIERS {K : W.Frag} {mg : Str -> Option Value} {D : Defs} (T : Tx K mg D) {X : Cx} {pos : Pos} (h : Gl X "QUANTIFIERS") (hm : X.mg = mg := by rfl) : PE X (.Name "QUANTIFIERS" pos) (tC (.ref D.k_QUANTIFIERS)) := zcB h (hm ▸ T.c_QUANTIFIERS) rfl
theorem Tx.g_MOST_THINGS_OF_A_FACT {K : W.Frag} {mg : Str -> Option Value} {D : Defs} (T : Tx K mg D) {X : Cx} {pos : Pos} (h : Gl X "MOST_THINGS_OF_A_FACT") (hm : X.mg = mg := by rfl) : PE X (.Name "MOST_THINGS_OF_A_FACT" pos) (tC (.int 3)) := by
 obtain ⟨t, e⟩ := T.c_MOST_THINGS_OF_A_FACT;exact zcB h (hm ▸ e) ⟨t, rfl⟩
local macro_rules | `(tactic| walk_at "s") => `(tactic| exact ⟨rfl, rfl, rfl, by decide +kernel, rfl, by decide +kernel, by decide +kernel⟩)
theorem zca : zas ["text", "first_signs"] ["text", "first_signs"] (zad zao) := by walk_at "s"
theorem zhE : zas ["text"] ["text"] (zad zbm) := by walk_at "s"
theorem zhF : zas ["text"] ["text"] (zad zbn) := by walk_at "s"
theorem zkx : zas ["A"] ["A"] (zad zbN) := by walk_at "s"
theorem sc_b7 : zas ["A", "found", "part"] ["A"] (zad zaZ) := by walk_at "s"
theorem zgm : zas ["A"] ["A"] (zad zba) := by walk_at "s"
theorem sc_b6 : zas ["statements", "names", "A"] ["statements"] (zad zbb) := by walk_at "s"
theorem sc_a2 : zas ["statements", "called", "things", "facts"] ["statements"] (zad za7) := by walk_at "s"
theorem zhG : zas ["A", "things"] ["A", "things"] (zad zbo) := by walk_at "s"
theorem sc_a6 : zas ["world", "size"] ["world"] (zad zaO) := by walk_at "s"
theorem sc_a5 : zas ["called", "size", "name", "thing"] ["called", "size"] (zad zaH) := by walk_at "s"
theorem sc_a8 : zas ["facts", "size", "word", "things"] ["facts", "size"] (zad zaP) := by walk_at "s"
theorem zgn : zas ["thing", "size"] ["thing", "size"] (zad zbc) := by walk_at "s"
theorem zky : zas ["row"] ["row"] (zad zbO) := by walk_at "s"
theorem zf0 : zas ["_law_script", "_law_k"] ["_law_script", "_law_k"] (zad zaQ) := by walk_at "s"
theorem sc_b9 : zas ["_law_script", "_law_found", "_law_more", "_law_cell"] ["_law_script"] (zad zbp) := by walk_at "s"
theorem zjy : zas ["_law_cell"] ["_law_cell"] (zad zb0) := by walk_at "s"
theorem sc_b3 : zas ["_law_shape", "_law_k", "_law_place", "_law_name", "_law_turn"] ["_law_shape", "_law_k"] (zad zaR) := by walk_at "s"
theorem zdM : zas ["_law_shape", "_law_k"] ["_law_shape", "_law_k"] (zad zaB) := by walk_at "s"
theorem zf1 : zas ["_law_shape", "_law_cell"] ["_law_shape", "_law_cell"] (zad zaS) := by walk_at "s"
theorem sc_b1 : zas ["_law_shape", "_law_cell", "_law_many", "_law_word", "_law_more"] ["_law_shape", "_law_cell"] (zad zaT) := by walk_at "s"
theorem sc_c7 : zas ["_law_pile", "_law_shape", "_law_cell", "_law_kind", "_law_more"] ["_law_pile", "_law_shape", "_law_cell"] (zad zb1) := by walk_at "s"
theorem sc_a9 : zas ["_law_shape", "_law_cells", "_law_pile", "_law_cell"] ["_law_shape", "_law_cells"] (zad zaU) := by walk_at "s"
theorem sc_c8 : zas ["_law_ka", "_law_found", "_law_part"] ["_law_ka"] (zad zb2) := by walk_at "s"
theorem sc_b5 : zas ["_law_ka", "_law_cell", "_law_free_here"] ["_law_ka", "_law_cell"] (zad zbd) := by walk_at "s"
theorem sc_a1 : zas ["_law_shape", "_law_cells", "_law_pile", "_law_ka", "_law_k"] ["_law_shape", "_law_cells"] (zad zaw) := by walk_at "s"
theorem sc_c0 : zas ["_law_ka", "_law_found", "_law_term", "_law_part"] ["_law_ka"] (zad zbq) := by walk_at "s"
theorem sc_a4 : zas ["_law_statements", "_law_found", "_law_one"] ["_law_statements"] (zad zaI) := by walk_at "s"
theorem sc_c3 : zas ["_law_statements", "_law_names_here", "_law_found", "_law_one", "_law_fact"] ["_law_statements", "_law_names_here"] (zad zbr) := by walk_at "s"
theorem sc_c6 : zas ["_law_statements", "_law_names_here", "_law_called", "_law_found"] ["_law_statements"] (zad zb3) := by walk_at "s"
theorem sc_b0 : zas ["_law_shape", "_law_cell", "_law_names_here"] ["_law_shape", "_law_cell"] (zad zaV) := by walk_at "s"
theorem sc_d1 : zas ["_law_script", "_law_shape", "_law_statements", "_law_cell", "_law_k", "_law_name", "_law_rows"] ["_law_script"] (zad ze5) := by walk_at "s"
end K43
namespace K43
open PySem L2
seal PE PS PSs PA PT PW PG PI PO PIf OpR UnR zaN IxR SlR MtR MtM
local macro_rules | `(tactic| walk_at "bpW") => `(tactic| simp only [↓w_v0, ↓w_v1, ↓w_v2, ↓w_v3, ↓w_v4, ↓w_v5, ↓w_v6, ↓w_v7, ↓w_v8, ↓w_v9, ↓zou, ↓zov, ↓w_c, ↓zjP, ↓zow, ↓zmJ, ↓zox, ↓zmK, ↓zlo, ↓zfN, ↓w_op, ↓w_un, ↓zmL, ↓w_B, ↓w_bl, ↓zoy, ↓w_or, ↓w_not, ↓zmM, ↓zoz, ↓zmN, ↓zo0, ↓zmO, ↓zo1, ↓zo2, ↓zmP, ↓w_CB, ↓w_BM, ↓zjQ, ↓zir, ↓w_sl, ↓zjR, ↓zmQ, ↓zo3, ↓zmR, ↓w_rI, ↓zmS, ↓zo4, ↓zo5, ↓zlp, ↓zo6, ↓zjS, ↓zo7, ↓zjT, ↓zo8, ↓zo9, ↓zmT, ↓zmU, ↓zoA, ↓zmV, ↓zmW, ↓zmX, ↓zoB, ↓zoC, ↓zmY, ↓zmZ, ↓zna, ↓zlq, ↓zis, ↓zjU, ↓zjV, ↓zjW, ↓znb, ↓zit, ↓ziu, ↓zlu, ↓zhq, ↓zhr, ↓zka, ↓zio, ↓zjK, ↓List.set_cons_zero, ↓List.set_cons_succ, ↓List.nil_append, ↓List.cons_append, ↓List.append_nil, ↓reduceIte, Bool.false_eq_true, decide_eq_true_eq, Bool.not_eq_true', decide_eq_false_iff_not, ↓zlx, ↓ziF, ↓zlE, ↓zlF, ↓zlG, ↓znn, ↓zgJ, ↓znq, ↓znr, ↓zno, ↓znp, ↓zns, ↓znt, ↓znu, ↓ziH, ↓znv, ↓w_is, ↓zoH, ↓zlB, ↓zlC, ↓zn7, ↓zoJ, ↓zoK, ↓zlH, ↓zoL, ↓zkP, ↓zlI, ↓zn8, ↓znA, ↓znB, ↓zlK, ↓zjd, ↓zlL, ↓zje, ↓zjf, ↓zlM, ↓zlN, ↓znC, ↓zlO, ↓zlP, ↓znJ, ↓zlR, ↓zkP, ↓zlS, ↓zlT, ↓znE, ↓ziN, ↓znN, ↓znO, ↓zlW, ↓znP, ↓znT, ↓zkU, ↓zks, ↓znU, ↓znX, ↓zlY, ↓zh6, ↓zlZ, ↓zkt, ↓zma, ↓zoQ])
local macro_rules | `(tactic| walk_at "S") => `(tactic| simp only [L2.start, List.map_cons, List.map_nil, List.length_cons, List.length_nil, Nat.reduceAdd, Nat.reduceSub, List.replicate_succ, List.replicate_zero, List.cons_append, List.nil_append, List.append_nil, Nat.zero_add, Nat.sub_self])
local macro_rules | `(tactic| walk_at "o") => `(tactic| first | exact Or.inl ρ | exact Or.inr ρ)
local macro_rules | `(tactic| walk_at "") => `(tactic| walk_at "bpW")
local macro_rules | `(tactic| walk_at "T") => `(tactic| simp only [za4, List.replicate_succ, List.replicate_zero, List.map_cons, List.map_nil, List.nil_append, List.cons_append, List.getElem?_cons_zero, List.getElem?_cons_succ, Option.join_some])
local macro_rules | `(tactic| walk_at "t") => `(tactic| try walk_at "bpW")
section
variable {P : Program} {w : World} {K : W.Frag} {mg : Str -> Option Value} {Qd : Heap} {D : Defs}
theorem zf2 (T : Tx K mg D) : FnOk P w K mg Qd CX0 1 D.a_b2 D.d_b2 ["_law_script", "_law_k"] (znc K) := by
 refine T.F_b2.ok zf0 (fun vs H Q E h => ?_) (fun cdv A outer s H vs Q E hr h => ?_)
 ·obtain ⟨a, ns, n, rfl, _⟩ := h; rfl
 obtain ⟨a, ns, n, rfl, hS, h0, k⟩ := h;have hu := hr.units;refine ⟨_, (zag (zbv (zaq zcO (pv 1) (zaz (zaX K) ρ T.z_len yap (zaa (pv 0) zae)) (za2 _)) (zah (zap (za5 (ixA K) (pv 0) (pv 1) (fun _ _ => rfl)))) zaG)
  (zah (zap zaf))), ?_⟩
 walk_at "S";walk_at "";refine ⟨_, .inl hS, ?_⟩;unfold zcE at k;rw [yaf];refine ite2 (fun c => ?_) fun c => ?_
 ·rw [if_pos c] at k;exact ⟨_, .inl hS, _, zg4 h0 c, k⟩
 ·rw [if_neg c] at k; exact k
theorem zhH (T : Tx K mg D) : FnOk P w K mg Qd CX0 1 D.a_b9 D.d_b9 ["_law_script"] (znF K) := by
 refine T.F_b9.ok sc_b9 (fun vs H Q E h => ?_) (fun cdv A outer s H vs Q E hr h => ?_)
 ·obtain ⟨a, ns, rfl, _⟩ := h; rfl
 obtain ⟨a, ns, rfl, hA, hl, k⟩ := h;have hu := hr.units;refine ⟨_, (zag (zau (i := 1) sc_b9.nd ρ (by walk_at "o") (zaW zae))
  (zag (zau (i := 2) sc_b9.nd ρ (by walk_at "o") zaf)
  (zag (zb6 PassesOwn.never ρ (zaY K (pv 0)) (zar (i := 3) sc_b9.nd ρ (by walk_at "o"))
   (zag (zau (i := 2) sc_b9.nd ρ (by walk_at "o") (zan za3 (zan (za9 K) (zan (za9 K) (zan zfL (pv 2) zaf) (pv 3)) zaf) zaf))
  (zah (zbU (zcy K yar PySem.F.slot_list_append yaw zb4 (pv 1) (zaa (pv 2) zae))))))
  (zah (zap (pv 1)))))), ?_⟩
 walk_at "S";walk_at "";refine ⟨yaq _, fun p hp => .inl ⟨⟨_, ((Same.refl H).upd hp : Same H (upd H p (.lst []))).seq hA⟩, ?_⟩⟩;have sp : Same H (upd H p (.lst [])) := (Same.refl H).upd hp;refine zcz (xs := ns.map V.int) (fun i σ H2 => Same H H2 /\ ∃ (ms : List Int) (m : Int) (u : Option V), σ = [some (.ref a), some (.ref p), some (.int m), u] /\ H2 p = some (.lst (ms.map V.int)) /\ ms.length = i /\ ∀ x ∈ ms, 0 <= x) ⟨sp, [], 7, _, rfl, zac, rfl,ς⟩ (fun i σ H2 _ hv => hv.1.seq hA) (fun i x σ H2 hx hv => ?_) fun σ H2 hv => ?_
 ·obtain ⟨s2, ms, m, u, rfl, hp2, Qe, hms⟩ := hv;rw [yav] at hx;cases e : ns[i]? with
  | none => rw [e] at hx; cases hx
  | some y =>
   rw [e] at hx;cases hx;have hi : i < ns.length := (yag.mp e).1;walk_at "";refine ⟨zoD,δ, ⟨_, SqL.of hp2⟩, _, hp2, zaF (by rw [yaf]; omega), s2.upd hp, ms ++ [(m * 48271 + y + 1) % 2147483647], _, _, rfl, by rw [zac, ya0]; rfl, by rw [yae, Qe]; rfl, fun z hz => ?_⟩;rcases yay.mp hz with q | q
   ·exact hms z q
   ·rw [yah.mp q]; exact yao _ δ
 ·obtain ⟨s2, ms, m, u, rfl, hp2, Qe, hms⟩ := hv;walk_at "";exact k p ms H2 s2 hp2 (by rw [Qe, yaf]) hms
def L3 (t : Str) : Prop := ∃ c r, t.cps.toList = c :: r /\ (c = 88 \/ c = 89 \/ c = 90) /\ (∀ d ∈ r, d ∈ sofS.cps.toList) /\ r.length <= 7
def tz (t : Str) : Prop := Nm smallS t \/ L3 t
theorem L3.len {t : Str} (h : L3 t) : 1 <= t.length /\ t.length <= 8 := by
 obtain ⟨c, r, e, _, _, hl⟩ := h;rw [<- zaM, e, List.length_cons];omega
theorem tz.len {t : Str} (h : tz t) : 1 <= t.length /\ t.length <= 8 := by
 rcases h with h | h
 ·exact ⟨h.len.2, h.len.1⟩
 ·exact h.len
theorem L3.nm {t : Str} (h : L3 t) : Nm ziv t := by
 obtain ⟨c, r, e, hc, hr, hl⟩ := h;refine ⟨c, r, e, ?_, hr, hl, fun hk => ?_⟩
 ·rcases hc with rfl | rfl | rfl <;> decide +kernel
 ·have all : ∀ x ∈ keptW, ∀ c r, x.cps.toList = c :: r -> c ≠ 88 /\ c ≠ 89 /\ c ≠ 90 := by
   have : ∀ x ∈ keptW, x.cps.toList.headD 0 ≠ 88 /\ x.cps.toList.headD 0 ≠ 89 /\ x.cps.toList.headD 0 ≠ 90 := by decide +kernel
   intro x hx c r e;have := this x hx;rw [e] at this;exact this
  have := all t hk c r e;omega
def SZ : Stm -> Prop
 | .is w ts => Nm smallS w /\ ts.length <= 3 /\ ∀ t ∈ ts, tz t
 | .fls => True
 | .neg A => SZ A
 | .bi _ A B => SZ A /\ SZ B
 | .qu _ X A => L3 X /\ SZ A
theorem SZ.ok : ∀ {S : Stm}, SZ S -> S.Ok
 | .is w ts, h => ⟨h.1, h.2.1, fun t ht => (h.2.2 t ht).imp id L3.nm⟩
 | .fls, _ => trivial
 | .neg A, h => SZ.ok (S := A) h
 | .bi _ A B, h => ⟨SZ.ok h.1, SZ.ok h.2⟩
 | .qu _ X A, h => ⟨h.1.nm, SZ.ok h.2⟩
def nvS : Str := "bcdfghjklmnpqrstvwxyz0123456789"
theorem zkV : ∀ d ∈ nvS.cps.toList, d ∈ sofS.cps.toList := by decide +kernel
theorem zjz {x : Str} (h : ∀ d ∈ x.cps.toList, d ∈ nvS.cps.toList) : x ∉ keptW := fun hk => by
 have all : ∀ x ∈ keptW, ∃ d ∈ x.cps.toList, d ∉ nvS.cps.toList := by decide +kernel
 obtain ⟨d, h1, h2⟩ := all x hk;exact h2 (h d h1)
def zj0 (S : Stm) : Prop := ∀ w us, S = .is w us -> ∀ u ∈ us, Nm smallS u
theorem SZ.part {S A : Stm} (h : SZ S) (hA : A ∈ S.parts) : SZ A := by
  cases S with
  | is x ts => simp [Stm.parts] at hA
  | fls => simp [Stm.parts] at hA
  | neg B => have : A = B := by simpa [Stm.parts] using hA
             subst this; exact h
  | bi o B C => have : A = B \/ A = C := by simpa [Stm.parts] using hA
                rcases this with rfl | rfl
                · exact h.1
                · exact h.2
  | qu q X B => have : A = B := by simpa [Stm.parts] using hA
                subst this; exact h.2
def PileZ (Ss : List Stm) (d z : Nat) : Prop := (∀ S ∈ Ss, SZ S /\ S.deep <= d) /\ (Ss.map Stm.size).sum <= z
theorem PileZ.snoc {A : List Stm} {S : Stm} {d z d' z' : Nat} (h : PileZ A d z) (hd : d <= d') (h1 : SZ S) (h2 : S.deep <= d') (h3 : z + S.size <= z') : PileZ (A ++ [S]) d' z' :=
 ⟨fun T hT => (yay.mp hT).elim (fun q => ⟨(h.1 T q).1, yat (h.1 T q).2 hd⟩) fun q => by rw [yah.mp q]; exact ⟨h1, h2⟩,
  by rw [ya0, List.sum_append]; simp only [List.map_cons, List.map_nil, List.sum_cons, List.sum_nil]; have := h.2; omega⟩
theorem PileZ.front {A : List Stm} {S : Stm} {d z : Nat} (h : PileZ (A ++ [S]) d z) : ∃ z', PileZ A d z' /\ z' + S.size <= z /\ SZ S /\ S.deep <= d := by
 have h2 := h.2;rw [ya0, List.sum_append] at h2;simp only [List.map_cons, List.map_nil, List.sum_cons, List.sum_nil] at h2;exact ⟨(A.map Stm.size).sum, ⟨fun T hT => h.1 T (List.mem_append_left _ hT), yai _⟩,ω, h.1 S ς⟩
def zmf : Sp := fun vs H Q _ => ∃ c, vs = [.int c] /\ ∀ z : Nat, z ∈ (Str.ofString "bcdfghjklmpqrsvwxyz").cps.toList -> Q (.str ⟨#[z]⟩) H
def znY : Sp := fun vs H Q _ => ∃ sh k, vs = [.int sh, .int k] /\ 0 <= sh /\ 0 <= k /\ k < 5 /\ ∀ x H', Same H H' -> Nm smallS x -> Q (.str x) H'
def znZ : Sp := fun vs H Q _ => ∃ sh k, vs = [.int sh, .int k] /\ 0 <= sh /\ 0 <= k /\ k < 3 /\ ∀ x, L3 x -> Q (.str x) H
def zoa : Sp := fun vs H Q _ => ∃ sh c, vs = [.int sh, .int c] /\ 0 <= sh /\ ∀ x H', Same H H' -> tz x -> Q (.str x) H'
def zob (K : W.Frag) : Sp := fun vs H Q _ => ∃ sh c, vs = [.int sh, .int c] /\ 0 <= sh /\ ∀ S v H', Same H H' -> RepS K H' S v -> SZ S -> S.deep = 1 -> S.size = 1 -> Q v H'
def zmg (K : W.Frag) : Sp := fun vs H Q _ => ∃ (p : Addr) (sh c : Int) (us : List V) (Ss : List Stm) (d z : Nat), vs = [.ref p, .int sh, .int c] /\ H p = some (.lst us) /\ RepL K H Ss us /\ 0 <= sh /\ PileZ Ss d z /\ Ss.length <= 50 /\ 1 <= d /\
 ∀ (q : Addr) us' Ss' H', Same H H' -> H' q = some (.lst us') -> RepL K H' Ss' us' -> PileZ Ss' (d + 1) (z + 1) -> Ss'.length <= Ss.length + 1 -> 1 <= Ss'.length -> Q (.ref q) H'
def zmh (K : W.Frag) : Sp := fun vs H Q _ => ∃ (a : Addr) (sh : Int) (ms : List Int), vs = [.int sh, .ref a] /\ SqL K H a (ms.map V.int) /\ ms.length <= 10 /\ 0 <= sh /\
 ∀ (q : Addr) us Ss H', Same H H' -> H' q = some (.lst us) -> RepL K H' Ss us -> PileZ Ss (ms.length + 1) (ms.length + 1) -> Ss.length <= ms.length + 1 -> 1 <= Ss.length -> Q (.ref q) H'
def zmi (K : W.Frag) (d : Nat) : Sp := fun vs H Q _ => ∃ v S, vs = [v] /\ RepS K H S v /\ SZ S /\ S.deep <= d /\ S.size <= 1000 /\ ∀ (p : Addr) (ts : List Str) H', Same H H' -> H' p = some (.lst (ts.map V.str)) -> (∀ t ∈ ts, L3 t) -> ts.length <= 3 * S.size -> (ts = [] -> zj0 S) -> Q (.ref p) H'
def zj1 (K : W.Frag) : Sp := fun vs H Q _ => ∃ v S c, vs = [v, .int c] /\ RepS K H S v /\ SZ S /\ S.deep <= 20 /\ S.size <= 1000 /\ ∀ S' v' H', Same H H' -> RepS K H' S' v' -> SZ S' -> S'.deep <= S.deep + 3 * S.size -> S'.size <= 4 * S.size -> zj0 S' -> Q v' H'
def zmj (K : W.Frag) : Sp := fun vs H Q _ => ∃ (a : Addr) (sh : Int) (ms : List Int), vs = [.int sh, .ref a] /\ SqL K H a (ms.map V.int) /\ ms.length <= 3 /\ 0 <= sh /\ ∀ S v H', Same H H' -> RepS K H' S v -> SZ S -> S.deep <= 40 -> S.size <= 28 -> zj0 S -> Q v H'
theorem zj2 (T : Tx K mg D) : FnOk P w K mg Qd CX0 1 D.a_c5 D.d_c5 ["_law_cell"] zmf := by
 refine T.F_c5.ok zjy (fun vs H Q E h => ?_) (fun cdv A outer s H vs Q E hr h => ?_)
 ·obtain ⟨c, rfl, _⟩ := h; rfl
 obtain ⟨c, rfl, k⟩ := h;have hu := hr.units;refine ⟨_, (zah (zap (za5 (ixA K) zat (zan za3 (pv 0) zaf) (fun _ _ => rfl)))), ?_⟩;walk_at "S";walk_at "";obtain ⟨z, ez, hz⟩ := zne (x := "bcdfghjklmpqrsvwxyz") (i := c) (P := fun z => z ∈ (Str.ofString "bcdfghjklmpqrsvwxyz").cps.toList) (by decide +kernel) (fun _ h => h);exact ⟨δ, zak (by decide +kernel), z, ez, k z hz⟩
theorem zcm (T : Tx K mg D) : FnOk P w K mg Qd CX0 1 D.a_a3 D.d_a3 ["_law_shape", "_law_k"] znZ := by
 refine T.F_a3.ok zdM (fun vs H Q E h => ?_) (fun cdv A outer s H vs Q E hr h => ?_)
 ·obtain ⟨sh, j, rfl, _⟩ := h; rfl
 obtain ⟨sh, j, rfl, h0, j0, j1, k⟩ := h;have hu := hr.units;refine ⟨_, (zag (zbv (zaq (zbj K hu) (zan za3 (pv 0) zaf) zaf (za2 _)) (zah (zap (zan (za9 K) (za5 (ixA K) zat (pv 1) (fun _ _ => rfl)) (zbf (slB K) zat zb7 (zbs (zan za3 (zan zav (pv 0) zaf) zaf)))))) zaG)
  (zah (zap (zan (za9 K) (zan (za9 K) zat (zbf (slB K) zat zb7 (zbs (zan za3 (zan zav (pv 0) zaf) zaf)))) (za5 (ixA K) zat (pv 1) (fun _ _ => rfl)))))), ?_⟩
 walk_at "S";walk_at "";have h1 : ∀ c : Nat, (⟨#[c]⟩ : Str).length = 1 := fun c => rfl;have ha : ∀ x y : Str, (x ++ y).length = x.length + y.length := fun x y => by rw [<- zaM, zdn, yae, zaM, zaM]
 have hz : ∀ (r : Str) lo hi, (Txt.slice r lo hi).length <= r.length := fun r lo hi => by
  rw [<- zaM, zdo];have h1 := List.length_take_le' (HT.sIx r.length r.length hi - HT.sIx r.length 0 lo) (r.cps.toList.drop (HT.sIx r.length 0 lo));rw [List.length_drop, zaM] at h1;omega
 obtain ⟨jn, hj⟩ : ∃ jn : Nat, j = jn := ⟨j.toNat,ω⟩
 have pk : ∀ x : Str, x.length = 3 -> ∃ c, atI x.cps.toList j = some c /\ c ∈ x.cps.toList := fun x hx => by
  have hl : jn < x.cps.toList.length := by rw [zaM]; omega
  exact ⟨_, by rw [hj]; exact zam (yal hl), List.getElem_mem hl⟩
 have sub : ∀ (r : Str) hi, ∀ d ∈ (Txt.slice r none hi).cps.toList, d ∈ r.cps.toList := fun r hi d hd => by
  rw [zdo] at hd;exact List.mem_of_mem_drop (List.mem_of_mem_take hd)
 have l1 : (Str.ofString "1b").length = 2 := by decide +kernel
 have l2 : (Str.ofString "b0c").length = 3 := by decide +kernel
 have l3 : (Str.ofString "X").length = 1 := by decide +kernel
 have z1 := hz "1b" none (some (sh / 2 % 3));have z2 := hz "b0c" none (some (sh / 2 % 4));obtain ⟨c1, e1, m1⟩ := pk "XYZ" (by decide +kernel);obtain ⟨c2, e2, m2⟩ := pk "pq7" (by decide +kernel);have f1 : c1 = 88 \/ c1 = 89 \/ c1 = 90 := by
  have : (Str.ofString "XYZ").cps.toList = [88, 89, 90] := rfl;rw [this] at m1;simpa using m1
 have s1 : ∀ d ∈ (Str.ofString "1b").cps.toList, d ∈ sofS.cps.toList := by decide +kernel
 have s2 : ∀ d ∈ (Str.ofString "b0c").cps.toList, d ∈ sofS.cps.toList := by decide +kernel
 have s3 : ∀ d ∈ (Str.ofString "pq7").cps.toList, d ∈ sofS.cps.toList := by decide +kernel
 refine ⟨δ, ite2 (fun _ => ⟨zak (by decide +kernel), c1, e1, cdiv,δ, zak (by decide +kernel), zak ?_, k _ ⟨c1, (Txt.slice "1b" none (some (sh / 2 % 3))).cps.toList, ?_, f1, fun d hd => s1 d (sub _ _ d hd), ?_⟩⟩) fun _ => ⟨cdiv,δ, zak (by decide +kernel), zak ?_, zak (by decide +kernel), c2, e2, zak ?_, k _ ⟨88, (Txt.slice "b0c" none (some (sh / 2 % 4))).cps.toList ++ [c2], ?_, .inl rfl, fun d hd => ?_, ?_⟩⟩⟩
 ·(try simp only [ha, h1]); omega
 ·rw [Str.cps_append, Array.toList_append]; rfl
 ·rw [zaM]; omega
 ·(try simp only [ha, h1]); omega
 ·(try simp only [ha, h1]); omega
 ·rw [Str.cps_append, Array.toList_append, Str.cps_append, Array.toList_append, show (Str.ofString "X").cps.toList = [88] from rfl]; rfl
 ·rcases yay.mp hd with h | h
  ·exact s2 d (sub _ _ d h)
  ·rw [yah.mp h]; exact s3 c2 m2
 ·rw [yae, zaM]; simp only [List.length_cons, List.length_nil]; omega
theorem zbE (T : Tx K mg D) : FnOk P w K mg Qd CX0 2 D.a_b3 D.d_b3 ["_law_shape", "_law_k"] znY := by
 have G_c5 := @zj2 P w _ _ Qd _ T;refine T.F_b3.ok sc_b3 (fun vs H Q E h => ?_) (fun cdv A outer s H vs Q E hr h => ?_)
 ·obtain ⟨sh, j, rfl, _⟩ := h; rfl
 obtain ⟨sh, j, rfl, h0, j0, j1, k⟩ := h;have hu := hr.units;have hr_c5 : Room 1 _ := hr.mono δ;refine ⟨_, (zag (zbv (zaq (zbj K hu) (zan za3 (pv 0) zaf) zaf (za2 _)) (zah (zap (za5 (ixA K) (zaW (zaa zat (zaa zat (zaa zat (zaa zat (zaa zat zae)))))) (pv 1) (fun _ _ => rfl)))) zaG)
  (zag (zau (i := 2) sc_b3.nd ρ (by walk_at "o") (zan za3 (zan zav (pv 0) zaf) zaf))
  (zag (zau (i := 3) sc_b3.nd ρ (by walk_at "o") zat)
  (zag (zb6 PassesOwn.never ρ (zbJ ρ T.z_range (zaa (zan (za9 K) (zan (za9 K) (pv 2) zaf) (zan za3 (zan zav (pv 0) zaf) (zan zeG zaf (pv 2)))) zae)) (zar (i := 4) sc_b3.nd ρ (by walk_at "o"))
   (zah (zbv (zaq (zbj K hu) (pv 4) (pv 2) (za2 _)) (zah (zau (i := 3) sc_b3.nd ρ (by walk_at "o") (zan (za9 K) (pv 3) (za5 (ixA K) zat (pv 1) (fun _ _ => rfl))))) (zah (zbv (zaq (zbj K hu) (pv 4) zaf (za2 _)) (zah (zau (i := 3) sc_b3.nd ρ (by walk_at "o") (zan (za9 K) (pv 3) (YC G_c5 hr_c5 ρ T.m_c5 (zaa (zan zav (pv 0) zaf) zae))))) (zah (zau (i := 3) sc_b3.nd ρ (by walk_at "o") (zan (za9 K) (pv 3) (za5 (ixA K) zat (zan za3 (zan (za9 K) (zan zav (pv 0) zaf) (pv 4)) zaf) (fun _ _ => rfl))))))))))
  (zah (zap (pv 3))))))), ?_⟩
 walk_at "S";walk_at "";have ha : ∀ x y : Str, (x ++ y).length = x.length + y.length := fun x y => by rw [<- zaM, zdn, yae, zaM, zaM]
 have h1 : ∀ c : Nat, (⟨#[c]⟩ : Str).length = 1 := fun c => rfl;refine ⟨δ, ite2 (fun _ => ⟨zak δ, fun p hp => ?_⟩) fun _ => ?_⟩
 ·obtain ⟨z, hz, ez⟩ := zoE (ts := ["c0", "c1", "b", "c2", "c10"]) (i := j) j0 (by show j < ((5 : Nat) : Int); omega);refine ⟨_, .inl (SqL.of zac), _, ez, k z _ (zab hp _) ?_⟩;have : ∀ z ∈ (["c0", "c1", "b", "c2", "c10"] : List Str), (∃ c, z.cps.toList.head? = some c /\ c ∈ smallS.cps.toList) /\ (∀ d ∈ z.cps.toList.tail, d ∈ sofS.cps.toList) /\ z.cps.toList.tail.length <= 7 /\ z ∉ keptW := by
   intro z hz;simp only [List.mem_cons, List.not_mem_nil, or_false] at hz;rcases hz with rfl | rfl | rfl | rfl | rfl
   ·exact ⟨⟨99, rfl, by decide +kernel⟩, by decide +kernel,δ, by decide +kernel⟩
   ·exact ⟨⟨99, rfl, by decide +kernel⟩, by decide +kernel,δ, by decide +kernel⟩
   ·exact ⟨⟨98, rfl, by decide +kernel⟩, by decide +kernel,δ, by decide +kernel⟩
   ·exact ⟨⟨99, rfl, by decide +kernel⟩, by decide +kernel,δ, by decide +kernel⟩
   ·exact ⟨⟨99, rfl, by decide +kernel⟩, by decide +kernel,δ, by decide +kernel⟩
  obtain ⟨⟨c, h1, h2⟩, h3, h4, h5⟩ := this z hz;cases e : z.cps.toList with
  | nil => rw [e] at h1; cases h1
  | cons d r =>
   rw [e] at h1 h3 h4;cases h1;exact ⟨_, r, e, h2, h3, h4, h5⟩
 ·have p0 := yao (sh / 3) (show (6 : Int) ≠ 0 by decide);have p1 := yak (sh / 3) (show (0 : Int) < 6 by decide);generalize sh / 3 % 6 = pl at p0 p1;have r0 := yao (sh / 18) (show 8 - pl ≠ 0 by omega);have r1 := yak (sh / 18) (show 0 < 8 - pl by omega);generalize sh / 18 % (8 - pl) = rr at r0 r1;refine ⟨cdiv,δ, cdiv,ω,ω,ω, ?_⟩;have step : ∀ (x : Str) (i c : Nat), x.length = i -> ((∀ d ∈ x.cps.toList, d ∈ nvS.cps.toList) /\ (1 <= i -> ∃ d, x.cps.toList.head? = some d /\ d ∈ smallS.cps.toList)) -> c ∈ nvS.cps.toList -> (i = 0 -> c ∈ smallS.cps.toList) ->
    (x ++ ⟨#[c]⟩).length = i + 1 /\ (∀ d ∈ (x ++ ⟨#[c]⟩).cps.toList, d ∈ nvS.cps.toList) /\ (1 <= i + 1 -> ∃ d, (x ++ ⟨#[c]⟩).cps.toList.head? = some d /\ d ∈ smallS.cps.toList) := fun x i c hx hn hc h0 => by
   have e : (x ++ ⟨#[c]⟩).cps.toList = x.cps.toList ++ [c] := by rw [Str.cps_append, Array.toList_append]
   refine ⟨by rw [ha, h1, hx], fun d hd => ?_, fun _ => ?_⟩
   ·rw [e] at hd;rcases yay.mp hd with h | h
    ·exact hn.1 d h
    ·rw [yah.mp h]; exact hc
   ·rw [e];cases q : x.cps.toList with
    | nil =>
     have : i = 0 := by rw [<- hx, <- zaM, q]; rfl
     exact ⟨c, rfl, h0 this⟩
    | cons a r =>
     have hi1 : 1 <= i := by rw [<- hx, <- zaM, q, List.length_cons]; omega
     obtain ⟨d, hd, hs⟩ := hn.2 hi1;rw [q] at hd;exact ⟨d, hd, hs⟩
  have sg1 : ∀ d ∈ (Str.ofString "bcdfg").cps.toList, d ∈ nvS.cps.toList /\ d ∈ smallS.cps.toList := by decide +kernel
  have sg2 : ∀ d ∈ (Str.ofString "bcdfghjklmpqrsvwxyz").cps.toList, d ∈ nvS.cps.toList /\ d ∈ smallS.cps.toList := by decide +kernel
  refine zcD (fun i σ H2 => H2 = H /\ ∃ (x : Str) (u : Option V), σ = [some (.int sh), some (.int j), some (.int pl), some (.str x), u] /\ x.length = i /\ (∀ d ∈ x.cps.toList, d ∈ nvS.cps.toList) /\ (1 <= i -> ∃ d, x.cps.toList.head? = some d /\ d ∈ smallS.cps.toList)) ⟨rfl, Str.ofString "", _, rfl, by decide +kernel, by decide +kernel, fun z => by omega⟩ (fun i σ H2 hi hv => ?_) fun σ H2 hv => ?_
  ·obtain ⟨rfl, x, u, rfl, hx, hn⟩ := hv;walk_at "";obtain ⟨jn, hj⟩ : ∃ jn : Nat, j = jn := ⟨j.toNat,ω⟩
   have hl : jn < (Str.ofString "bcdfg").cps.toList.length := by
    have : (Str.ofString "bcdfg").cps.toList.length = 5 := by decide +kernel
    omega
   obtain ⟨z, ez, hz⟩ := zne (x := "bdgk0123456789") (i := sh / 144 + (0 + (i : Int))) (P := fun z => z ∈ nvS.cps.toList) (by decide +kernel) (by decide +kernel);refine ite2 (fun _ => ⟨zak (by decide +kernel), _, by rw [hj]; exact zam (yal hl), zak (by rw [h1]; omega), trivial, _, _, rfl, step x i _ hx hn (sg1 _ (List.getElem_mem hl)).1 fun _ => (sg1 _ (List.getElem_mem hl)).2⟩) fun c1 => ite2 (fun _ => ⟨cdiv, _, rfl, fun z hz => by show zgh K (V.str x) (V.str _) _ _; rw [zjd]; exact ⟨zak (by rw [h1]; omega), rfl, _, _, rfl, step x i z hx hn (sg2 z hz).1 fun _ => (sg2 z hz).2⟩⟩) fun c2 => ⟨cdiv,δ, zak (by decide +kernel), z, ez, zak (by rw [h1]; omega), trivial, _, _, rfl, step x i z hx hn hz fun z0 => absurd ω c2⟩
  ·obtain ⟨rfl, x, u, rfl, hx, hn⟩ := hv;walk_at "";refine k x _ (Same.refl _) ?_;obtain ⟨d, hd, hs⟩ := hn.2 ω;cases q : x.cps.toList with
   | nil => rw [q] at hd; cases hd
   | cons a r =>
    rw [q] at hd;cases hd;refine ⟨_, r, q, hs, fun e he => zkV e (hn.1 e (by rw [q]; exact List.mem_cons_of_mem _ he)), ?_, zjz hn.1⟩;have : r.length + 1 = x.length := by rw [<- zaM, q, List.length_cons]
    omega
theorem zf3 (T : Tx K mg D) : FnOk P w K mg Qd CX0 3 D.a_a7 D.d_a7 ["_law_shape", "_law_cell"] zoa := by
 have G_b3 := @zbE P w _ _ Qd _ T;have G_a3 := @zcm P w _ _ Qd _ T;refine T.F_a7.ok zf1 (fun vs H Q E h => ?_) (fun cdv A outer s H vs Q E hr h => ?_)
 ·obtain ⟨sh, c, rfl, _⟩ := h; rfl
 obtain ⟨sh, c, rfl, h0, k⟩ := h;have hu := hr.units;have hr_b3 : Room 2 _ := hr.mono δ;have hr_a3 : Room 1 _ := hr.mono δ;refine ⟨_, (zag (zbv (zaq (zbj K hu) (zan za3 (pv 1) zaf) zaf (za2 _)) (zah (zap (YC G_b3 hr_b3 ρ T.m_b3 (zaa (pv 0) (zaa (zan za3 (zan zav (pv 1) zaf) zaf) zae))))) zaG)
  (zah (zap (YC G_a3 hr_a3 ρ T.m_a3 (zaa (pv 0) (zaa (zan za3 (zan zav (pv 1) zaf) zaf) zae)))))), ?_⟩
 walk_at "S";walk_at "";have a0 := yao (c / 3) (show (5 : Int) ≠ 0 by decide);have a1 := yak (c / 3) (show (0 : Int) < 5 by decide);have b0 := yao (c / 3) (show (3 : Int) ≠ 0 by decide);have b1 := yak (c / 3) (show (0 : Int) < 3 by decide);exact ⟨δ, ite2 (fun _ => ⟨cdiv,δ, _, _, rfl, h0, a0, a1, fun x H' s' hx => k x H' s' (.inl hx)⟩) fun _ => ⟨cdiv,δ, _, _, rfl, h0, b0, b1, fun x hx => k x H (Same.refl H) (.inr hx)⟩⟩
theorem zf4 (T : Tx K mg D) : FnOk P w K mg Qd CX0 4 D.a_b1 D.d_b1 ["_law_shape", "_law_cell"] (zob K) := by
 have G_b3 := @zbE P w _ _ Qd _ T;have G_a7 := @zf3 P w _ _ Qd _ T;refine T.F_b1.ok sc_b1 (fun vs H Q E h => ?_) (fun cdv A outer s H vs Q E hr h => ?_)
 ·obtain ⟨sh, c, rfl, _⟩ := h; rfl
 obtain ⟨sh, c, rfl, h0, k⟩ := h;have hu := hr.units;have hr_b3 : Room 2 _ := hr.mono δ;have hr_a7 : Room 3 _ := hr.mono δ;refine ⟨_, (zag (zau (i := 2) sc_b1.nd ρ (by walk_at "o") (za5 (ixA K) (zaW (zaa zaf (zaa zaf (zaa zaf (zaa zaf (zaa zaf (zaa zaf zae))))))) (zan za3 (pv 1) zaf) (fun _ _ => rfl)))
  (zag (zau (i := 3) sc_b1.nd ρ (by walk_at "o") (YC G_b3 hr_b3 ρ T.m_b3 (zaa (zan zav (pv 0) zaf) (zaa (zan za3 (zan zav (pv 1) zaf) zaf) zae))))
  (zag (zbv (PW.pt (zeC (zaq (zbj K hu) (pv 2) zaf (za2 _)) (zdf (zaq (zbj K hu) (zan za3 (zan zav (pv 1) zaf) zaf) zaf (za2 _))))) (zah (zap (zbh (zaa zat zae)))) zaG)
  (zag (zau (i := 4) sc_b1.nd ρ (by walk_at "o") (zan zav (pv 1) zaf))
  (zah (zap (zbh (zaa zat (zaa (pv 3) (zaa (zax (zaJ K) ρ T.z_tuple ρ (zaa (zbg 1 [0, 4] ["_law_k", "_law_shape", "_law_more"] ⟨ρ,ρ,ρ,ρ,ρ,ρ,ρ⟩ ρ (zbJ ρ T.z_range (zaa (pv 2) zae)) (fun _ _ _ _ => zar (i := 0) (show List.Nodup (["_law_k", "_law_shape", "_law_more"] : List Str) by decide +kernel) ρ (Or.inl ρ) (Or.inr ρ)) (za1 δ) (fun _ _ _ _ => zbH) (fun _ _ _ _ => (YC G_a7 hr_a7 ρ T.m_a7 (zaa (pv 1) (zaa (zan zav (pv 2) (za5 (ixA K) (zaW (zaa zaf (zaa zaf (zaa zaf zae)))) (pv 0) (fun _ _ => rfl))) zae))))) zae)) zae)))))))))), ?_⟩
 walk_at "S";walk_at "";refine ⟨zak δ, fun p hp => ⟨δ, ?_⟩⟩;obtain ⟨z, hz, ez⟩ := zls (ts := [0, 1, 1, 2, 1, 3]) (i := c % 6) (yao _ δ) (yak _ δ);have hz' : 0 <= z /\ z <= 3 := by
  have : ∀ z ∈ ([0, 1, 1, 2, 1, 3] : List Int), 0 <= z /\ z <= 3 := by decide
  exact this z hz
 refine ⟨_, .inl (SqL.of zac), _, ez, cdiv, cdiv,δ, _, _, rfl,ω, yao _ δ, by have := yak (c / 6) (show (0 : Int) < 3 by decide); omega, fun x H2 s2' hx => ?_⟩;have s2 := (zab hp (.lst [V.int 0, V.int 1, V.int 1, V.int 2, V.int 1, V.int 3])).trans s2';walk_at "";refine ite2 (fun c1 => ⟨cdiv,δ, ite2 (fun c2 => ⟨zak δ, fun p7 hp7 => k .fls _ _ (s2.trans (zab hp7 _)) ⟨p7, rfl, SqT.of zac⟩ trivial rfl rfl⟩) fun c2 => ?_⟩) fun c1 => ?_
 all_goals
  refine ⟨cdiv,ω,ω, ?_⟩;refine zch (fun i acc H4 => Same H2 H4 /\ ∃ ts : List Str, acc = ts.map V.str /\ ts.length = i /\ ∀ t ∈ ts, tz t) ⟨Same.refl _, [], rfl, rfl,ς⟩ (fun i acc H4 hi hv => ?_) fun acc H4 hv p5 hp5 => ?_
  ·obtain ⟨s4, ts, rfl, htl, hts⟩ := hv;refine ⟨zaF (by rw [yaf]; omega), ?_⟩;walk_at "T";walk_at "";obtain ⟨y, hy, ey⟩ := zls (ts := [1, 15, 225]) (i := 0 + (i : Int)) ω (by show 0 + (i : Int) < ((3 : Nat) : Int); omega);have hy' : 0 < y /\ y < 1073741824 := by
    have : ∀ y ∈ ([1, 15, 225] : List Int), 0 < y /\ y < 1073741824 := by decide
    exact this y hy
   refine ⟨zak δ, fun p6 hp6 => ⟨_, .inl (SqL.of zac), _, ey, ?_⟩⟩;walk_at "t";refine ⟨⟨hy'.1, hy'.2⟩, _, _, rfl, h0, fun t H6 s6 ht => ⟨s4.trans ((zab hp6 _).trans s6), ts ++ [t],ς, by simp [htl], fun t' ht' => ?_⟩⟩;rcases yay.mp ht' with q | q
   ·exact hts t' q
   ·rw [yah.mp q]; exact ht
  ·obtain ⟨s4, ts, rfl, htl, hts⟩ := hv;walk_at "";refine ⟨_, .inl ⟨SqL.of zac, fun p6 hp6 => ⟨zak (show 3 <= 100000 by decide), fun p7 hp7 => ?_⟩⟩⟩;have hsm := ((s4.trans (zab hp5 _)).trans (zab hp6 _)).trans (zab hp7 (.tup [V.str "is", V.str x, V.ref p6]));refine k (.is x ts) _ _ (s2.trans hsm) ⟨p7, p6, rfl, SqT.of zac, (zab hp7 _).seqT (SqT.of zac)⟩ ⟨hx,ω, hts⟩ rfl rfl
theorem zj3 (T : Tx K mg D) : FnOk P w K mg Qd CX0 5 D.a_c7 D.d_c7 ["_law_pile", "_law_shape", "_law_cell"] (zmg K) := by
 have G_b1 := @zf4 P w _ _ Qd _ T;have G_a3 := @zcm P w _ _ Qd _ T;refine T.F_c7.ok sc_c7 (fun vs H Q E h => ?_) (fun cdv A outer s H vs Q E hr h => ?_)
 ·obtain ⟨p, sh, c, us, Ss, d, z, rfl, _⟩ := h; rfl
 obtain ⟨p, sh, c, us, Ss, d, z, rfl, hp, hR, h0, hO, hl, hd, k⟩ := h;have hu := hr.units;have hr_b1 : Room 4 _ := hr.mono δ;have hr_a3 : Room 1 _ := hr.mono δ;refine ⟨_, (zag (zau (i := 3) sc_c7.nd ρ (by walk_at "o") (zan za3 (pv 2) zaf))
  (zag (zau (i := 4) sc_c7.nd ρ (by walk_at "o") (zan zav (pv 2) zaf))
  (zag (zbv (PW.pt (zeC (zaq zcO (pv 3) zaf (za2 _)) (zdf (zaq zhW (zaz (zaX K) ρ T.z_len yap (zaa (pv 0) zae)) zaf (za2 _))))) (zah (zap (zan (za9 K) (zbf (slB K) (pv 0) zb7 (zbs (zeg zcv zaf))) (zaW (zaa (zbh (zaa zat (zaa (za5 (ixA K) (pv 0) (zeg zcv zaf) (fun _ _ => rfl)) zae))) zae))))) zaG)
  (zag (zbv (PW.pt (zeC (zaq zcO (pv 3) zaf (za2 _)) (zdf (zaq zhW (zaz (zaX K) ρ T.z_len yap (zaa (pv 0) zae)) zaf (za2 _))))) (zah (zap (zan (za9 K) (zbf (slB K) (pv 0) zb7 (zbs (zeg zcv zaf))) (zaW (zaa (zbh (zaa (za5 (ixA K) (zaW (zaa zat (zaa zat (zaa zat zae)))) (zan zeG (pv 3) zaf) (fun _ _ => rfl)) (zaa (za5 (ixA K) (pv 0) (zeg zcv zaf) (fun _ _ => rfl)) (zaa (za5 (ixA K) (pv 0) (zeg zcv zaf) (fun _ _ => rfl)) zae)))) zae))))) zaG)
  (zag (zbv (PW.pt (zeC (zjF zcO zcO zaf (pv 3) zaf) (zdf (zaq zhW (zaz (zaX K) ρ T.z_len yap (zaa (pv 0) zae)) zaf (za2 _))))) (zah (zap (zan (za9 K) (zbf (slB K) (pv 0) zb7 (zbs (zeg zcv zaf))) (zaW (zaa (zbh (zaa (za5 (ixA K) (zaW (zaa zat (zaa zat zae))) (zan zeG (pv 3) zaf) (fun _ _ => rfl)) (zaa (YC G_a3 hr_a3 ρ T.m_a3 (zaa (pv 1) (zaa (zan za3 (pv 4) zaf) zae))) (zaa (za5 (ixA K) (pv 0) (zeg zcv zaf) (fun _ _ => rfl)) zae)))) zae))))) zaG)
  (zah (zap (zan (za9 K) (pv 0) (zaW (zaa (YC G_b1 hr_b1 ρ T.m_b1 (zaa (pv 1) (zaa (pv 4) zae))) zae)))))))))), ?_⟩
 walk_at "S";have hL : us.length = Ss.length := (Paired.length hR).symm;have fin : ∀ (A : List Stm) (U : List V) (N : Stm) (x r : Addr) (H5 : Hp) (z' : Nat), Same H H5 -> RepL K H A U -> RepS K H5 N (.ref x) -> PileZ A d z' -> SZ N -> N.deep <= d + 1 -> z' + N.size <= z + 1 -> A.length <= Ss.length -> H5 r = none -> Q (.ref r) (upd H5 r (.lst (U ++ [V.ref x]))) := fun A U N x r H5 z' s5 hU hN hA h1 h2 h3 h4 hr' => by
  refine k r _ (A ++ [N]) _ (s5.trans (zab hr' _)) zac ?_ (hA.snoc ω h1 h2 h3) (by simp; omega) ς;exact RepL.snoc (RepL.same (s5.trans (zab hr' _)) hU) (hN.same (zab hr' _))
 rw [zjP, zlo];simp only [↓w_op, ↓w_v2, ↓w_c, ↓w_rI, ↓zfN, ↓List.set_cons_zero, ↓List.set_cons_succ];refine ⟨δ, ?_⟩;rw [zjP, zlo];simp only [↓w_op, ↓w_v2, ↓w_c, ↓w_rI, ↓zfN, ↓List.set_cons_zero, ↓List.set_cons_succ];refine ⟨cdiv, ?_⟩;have k0 := yao c (show (11 : Int) ≠ 0 by decide);have k1 := yak c (show (0 : Int) < 11 by decide);generalize c % 11 = kd at k0 k1;refine zct (c := kd < 2 /\ 0 < us.length) (fun Qb q => ?_) (fun c1 => ?_) fun c1 => zct (c := kd < 5 /\ 1 < us.length) (fun Qb q => ?_) (fun c2 => ?_) fun c2 => zct (c := (4 < kd /\ kd < 7) /\ 0 < us.length) (fun Qb q => ?_) (fun c3 => ?_) fun c3 => ?_
 ·walk_at "";refine ite2 (fun a1 => ⟨_, .inl (SqL.of hp), ?_⟩) fun a1 => ?_
  ·rw [decide_eq_decide.mpr (show (0 < (us.length : Int)) ↔ (kd < 2 /\ 0 < us.length) by omega)]; exact q
  ·rw [ya8 (show ¬ (kd < 2 /\ 0 < us.length) by omega)] at q; exact q
 ·obtain ⟨A, S, U, u, rfl, rfl, hRA, hRS⟩ := hR.last (by intro z; subst z; rw [List.length_nil] at hL; omega);obtain ⟨z', hA', hz', hS1, hS2⟩ := hO.front;walk_at "";rw [yae] at hl;refine ⟨1, rfl, _, rfl, _, .inl ⟨SqL.of hp, fun q hq => ⟨1, rfl, ?_⟩⟩⟩;walk_at "t";refine ⟨_, .inl (SqL.of (zb8 hq hp)), _, zcW U u, zak (show 2 <= 100000 by decide), fun p2 hp2 => ⟨zak (show 1 <= 100000 by decide), fun p3 hp3 => ⟨_, _, .inl ⟨zb8 hp3 (zb8 hp2 zac), zac, ?_, fun r hr' => ?_⟩⟩⟩⟩
  ·rw [zdc]; simp at hL hl ⊢; exact zak ω
  ·rw [zdc] at hp2 hp3 hr' ⊢;have sq := ((zab hq (.lst U)).trans (zab hp2 (.tup [V.str "not", u]))).trans (zab hp3 (.lst [V.ref p2]));exact fin A U (.neg S) p2 r _ z' sq hRA ⟨p2, u, rfl, (zab hp3 _).seqT (SqT.of zac), hRS.same sq⟩ hA' hS1 (by show S.deep + 1 <= d + 1; omega) (by show z' + (S.size + 1) <= z + 1; omega) (by rw [yae]; omega) hr'
 ·walk_at "";refine ite2 (fun a1 => ⟨_, .inl (SqL.of hp), ?_⟩) fun a1 => ?_
  ·rw [decide_eq_decide.mpr (show (1 < (us.length : Int)) ↔ (kd < 5 /\ 1 < us.length) by omega)]; exact q
  ·rw [ya8 (show ¬ (kd < 5 /\ 1 < us.length) by omega)] at q; exact q
 ·obtain ⟨A1, S2, U1, u2, rfl, rfl, hRA1, hRS2⟩ := hR.last (by intro z; subst z; rw [List.length_nil] at hL; omega);obtain ⟨A, S1, U, u1, rfl, rfl, hRA, hRS1⟩ := hRA1.last (by intro z; subst z; cases hRA1; simp at c2);obtain ⟨z1, hA1, hz1, hS2a, hS2b⟩ := hO.front;obtain ⟨z', hA', hz', hS1a, hS1b⟩ := hA1.front;have eU : U ++ [u1] ++ [u2] = U ++ [u1, u2] := by simp
  rw [eU] at hp hL c2 c1;have hl' : U.length <= 50 := by simp at hL hl; omega
  obtain ⟨o, eo⟩ : ∃ o : Bi, atI [V.str "and", V.str "or", V.str "then"] (kd - 2) = some (.str o.txt) := by
   have h2 : 2 <= kd := by
    rcases Int.lt_or_le kd 2 with h | h
    ·exact absurd ⟨h,ω⟩ c1
    ·exact h
   obtain rfl | rfl | rfl : kd = 2 \/ kd = 3 \/ kd = 4 := by omega
   ·exact ⟨.and, rfl⟩
   ·exact ⟨.or, rfl⟩
   ·exact ⟨.thn, rfl⟩
  walk_at "";refine ⟨2, rfl, _, rfl, _, .inl ⟨SqL.of hp, fun q hq => ⟨zak δ, fun p4 hp4 => ⟨_, .inl (SqL.of zac), _, eo, 2, rfl, ?_⟩⟩⟩⟩;walk_at "t";refine ⟨_, .inl (SqL.of (zb8 hp4 (zb8 hq hp))), _, zjg U u1 u2, 1, rfl, ?_⟩;walk_at "t";refine ⟨_, .inl (SqL.of (zb8 hp4 (zb8 hq hp))), _, by rw [<- eU]; exact zcW _ u2, zak (show 3 <= 100000 by decide), fun p2 hp2 => ⟨zak (show 1 <= 100000 by decide), fun p3 hp3 => ⟨_, _, .inl ⟨zb8 hp3 (zb8 hp2 (zb8 hp4 zac)), zac, ?_, fun r hr' => ?_⟩⟩⟩⟩
  ·rw [zfx]; exact zak (by simp; omega)
  ·rw [zfx] at hp4 hp2 hp3 hr' ⊢;have sq := (((zab hq (.lst U)).trans (zab hp4 (.lst [V.str "and", V.str "or", V.str "then"]))).trans (zab hp2 (.tup [V.str o.txt, u1, u2]))).trans (zab hp3 (.lst [V.ref p2]));exact fin A U (.bi o S1 S2) p2 r _ z' sq hRA ⟨p2, u1, u2, rfl, (zab hp3 _).seqT (SqT.of zac), hRS1.same sq, hRS2.same sq⟩ hA' ⟨hS1a, hS2a⟩ (by show max S1.deep S2.deep + 1 <= d + 1; omega) (by show z' + (S1.size + S2.size + 1) <= z + 1; omega) (by simp only [List.length_append]; omega) hr'
 ·walk_at "";refine ite2 (fun a1 => ite2 (fun a2 => ⟨_, .inl (SqL.of hp), ?_⟩) fun a2 => ?_) fun a1 => ?_
  ·rw [decide_eq_decide.mpr (show (0 < (us.length : Int)) ↔ ((4 < kd /\ kd < 7) /\ 0 < us.length) by omega)]; exact q
  ·rw [ya8 (show ¬ ((4 < kd /\ kd < 7) /\ 0 < us.length) by omega)] at q; exact q
  ·rw [ya8 (show ¬ ((4 < kd /\ kd < 7) /\ 0 < us.length) by omega)] at q; exact q
 ·obtain ⟨A, S, U, u, rfl, rfl, hRA, hRS⟩ := hR.last (by intro z; subst z; rw [List.length_nil] at hL; omega);obtain ⟨z', hA', hz', hS1, hS2⟩ := hO.front;have hl' : U.length <= 50 := by simp at hL hl; omega
  obtain ⟨o, eo⟩ : ∃ o : Bool, atI [V.str "all", V.str "some"] (kd - 5) = some (.str (qtx o)) := by
   obtain rfl | rfl : kd = 5 \/ kd = 6 := by omega
   ·exact ⟨true, rfl⟩
   ·exact ⟨false, rfl⟩
  walk_at "";refine ⟨1, rfl, _, rfl, _, .inl ⟨SqL.of hp, fun q hq => ⟨zak δ, fun p4 hp4 => ⟨_, .inl (SqL.of zac), _, eo,δ, _, _, rfl, h0, yao _ δ, yak _ δ, fun X hX => ⟨1, rfl, ?_⟩⟩⟩⟩⟩;walk_at "t";refine ⟨_, .inl (SqL.of (zb8 hp4 (zb8 hq hp))), _, zcW U u, zak (show 3 <= 100000 by decide), fun p2 hp2 => ⟨zak (show 1 <= 100000 by decide), fun p3 hp3 => ⟨_, _, .inl ⟨zb8 hp3 (zb8 hp2 (zb8 hp4 zac)), zac, ?_, fun r hr' => ?_⟩⟩⟩⟩
  ·rw [zdc]; exact zak (by simp; omega)
  ·rw [zdc] at hp4 hp2 hp3 hr' ⊢;have sq := (((zab hq (.lst U)).trans (zab hp4 (.lst [V.str "all", V.str "some"]))).trans (zab hp2 (.tup [V.str (qtx o), V.str X, u]))).trans (zab hp3 (.lst [V.ref p2]));exact fin A U (.qu o X S) p2 r _ z' sq hRA ⟨p2, u, rfl, (zab hp3 _).seqT (SqT.of zac), hRS.same sq⟩ hA' ⟨hX, hS1⟩ (by show S.deep + 1 <= d + 1; omega) (by show z' + (S.size + 1) <= z + 1; omega) (by rw [yae]; omega) hr'
 ·walk_at "";refine ⟨sh, _, rfl, h0, fun S v H1 s1 rS hS hd1 hs1 => ?_⟩;obtain ⟨x, xs, rfl, _⟩ := rS.tag;refine ⟨zak (show 1 <= 100000 by decide), fun p2 hp2 => ⟨_, _, .inl ⟨zb8 hp2 (s1 _ _ hp), zac, zak (by simp; omega), fun r hr' => ?_⟩⟩⟩;exact fin Ss us S x r _ z (s1.trans (zab hp2 _)) hR (rS.same (zab hp2 _)) hO hS ω ω (yai _) hr'
theorem zf5 (T : Tx K mg D) : FnOk P w K mg Qd CX0 6 D.a_a9 D.d_a9 ["_law_shape", "_law_cells"] (zmh K) := by
 have G_c7 := @zj3 P w _ _ Qd _ T;refine T.F_a9.ok sc_a9 (fun vs H Q E h => ?_) (fun cdv A outer s H vs Q E hr h => ?_)
 ·obtain ⟨a, sh, ms, rfl, _⟩ := h; rfl
 obtain ⟨a, sh, ms, rfl, hA, hl, h0, k⟩ := h;have hu := hr.units;have hr_c7 : Room 5 _ := hr.mono δ;refine ⟨_, (zag (zau (i := 2) sc_a9.nd ρ (by walk_at "o") (zaW (zaa (zbh (zaa zat zae)) zae)))
  (zag (zb6 PassesOwn.never ρ (zaY K (pv 1)) (zar (i := 3) sc_a9.nd ρ (by walk_at "o"))
   (zag (zau (i := 2) sc_a9.nd ρ (by walk_at "o") (YC G_c7 hr_c7 ρ T.m_c7 (zaa (zbf (slB K) (pv 2) (zbs zaf) zb7) (zaa (pv 0) (zaa (pv 3) zae)))))
  (zah (zau (i := 2) sc_a9.nd ρ (by walk_at "o") (zan (za9 K) (zaW (zaa (zbh (zaa zat zae)) zae)) (pv 2))))))
  (zah (zap (pv 2))))), ?_⟩
 walk_at "S";walk_at "";refine ⟨zak δ, fun p hp => ⟨zak (show 1 <= 100000 by decide), fun p1 hp1 => .inl ⟨⟨_, ((zab hp (.tup [V.str "false"])).trans (zab hp1 (.lst [V.ref p]))).seq hA⟩, ?_⟩⟩⟩;have s0 := (zab hp (.tup [V.str "false"])).trans (zab hp1 (.lst [V.ref p]));refine zcz (xs := ms.map V.int) (fun i σ H2 => Same H H2 /\ ∃ (q f : Addr) (us : List V) (Ss : List Stm) (u : Option V), σ = [some (.int sh), some (.ref a), some (.ref q), u] /\ H2 q = some (.lst (.ref f :: us)) /\ RepS K H2 .fls (.ref f) /\ RepL K H2 Ss us /\ PileZ Ss (i + 1) i /\ Ss.length <= i)
  ⟨s0, p1, p, [], [], _, rfl, zac, ⟨p, rfl, (zab hp1 _).seqT (SqT.of zac)⟩, .nil, ⟨ς, yai _⟩, yai _⟩ (fun i σ H2 _ hv => hv.1.seq hA) (fun i x σ H2 hx hv => ?_) fun σ H2 hv => ?_
 ·obtain ⟨s2, q, f, us, Ss, u, rfl, hq, hf, hRL, hO, hle⟩ := hv;rw [yav] at hx;cases e : ms[i]? with
  | none => rw [e] at hx; cases hx
  | some y =>
   rw [e] at hx;cases hx;have hi : i < ms.length := (yag.mp e).1;walk_at "";refine ⟨_, .inl ⟨SqL.of hq, fun q2 hq2 => ?_⟩⟩;have ec : cutV (V.ref f :: us) (some 1) none = us := by
    unfold cutV;rw [HT.sIx_none];show List.take _ (List.drop (min 1 (us.length + 1)) (V.ref f :: us)) = us;rw [show min 1 (us.length + 1) = 1 by omega, List.drop_one, List.tail_cons];exact List.take_of_length_le (by show us.length <= (us.length + 1) - min 1 (us.length + 1); omega)
   rw [ec];refine ⟨q2, sh, y, us, Ss, i + 1, i, rfl, zac, hRL.same (zab hq2 _), h0, hO,ω,ω, fun q3 us3 Ss3 H3 s3 hq3 hR3 hO3 hl3 hn3 => ?_⟩;refine ⟨zak δ, fun p4 hp4 => ⟨zak (show 1 <= 100000 by decide), fun p5 hp5 => ?_⟩⟩;walk_at "t";have hL3 := Paired.length hR3;refine ⟨_, _, .inl ⟨zac, zb8 hp5 (zb8 hp4 hq3), zak (by simp; omega), fun r hr' => ?_⟩⟩;have sq := (zab hp4 (.tup [V.str "false"])).trans ((zab hp5 (.lst [V.ref p4])).trans (zab hr' (.lst ([V.ref p4] ++ us3))));exact ⟨((s2.trans (zab hq2 _)).trans s3).trans sq, r, p4, us3, Ss3, _, rfl, zac, ⟨p4, rfl, ((zab hp5 _).trans (zab hr' _)).seqT (SqT.of zac)⟩, hR3.same sq, hO3,ω⟩
 ·obtain ⟨s2, q, f, us, Ss, u, rfl, hq, hf, hRL, hO, hle⟩ := hv;rw [yaf] at hO hle;walk_at "";refine k q _ (.fls :: Ss) H2 s2 hq (.cons hf hRL) ⟨fun T hT => ?_, ?_⟩ (by simp; omega) ς
  ·rcases yau.mp hT with rfl | hT
   ·exact ⟨trivial, by show 1 <= _; omega⟩
   ·exact hO.1 T hT
  ·show Stm.size .fls + (Ss.map Stm.size).sum <= _;have := hO.2;show 1 + _ <= _;omega
theorem zf6 (T : Tx K mg D) : ∀ d : Nat, FnOk P w K mg Qd CX0 (d + 1) D.a_c8 D.d_c8 ["_law_ka"] (zmi K d)
 | 0 => by
  refine T.F_c8.ok sc_c8 (fun vs H Q E h => ?_) (fun cdv A outer s H vs Q E hr h => ?_)
  ·obtain ⟨v, S, rfl, _⟩ := h; rfl
  ·obtain ⟨v, S, rfl, _, _, h, _⟩ := h;have := S.deep_pos;omega
 | d + 1 => by
  have G_c8 := zf6 T d;refine T.F_c8.ok sc_c8 (fun vs H Q E h => ?_) (fun cdv A outer s H vs Q E hr h => ?_)
  ·obtain ⟨v, S, rfl, _⟩ := h; rfl
  obtain ⟨v, S, rfl, rS, hSW, hd, hz, k⟩ := h;have hu := hr.units;have hr_c8 : Room (d + 1) _ := hr;refine ⟨_, (zag (zbv (zaq (zbj K hu) (za5 (ixA K) (pv 0) zaf (fun _ _ => rfl)) zat (za2 _)) (zah (zap (zbg 1 [] ["_law_term"] ⟨ρ,ρ,ρ,ρ,ρ,ρ,ρ⟩ ρ (zaY K (za5 (ixA K) (pv 0) zaf (fun _ _ => rfl))) (fun _ _ _ _ => zar (i := 0) (show List.Nodup (["_law_term"] : List Str) by decide +kernel) ρ (Or.inl ρ) (Or.inr ρ)) (za1 δ) (fun _ _ _ _ => zco (zaq (zin K) (za5 (ixA K) (pv 0) zaf (fun _ _ => rfl)) zat ρ)) (fun _ _ _ _ => (pv 0))))) zaG)
  (zag (zbv (PW.pt (zfE (zaq (zbj K hu) (za5 (ixA K) (pv 0) zaf (fun _ _ => rfl)) zat (za2 _)) (zeB (zaq (zbj K hu) (za5 (ixA K) (pv 0) zaf (fun _ _ => rfl)) zat (za2 _))))) (zah (zap (zbg 1 [0] ["_law_letter", "_law_ka"] ⟨ρ,ρ,ρ,ρ,ρ,ρ,ρ⟩ ρ (zaY K (YC G_c8 hr_c8 ρ T.m_c8 (zaa (za5 (ixA K) (pv 0) zaf (fun _ _ => rfl)) zae))) (fun _ _ _ _ => zar (i := 0) (show List.Nodup (["_law_letter", "_law_ka"] : List Str) by decide +kernel) ρ (Or.inl ρ) (Or.inr ρ)) (za1 δ) (fun _ _ _ _ => zco (zaq (zgI K hu) (pv 0) (za5 (ixA K) (pv 1) zaf (fun _ _ => rfl)) (za2 _))) (fun _ _ _ _ => (pv 0))))) zaG)
  (zag (zau (i := 1) sc_c8.nd ρ (by walk_at "o") (zaW zae))
  (zag (zb6 PassesOwn.never ρ (zaY K (zbf (slB K) (pv 0) (zbs zaf) zb7)) (zar (i := 2) sc_c8.nd ρ (by walk_at "o"))
   (zah (zau (i := 1) sc_c8.nd ρ (by walk_at "o") (zan (za9 K) (pv 1) (YC G_c8 hr_c8 ρ T.m_c8 (zaa (pv 2) zae))))))
  (zah (zap (pv 1))))))), ?_⟩
  walk_at "S";obtain ⟨a, xs0, ev, h2⟩ := rS.tag;subst ev;refine zct (c := S.tag = "is") (fun Qb q => ?_) (fun c1 => ?_) fun c1 => zct (c := S.tag = "all" \/ S.tag = "some") (fun Qb q => ?_) (fun c2 => ?_) fun c2 => ?_
  ·walk_at "";exact ⟨_, .inr h2, _, i0, by rw [zgJ]; exact ⟨_, rfl, q⟩⟩
  ·cases S with
   | is x ts =>
    obtain ⟨a', b, e', h2', h3⟩ := rS;cases e';walk_at "";refine ⟨_, .inr h2', _, i2, ?_⟩;walk_at "";refine .inr ⟨⟨_, h3⟩, zci (xs := ts.map V.str) (fun i acc H2 => H2 = H /\ ∃ ts' : List Str, acc = ts'.map V.str /\ ts'.length <= i /\ (∀ t ∈ ts', L3 t) /\ (ts' = [] -> ∀ u ∈ ts.take i, Nm smallS u)) ⟨rfl, [], rfl, yai _,ς, fun _ u hu => by simp at hu⟩ (fun i acc H2 _ hv => hv.1 ▸ h3) (fun i y acc H2 hy hv => ?_) fun acc H2 hv p2 hp2 => ?_⟩
    ·obtain ⟨rfl, ts', rfl, hle, htb, htop⟩ := hv;rw [yav] at hy;cases e : ts[i]? with
     | none => rw [e] at hy; cases hy
     | some t =>
      rw [e] at hy;cases hy;have htt := hSW.2.2 t (ya1 e);have hi : i < ts.length := (yag.mp e).1;have h3' := hSW.2.1;refine ⟨zaF (by rw [yaf]; omega), ?_⟩;walk_at "T";walk_at "";have hl0 : 0 < t.cps.toList.length := by rw [zaM]; exact htt.len.1
      have hin : inS ⟨#[t.cps.toList[0]]⟩ "XYZ" = true ↔ L3 t := by
       rw [zdp, decide_eq_true_eq, show (Str.ofString "XYZ").cps.toList = [88, 89, 90] from rfl]
       constructor
       ·intro hx;rcases htt with hn | hn
        ·exfalso
         obtain ⟨c, r, ec, hc, _⟩ := hn;have e0 : t.cps.toList[0] = c := by simp [ec]
         rw [e0] at hx;have all : ∀ c ∈ smallS.cps.toList, c ∉ [88, 89, 90] := by decide +kernel
         exact all c hc hx
        ·exact hn
       ·rintro ⟨c, r, ec, hc, _⟩
        have e0 : t.cps.toList[0] = c := by simp [ec]
        rw [e0];simpa using hc
      refine ⟨zak (by have := htt.len.2; omega), _, zam (j := 0) (yal hl0), ?_⟩;walk_at "t";refine ite2 (fun cx => ⟨trivial, ts' ++ [t],ς, by simp; omega, fun t' ht' => ?_, fun z => absurd z ς⟩) fun cx => ⟨trivial, ts', rfl,ω, htb, fun z u hu => ?_⟩
      ·rcases yay.mp ht' with q | q
       ·exact htb t' q
       ·rw [yah.mp q]; exact hin.mp cx
      ·rw [List.take_succ, e] at hu;rcases yay.mp hu with q | q
       ·exact htop z u q
       ·have : u = t := by simpa using q
        rw [this];exact htt.resolve_right fun l => cx (hin.mpr l)
    ·obtain ⟨rfl, ts', rfl, hle, htb, htop⟩ := hv;rw [yaf] at hle htop;rw [List.take_length] at htop;refine k p2 ts' _ (zab hp2 _) zac htb (by have := hSW.2.1; show ts'.length <= 3 * 1; omega) fun z w us e u hu => ?_;cases e;exact htop z u hu
   | fls => exact absurd c1 (by decide +kernel)
   | neg B => exact absurd (show ("not" : Str) = "is" from c1) (by decide +kernel)
   | bi o B C => exact absurd c1 (zhn o)
   | qu q X B => exact absurd c1 (zho q)
  ·walk_at "";refine ⟨_, .inr h2, _, i0, ?_⟩;walk_at "t";refine ite2 (fun b1 => ?_) fun b1 => ⟨_, .inr h2, _, i0, ?_⟩
   ·rw [ya9 (.inl b1)] at q; exact q
   ·walk_at "t";rw [decide_eq_decide.mpr (show (S.tag = "all" \/ S.tag = "some") ↔ S.tag = "some" from ⟨fun h => h.elim (fun z => absurd z b1) id, .inr⟩)] at q;exact q
  ·cases S with
   | is x ts => exact absurd rfl c1
   | fls => exact absurd c2 (by decide +kernel)
   | neg B => exact absurd (show ("not" : Str) = "all" \/ ("not" : Str) = "some" from c2) (by decide +kernel)
   | bi o B C => exact c2.elim (fun h => absurd h (zkB o)) fun h => absurd h (ziw o)
   | qu q X B =>
    obtain ⟨a', u, e', h2', h3⟩ := rS;cases e';walk_at "";refine ⟨_, .inr h2', _, i2, u, B, rfl, h3, hSW.2, by have : B.deep + 1 <= d + 1 := hd; omega, by have : B.size + 1 <= 1000 := hz; omega, fun p2 ts H2 s2 hp2 htb hle _ => ?_⟩;walk_at "t";refine .inl ⟨⟨_, SqL.of hp2⟩, zbV (xs := ts.map V.str) (fun i acc H3 => H3 = H2 /\ ∃ ts' : List Str, acc = ts'.map V.str /\ ts'.length <= i /\ ∀ t ∈ ts', L3 t) ⟨rfl, [], rfl, yai _,ς⟩ (fun i acc H3 _ hv => hv.1 ▸ SqL.of hp2) (fun i y acc H3 hy hv => ?_) fun acc H3 hv p3 hp3 => ?_⟩
    ·obtain ⟨rfl, ts', rfl, hle', htb'⟩ := hv;rw [yav] at hy;cases e : ts[i]? with
     | none => rw [e] at hy; cases hy
     | some t =>
      rw [e] at hy;cases hy;have htt := htb t (ya1 e);have hi : i < ts.length := (yag.mp e).1;have : B.size + 1 <= 1000 := hz;refine ⟨zaF (by rw [yaf]; omega), ?_⟩;walk_at "T";walk_at "";refine ⟨_, .inr (s2.seqT h2'), _, i1, ?_⟩;walk_at "t";refine ite2 (fun _ => ⟨trivial, ts' ++ [t],ς, by simp; omega, fun t' ht' => ?_⟩) fun _ => ⟨trivial, ts', rfl,ω, htb'⟩
      rcases yay.mp ht' with q | q
      ·exact htb' t' q
      ·rw [yah.mp q]; exact htt
    ·obtain ⟨rfl, ts', rfl, hle', htb'⟩ := hv;rw [yaf] at hle';exact k p3 ts' _ (s2.trans (zab hp3 _)) zac htb' (by show ts'.length <= 3 * (B.size + 1); omega) fun _ w us e => by cases e
  ·obtain ⟨a', xs, e', h2', hRL⟩ := rS.parts_at c1 c2;cases e';have hps := zec S;walk_at "";refine ⟨yaq _, fun p hp => ⟨_, .inr ⟨(zab hp _).seqT h2', fun q H1 s1 hq1 => .inr ⟨⟨_, hq1⟩, ?_⟩⟩⟩⟩;rw [zdd] at hq1;have s01 := (zab hp (.lst [])).trans s1;refine zbx (xs := xs) (fun i σ H2 => Same H1 H2 /\ ∃ (p2 : Addr) (ts : List Str) (u2 : Option V), σ = [some (.ref a), some (.ref p2), u2] /\ H2 p2 = some (.lst (ts.map V.str)) /\ (∀ t ∈ ts, L3 t) /\ ts.length <= 3 * ((S.parts.take i).map Stm.size).sum) ⟨Same.refl _, p, [], _, rfl, s1 _ _ zac,ς,ς⟩ (fun i σ H2 _ hv => hv.1.seqT hq1) (fun i x σ H2 hx hv => ?_) fun σ H2 hv => ?_
   ·obtain ⟨s2, p2, ts, u2, rfl, hp2, htb, hle⟩ := hv;obtain ⟨B, hB, rB⟩ := RepL.get hRL hx;have hBm : B ∈ S.parts := ya1 hB;have hBd := zeU hB;have hsum : ((S.parts.take (i + 1)).map Stm.size).sum = ((S.parts.take i).map Stm.size).sum + B.size := by
     rw [List.take_succ, hB]; simp
    have htot : ((S.parts.take (i + 1)).map Stm.size).sum <= (S.parts.map Stm.size).sum := by
     have e : (S.parts.map Stm.size) = ((S.parts.take (i + 1)).map Stm.size) ++ ((S.parts.drop (i + 1)).map Stm.size) := by rw [<- ya0, List.take_append_drop]
     rw [e, List.sum_append]; omega
    walk_at "";refine ⟨x, B, rfl, rB.same (s01.trans s2), hSW.part hBm,ω,ω, fun p3 ts3 H3 s3 hp3 htb3 hle3 _ => ?_⟩;walk_at "t";refine ⟨_, _, .inl ⟨s3 _ _ hp2, hp3, zak (by rw [yaf, yaf]; omega), fun r hr' => ?_⟩⟩;refine ⟨(s2.trans s3).trans (zab hr' _), r, ts ++ ts3, _, rfl, by rw [zac, ya0], fun t ht => ?_, by rw [yae]; omega⟩;rcases yay.mp ht with h | h
    ·exact htb t h
    ·exact htb3 t h
   ·obtain ⟨s2, p2, ts, u2, rfl, hp2, htb, hle⟩ := hv;have hxl := Paired.length hRL;rw [<- hxl, List.take_of_length_le (yai _)] at hle;walk_at "";exact k p2 ts H2 (s01.trans s2) hp2 htb ω fun _ w us e => absurd (by rw [e]; rfl) c1
def CloZ (K : W.Frag) (H1 : Hp) (S : Stm) (n : Nat) (m : Nat) (σ : St) (H2 : Hp) : Prop := Same H1 H2 /\ ∃ (v2 : V) (S2 : Stm) (c2 : Int) (p2 : Addr) (ts2 : List Str), σ = [some v2, some (.int c2), some (.ref p2)] /\ RepS K H2 S2 v2 /\ SZ S2 /\ H2 p2 = some (.lst (ts2.map V.str)) /\ (∀ t ∈ ts2, L3 t) /\ m = ts2.length /\ S2.deep + ts2.length <= S.deep + n /\ ts2.length <= n /\ S2.size + ts2.length <= S.size + n /\ (ts2 = [] -> zj0 S2)
theorem zgo (T : Tx K mg D) : FnOk P w K mg Qd CX0 22 D.a_b5 D.d_b5 ["_law_ka", "_law_cell"] (zj1 K) := by
 have G_c8 := zf6 (P := P) (w := w) (Qd := Qd) T 20;refine T.F_b5.ok sc_b5 (fun vs H Q E h => ?_) (fun cdv A outer s H vs Q E hr h => ?_)
 ·obtain ⟨v, S, c, rfl, _⟩ := h; rfl
 obtain ⟨v, S, c, rfl, rS, hSW, hd, hz, k⟩ := h;have hu := hr.units;have hr_c8 : Room 21 _ := hr.mono δ;refine ⟨_, (zag (zau (i := 2) sc_b5.nd ρ (by walk_at "o") (YC G_c8 hr_c8 ρ T.m_c8 (zaa (pv 0) zae)))
  (zag (zjD PassesOwn.never (zaq (zgI K hu) (pv 2) (zaW zae) (za2 _)) (zag (zau (i := 0) sc_b5.nd ρ (by walk_at "o") (zbh (zaa (za5 (ixA K) (zaW (zaa zat (zaa zat zae))) (zan za3 (pv 1) zaf) (fun _ _ => rfl)) (zaa (za5 (ixA K) (pv 2) zaf (fun _ _ => rfl)) (zaa (pv 0) zae)))))
  (zag (zau (i := 1) sc_b5.nd ρ (by walk_at "o") (zan zav (pv 1) zaf))
  (zah (zau (i := 2) sc_b5.nd ρ (by walk_at "o") (zbg 1 [2] ["_law_letter", "_law_free_here"] ⟨ρ,ρ,ρ,ρ,ρ,ρ,ρ⟩ ρ (zaY K (pv 2)) (fun _ _ _ _ => zar (i := 0) (show List.Nodup (["_law_letter", "_law_free_here"] : List Str) by decide +kernel) ρ (Or.inl ρ) (Or.inr ρ)) (za1 δ) (fun _ _ _ _ => zco (zaq (zgI K hu) (pv 0) (za5 (ixA K) (pv 1) zaf (fun _ _ => rfl)) (za2 _))) (fun _ _ _ _ => (pv 0))))))))
  (zah (zap (pv 0))))), ?_⟩
 walk_at "S";walk_at "";refine ⟨v, S, rfl, rS, hSW, hd, hz, fun p ts H1 s1 hp1 htb hle htop => ?_⟩;refine ⟨CloZ K H1 S ts.length, ⟨ts.length, Same.refl _, v, S, c, p, ts, rfl, rS.same s1, hSW, hp1, htb, rfl, yai _, yai _, yai _, htop⟩, fun m σ H2 hv => ?_⟩;obtain ⟨s2, v2, S2, c2, p2, ts2, rfl, rS2, hSW2, hp2, htb2, hm, hdd, hll, hzz, htop2⟩ := hv;walk_at "";refine ⟨yaq _, fun p3 hp3 => ⟨_, _, zjh (SqL.of (zb8 hp3 hp2)), zkn (SqL.of zac), zji _, ite2 (fun c1 => ?_) fun c1 => ?_⟩⟩
 ·obtain ⟨t, r, rfl⟩ : ∃ t r, ts2 = t :: r := by
   cases ts2 with
   | nil => exact absurd rfl c1
   | cons t r => exact ⟨t, r, rfl⟩
  have htt := htb2 t ς;obtain ⟨o, eo⟩ : ∃ o : Bool, atI [V.str "all", V.str "some"] (c2 % 2) = some (.str (qtx o)) := by
   have h0 := yao c2 (show (2 : Int) ≠ 0 by decide);have h1 := yak c2 (show (0 : Int) < 2 by decide);generalize c2 % 2 = j at h0 h1;obtain rfl | rfl : j = 0 \/ j = 1 := by omega
   ·exact ⟨true, rfl⟩
   ·exact ⟨false, rfl⟩
  refine ⟨fun σ' H' => ∃ m', m' < m /\ CloZ K H1 S ts.length m' σ' H', fun _ _ h => h, zak δ, fun p4 hp4 => ?_⟩;refine ⟨δ, _, .inl (SqL.of zac), _, eo, ?_⟩;have hp24 := zb8 hp4 (o := .lst [V.str "all", V.str "some"]) (zb8 hp3 (o := .lst []) hp2);refine ⟨_, .inl (SqL.of hp24), _, i0, zak (show 3 <= 100000 by decide), fun p5 hp5 => ⟨cdiv, ?_⟩⟩;have s5 := ((zab hp3 (.lst [])).trans (zab hp4 (.lst [V.str "all", V.str "some"]))).trans (zab hp5 (.tup [V.str (qtx o), V.str t, v2]));have hp25 : upd (upd (upd H2 p3 (.lst [])) p4 (.lst [V.str "all", V.str "some"])) p5 (.tup [V.str (qtx o), V.str t, v2]) p2 = some (.lst ((t :: r).map V.str)) := zb8 hp5 hp24;have hp55 : SqT K (upd (upd (upd H2 p3 (.lst [])) p4 (.lst [V.str "all", V.str "some"])) p5 (.tup [V.str (qtx o), V.str t, v2])) p5 [V.str (qtx o), V.str t, v2] := SqT.of zac;generalize upd (upd (upd H2 p3 (.lst [])) p4 (.lst [V.str "all", V.str "some"])) p5 (.tup [V.str (qtx o), V.str t, v2]) = H5 at s5 hp25 hp55;refine .inl ⟨⟨_, SqL.of hp25⟩, zbV (xs := (t :: r).map V.str) (fun j acc H6 => H6 = H5 /\ ∃ ts' : List Str, acc = ts'.map V.str /\ ts'.length <= j - 1 /\ ∀ x ∈ ts', L3 x) ⟨rfl, [], rfl, yai _,ς⟩ (fun j acc H6 _ hv => hv.1 ▸ SqL.of hp25) (fun j y acc H6 hy hv => ?_) fun acc H6 hv p6 hp6 => ?_⟩
  ·obtain ⟨rfl, ts', rfl, hle', htb'⟩ := hv;rw [yav] at hy;cases e : (t :: r)[j]? with
   | none => rw [e] at hy; cases hy
   | some x =>
    rw [e] at hy;cases hy;have hxx := htb2 x (ya1 e);have hj : j < (t :: r).length := (yag.mp e).1;refine ⟨zaF (by rw [yaf]; omega), ?_⟩;walk_at "T";walk_at "";refine ⟨_, .inl (SqL.of hp25), _, i0, ?_⟩;walk_at "t";refine ite2 (fun a1 => ?_) fun _ => ⟨trivial, ts', rfl,ω, htb'⟩
    have hj0 : j ≠ 0 := by
     rintro rfl
     have : t = x := by simpa using e
     exact a1 this.symm
    refine ⟨trivial, ts' ++ [x],ς, by rw [yae]; simp only [List.length_singleton]; omega, fun x' hx' => ?_⟩;rcases yay.mp hx' with q | q
    ·exact htb' x' q
    ·rw [yah.mp q]; exact hxx
  ·obtain ⟨rfl, ts', rfl, hle', htb'⟩ := hv;rw [yaf] at hle';have hlr : (t :: r).length = r.length + 1 := rfl;refine ⟨ts'.length,ω, (s2.trans s5).trans (zab hp6 _), .ref p5, .qu o t S2, _, p6, ts', rfl, ⟨p5, v2, rfl, (zab hp6 _).seqT hp55, rS2.same (s5.trans (zab hp6 _))⟩, ⟨htt, hSW2⟩, zac, htb', rfl, ?_,ω, ?_, fun _ w us e => by cases e⟩
   ·show S2.deep + 1 + ts'.length <= _;omega
   ·show S2.size + 1 + ts'.length <= _;omega
 ·have ez : ts2 = [] := by
   have h := Decidable.not_not.mp c1;cases ts2 with
   | nil => rfl
   | cons x r => cases h
  exact k S2 v2 _ ((s1.trans s2).trans (zab hp3 _)) (rS2.same (zab hp3 _)) hSW2 ω ω (htop2 ez)
theorem zcL (T : Tx K mg D) : FnOk P w K mg Qd CX0 23 D.a_a1 D.d_a1 ["_law_shape", "_law_cells"] (zmj K) := by
 have G_a9 := @zf5 P w _ _ Qd _ T;have G_b5 := @zgo P w _ _ Qd _ T;refine T.F_a1.ok sc_a1 (fun vs H Q E h => ?_) (fun cdv A outer s H vs Q E hr h => ?_)
 ·obtain ⟨a, sh, ms, rfl, _⟩ := h; rfl
 obtain ⟨a, sh, ms, rfl, hA, hl, h0, k⟩ := h;have hu := hr.units;have hr_a9 : Room 6 _ := hr.mono δ;have hr_b5 : Room 22 _ := hr.mono δ;refine ⟨_, (zag (zau (i := 2) sc_a1.nd ρ (by walk_at "o") (YC G_a9 hr_a9 ρ T.m_a9 (zaa (pv 0) (zaa (pv 1) zae))))
  (zag (zau (i := 3) sc_a1.nd ρ (by walk_at "o") (za5 (ixA K) (pv 2) (zeg zcv zaf) (fun _ _ => rfl)))
  (zag (zb6 PassesOwn.never ρ (zhQ ρ T.z_range (zaa zaf (zaa (zan zeG (zaz (zaX K) ρ T.z_len yap (zaa (pv 2) zae)) zaf) zae))) (zar (i := 4) sc_a1.nd ρ (by walk_at "o"))
   (zah (zau (i := 3) sc_a1.nd ρ (by walk_at "o") (zbh (zaa (za5 (ixA K) (zaW (zaa zat (zaa zat (zaa zat zae)))) (zan za3 (zan (za9 K) (za5 (ixA K) (pv 1) zaf (fun _ _ => rfl)) (pv 4)) zaf) (fun _ _ => rfl)) (zaa (za5 (ixA K) (pv 2) (pv 4) (fun _ _ => rfl)) (zaa (pv 3) zae)))))))
  (zah (zap (YC G_b5 hr_b5 ρ T.m_b5 (zaa (pv 3) (zaa (zaz (zjc K ρ) ρ T.z_sum ρ (zaa (pv 1) zae)) zae)))))))), ?_⟩
 walk_at "S";walk_at "";refine ⟨a, sh, ms, rfl, hA,ω, h0, fun p us Ss H1 s1 hp hRL hO hle hge => ?_⟩;obtain ⟨A, S, U, u, rfl, rfl, hRA, hRS⟩ := hRL.last (by intro z; subst z; simp at hge);obtain ⟨z', hA', hz', hS1, hS2⟩ := hO.front;have hUl := Paired.length hRA;rw [yae] at hle;simp only [List.length_singleton] at hle;refine ⟨1, rfl, ?_⟩;walk_at "";refine ⟨_, .inl (SqL.of hp), _, zcW U u, _, .inl (SqL.of hp), ?_⟩;have Qe : (U ++ [u]).length = A.length + 1 := by rw [yae, <- hUl]; rfl
 rw [Qe];refine ⟨⟨ω,ω,ω,ω⟩, ?_⟩;refine zcD (fun i σ H2 => Same H1 H2 /\ ∃ (v3 : V) (S3 : Stm) (u4 : Option V), σ = [some (.int sh), some (.ref a), some (.ref p), some v3, u4] /\ RepS K H2 S3 v3 /\ SZ S3 /\ S3.deep <= ms.length + 1 + i /\ S3.size + ((A.drop (i + 1)).map Stm.size).sum <= ms.length + 1 + i) ⟨Same.refl _, u, S, _, rfl, hRS, hS1, hS2, ?_⟩ (fun i σ H2 hi hv => ?_) fun σ H2 hv => ?_
 ·have := hA'.2;have e : (A.map Stm.size).sum = ((A.take (0 + 1)).map Stm.size).sum + ((A.drop (0 + 1)).map Stm.size).sum := by rw [<- List.sum_append, <- ya0, List.take_append_drop]
  omega
 ·obtain ⟨s2, v3, S3, u4, rfl, rS3, hSW3, hd3, hz3⟩ := hv;have hi' : i + 1 < A.length := by omega
  obtain ⟨B, hB⟩ : ∃ B, A[i + 1]? = some B := ⟨_, yal hi'⟩
  obtain ⟨ub, hub⟩ : ∃ ub, U[i + 1]? = some ub := ⟨_, yal ω⟩
  obtain ⟨B', hB', rB⟩ := RepL.get hRA hub;rw [hB] at hB';cases hB';have hBO := hA'.1 B (ya1 hB);have hBz : ((A.drop (i + 1)).map Stm.size).sum = B.size + ((A.drop (i + 1 + 1)).map Stm.size).sum := by
   have e := List.drop_eq_getElem_cons hi';have eB : A[i + 1] = B := by have := yal hi'; rw [hB] at this; exact (Option.some.inj this).symm
   rw [e, eB]; rfl
  have hm2 : 0 < ms.length := by omega
  walk_at "";obtain ⟨o, eo⟩ : ∃ o : Bi, atI [V.str "and", V.str "or", V.str "then"] ((ms.getD 0 0 + (1 + (i : Int))) % 3) = some (.str o.txt) := by
   have h0 := yao (ms.getD 0 0 + (1 + (i : Int))) (show (3 : Int) ≠ 0 by decide);have h1 := yak (ms.getD 0 0 + (1 + (i : Int))) (show (0 : Int) < 3 by decide);generalize (ms.getD 0 0 + (1 + (i : Int))) % 3 = j at h0 h1;obtain rfl | rfl | rfl : j = 0 \/ j = 1 \/ j = 2 := by omega
   ·exact ⟨.and, rfl⟩
   ·exact ⟨.or, rfl⟩
   ·exact ⟨.thn, rfl⟩
  refine ⟨zak δ, fun p4 hp4 => ⟨_, .inl (((s1.trans s2).trans (zab hp4 _)).seq hA), _, zg4 ω ω, ?_⟩⟩;walk_at "t";refine ⟨δ, _, .inl (SqL.of zac), _, eo, _, .inl (SqL.of (zb8 hp4 (s2 _ _ hp))), ub, ?_, zak (show 3 <= 100000 by decide), fun p5 hp5 => ?_⟩
  ·rw [show (1 : Int) + (i : Int) = ((i + 1 : Nat) : Int) by omega];exact zam (by rw [ya5 ω]; exact hub)
  ·have s5 := (zab hp4 (.lst [V.str "and", V.str "or", V.str "then"])).trans (zab hp5 (.tup [V.str o.txt, ub, v3]));refine ⟨s2.trans s5, _, .bi o B S3, _, rfl, ⟨p5, ub, v3, rfl, SqT.of zac, rB.same (s2.trans s5), rS3.same s5⟩, ⟨hBO.1, hSW3⟩, ?_, ?_⟩
   ·show max B.deep S3.deep + 1 <= _;have := hBO.2;omega
   ·show B.size + S3.size + 1 + _ <= _;omega
 ·obtain ⟨s2, v3, S3, u4, rfl, rS3, hSW3, hd3, hz3⟩ := hv;have hn : ((A.length + 1 : Nat) : Int) - 1 - 1 = (A.length : Int) - 1 := by omega
  walk_at "";refine ⟨_, (s1.trans s2).seq hA, v3, S3, _, rfl, rS3, hSW3,ω,ω, fun S' v' H3 s3 rS' hSW' hd' hz' ht' => ?_⟩;exact k S' v' H3 ((s1.trans s2).trans s3) rS' hSW' ω ω ht'
def sof : Str := "abcdefghijklmnopqrstuvwxyz0123456789"
def zf7 (x : Str) : Bool := (Txt.slice x (some 1) none).cps.toList.all fun c => inS ⟨#[c]⟩ sof
def base (x f : Str) : Bool := if x = "" then false else if (8 : Int) < x.length then false else if inS ⟨#[x.cps.toList.headD 0]⟩ f then zf7 x else false
def zf8 : List V := [V.str "not", V.str "and", V.str "or", V.str "then", V.str "all", V.str "some", V.str "false"]
theorem zmk {x : Str} (h : ¬ x = "") : atI x.cps.toList 0 = some (x.cps.toList.headD 0) := by
 have e : x.cps.toList ≠ [] := fun e => h (by
  obtain ⟨c⟩ := x;have : c = #[] := by simpa using e
  subst this
  rfl)
 cases q : x.cps.toList with
 | nil => exact absurd q e
 | cons c r => exact zam (j := 0) rfl
def zoc : Sp := fun vs H Q _ => ∃ x f, vs = [.str x, .str f] /\ x.length <= 1000 /\ ∀ H', Same H H' -> Q (.bl (base x f)) H'
def sp1 (r : Str -> Bool) : Sp := fun vs H Q _ => ∃ x, vs = [.str x] /\ x.length <= 1000 /\ ∀ H', Same H H' -> Q (.bl (r x)) H'
theorem zj4 (T : Tx K mg D) : FnOk P w K mg Qd CX0 1 D.a_a0 D.d_a0 ["text", "first_signs"] zoc := by
 refine T.F_a0.ok zca (fun vs H Q E h => ?_) (fun cdv A outer s H vs Q E hr h => ?_)
 ·obtain ⟨x, f, rfl, _⟩ := h; rfl
 obtain ⟨x, f, rfl, hx, k⟩ := h;have hu := hr.units;refine ⟨_, (zag (zbv (PW.pt (zfE (zaq (zbj K hu) (pv 0) zat (za2 _)) (zfE (zaq zhW (zaz (zaX K) ρ T.z_len yap (zaa (pv 0) zae)) (T.g_MOST_SIGNS ρ) (za2 _)) (zeB (zaq (zd2 K hu) (za5 (ixA K) (pv 0) zaf (fun _ _ => rfl)) (pv 1) ρ))))) (zah (zap zhb)) zaG)
  (zah (zap (zaz (zdm K ρ) ρ T.z_all ρ (zaa (zbg 1 [] ["sign"] ⟨ρ,ρ,ρ,ρ,ρ,ρ,ρ⟩ ρ (zaY K (zbf (slB K) (pv 0) (zbs zaf) zb7)) (fun _ _ _ _ => zar (i := 0) (show List.Nodup (["sign"] : List Str) by decide +kernel) ρ (Or.inl ρ) (Or.inr ρ)) (za1 δ) (fun _ _ _ _ => zbH) (fun _ _ _ _ => (zbF (znm K hu) (pv 0) (T.g_SMALL_OR_FIGURE ρ) ρ))) zae))))), ?_⟩
 walk_at "S";walk_at "";have hz : x.length <= sizeLine := zak ω;have kf : base x f = false -> Q (.bl false) H := fun e => by have q := k H (Same.refl H); rw [e] at q; exact q
 refine ite2 (fun c => kf (by unfold base; rw [if_pos c])) fun c => ⟨hz, ite2 (fun c2 => kf (by unfold base; rw [if_neg c, if_pos c2])) fun c2 => ⟨hz, _, zmk c, ?_⟩⟩
 refine ite2 (fun c3 => kf (by unfold base; rw [if_neg c, if_neg c2, if_neg (by rw [c3]; exact yam)])) fun c3 => ⟨hz, ?_⟩
 have c3' : inS ⟨#[x.cps.toList.headD 0]⟩ f = true := by simpa using c3
 have hb : base x f = zf7 x := by unfold base; rw [if_neg c, if_neg c2, if_pos c3']
 have Qe : (Txt.slice x (some 1) none).cps.toList.length <= 1000 := yat (Nat.le_of_eq (by simp [Str.length])) (yat (Txt.slice_le x (some 1) none) hx);refine zjL (fun i acc H2 => H2 = H /\ acc = ((Txt.slice x (some 1) none).cps.toList.take i).map fun c => V.bl (inS ⟨#[c]⟩ sof)) ⟨rfl,ς⟩ (fun i c acc H2 hi hp => ?_) fun acc H2 hp p hn => ?_
 ·obtain ⟨rfl, rfl⟩ := hp;have hil : i < (Txt.slice x (some 1) none).cps.toList.length := (yag.mp hi).1;refine ⟨zaF (by rw [yaf, ya3]; omega), ?_⟩;simp only [za4, List.replicate_succ, List.replicate_zero, List.map_nil, List.nil_append, List.cons_append];walk_at "";refine ⟨trivial, ?_⟩;rw [List.take_add_one, hi];simp [sof]
 ·obtain ⟨rfl, rfl⟩ := hp;walk_at "";refine ⟨(Txt.slice x (some 1) none).cps.toList.map fun c => inS ⟨#[c]⟩ sof, SqL.of (by rw [zac, List.take_of_length_le (yai _), List.map_map]; rfl), ?_⟩;have q := k _ (zab hn (.lst (((Txt.slice x (some 1) none).cps.toList.take (Txt.slice x (some 1) none).cps.toList.length).map fun c => V.bl (inS ⟨#[c]⟩ sof))));rw [hb] at q;have e : ((Txt.slice x (some 1) none).cps.toList.map fun c => inS ⟨#[c]⟩ sof).all id = zf7 x := by unfold zf7; rw [List.all_map]; rfl
  rw [e];exact q
theorem zgp (T : Tx K mg D) : FnOk P w K mg Qd CX0 2 D.a_c4 D.d_c4 ["text"] (sp1 fun x => base x "abcdefghijklmnopqrstuvwxyz" && !inV (.str x) zf8) := by
 have G_a0 := @zj4 P w _ _ Qd _ T;refine T.F_c4.ok zhE (fun vs H Q E h => ?_) (fun cdv A outer s H vs Q E hr h => ?_)
 ·obtain ⟨x, rfl, _⟩ := h; rfl
 obtain ⟨x, rfl, hx, k⟩ := h;have hu := hr.units;have hr_a0 : Room 1 _ := hr.mono δ;refine ⟨_, (zah (zap (zdg (YC G_a0 hr_a0 ρ T.m_a0 (zaa (pv 0) (zaa (T.g_SMALL ρ) zae))) (zeE (zbF (zd2 K hu) (pv 0) (T.g_KEPT_WORDS ρ) ρ))))), ?_⟩;walk_at "S";walk_at "";refine ⟨x, _, rfl, hx, fun H' hs => ?_⟩;walk_at "";have q : Q (.bl (base x "abcdefghijklmnopqrstuvwxyz" && !inV (.str x) zf8)) H' := k H' hs;cases e : base x "abcdefghijklmnopqrstuvwxyz" with
 | false => rw [e] at q; exact iteF q
 | true => rw [e] at q; exact iteT (.inl ⟨_, _, rfl, .inr (T.q_KEPT_WORDS _), rfl,δ, q⟩)
def isNm (x : Str) : Bool := base x "abcdefghijklmnopqrstuvwxyz" && !inV (.str x) zf8
theorem zml (T : Tx K mg D) : FnOk P w K mg Qd CX0 3 D.a_c2 D.d_c2 ["text"] (sp1 fun x => base x "abcdefghijklmnopqrstuvwxyz" && !inV (.str x) zf8) := by
 have G_c4 := @zgp P w _ _ Qd _ T;refine T.F_c2.ok zhF (fun vs H Q E h => ?_) (fun cdv A outer s H vs Q E hr h => ?_)
 ·obtain ⟨x, rfl, _⟩ := h; rfl
 obtain ⟨x, rfl, hx, k⟩ := h;have hu := hr.units;have hr_c4 : Room 2 _ := hr.mono δ;refine ⟨_, (zah (zap (YC G_c4 hr_c4 ρ T.m_c4 (zaa (pv 0) zae)))), ?_⟩;walk_at "S";walk_at "";exact ⟨x, rfl, hx, k⟩
theorem zkz (T : Tx K mg D) : FnOk P w K mg Qd CX0 1 D.a_d0 D.d_d0 ["A"] (zlt K) := by
 refine T.F_d0.ok zkx (fun vs H Q E h => ?_) (fun cdv A outer s H vs Q E hr h => ?_)
 ·obtain ⟨v, S, rfl, _⟩ := h; rfl
 obtain ⟨v, S, rfl, rS, k⟩ := h;have hu := hr.units;refine ⟨_, (zag (zbv (zaq (zbj K hu) (za5 (ixA K) (pv 0) zaf (fun _ _ => rfl)) zat (za2 _)) (zah (zap (zbh zae))) zaG)
  (zag (zbv (zaq (zin K) (za5 (ixA K) (pv 0) zaf (fun _ _ => rfl)) (T.g_QUANTIFIERS ρ) ρ) (zah (zap (zbh (zaa (za5 (ixA K) (pv 0) zaf (fun _ _ => rfl)) zae)))) zaG)
  (zah (zap (zbf (slB K) (pv 0) (zbs zaf) zb7))))), ?_⟩
 walk_at "S";cases S with
 | is x ts =>
  obtain ⟨a, b, rfl, h2, h3⟩ := rS;walk_at "";refine ⟨_, .inr h2, _, i0, ?_⟩;walk_at "";refine ⟨(by show 0 <= sizeLine; decide), fun p hp => k p [] _ (zab hp _) (SqT.of zac) .nil⟩
 | fls =>
  obtain ⟨a, rfl, h2⟩ := rS;walk_at "";refine ⟨_, .inr h2, _, i0, ?_⟩;walk_at "";rw [if_neg (by decide +kernel)];refine ⟨_, .inr h2, _, i0, ?_⟩;walk_at "t";refine ⟨_, .inr (T.q_QUANTIFIERS _), rfl,δ, ?_⟩;rw [if_neg (by decide +kernel)];exact ⟨_, .inr ⟨h2, fun p H1 s1 q1 => k p _ _ s1 q1 .nil⟩⟩
 | neg B =>
  obtain ⟨a, u, rfl, h2, h3⟩ := rS;walk_at "";refine ⟨_, .inr h2, _, i0, ?_⟩;walk_at "";rw [if_neg (by decide +kernel)];refine ⟨_, .inr h2, _, i0, ?_⟩;walk_at "t";refine ⟨_, .inr (T.q_QUANTIFIERS _), rfl,δ, ?_⟩;rw [if_neg (by decide +kernel)];exact ⟨_, .inr ⟨h2, fun p H1 s1 q1 => k p _ _ s1 q1 (.cons (h3.same s1) .nil)⟩⟩
 | bi o B C =>
  obtain ⟨a, u, u', rfl, h2, h3, h4⟩ := rS;walk_at "";refine ⟨_, .inr h2, _, i0, ?_⟩;walk_at "";rw [if_neg (zhn o)];refine ⟨_, .inr h2, _, i0, ?_⟩;walk_at "t";refine ⟨_, .inr (T.q_QUANTIFIERS _), rfl,δ, ?_⟩;rw [zfO, if_neg δ];exact ⟨_, .inr ⟨h2, fun p H1 s1 q1 => k p _ _ s1 q1 (.cons (h3.same s1) (.cons (h4.same s1) .nil))⟩⟩
 | qu q X B =>
  obtain ⟨a, u, rfl, h2, h3⟩ := rS;walk_at "";refine ⟨_, .inr h2, _, i0, ?_⟩;walk_at "";rw [if_neg (zho q)];refine ⟨_, .inr h2, _, i0, ?_⟩;walk_at "t";refine ⟨_, .inr (T.q_QUANTIFIERS _), rfl,δ, ?_⟩;rw [zjZ, if_pos rfl];refine ⟨_, .inr h2, _, i2, (by show 1 <= sizeLine; decide), fun p hp => k p _ _ (zab hp _) (SqT.of zac) (.cons (h3.same (zab hp _)) .nil)⟩
theorem zbI {a b : TS} {Dd : Ends} {σ : St} {H : Hp} (R : St -> Hp -> Prop) (ha : ∀ N : St -> Hp -> Prop, (∀ σ' H', R σ' H' -> N σ' H') -> a { Dd with nx := N } σ H) (hb : ∀ σ' H', R σ' H' -> b Dd σ' H') : tSeq a b Dd σ H := ha _ hb
def _root_.L2.Stm.tms : Stm -> List Str
 | .is _ ts => ts
 | .fls => []
 | .neg A => A.tms
 | .bi _ A B => A.tms ++ B.tms
 | .qu _ _ A => A.tms
theorem zcM : ∀ {S : Stm}, S.Ok -> 2 * S.tms.length <= 3 * (S.size + 1)
 | .is w ts, h => by show 2 * ts.length <= 3 * (1 + 1); have := h.2.1; omega
 | .fls, _ => yaq _
 | .neg A, h => by
  have h1 := zcM (S := A) h;show 2 * A.tms.length <= 3 * ((A.size + 1) + 1);omega
 | .bi _ A B, h => by
  have h1 := zcM (S := A) h.1;have h2 := zcM (S := B) h.2;show 2 * (A.tms ++ B.tms).length <= 3 * ((A.size + B.size + 1) + 1);rw [yae]; omega
 | .qu _ X A, h => by
  have h1 := zcM (S := A) h.2;show 2 * A.tms.length <= 3 * ((A.size + 1) + 1);omega
theorem tm8 : ∀ {S : Stm}, S.Ok -> ∀ t ∈ S.tms, t.length <= 8
 | .is _ ts, h, t, ht => (h.2.2 t ht).elim (fun q => q.len.1) fun q => q.len.1
 | .fls, _, t, ht => absurd ht (by show ¬ t ∈ []; simp)
 | .neg A, h, t, ht => tm8 (S := A) h t ht
 | .bi _ A B, h, t, ht => (yay.mp ht).elim (tm8 (S := A) h.1 t) (tm8 (S := B) h.2 t)
 | .qu _ _ A, h, t, ht => tm8 (S := A) h.2 t ht
theorem zbu {S : Stm} (h : S.Ok) (z : S.size <= 500) : S.tms.length <= 800 := by have := zcM h; omega
theorem zmm {S : Stm} {d : Nat} (hOk : S.Ok) (hd : S.deep <= d + 1) (hz : S.size <= 500) : ∀ B ∈ S.parts, B.Ok /\ B.deep <= d /\ B.size <= 500 := by
 cases S with
 | is x ts => intro B h; cases h
 | fls => intro B h; cases h
 | neg C => intro B h; rw [yah.mp h]; exact ⟨hOk, by have : C.deep + 1 <= d + 1 := hd; omega, by have : C.size + 1 <= 500 := hz; omega⟩
 | bi o C C' =>
  intro B h;have : max C.deep C'.deep + 1 <= d + 1 := hd;have : C.size + C'.size + 1 <= 500 := hz;rcases yau.mp h with rfl | h
  ·exact ⟨hOk.1,ω,ω⟩
  ·rw [yah.mp h]; exact ⟨hOk.2,ω,ω⟩
 | qu o X C => intro B h; rw [yah.mp h]; exact ⟨hOk.2, by have : C.deep + 1 <= d + 1 := hd; omega, by have : C.size + 1 <= 500 := hz; omega⟩
theorem zj5 (S : Stm) : S.parts.length <= 2 := by cases S <;> simp [Stm.parts]
def zoR (K : W.Frag) (d : Nat) : Sp := fun vs H Q _ => ∃ v S, vs = [v] /\ RepS K H S v /\ S.Ok /\ S.deep <= d /\ S.size <= 500 /\ ∀ p H', Same H H' -> H' p = some (.lst (S.tms.map V.str)) -> Q (.ref p) H'
theorem zdA (T : Tx K mg D) : ∀ d : Nat, FnOk P w K mg Qd CX0 (d + 2) D.a_b7 D.d_b7 ["A"] (zoR K d)
 | 0 => by
  refine T.F_b7.ok sc_b7 (fun vs H Q E h => ?_) (fun cdv A outer s H vs Q E hr h => ?_)
  ·obtain ⟨v, S, rfl, _⟩ := h; rfl
  ·obtain ⟨v, S, rfl, _, _, h, _⟩ := h;have := S.deep_pos;omega
 | d + 1 => by
  have G_d0 := @zkz P w _ _ Qd _ T;have G_b7 := zdA T d;refine T.F_b7.ok sc_b7 (fun vs H Q E h => ?_) (fun cdv A outer s H vs Q E hr h => ?_)
  ·obtain ⟨v, S, rfl, _⟩ := h; rfl
  obtain ⟨v, S, rfl, rS, hOk, hd, hz, k⟩ := h;have hu := hr.units;have hr_d0 : Room 1 _ := hr.mono ω;have hr_b7 : Room (d + 2) _ := hr;refine ⟨_, (zag (zbv (zaq (zbj K hu) (za5 (ixA K) (pv 0) zaf (fun _ _ => rfl)) zat (za2 _)) (zah (zap (zax (zhk K) ρ T.z_list ρ (zaa (za5 (ixA K) (pv 0) zaf (fun _ _ => rfl)) zae)))) zaG)
  (zag (zau (i := 1) sc_b7.nd ρ (by walk_at "o") (zaW zae))
  (zag (zb6 PassesOwn.never ρ (zaY K (YC G_d0 hr_d0 ρ T.m_d0 (zaa (pv 0) zae))) (zar (i := 2) sc_b7.nd ρ (by walk_at "o"))
   (zah (zbU (zcy K yar PySem.F.slot_list_extend PySem.F.type_list_extend zhl (pv 1) (zaa (YC G_b7 hr_b7 ρ T.m_b7 (zaa (pv 2) zae)) zae)))))
  (zah (zap (pv 1)))))), ?_⟩
  walk_at "S";obtain ⟨a, xs0, ev, h2⟩ := rS.tag;subst ev;refine zct (c := S.tag = "is") (fun Qb q => ?_) (fun c1 => ?_) fun c1 => ?_
  ·walk_at "";exact ⟨_, .inr h2, _, i0, by rw [zgJ]; exact ⟨_, rfl, q⟩⟩
  ·cases S with
   | is x ts =>
    obtain ⟨a', b, e', h2', h3⟩ := rS;cases e';walk_at "";refine ⟨_, .inr h2', _, i2, ?_⟩;walk_at "";exact ⟨_, .inr h3, fun l hl => k l _ (zab hl _) zac⟩
   | fls => exact absurd c1 (show ¬ (Str.ofString "false" = Str.ofString "is") by decide +kernel)
   | neg B => exact absurd c1 (show ¬ (Str.ofString "not" = Str.ofString "is") by decide +kernel)
   | bi o B C => exact absurd c1 (zhn o)
   | qu o X B => exact absurd c1 (zho o)
  ·have pOk := zmm hOk hd hz;have pLen := zj5 S;refine zbI (fun σ2 H2 => ∃ p, H p = none /\ H2 = upd H p (.lst []) /\ σ2 = [some (V.ref a), some (V.ref p), none]) (fun N hN => ?_) fun σ2 H2 hv => ?_
   ·walk_at "";exact ⟨yaq _, fun p hp => hN _ _ ⟨p, hp, rfl, rfl⟩⟩
   obtain ⟨p, hp, rfl, rfl⟩ := hv;refine zbI (fun σ2 H2 => Same H H2 /\ H2 p = some (.lst ((S.parts.flatMap Stm.tms).map V.str)) /\ ∃ u, σ2 = [some (V.ref a), some (V.ref p), u]) (fun N hN => ?_) fun σ2 H2 hv => ?_
   ·walk_at "";refine ⟨_, S, rfl, rS.same (zab hp _), fun q us H1 s1 hq hR => ?_⟩;walk_at "t";have s01 := (zab hp (.lst [])).trans s1;have hul := Paired.length hR;refine .inr ⟨⟨_, hq⟩, zbx (xs := us) (fun i σ2 H2 => Same H H2 /\ SqT K H2 q us /\ RepL K H2 S.parts us /\ ∃ (u : Option V), σ2 = [some (V.ref a), some (V.ref p), u] /\ H2 p = some (.lst (((S.parts.take i).flatMap Stm.tms).map V.str)) /\ ((S.parts.take i).flatMap Stm.tms).length <= 1000 * i) ⟨s01, hq, hR, _, rfl, s1 _ _ zac,ς⟩ (fun i σ2 H2 _ hv => hv.2.1) (fun i x σ2 H2 hx hv => ?_) fun σ2 H2 hv => ?_⟩
    ·obtain ⟨s2, hq2, hR2, u, rfl, hp2, hle⟩ := hv;obtain ⟨B, eB, rB⟩ := hR2.get hx;have hB := pOk B (ya1 eB);have hi : i < S.parts.length := (yag.mp eB).1;have sB := zbu hB.1 hB.2.2;walk_at "";refine ⟨⟨_, SqL.of hp2⟩, _, B, rfl, rB, hB.1, hB.2.1, hB.2.2, fun p3 H3 s3 h3 => ?_⟩;have e1 : S.parts.take (i + 1) = S.parts.take i ++ [B] := by
      rw [List.take_succ, eB]; rfl
     have e2 : (S.parts.take (i + 1)).flatMap Stm.tms = (S.parts.take i).flatMap Stm.tms ++ B.tms := by
      rw [e1, List.flatMap_append]; simp
     walk_at "t";refine ⟨_, _, s3 _ _ hp2, h3, zak (by rw [yaf, yaf]; omega), (s2.trans s3).upd hp, (s3.seqT hq2).keepL (s3 _ _ hp2), RepL.keepL (s3 _ _ hp2) (hR2.same s3), _, rfl, ?_, ?_⟩
     ·rw [zac, e2, ya0]
     ·rw [e2, yae]; omega
    ·obtain ⟨s2, hq2, hR2, u, rfl, hp2, hle⟩ := hv;rw [<- hul, List.take_length] at hp2;exact hN _ _ ⟨s2, hp2, u, rfl⟩
   obtain ⟨s2, hp2, u, rfl⟩ := hv;walk_at "";refine k p _ s2 ?_;rw [hp2];cases S with
   | is x ts => exact absurd rfl c1
   | _ => simp [Stm.parts, Stm.tms]
def zmn (K : W.Frag) : Sp := fun vs H Q _ => ∃ v S, vs = [v] /\ RepS K H S v /\ S.Ok /\ S.deep <= 40 /\ S.size <= 500 /\ ∀ (p : Addr) H', Same H H' -> SqT K H' p ((zcq (S.tms.filter isNm)).map V.str) -> Q (.ref p) H'
theorem zgq (T : Tx K mg D) : FnOk P w K mg Qd CX0 50 D.a_b4 D.d_b4 ["A"] (zmn K) := by
 have G_c4 : FnOk P w K mg Qd CX0 2 D.a_c4 D.d_c4 ["text"] (sp1 isNm) := zgp T;have G_b7 := zdA (P := P) (w := w) (Qd := Qd) T 40;refine T.F_b4.ok zgm (fun vs H Q E h => ?_) (fun cdv A outer s H vs Q E hr h => ?_)
 ·obtain ⟨v, S, rfl, _⟩ := h; rfl
 obtain ⟨v, S, rfl, rS, oS, dS, hz, k⟩ := h;have hl := zbu oS hz;have hu := hr.units;have hr_c4 : Room 2 _ := hr.mono δ;have hr_b7 : Room 42 _ := hr.mono δ;refine ⟨_, (zah (zap (zax (zaJ K) ρ T.z_tuple ρ (zaa (zaz (zbX P w K ρ) ρ T.z_sorted ρ (zaa (zax (zff P w K ρ) ρ T.z_set ρ (zaa (zbg 1 [] ["term"] ⟨ρ,ρ,ρ,ρ,ρ,ρ,ρ⟩ ρ (zaY K (YC G_b7 hr_b7 ρ T.m_b7 (zaa (pv 0) zae))) (fun _ _ _ _ => zar (i := 0) (show List.Nodup (["term"] : List Str) by decide +kernel) ρ (Or.inl ρ) (Or.inr ρ)) (za1 δ) (fun _ _ _ _ => zco (zdO (YC G_c4 hr_c4 ρ T.m_c4 (zaa (pv 0) zae)))) (fun _ _ _ _ => (pv 0))) zae)) zae)) zae)))), ?_⟩;walk_at "S";walk_at "";refine ⟨v, S, rfl, rS, oS, dS, hz, fun p H1 s1 hp => ?_⟩;walk_at "t";have flt : ∀ i, ((S.tms.take i).filter isNm).length <= 800 := fun i => yat (List.length_filter_le _ _) (by rw [ya3]; omega);refine .inl ⟨⟨_, SqL.of hp⟩, zbV (xs := S.tms.map V.str) (fun i acc H2 => Same H1 H2 /\ acc = ((S.tms.take i).filter isNm).map V.str) ⟨Same.refl _, rfl⟩ (fun i acc H2 _ hv => SqL.of (hv.1 _ _ hp)) (fun i x acc H2 hx hv => ?_) fun acc H2 hv p2 h2 => ?_⟩
 ·obtain ⟨s2, rfl⟩ := hv;rw [yav] at hx;cases e : S.tms[i]? with
  | none => rw [e] at hx; cases hx
  | some y =>
   rw [e] at hx;cases hx;have hy8 := tm8 oS y (ya1 e);refine ⟨zaF (by rw [yaf]; have := flt i; omega), ?_⟩;walk_at "T";walk_at "";refine ⟨y, rfl,ω, fun H3 s3 => ⟨_, rfl, ?_⟩⟩;have et : S.tms.take (i + 1) = S.tms.take i ++ [y] := by rw [List.take_add_one, e]; rfl
   rw [et, List.filter_append];refine ite2 (fun c => ⟨s2.trans s3, ?_⟩) fun c => ⟨s2.trans s3, ?_⟩
   ·rw [show [y].filter isNm = [y] by simp [c], ya0]; rfl
   ·rw [show [y].filter isNm = [] by simp [c], List.append_nil]
 ·obtain ⟨s2, rfl⟩ := hv;rw [yaf, List.take_length];walk_at "t";have f0 : (S.tms.filter isNm).length <= 800 := yat (List.length_filter_le _ _) hl;refine ⟨S.tms.filter isNm, SqL.of zac,ω, fun So us h3 hnd hul hus => ?_⟩;walk_at "t";refine ⟨us, .inl zac,ω, fun l vs h4 hso hperm => ?_⟩;walk_at "t";refine ⟨_, .inl ⟨SqL.of zac, fun l2 h5 => k l2 _ ((s1.trans s2).trans (((zab h2 _).trans (zab h3 _)).trans ((zab h4 _).trans (zab h5 _)))) ?_⟩⟩;rw [<- zcr hso hperm hnd hus];exact SqT.of zac
def nmsT (Ss : List Stm) : List Str := Ss.flatMap fun S => S.tms.filter isNm
def nms (Ss : List Stm) : List Str := zcq (nmsT Ss)
structure StZ (S : Stm) : Prop where
 sz : SZ S
 dp : S.deep <= 40
 zz : S.size <= 28
 tp : zj0 S
structure zc9 (Ss : List Stm) : Prop where
 ok : ∀ S ∈ Ss, StZ S
 few : Ss.length <= 40
 tm : (Ss.map fun S => S.tms.length).sum <= 400
theorem zk0 (Ss : List Stm) : (nmsT Ss).length <= (Ss.map fun S => S.tms.length).sum := by
 induction Ss with
 | nil => simp [nmsT]
 | cons S Ss ih =>
  have : nmsT (S :: Ss) = S.tms.filter isNm ++ nmsT Ss := rfl;rw [this, yae, List.map_cons, List.sum_cons];have := List.length_filter_le isNm S.tms;omega
def nmsU (Ss : List Stm) : List Str := Ss.flatMap fun S => zcq (S.tms.filter isNm)
theorem zk1 {Ss : List Stm} {x : Str} : x ∈ nmsU Ss ↔ x ∈ nmsT Ss := by
 unfold nmsU nmsT;simp only [List.mem_flatMap, zb9]
theorem zgT (Ss : List Stm) : (nmsU Ss).length <= (Ss.map fun S => S.tms.length).sum := by
 induction Ss with
 | nil => simp [nmsU]
 | cons S Ss ih =>
  have : nmsU (S :: Ss) = zcq (S.tms.filter isNm) ++ nmsU Ss := rfl;rw [this, yae, List.map_cons, List.sum_cons];have := List.length_filter_le isNm S.tms;have := zc1 (S.tms.filter isNm);omega
def zj6 (K : W.Frag) : Sp := fun vs H Q _ => ∃ (a : Addr) (us : List V) (Ss : List Stm), vs = [.ref a] /\ SqT K H a us /\ RepL K H Ss us /\ zc9 Ss /\ ∀ p H', Same H H' -> SqT K H' p ((nms Ss).map V.str) -> Q (.ref p) H'
theorem zgr (T : Tx K mg D) : FnOk P w K mg Qd CX0 51 D.a_b6 D.d_b6 ["statements"] (zj6 K) := by
 have G_b4 := @zgq P w _ _ Qd _ T;refine T.F_b6.ok sc_b6 (fun vs H Q E h => ?_) (fun cdv A outer s H vs Q E hr h => ?_)
 ·obtain ⟨a, us, Ss, rfl, _⟩ := h; rfl
 obtain ⟨a, us, Ss, rfl, hA, hR, hO, k⟩ := h;have hu := hr.units;have hr_b4 : Room 50 _ := hr.mono δ;refine ⟨_, (zag (zau (i := 1) sc_b6.nd ρ (by walk_at "o") (zaW zae))
  (zag (zb6 PassesOwn.never ρ (zaY K (pv 0)) (zar (i := 2) sc_b6.nd ρ (by walk_at "o"))
   (zah (zbU (zcy K yar PySem.F.slot_list_extend PySem.F.type_list_extend (zkv K) (pv 1) (zaa (YC G_b4 hr_b4 ρ T.m_b4 (zaa (pv 2) zae)) zae)))))
  (zah (zap (zax (zaJ K) ρ T.z_tuple ρ (zaa (zaz (zbX P w K ρ) ρ T.z_sorted ρ (zaa (zax (zff P w K ρ) ρ T.z_set ρ (zaa (pv 1) zae)) zae)) zae)))))), ?_⟩
 walk_at "S";walk_at "";have Qe : us.length = Ss.length := (Paired.length hR).symm;refine ⟨yaq _, fun p hp => .inr ⟨⟨_, (zab hp _).seqT hA⟩, ?_⟩⟩;refine zbx (xs := us) (fun i σ H2 => Same H H2 /\ H2 p = some (.lst ((nmsU (Ss.take i)).map V.str)) /\ ∃ u2, σ = [some (.ref a), some (.ref p), u2]) ⟨zab hp _, zac, _, rfl⟩ (fun i σ H2 _ hv => hv.1.seqT hA) (fun i x σ H2 hx hv => ?_) fun σ H2 hv => ?_
 ·obtain ⟨s2, h2, u2, rfl⟩ := hv;obtain ⟨S, eS, rS⟩ := RepL.get hR hx;obtain ⟨hi, eg⟩ := yag.mp eS;have oS := hO.ok S (ya1 eS);walk_at "";have hsz : S.size <= 500 := by have := oS.zz; omega
  refine ⟨⟨_, SqL.of h2⟩, x, S, rfl, rS.same s2, oS.sz.ok, oS.dp, hsz, fun q H3 s3 hq => ?_⟩;walk_at "";have hln : (nmsU (Ss.take i)).length + (zcq (S.tms.filter isNm)).length <= 100000 := by
   have h1 := zgT (Ss.take i);have h2 : ((Ss.take i).map fun S => S.tms.length).sum <= (Ss.map fun S => S.tms.length).sum := by
    conv => rhs; rw [<- List.take_append_drop i Ss]
    rw [ya0, List.sum_append];omega
   have h3 := zc1 (S.tms.filter isNm);have h4 := List.length_filter_le isNm S.tms;have h5 := zbu oS.sz.ok hsz;have := hO.tm;omega
  refine ⟨_, _, s3 _ _ h2, hq, zak (by rw [yaf, yaf]; exact hln), (s2.trans s3).upd hp, ?_, _, rfl⟩;have e : nmsU (Ss.take (i + 1)) = nmsU (Ss.take i) ++ zcq (S.tms.filter isNm) := by
   unfold nmsU;rw [List.take_succ_eq_append_getElem hi, eg, List.flatMap_append];simp
  rw [zac, e, ya0]
 ·obtain ⟨s2, h2, u2, rfl⟩ := hv;rw [Qe, List.take_length] at h2;have hlu : (nmsU Ss).length <= 400 := yat (zgT Ss) hO.tm;walk_at "";refine ⟨nmsU Ss, SqL.of h2,ω, fun So us' h3 hnd hul hus => ?_⟩;refine ⟨us', .inl zac,ω, fun l vs h4 hso hperm => ?_⟩;refine ⟨_, .inl ⟨SqL.of zac, fun l2 h5 => k l2 _ (s2.trans (((zab h3 _).trans (zab h4 _)).trans (zab h5 _))) ?_⟩⟩;have e : vs = nms Ss := by
   rw [zcr hso hperm hnd hus];exact zcp (zbi _) (zbi _) fun x => by rw [zb9]; unfold nms; rw [zb9]; exact zk1
  rw [<- e];exact SqT.of zac
def idxD (ns : List Str) : List (Str × V) := ns.zipIdx.map fun p => (p.1, V.int (p.2 : Nat))
theorem zgU {t : Str} : ∀ {ns : List Str} {k : Nat}, t ∈ ns -> valS ((ns.zipIdx k).map fun p => (p.1, V.int (p.2 : Nat))) t = some (.int ((ns.idxOf t + k : Nat) : Int))
 | [], _, h => by simp at h
 | n :: ns, k, h => by
  rw [List.zipIdx_cons, List.map_cons];unfold valS
  by_cases e : n = t
  ·subst e;simp
  ·have ht : t ∈ ns := (yau.mp h).resolve_left fun z => e z.symm;have ih := zgU (ns := ns) (k := k + 1) ht;unfold valS at ih;rw [List.find?_cons_of_neg (by simpa using e), ih];have e2 : (n :: ns).idxOf t = ns.idxOf t + 1 := by
    rw [List.idxOf_cons];have : (n == t) = false := by simpa using e
    rw [this]; rfl
   rw [e2, show ns.idxOf t + (k + 1) = ns.idxOf t + 1 + k by omega]
def zcb (ns : List Str) (w : Str) (ts : List Str) : Rw := (w, ts.map fun t => ((ns.idxOf t : Nat) : Int))
def zk2 (K : W.Frag) : Sp := fun vs H Q _ => ∃ (v : V) (d : Addr) (w : Str) (ts ns : List Str), vs = [v, .ref d] /\ RepS K H (.is w ts) v /\ Rd H d (.dK (dS (idxD ns))) /\ (∀ t ∈ ts, t ∈ ns) /\ ts.length <= 3 /\ ∀ q H', Same H H' -> RepD K H' (rowD true (zcb ns w ts)) (.ref q) -> Q (.ref q) H'
theorem zhI (T : Tx K mg D) : FnOk P w K mg Qd CX0 1 D.a_c1 D.d_c1 ["A", "things"] (zk2 K) := by
 refine T.F_c1.ok zhG (fun vs H Q E h => ?_) (fun cdv A outer s H vs Q E hr h => ?_)
 ·obtain ⟨v, d, w, ts, ns, rfl, _⟩ := h; rfl
 obtain ⟨v, d, w', ts, ns, rfl, ⟨a, b, rfl, h2, h3⟩, hd, hts, hl, k⟩ := h;have hu := hr.units;refine ⟨_, (zah (zap (zbh (zaa (za5 (ixA K) (pv 0) zaf (fun _ _ => rfl)) (zaa (zax (zaJ K) ρ T.z_tuple ρ (zaa (zbg 1 [1] ["name", "things"] ⟨ρ,ρ,ρ,ρ,ρ,ρ,ρ⟩ ρ (zaY K (za5 (ixA K) (pv 0) zaf (fun _ _ => rfl))) (fun _ _ _ _ => zar (i := 0) (show List.Nodup (["name", "things"] : List Str) by decide +kernel) ρ (Or.inl ρ) (Or.inr ρ)) (za1 δ) (fun _ _ _ _ => zbH) (fun _ _ _ _ => (za5 zoO (pv 1) (pv 0) (fun _ _ => rfl)))) zae)) zae))))), ?_⟩;walk_at "S";walk_at "";refine ⟨_, .inr h2, _, i1, _, .inr h2, _, i2, ?_⟩;walk_at "";refine .inr ⟨⟨_, h3⟩, zci (xs := ts.map V.str) (fun i acc H5 => H5 = H /\ acc = ((ts.take i).map fun t => ((ns.idxOf t : Nat) : Int)).map V.int) ⟨rfl, rfl⟩ (fun i acc H5 _ hv => hv.1 ▸ h3) (fun i x acc H5 hx hv => ?_) fun acc H5 hv p hp => ?_⟩
 ·obtain ⟨rfl, rfl⟩ := hv;rw [yav] at hx;obtain ⟨t, et, rfl⟩ := Option.map_eq_some_iff.mp hx;obtain ⟨hi, eg⟩ := yag.mp et;refine ⟨zaF (by simp only [List.length_map, List.length_take]; omega), ?_⟩;walk_at "T";walk_at "";have hv := zgU (k := 0) (hts t (ya1 et));rw [Nat.add_zero] at hv;refine ⟨_, _, hd, hv, trivial, ?_⟩;rw [List.take_succ_eq_append_getElem hi, eg, ya0, ya0]
  rfl
 ·obtain ⟨rfl, rfl⟩ := hv;rw [yaf, List.take_length];walk_at "";refine ⟨_, .inl ⟨SqL.of zac, fun p1 hp1 => ⟨zak (show 2 <= 100000 by decide), fun p2 hp2 => ?_⟩⟩⟩;refine k p2 _ (((zab hp _).trans (zab hp1 _)).trans (zab hp2 _)) ?_;exact RepD.t2 (SqT.of zac) (.str _) (RepD.ints ((zab hp2 _).seqT (SqT.of zac)))
theorem zgs {f x : Str} (h : Nm f x) : base x f = true := by
 obtain ⟨c, r, e, hc, hr, hl, _⟩ := h;have h0 : ¬ x = "" := by rintro rfl; cases e
 have Qe : x.length = r.length + 1 := by rw [zkj, e]; rfl
 unfold base;rw [if_neg h0, if_neg ω];have hh : inS ⟨#[x.cps.toList.headD 0]⟩ f = true := by rw [zdp, e]; simpa using hc
 rw [if_pos hh];unfold zf7;have es : (Txt.slice x (some 1) none).cps.toList = r := by
  have := zhm x 1;rw [e] at this;simpa using this
 rw [es, List.all_eq_true];intro d hd;rw [zdp];exact ya9 (hr d hd)
theorem zgt {f x : Str} (h : Nm f x) : inV (.str x) zf8 = false := by
 obtain ⟨c, r, e, hc, hr, hl, hk⟩ := h;cases q : inV (.str x) zf8 with
 | false => rfl
 | true =>
  exfalso
  apply hk;simp only [inV, zf8, List.any_cons, List.any_nil, eqV, Bool.or_false, Bool.or_eq_true, beq_iff_eq] at q;simp only [keptW, List.mem_cons, List.mem_nil_iff, or_false];rcases q with q | q | q | q | q | q | q <;> simp [q]
def zaK (ns : List Str) : List Stm -> List Rw
 | [] => []
 | .is w ts :: Ss => zcb ns w ts :: zaK ns Ss
 | _ :: Ss => zaK ns Ss
theorem zcc (ns : List Str) : ∀ (Ss : List Stm) (S : Stm), zaK ns (Ss ++ [S]) = zaK ns Ss ++ zaK ns [S]
 | [], S => rfl
 | A :: Ss, S => by
  have ih := zcc ns Ss S;cases A <;> simp [zaK, ih]
theorem zbP (ns : List Str) : ∀ Ss : List Stm, (zaK ns Ss).length <= Ss.length
 | [] => yai _
 | A :: Ss => by
  have ih := zbP ns Ss;cases A <;> simp [zaK] <;> omega
def zaL (ns : List Str) : List (Str × Int) := ns.zipIdx.map fun p => (p.1, ((p.2 : Nat) : Int))
structure WdOf (Ss : List Stm) (W : Wd) : Prop where
 size : W.size = if ((nms Ss).length : Int) > 1 then ((nms Ss).length : Int) else 1
 cs : W.cs = zaL (nms Ss)
 ris : RisF W.fs
 mem : ∀ k, k ∈ W.fs ↔ k ∈ zaK (nms Ss) Ss
theorem zcA {Ss : List Stm} (hO : zc9 Ss) {w : Str} {ts : List Str} (h : Stm.is w ts ∈ Ss) : Nm smallS w /\ ts.length <= 3 /\ ∀ t ∈ ts, Nm smallS t /\ t ∈ nms Ss := by
 have o := hO.ok _ h;refine ⟨o.sz.1, o.sz.2.1, fun t ht => ?_⟩;have hn := o.tp w ts rfl t ht;refine ⟨hn, ?_⟩;unfold nms;rw [zb9];unfold nmsT;refine List.mem_flatMap.mpr ⟨_, h, List.mem_filter.mpr ⟨ht, ?_⟩⟩;have h1 : base t "abcdefghijklmnopqrstuvwxyz" = true := zgs hn;unfold isNm;rw [h1, zgt hn]; rfl
theorem zgu {K : W.Frag} {a : Addr} {xs : List V} {nt : Nat} {is : List Nat} {g : TG} {tt : TT} {te : TE} {σ : St} {H : Hp} {Q : VK} (Pv : Nat -> List V -> Hp -> Prop) (h0 : Pv 0 [] H) (hl : ∀ i acc H, i <= xs.length -> Pv i acc H -> SqT K H a xs)
  (hs : ∀ i x acc H, xs[i]? = some x -> Pv i acc H -> acc.length < sizeLine /\ ∀ t, H t = none -> g (.ref t) (za4 nt is σ) (upd H t (.tup [.int i, x])) fun σ2 H2 => tt σ2 H2 fun b H3 => if b = true then te σ2 H3 fun y H4 => Pv (i + 1) (acc ++ [y]) H4 else Pv (i + 1) acc H3)
  (hd : ∀ acc H, Pv xs.length acc H -> ∀ p, H p = none -> Q (.ref p) (upd H p (.lst acc))) : zfK (Ite K a) nt is g tt te σ H Q := by
 refine zcx (n := xs.length) Pv h0 (fun i acc H hi p => ?_) fun acc H p => ⟨⟨xs, hl _ _ _ (yai _) p, yai _⟩, hd acc H p⟩
 have hx : xs[i]? = some xs[i] := by simp [hi]
 have q := hl i acc H (Nat.le_of_lt hi) p;obtain ⟨h1, h2⟩ := hs i _ acc H hx p;refine ⟨⟨xs, _, q, hx⟩, h1, fun x H' y => ?_⟩;obtain ⟨t, z, rfl, hn, rfl, hz⟩ := y;have e := hz xs q;rw [hx] at e;cases e;exact h2 t hn
theorem zj7 (Ss : List Stm) : (nms Ss).Nodup := by
 refine (zbi (nmsT Ss)).imp fun {a b} h e => ?_;subst e;rw [zcj] at h;cases h
theorem ze6 {Ss : List Stm} (hO : zc9 Ss) : (nms Ss).length <= 400 := yat (zc1 _) (yat (zk0 Ss) hO.tm)
theorem zk3 (ns : List Str) : (idxD ns).map (·.1) = ns := by
 unfold idxD;rw [List.map_map];show ns.zipIdx.map Prod.fst = ns;exact List.zipIdx_map_fst 0 ns
def zk4 (K : W.Frag) : Sp := fun vs H Q _ => ∃ (a : Addr) (us : List V) (Ss : List Stm), vs = [.ref a] /\ SqT K H a us /\ RepL K H Ss us /\ zc9 Ss /\ ∀ r c f W xs ys H', Same H H' -> RepW K H' W r c f xs ys -> WdOf Ss W -> Q (.ref r) H'
theorem zdB (T : Tx K mg D) : FnOk P w K mg Qd CX0 52 D.a_a2 D.d_a2 ["statements"] (zk4 K) := by
 have G_b6 := @zgr P w _ _ Qd _ T;have G_c1 := @zhI P w _ _ Qd _ T;refine T.F_a2.ok sc_a2 (fun vs H Q E h => ?_) (fun cdv A outer s H vs Q E hr h => ?_)
 ·obtain ⟨a, us, Ss, rfl, _⟩ := h; rfl
 obtain ⟨a, us, Ss, rfl, hA, hR, hO, k⟩ := h;have hu := hr.units;have hr_b6 : Room 51 _ := hr.mono δ;have hr_c1 : Room 1 _ := hr.mono δ;refine ⟨_, (zag (zau (i := 1) sc_a2.nd ρ (by walk_at "o") (zax (zgl K) ρ T.z_tuple ρ (zaa (zbg 2 [] ["thing", "name"] ⟨ρ,ρ,ρ,ρ,ρ,ρ,ρ⟩ ρ (zlQ K ρ T.z_enumerate (zaa (YC G_b6 hr_b6 ρ T.m_b6 (zaa (pv 0) zae)) zae)) (fun _ _ _ _ => zhN ρ (zcf (zar (i := 0) (show List.Nodup (["thing", "name"] : List Str) by decide +kernel) ρ (Or.inl ρ) (Or.inr ρ)) (zcf (zar (i := 1) (show List.Nodup (["thing", "name"] : List Str) by decide +kernel) ρ (Or.inl ρ) (Or.inr ρ)) zfF))) (zh3 δ) (fun _ _ _ _ => zbH) (fun _ _ _ _ => (zbh (zaa (pv 1) (zaa (pv 0) zae))))) zae)))
  (zag (zau (i := 2) sc_a2.nd ρ (by walk_at "o") (zax (zhB K ρ) ρ T.z_dict ρ (zaa (pv 1) zae)))
  (zag (zdT (i := 3) 1 [2] ["A", "things"] sc_a2.nd ρ ρ ⟨ρ,ρ,ρ,ρ,ρ,ρ,ρ⟩ ρ (zaY K (pv 0)) (fun _ _ _ _ => zar (i := 0) (show List.Nodup (["A", "things"] : List Str) by decide +kernel) ρ (Or.inl ρ) (Or.inr ρ)) (za1 δ) (fun _ _ _ _ => zco (zaq (zbj K hu) (za5 (ixA K) (pv 0) zaf (fun _ _ => rfl)) zat (za2 _))) (fun _ _ _ _ => (YC G_c1 hr_c1 ρ T.m_c1 (zaa (pv 0) (zaa (pv 1) zae)))))
  (zah (zap (zbh (zaa (zaz (zeI ρ) ρ T.z_max ρ (zaa zaf (zaa (zaz (zaX K) ρ T.z_len yap (zaa (pv 1) zae)) zae))) (zaa (pv 1) (zaa (zax (zaJ K) ρ T.z_tuple ρ (zaa (zaz (ze3 P w K ρ hu) ρ T.z_sorted ρ (zaa (zax (zh5 P w K ρ hu) ρ T.z_set ρ (zaa (pv 3) zae)) zae)) zae)) zae))))))))), ?_⟩
 walk_at "S";have hnd := zj7 Ss;have hnl := ze6 hO;have hul : us.length = Ss.length := (Paired.length hR).symm;refine zbI (fun σ' H1 => Same H H1 /\ ∃ (c : Addr) (o : Obj) (xs : List V), H1 c = some (.frz o (.tup xs)) /\ o.cls = .type "tuple" /\ o.dict = none /\ xs.length = (nms Ss).length /\ (∀ (i : Nat) u n, xs[i]? = some u -> (nms Ss)[i]? = some n -> ∃ b, u = .ref b /\ SqT K H1 b [.str n, .int (i : Nat)]) /\ σ' = [some (.ref a), some (.ref c), none, none]) (fun N hN => ?_) fun σ' H1 hv => ?_
 ·walk_at "";refine ⟨a, us, Ss, rfl, hA, hR, hO, fun p H1 s1 hp => ?_⟩;refine ⟨p, rfl, ⟨_, hp⟩, zgu (xs := (nms Ss).map V.str) (fun i acc H2 => Same H1 H2 /\ acc.length = i /\ ∀ (j : Nat) u n, acc[j]? = some u -> (nms Ss)[j]? = some n -> ∃ b, u = .ref b /\ SqT K H2 b [.str n, .int (j : Nat)]) ⟨Same.refl _, rfl, fun j u n e => by simp at e⟩ (fun i acc H2 _ hv => hv.1.seqT hp) (fun i x acc H2 hx hv => ?_) fun acc H2 hv q hq => ?_⟩
  ·obtain ⟨s2, hl, hP⟩ := hv;rw [yav] at hx;obtain ⟨n, en, rfl⟩ := Option.map_eq_some_iff.mp hx;have hi := (yag.mp en).1;refine ⟨zaF ω, fun t ht => ?_⟩;walk_at "T";walk_at "";refine ⟨_, SqT.of zac, rfl, ?_⟩;walk_at "";refine ⟨zak (show 2 <= 100000 by decide), fun b hb => ?_⟩;have sb := (zab ht (.tup [.int (i : Nat), .str n])).trans (zab hb (.tup [.str n, .int (i : Nat)]));refine ⟨s2.trans sb, by rw [yae, hl]; rfl, fun j u m e1 e2 => ?_⟩
   by_cases cj : j < acc.length
   ·rw [ya5 cj] at e1;obtain ⟨b', eb, hb'⟩ := hP j u m e1 e2;exact ⟨b', eb, sb.seqT hb'⟩
   ·rw [List.getElem?_append_right ω] at e1;have hj0 : j - acc.length = 0 := by
     have := (yag.mp e1).1;simp at this; omega
    rw [hj0] at e1;cases e1;have : j = i := by omega
    subst this;rw [en] at e2;cases e2;exact ⟨b, rfl, SqT.of zac⟩
  ·obtain ⟨s2, hl, hP⟩ := hv;rw [yaf] at hl;walk_at "";refine ⟨_, SqL.of zac, fun c o hc ho1 ho2 => hN _ _ ⟨(s1.trans s2).trans ((zab hq _).trans (zab hc _)), c, o, acc, zac, ho1, ho2, hl, fun i u n e1 e2 => ?_, rfl⟩⟩;obtain ⟨b, eb, hb⟩ := hP i u n e1 e2;exact ⟨b, eb, ((zab hq _).trans (zab hc _)).seqT hb⟩
 obtain ⟨s1, c, o, xs, hc, ho1, ho2, hxl, hxs, rfl⟩ := hv;refine zbI (fun σ' H2 => Same H1 H2 /\ ∃ d : Addr, H2 d = some (.dK (dS (idxD (nms Ss)))) /\ σ' = [some (.ref a), some (.ref c), some (.ref d), none]) (fun N hN => ?_) fun σ' H2 hv => ?_
 ·walk_at "";have il : (idxD (nms Ss)).length = (nms Ss).length := by unfold idxD; simp
  refine ⟨o, xs, idxD (nms Ss), hc, ho1, ho2,ω, fun i u e1 p e2 => ?_,ω, fun d hd => hN _ _ ⟨zab hd _, d, by rw [zac, zjx (by rw [zk3]; exact hnd)], rfl⟩⟩;unfold idxD at e2;rw [yav, List.getElem?_zipIdx] at e2;cases e : (nms Ss)[i]? with
  | none => rw [e] at e2; cases e2
  | some n =>
   rw [e] at e2;cases e2;have := hxs i u n e1 e;rw [Nat.zero_add];exact this
 obtain ⟨s2, d, hd, rfl⟩ := hv;have s12 := s1.trans s2;refine zbI (fun σ' H3 => Same H2 H3 /\ ∃ (p : Addr) (ks : List (Rw × Addr)), H3 p = some (.lst (ks.map fun k => V.ref k.2)) /\ ks.map (·.1) = zaK (nms Ss) Ss /\ (∀ k ∈ ks, RepD K H3 (rowD true k.1) (.ref k.2)) /\ σ' = [some (.ref a), some (.ref c), some (.ref d), some (.ref p)]) (fun N hN => ?_) fun σ' H3 hv => ?_
 ·walk_at "";refine .inr ⟨⟨_, s12.seqT hA⟩, zci (xs := us) (fun i acc H3 => Same H2 H3 /\ ∃ ks : List (Rw × Addr), acc = (ks.map fun k => V.ref k.2) /\ ks.map (·.1) = zaK (nms Ss) (Ss.take i) /\ ∀ k ∈ ks, RepD K H3 (rowD true k.1) (.ref k.2)) ⟨Same.refl _, [], rfl, rfl, fun _ h => by simp at h⟩ (fun i acc H3 _ hv => (s12.trans hv.1).seqT hA) (fun i x acc H3 hx hv => ?_) fun acc H3 hv q hq => ?_⟩
  ·obtain ⟨s3, ks, rfl, hks, hRk⟩ := hv;obtain ⟨S, eS, rS⟩ := RepL.get hR hx;obtain ⟨hi, eg⟩ := yag.mp eS;have hSm := ya1 eS;have few := hO.few;have hkl : ks.length <= 40 := by
    have h1 := zbP (nms Ss) (Ss.take i);rw [<- hks, yaf, ya3] at h1;omega
   have e1 : Ss.take (i + 1) = Ss.take i ++ [S] := by rw [List.take_succ_eq_append_getElem hi, eg]
   obtain ⟨b, zs, rfl, ht⟩ := rS.tag;refine ⟨zaF (by rw [yaf]; omega), ?_⟩;walk_at "T";walk_at "";rw [e1, zcc];refine ⟨_, .inr ((s12.trans s3).seqT ht), _, i0, ?_⟩;walk_at "";refine ite2 (fun ci => ?_) fun ci => ?_
   ·cases S with
    | is w' ts =>
     obtain ⟨n1, n2, n3⟩ := zcA hO hSm;refine ⟨.ref b, d, w', ts, nms Ss, rfl, rS.same (s12.trans s3), .inl (s3 _ _ hd), fun t ht => (n3 t ht).2, n2, fun q H4 s4 hq => ⟨s3.trans s4, ks ++ [(zcb (nms Ss) w' ts, q)],ς, by rw [ya0, hks]; rfl, fun k hk => ?_⟩⟩;rcases yay.mp hk with h | h
     ·exact (hRk k h).same s4
     ·rw [yah.mp h]; exact hq
    | fls => exact absurd ci (by decide +kernel)
    | neg B => exact absurd (show ("not" : Str) = "is" from ci) (by decide +kernel)
    | bi o B C => exact absurd ci (zhn o)
    | qu q X B => exact absurd ci (zho q)
   ·have e2 : zaK (nms Ss) [S] = [] := by
     cases S with
     | is w' ts => exact absurd rfl ci
     | fls => rfl
     | neg B => rfl
     | bi o B C => rfl
     | qu q X B => rfl
    rw [e2, List.append_nil];exact ⟨s3, ks, rfl, hks, hRk⟩
  ·obtain ⟨s3, ks, rfl, hks, hRk⟩ := hv;rw [hul, List.take_length] at hks;exact hN _ _ ⟨s3.trans (zab hq _), q, ks, zac, hks, fun k hk => (hRk k hk).same (zab hq _), rfl⟩
 obtain ⟨s3, p, ks, hp, hks, hRk, rfl⟩ := hv;have hkl : ks.length <= 40 := by
  have h1 := zbP (nms Ss) Ss;have few := hO.few;rw [<- hks, yaf] at h1;omega
 have hc3 : H3 c = some (.frz o (.tup xs)) := s3 _ _ (s2 _ _ hc);have hC : SqT K H3 c xs := .inl (.inr ⟨o, hc3⟩);walk_at "";refine ⟨_, .inr hC, ks, SqL.of hp, hRk,ω, fun S fs hS fnd fmem fsub flen => ?_⟩;refine ⟨fs, zac, fun f hf => (hRk f (fsub f hf)).same (zab hS _),ω, fun l fs' hl hperm hsrt => ?_⟩;refine ⟨_, .inl ⟨SqL.of zac, fun l2 hl2 => ⟨zak (show 3 <= 100000 by decide), fun r hr' => ?_⟩⟩⟩;have sS := zab hS (FsO P w S fs);have sl := zab hl (.lst (fs'.map fun f => V.ref f.2));have sl2 := zab hl2 (.tup (fs'.map fun f => V.ref f.2));have sr := zab hr' (.tup [V.int (if (xs.length : Int) > 1 then (xs.length : Int) else 1), V.ref c, V.ref l2]);have sall := ((sS.trans sl).trans sl2).trans sr;refine k r c l2 ⟨if (xs.length : Int) > 1 then (xs.length : Int) else 1, zaL (nms Ss), fs'.map (·.1)⟩ xs (fs'.map fun f => V.ref f.2) _ ((s12.trans s3).trans sall) ⟨SqT.of zac, sall.seqT hC, sr.seqT (SqT.of zac), ?_, ?_⟩ ⟨by rw [hxl], rfl, ?_, fun x => ?_⟩
 ·refine ⟨by unfold zaL; simp [hxl], fun j dd x e1 e2 => ?_⟩;unfold zaL at e1;rw [yav, yav, yav, List.getElem?_zipIdx] at e1;cases e : (nms Ss)[j]? with
  | none => rw [e] at e1; cases e1
  | some n =>
   rw [e] at e1;cases e1;obtain ⟨b, eb, hb⟩ := hxs j x n e2 e;subst eb;have hb4 := ((s2.trans s3).trans sall).seqT hb;rw [Nat.zero_add];exact RepD.t2 hb4 (.str _) (.int _)
 ·refine ⟨ς, fun j dd x e1 e2 => ?_⟩;rw [yav, yav] at e1;rw [yav] at e2;cases e : fs'[j]? with
  | none => rw [e] at e1; cases e1
  | some f =>
   rw [e] at e1 e2;cases e1;cases e2;exact (hRk f (fsub f (hperm.mem_iff.mp (ya1 e)))).same sall
 ·have h := zjp hsrt (l := fs.map (·.1)) (by rw [List.map_map]; exact hperm.map _) fnd;rw [List.map_map] at h;exact h
 ·rw [<- hks, <- fmem];exact (hperm.map (·.1)).mem_iff
def zmo (K : W.Frag) : Sp := fun vs H Q _ => ∃ (a : Addr) (xs : List V) (ks : List (List Nat × List Int)), vs = [.ref a] /\ (SqL K H a xs \/ SqT K H a xs) /\ KeyRow K H xs ks /\ xs.length <= 1000 /\ ∀ H', Same H H' -> Q (.bl (risQ ks)) H'
theorem zgV (T : Tx K mg D) : FnOk P w K mg Qd CX0 1 D.a_c9 D.d_c9 ["row"] (zmo K) := by
 refine T.F_c9.ok zky (fun vs H Q E h => ?_) (fun cdv A outer s H vs Q E hr h => ?_)
 ·obtain ⟨a, xs, ks, rfl, _⟩ := h; rfl
 obtain ⟨a, xs, ks, rfl, hA, ⟨t, hl, hK⟩, hx, k⟩ := h;have hu := hr.units;refine ⟨_, (zah (zap (zaz (zdm K ρ) ρ T.z_all ρ (zaa (zbg 1 [0] ["k", "row"] ⟨ρ,ρ,ρ,ρ,ρ,ρ,ρ⟩ ρ (zbJ ρ T.z_range (zaa (zan zeG (zaz (zaX K) ρ T.z_len yap (zaa (pv 0) zae)) zaf) zae)) (fun _ _ _ _ => zar (i := 0) (show List.Nodup (["k", "row"] : List Str) by decide +kernel) ρ (Or.inl ρ) (Or.inr ρ)) (za1 δ) (fun _ _ _ _ => zbH) (fun _ _ _ _ => (zbF (znS K hu) (za5 (ixA K) (pv 1) (pv 0) (fun _ _ => rfl)) (za5 (ixA K) (pv 1) (zan (za9 K) (pv 0) zaf) (fun _ _ => rfl)) (za2 _)))) zae)))), ?_⟩;walk_at "S";walk_at "";refine ⟨_, hA,ω,ω, ?_⟩;refine zch (fun i acc H5 => H5 = H /\ acc = (List.range i).map fun j => V.bl (decide (zbe (ks.getD j ([], [])) (ks.getD (j + 1) ([], []))))) ⟨rfl, rfl⟩ (fun i acc H5 hi hv => ?_) fun acc H5 hv p hp => ?_
 ·obtain ⟨rfl, rfl⟩ := hv;have hi' : i + 1 < xs.length := by omega
  refine ⟨zaF (by simp; omega), ?_⟩;walk_at "T";walk_at "";have e0 : atI xs (0 + (i : Int)) = some (xs[i]'ω) := at0 (yal ω);have e1 : atI xs (0 + (i : Int) + 1) = some (xs[i + 1]'hi') := by
   rw [show (0 + (i : Int) + 1) = ((i + 1 : Nat) : Int) by omega];exact zam (yal hi')
  refine ⟨_, hA, _, e0, _, hA, _, e1, KeyIt.lt (KeyRow.at hl hK ω) (KeyRow.at hl hK hi') ⟨rfl, ?_⟩⟩;rw [List.range_succ, ya0]; rfl
 ·obtain ⟨rfl, rfl⟩ := hv;walk_at "";have en : ((xs.length : Int) - 1).toNat = ks.length - 1 := by omega
  rw [en];refine ⟨(List.range (ks.length - 1)).map fun j => decide (zbe (ks.getD j ([], [])) (ks.getD (j + 1) ([], []))), SqL.of (by rw [zac, List.map_map]; rfl), ?_⟩;rw [List.all_map];exact k _ (zab hp _)
def nmQ (x : Str) : Bool := base x "abcdefghijklmnopqrstuvwxyz" && !inV (.str x) zf8
def thQ (n i : Int) : Bool := decide (0 <= i /\ i < n)
def prQ (n : Int) (p : Str × Int) : Bool := nmQ p.1 && thQ n p.2
def ftQ (n : Int) (r : Rw) : Bool := nmQ r.1 && decide (r.2.length <= 3) && r.2.all (thQ n)
def clQ (n : Int) (cs : List (Str × Int)) : Bool := cs.all (prQ n) && risQ (cs.map fun p => (p.1.cps.toList, []))
def fsQ (n : Int) (fs : List Rw) : Bool := fs.all (ftQ n) && risQ (fs.map rowK)
def fitQ (W : Wd) : Bool := decide (1 <= W.size) && clQ W.size W.cs && fsQ W.size W.fs
theorem zdC (T : Tx K mg D) : FnOk P w K mg Qd CX0 1 D.a_b8 D.d_b8 ["thing", "size"] (fun vs H Q _ => ∃ i n, vs = [.int i, .int n] /\ Q (.bl (thQ n i)) H) := by
 refine T.F_b8.ok zgn (fun vs H Q E h => ?_) (fun cdv A outer s H vs Q E hr h => ?_)
 ·obtain ⟨i, n, rfl, _⟩ := h; rfl
 obtain ⟨i, n, rfl, k⟩ := h;have hu := hr.units;refine ⟨_, (zah (zap (zdg (zbF zon zaf (pv 0) (za2 _)) (zeE (zbF zcO (pv 0) (pv 1) (za2 _)))))), ?_⟩;walk_at "S";walk_at "";unfold thQ at k
 by_cases c : 0 <= i
 ·rw [if_pos c];have : decide (0 <= i /\ i < n) = decide (i < n) := by simp [c]
  rw [this] at k; exact k
 ·rw [if_neg c];have : decide (0 <= i /\ i < n) = false := by simp [c]
  rw [this] at k; exact k
theorem zgW {α : Type} {f : α -> Bool} {l : List α} {j : Nat} (hj : j < l.length) (h : (l.take j).all f = true) (c : f l[j] = true) : (l.take (j + 1)).all f = true := by
 rw [List.take_succ_eq_append_getElem hj, List.all_append, h, List.all_cons, c, List.all_nil]; rfl
theorem zgX {α : Type} {f : α -> Bool} {l : List α} {j : Nat} (hj : j < l.length) (c : f l[j] = false) : l.all f = false := List.all_eq_false.mpr ⟨l[j], List.getElem_mem hj, by rw [c]; exact yam⟩
def zoS (K : W.Frag) : Sp := fun vs H Q _ => ∃ (a : Addr) (xs : List V) (cs : List (Str × Int)) (n : Int), vs = [.ref a, .int n] /\ SqT K H a xs /\ RepX K H ((cs.map prR).map (rowD false)) xs /\ xs.length <= 400 /\ (∀ p ∈ cs, p.1.length <= 1000) /\ ∀ H', Same H H' -> Q (.bl (clQ n cs)) H'
theorem ze7 (T : Tx K mg D) : FnOk P w K mg Qd CX0 3 D.a_a5 D.d_a5 ["called", "size"] (zoS K) := by
 have G_c4 := @zgp P w _ _ Qd _ T;have G_b8 := @zdC P w _ _ Qd _ T;have G_c9 := @zgV P w _ _ Qd _ T;refine T.F_a5.ok sc_a5 (fun vs H Q E h => ?_) (fun cdv A outer s H vs Q E hr h => ?_)
 ·obtain ⟨a, xs, cs, n, rfl, _⟩ := h; rfl
 obtain ⟨a, xs, cs, n, rfl, hA, hX, hx, hn, k⟩ := h;have hu := hr.units;have hr_c4 : Room 2 _ := hr.mono δ;have hr_b8 : Room 1 _ := hr.mono δ;have hr_c9 : Room 1 _ := hr.mono δ;have hlx : xs.length = cs.length := by have := hX.1; simpa using this.symm
 refine ⟨_, (zag (zb6 PassesOwn.never ρ (zaY K (pv 0)) (zhN ρ (zcf (zar (i := 2) sc_a5.nd ρ (by walk_at "o")) (zcf (zar (i := 3) sc_a5.nd ρ (by walk_at "o")) zfF)))
   (zah (zbv (PW.pt (zfE (zeD (zdO (YC G_c4 hr_c4 ρ T.m_c4 (zaa (pv 2) zae)))) (zeB (zeD (zdO (YC G_b8 hr_b8 ρ T.m_b8 (zaa (pv 3) (zaa (pv 1) zae)))))))) (zah (zap zhb)) zaG)))
  (zah (zap (YC G_c9 hr_c9 ρ T.m_c9 (zaa (zbg 1 [] ["pair"] ⟨ρ,ρ,ρ,ρ,ρ,ρ,ρ⟩ ρ (zaY K (pv 0)) (fun _ _ _ _ => zar (i := 0) (show List.Nodup (["pair"] : List Str) by decide +kernel) ρ (Or.inl ρ) (Or.inr ρ)) (za1 δ) (fun _ _ _ _ => zbH) (fun _ _ _ _ => (za5 (ixA K) (pv 0) zaf (fun _ _ => rfl)))) zae))))), ?_⟩
 walk_at "S";walk_at "";refine .inr ⟨⟨_, hA⟩, zbx (xs := xs) (fun i σ H2 => Same H H2 /\ (∃ u2 u3, σ = [some (.ref a), some (.int n), u2, u3]) /\ (cs.take i).all (prQ n) = true) ⟨Same.refl _, ⟨_, _, rfl⟩, rfl⟩ (fun i σ H2 _ hv => hv.1.seqT hA) (fun j x σ H2 hx' hv => ?_) fun σ H2 hv => ?_⟩
 ·obtain ⟨s2, ⟨u2, u3, rfl⟩, hall⟩ := hv;have hj : j < cs.length := by have := (yag.mp hx').1; omega
  have hd := (hX.2 j (rowD false (prR cs[j])) x (by simp [hj]) hx').same s2;obtain ⟨q, x1, x2, rfl, hq, e1, e2⟩ := RepD.two hd;cases e1;cases e2;walk_at "";refine ⟨_, hq, rfl, ?_⟩;walk_at "";refine ⟨_, rfl, hn _ (List.getElem_mem hj), fun H3 s3 => ?_⟩;have stop : prQ n cs[j] = false -> Q (.bl false) H3 := fun e => by
   have q := k H3 (s2.trans s3);unfold clQ at q;rw [zgX hj e, Bool.false_and] at q;exact q
  refine ⟨nmQ cs[j].1, rfl, ?_⟩;cases c1 : nmQ cs[j].1 with
  | false => rw [if_pos rfl]; exact stop (by unfold prQ; rw [c1]; rfl)
  | true =>
   rw [if_neg (fun z => nomatch z)];show if thQ n cs[j].2 = false then _ else _;cases c2 : thQ n cs[j].2 with
   | false => rw [if_pos rfl]; exact stop (by unfold prQ; rw [c1, c2]; rfl)
   | true =>
    rw [if_neg (fun z => nomatch z)];exact ⟨s2.trans s3, ⟨_, _, rfl⟩, zgW hj hall (by unfold prQ; rw [c1, c2]; rfl)⟩
 ·obtain ⟨s2, ⟨u2, u3, rfl⟩, hall⟩ := hv;rw [hlx, List.take_length] at hall;walk_at "";refine .inr ⟨⟨_, s2.seqT hA⟩, zci (xs := xs) (fun i acc H5 => H5 = H2 /\ acc = ((cs.take i).map (·.1)).map V.str) ⟨rfl, rfl⟩ (fun i acc H5 _ hv => hv.1 ▸ s2.seqT hA) (fun j x acc H5 hx' hv => ?_) fun acc H5 hv p hp => ?_⟩
  ·obtain ⟨rfl, rfl⟩ := hv;have hj : j < cs.length := by have := (yag.mp hx').1; omega
   have hd := (hX.2 j (rowD false (prR cs[j])) x (by simp [hj]) hx').same s2;obtain ⟨q, x1, x2, rfl, hq, e1, e2⟩ := RepD.two hd;cases e1;refine ⟨zaF (by simp; omega), ?_⟩;walk_at "T";walk_at "";refine ⟨_, .inr hq, _, i0, trivial, ?_⟩;rw [List.take_succ_eq_append_getElem hj, ya0, ya0]; rfl
  ·obtain ⟨rfl, rfl⟩ := hv;rw [hlx, List.take_length];walk_at "t";refine ⟨p, _, _, rfl, .inl (SqL.of zac), KeyRow.txts (cs.map (·.1)), by simp; omega, fun H6 s6 => ?_⟩;have q := k H6 ((s2.trans (zab hp _)).trans s6);unfold clQ at q;rw [hall, Bool.true_and] at q;rw [List.map_map];exact q
def zoT (K : W.Frag) : Sp := fun vs H Q _ => ∃ (a : Addr) (xs : List V) (fs : List Rw) (n : Int), vs = [.ref a, .int n] /\ SqT K H a xs /\ RepX K H (fs.map (rowD true)) xs /\ xs.length <= 400 /\ (∀ p ∈ fs, p.1.length <= 1000 /\ p.2.length <= 1000) /\ ∀ H', Same H H' -> Q (.bl (fsQ n fs)) H'
theorem RepD.intsT {K : W.Frag} {H : Hp} {l : List Int} {v : V} (h : RepD K H (.tup (l.map .int)) v) : ∃ a, v = .ref a /\ SqT K H a (l.map V.int) := by
 obtain ⟨a, xs, rfl, hs, hx⟩ := RepD.toT h;refine ⟨a, rfl, ?_⟩;have : xs = l.map V.int := by
  apply List.ext_getElem?;intro j;rw [yav];have hl : l.length = xs.length := by have := hx.1; simpa using this
  by_cases c : j < l.length
  ·have h1 := hx.2 j (.int l[j]) (xs[j]'ω) (by simp [c]) (yal ω);rw [yal (by omega : j < xs.length), yal c];have : ∀ {i : Int} {v : V}, RepD K H (.int i) v -> v = .int i := fun h => by cases h; rfl
   rw [this h1]; rfl
  ·rw [List.getElem?_eq_none ω, List.getElem?_eq_none ω]; rfl
 rw [<- this]; exact hs
theorem zf9 (T : Tx K mg D) : FnOk P w K mg Qd CX0 4 D.a_a8 D.d_a8 ["facts", "size"] (zoT K) := by
 have G_c2 := @zml P w _ _ Qd _ T;have G_b8 := @zdC P w _ _ Qd _ T;have G_c9 := @zgV P w _ _ Qd _ T;refine T.F_a8.ok sc_a8 (fun vs H Q E h => ?_) (fun cdv A outer s H vs Q E hr h => ?_)
 ·obtain ⟨a, xs, cs, n, rfl, _⟩ := h; rfl
 obtain ⟨a, xs, fs, n, rfl, hA, hX, hx, hn, k⟩ := h;have hu := hr.units;have hr_c2 : Room 3 _ := hr.mono δ;have hr_b8 : Room 1 _ := hr.mono δ;have hr_c9 : Room 1 _ := hr.mono δ;have hlx : xs.length = fs.length := by have := hX.1; simpa using this.symm
 refine ⟨_, (zag (zb6 PassesOwn.never ρ (zaY K (pv 0)) (zhN ρ (zcf (zar (i := 2) sc_a8.nd ρ (by walk_at "o")) (zcf (zar (i := 3) sc_a8.nd ρ (by walk_at "o")) zfF)))
   (zag (zbv (PW.pt (zfE (zeD (zdO (YC G_c2 hr_c2 ρ T.m_c2 (zaa (pv 2) zae)))) (zeB (zaq zhW (zaz (zaX K) ρ T.z_len yap (zaa (pv 3) zae)) (T.g_MOST_THINGS_OF_A_FACT ρ) (za2 _))))) (zah (zap zhb)) zaG)
  (zah (zbv (zeD (zdO (zaz (zdm K ρ) ρ T.z_all ρ (zaa (zbg 1 [1] ["thing", "size"] ⟨ρ,ρ,ρ,ρ,ρ,ρ,ρ⟩ ρ (zaY K (pv 3)) (fun _ _ _ _ => zar (i := 0) (show List.Nodup (["thing", "size"] : List Str) by decide +kernel) ρ (Or.inl ρ) (Or.inr ρ)) (za1 δ) (fun _ _ _ _ => zbH) (fun _ _ _ _ => (YC G_b8 hr_b8 ρ T.m_b8 (zaa (pv 0) (zaa (pv 1) zae))))) zae)))) (zah (zap zhb)) zaG))))
  (zah (zap (YC G_c9 hr_c9 ρ T.m_c9 (zaa (pv 0) zae))))), ?_⟩
 walk_at "S";walk_at "";refine .inr ⟨⟨_, hA⟩, zbx (xs := xs) (fun i σ H2 => Same H H2 /\ (∃ u2 u3, σ = [some (.ref a), some (.int n), u2, u3]) /\ (fs.take i).all (ftQ n) = true) ⟨Same.refl _, ⟨_, _, rfl⟩, rfl⟩ (fun i σ H2 _ hv => hv.1.seqT hA) (fun j x σ H2 hx' hv => ?_) fun σ H2 hv => ?_⟩
 ·obtain ⟨s2, ⟨u2, u3, rfl⟩, hall⟩ := hv;have hj : j < fs.length := by have := (yag.mp hx').1; omega
  have hd := (hX.2 j (rowD true fs[j]) x (by simp [hj]) hx').same s2;obtain ⟨q, x1, x2, rfl, hq, e1, e2⟩ := RepD.two hd;cases e1;obtain ⟨b, rfl, hb⟩ := RepD.intsT e2;walk_at "";refine ⟨_, hq, rfl, ?_⟩;walk_at "";obtain ⟨hn1, hn2⟩ := hn _ (List.getElem_mem hj);refine ⟨_, rfl, hn1, fun H3 s3 => ?_⟩;have stop : ∀ H4, Same H3 H4 -> ftQ n fs[j] = false -> Q (.bl false) H4 := fun H4 s4 e => by
   have q := k H4 ((s2.trans s3).trans s4);unfold fsQ at q;rw [zgX hj e, Bool.false_and] at q;exact q
  refine ⟨nmQ fs[j].1, rfl, ?_⟩;cases c1 : nmQ fs[j].1 with
  | false => rw [if_pos rfl]; exact stop _ (Same.refl _) (by unfold ftQ; rw [c1]; rfl)
  | true =>
   rw [if_neg (fun z => nomatch z)];walk_at "t";refine ⟨_, .inr (s3.seqT hb), ?_⟩;walk_at "t";rw [yaf]
   by_cases c2 : (3 : Int) < fs[j].2.length
   ·rw [if_pos c2];exact stop _ (Same.refl _) (by unfold ftQ; rw [ya8 (show ¬ fs[j].2.length <= 3 by omega)]; simp)
   rw [if_neg c2];refine .inr ⟨⟨_, s3.seqT hb⟩, zci (xs := fs[j].2.map V.int) (fun i acc H5 => H5 = H3 /\ acc = ((fs[j].2.take i).map (thQ n)).map V.bl) ⟨rfl, rfl⟩ (fun i acc H5 _ hv => hv.1 ▸ s3.seqT hb) (fun i x acc H5 hx'' hv => ?_) fun acc H5 hv p hp => ?_⟩
   ·obtain ⟨rfl, rfl⟩ := hv;have hi : i < fs[j].2.length := by have := (yag.mp hx'').1; simpa using this
    have ex : x = .int fs[j].2[i] := by
     rw [yav, yal hi] at hx'';cases hx''; rfl
    subst ex;refine ⟨zaF (by simp; omega), ?_⟩;walk_at "T";walk_at "";refine ⟨trivial, ?_⟩;rw [List.take_succ_eq_append_getElem hi, ya0, ya0]; rfl
   ·obtain ⟨rfl, rfl⟩ := hv;walk_at "t";rw [yaf, List.take_length];refine ⟨fs[j].2.map (thQ n), SqL.of zac, ?_⟩;rw [show (fs[j].2.map (thQ n)).all id = fs[j].2.all (thQ n) by rw [List.all_map]; rfl];cases c3 : fs[j].2.all (thQ n) with
    | false => rw [if_pos rfl]; exact stop _ (zab hp _) (by unfold ftQ; rw [c3]; simp)
    | true =>
     rw [if_neg (fun z => nomatch z)];exact ⟨(s2.trans s3).trans (zab hp _), ⟨_, _, rfl⟩, zgW hj hall (by unfold ftQ; rw [c1, c3, ya9 (show fs[j].2.length <= 3 by omega)]; rfl)⟩
 ·obtain ⟨s2, ⟨u2, u3, rfl⟩, hall⟩ := hv;rw [hlx, List.take_length] at hall;walk_at "";refine ⟨a, xs, _, rfl, .inr (s2.seqT hA), (KeyRow.facts (hX.same s2)),ω, fun H6 s6 => ?_⟩;have q := k H6 (s2.trans s6);unfold fsQ at q;rw [hall, Bool.true_and] at q;exact q
structure Bnd (W : Wd) : Prop where
 c : W.cs.length <= 400
 f : W.fs.length <= 400
 nc : ∀ p ∈ W.cs, p.1.length <= 1000
 nf : ∀ p ∈ W.fs, p.1.length <= 1000 /\ p.2.length <= 1000
def zod (K : W.Frag) : Sp := fun vs H Q _ => ∃ (r c f : Addr) (W : Wd) (xs ys : List V), vs = [.ref r] /\ RepW K H W r c f xs ys /\ Bnd W /\ ∀ H', Same H H' -> Q (.bl (fitQ W)) H'
theorem zfA (T : Tx K mg D) : FnOk P w K mg Qd CX0 5 D.a_a6 D.d_a6 ["world"] (zod K) := by
 have G_a5 := @ze7 P w _ _ Qd _ T;have G_a8 := @zf9 P w _ _ Qd _ T;refine T.F_a6.ok sc_a6 (fun vs H Q E h => ?_) (fun cdv A outer s H vs Q E hr h => ?_)
 ·obtain ⟨r, c, f, W, xs, ys, rfl, _⟩ := h; rfl
 obtain ⟨r, c, f, W, xs, ys, rfl, hW, hB, k⟩ := h;have hu := hr.units;have hr_a5 : Room 3 _ := hr.mono δ;have hr_a8 : Room 4 _ := hr.mono δ;have lx : xs.length = W.cs.length := by have := hW.rc.1; simpa using this.symm
 have ly : ys.length = W.fs.length := by have := hW.rf.1; simpa using this.symm
 have b1 := hB.c;have b2 := hB.f;refine ⟨_, (zag (zau (i := 1) sc_a6.nd ρ (by walk_at "o") (za5 (ixA K) (pv 0) zaf (fun _ _ => rfl)))
  (zah (zap (zdg (zbF zoo (pv 1) zaf (za2 _)) (zdg (YC G_a5 hr_a5 ρ T.m_a5 (zaa (za5 (ixA K) (pv 0) zaf (fun _ _ => rfl)) (zaa (pv 1) zae))) (zeE (YC G_a8 hr_a8 ρ T.m_a8 (zaa (za5 (ixA K) (pv 0) zaf (fun _ _ => rfl)) (zaa (pv 1) zae))))))))), ?_⟩
 walk_at "S";walk_at "";refine ⟨_, .inr hW.top, _, i0, ?_⟩;walk_at ""
 by_cases c0 : 1 <= W.size
 ·rw [if_pos c0];refine ⟨_, .inr hW.top, _, i1, c, xs, W.cs, W.size, rfl, hW.called, hW.rc,ω, hB.nc, fun H1 s1 => ?_⟩;walk_at "t";cases c1 : clQ W.size W.cs with
  | false =>
   rw [if_neg (fun z => nomatch z)];have q := k H1 s1;unfold fitQ at q;rw [c1, Bool.and_false, Bool.false_and] at q;exact q
  | true =>
   rw [if_pos rfl];refine ⟨_, .inr (s1.seqT hW.top), _, i2, f, ys, W.fs, W.size, rfl, s1.seqT hW.facts, hW.rf.same s1,ω, hB.nf, fun H2 s2 => ?_⟩;have q := k H2 (s1.trans s2);unfold fitQ at q;rw [c1, ya9 c0, Bool.true_and, Bool.true_and] at q;exact q
 ·rw [if_neg c0];have q := k H (Same.refl _);unfold fitQ at q;rw [ya8 c0, Bool.false_and, Bool.false_and] at q;exact q
def zk5 (K : W.Frag) (d : Nat) : Sp := fun vs H Q _ => ∃ v S, vs = [v] /\ RepS K H S v /\ SZ S /\ S.deep <= d /\ S.size <= 100 /\ ∀ (p : Addr) (ts : List Str) H', Same H H' -> H' p = some (.lst (ts.map V.str)) -> ts.Nodup -> (∀ x, x ∈ ts ↔ x ∈ S.tms /\ Nm smallS x) -> ts.length <= S.tms.length -> Q (.ref p) H'
theorem zmp {t : Str} (ht : tz t) (hl0 : 0 < t.cps.toList.length) : inS ⟨#[t.cps.toList[0]]⟩ "XYZ" = true ↔ ¬ Nm smallS t := by
 rw [zdp, decide_eq_true_eq, show (Str.ofString "XYZ").cps.toList = [88, 89, 90] from rfl];have key : Nm smallS t -> t.cps.toList[0] ∉ [88, 89, 90] := fun hn hx => by
  obtain ⟨c, r, ec, hc, _⟩ := hn;have e0 : t.cps.toList[0] = c := by simp [ec]
  rw [e0] at hx;have all : ∀ c ∈ smallS.cps.toList, c ∉ [88, 89, 90] := by decide +kernel
  exact all c hc hx
 constructor
 ·exact fun hx hn => key hn hx
 ·intro hn;rcases ht with h | ⟨c, r, ec, hc, _⟩
  ·exact absurd h hn
  ·have e0 : t.cps.toList[0] = c := by simp [ec]
   rw [e0];simpa using hc
theorem zbK (t : Str) : ∀ us : List Str, inV (V.str t) (us.map V.str) = decide (t ∈ us)
 | [] => by simp [inV]
 | u :: us => by
  have ih := zbK t us;unfold inV at ih ⊢;rw [List.map_cons, List.any_cons, ih]
  by_cases e : t = u
  ·subst e; simp [eqV]
  ·have e' : ¬ u = t := fun z => e z.symm;simp [eqV, e, e']
theorem zbQ : ∀ us : List Str, (us.map V.str).all zbG = true
 | [] => rfl
 | u :: us => by rw [List.map_cons, List.all_cons, zbQ us]; rfl
theorem zoe {H H2 : Hp} {S : Stm} {a p : Addr} {R : It -> Hp -> Prop} (rS : RepS K H S (.ref a)) (s2 : Same H H2) (c1 : S.tag ≠ "is") (h : ∀ q H1 xs, Same H2 H1 -> SqT K H1 q xs -> RepL K H1 S.parts xs -> R (Itt K q) H1) :
  iAny K (tSl (rSlB K) (tVar 0) (zlh (tOp (zgh K) (tC (V.int 1)) (tCB zg3 (zlg (tOrV (tOp (rEqC K) (tOp (rIx K) (tVar 0) (tC (V.int 0))) (tC (V.str (Str.ofString "all")))) (tOp (rEqC K) (tOp (rIx K) (tVar 0) (tC (V.int 0))) (tC (V.str (Str.ofString "some"))))) tNil)))) zfG) [some (.ref a), some (.ref p), none, none] H2 R := by
 walk_at "";cases S with
 | is x ts => exact absurd rfl c1
 | fls =>
  obtain ⟨a', e', h2⟩ := rS;cases e';refine ⟨_, .inr (s2.seqT h2), _, i0, ?_⟩;walk_at "";rw [if_neg (by decide +kernel)];refine ⟨_, .inr (s2.seqT h2), _, i0, ?_⟩;walk_at "";rw [if_neg (by decide +kernel), Int.add_zero];refine ⟨_, .inr ⟨s2.seqT h2, fun q H' s' hq => ?_⟩⟩;rw [zdd] at hq;exact .inr ⟨⟨_, hq⟩, h q H' _ s' hq .nil⟩
 | neg B =>
  obtain ⟨a', u, e', h2, h3⟩ := rS;cases e';refine ⟨_, .inr (s2.seqT h2), _, i0, ?_⟩;walk_at "";rw [if_neg (show ¬ ("not" : Str) = "all" by decide +kernel)];refine ⟨_, .inr (s2.seqT h2), _, i0, ?_⟩;walk_at "";rw [if_neg (show ¬ ("not" : Str) = "some" by decide +kernel), Int.add_zero];refine ⟨_, .inr ⟨s2.seqT h2, fun q H' s' hq => ?_⟩⟩;rw [zdd] at hq;exact .inr ⟨⟨_, hq⟩, h q H' _ s' hq (.cons (h3.same (s2.trans s')) .nil)⟩
 | bi o B C =>
  obtain ⟨a', u, u', e', h2, h3, h4⟩ := rS;cases e';refine ⟨_, .inr (s2.seqT h2), _, i0, ?_⟩;walk_at "";rw [if_neg (zkB o)];refine ⟨_, .inr (s2.seqT h2), _, i0, ?_⟩;walk_at "";rw [if_neg (ziw o), Int.add_zero];refine ⟨_, .inr ⟨s2.seqT h2, fun q H' s' hq => ?_⟩⟩;rw [zdd] at hq;exact .inr ⟨⟨_, hq⟩, h q H' _ s' hq (.cons (h3.same (s2.trans s')) (.cons (h4.same (s2.trans s')) .nil))⟩
 | qu qq X B =>
  obtain ⟨a', u, e', h2, h3⟩ := rS;cases e';have ec : cutV [V.str (qtx qq), V.str X, u] (some (1 + 1)) none = [u] := rfl;refine ⟨_, .inr (s2.seqT h2), _, i0, ?_⟩;walk_at "";cases qq with
  | true =>
   rw [if_pos (show qtx true = Str.ofString "all" from rfl)];refine ⟨_, .inr ⟨s2.seqT h2, fun q H' s' hq => ?_⟩⟩;rw [ec] at hq;exact .inr ⟨⟨_, hq⟩, h q H' _ s' hq (.cons (h3.same (s2.trans s')) .nil)⟩
  | false =>
   rw [if_neg (by decide +kernel)];refine ⟨_, .inr (s2.seqT h2), _, i0, ?_⟩;walk_at "";rw [if_pos (show qtx false = Str.ofString "some" from rfl)];refine ⟨_, .inr ⟨s2.seqT h2, fun q H' s' hq => ?_⟩⟩;rw [ec] at hq;exact .inr ⟨⟨_, hq⟩, h q H' _ s' hq (.cons (h3.same (s2.trans s')) .nil)⟩
theorem zee (T : Tx K mg D) : ∀ d : Nat, FnOk P w K mg Qd CX0 (d + 1) D.a_c0 D.d_c0 ["_law_ka"] (zk5 K d)
 | 0 => by
  refine T.F_c0.ok sc_c0 (fun vs H Q E h => ?_) (fun cdv A outer s H vs Q E hr h => ?_)
  ·obtain ⟨v, S, rfl, _⟩ := h; rfl
  ·obtain ⟨v, S, rfl, _, _, h, _⟩ := h;have := S.deep_pos;omega
 | d + 1 => by
  have G_c0 := zee T d;refine T.F_c0.ok sc_c0 (fun vs H Q E h => ?_) (fun cdv A outer s H vs Q E hr h => ?_)
  ·obtain ⟨v, S, rfl, _⟩ := h; rfl
  obtain ⟨v, S, rfl, rS, hSW, hd, hz, k⟩ := h;have hu := hr.units;have hr_c0 : Room (d + 1) _ := hr;refine ⟨_, (zag (zbv (zaq (zbj K hu) (za5 (ixA K) (pv 0) zaf (fun _ _ => rfl)) zat (za2 _)) (zag (zau (i := 1) sc_c0.nd ρ (by walk_at "o") (zaW zae))
  (zag (zb6 PassesOwn.never ρ (zaY K (za5 (ixA K) (pv 0) zaf (fun _ _ => rfl))) (zar (i := 2) sc_c0.nd ρ (by walk_at "o"))
   (zah (zbv (PW.pt (zeC (zaq (zbW K) (za5 (ixA K) (pv 2) zaf (fun _ _ => rfl)) zat ρ) (zdf (zaq (zbW K) (pv 2) (pv 1) ρ)))) (zah (zbU (zcy K yar PySem.F.slot_list_append yaw zb4 (pv 1) (zaa (pv 2) zae)))) zaG)))
  (zah (zap (pv 1))))) zaG)
  (zag (zau (i := 1) sc_c0.nd ρ (by walk_at "o") (zaW zae))
  (zag (zb6 PassesOwn.never ρ (zaY K (zbf (slB K) (pv 0) (zbs (zan (za9 K) zaf (zax zeT ρ T.z_int ρ (zaa (zoj (zbF (zbj K hu) (za5 (ixA K) (pv 0) zaf (fun _ _ => rfl)) zat (za2 _)) (zeE (zbF (zbj K hu) (za5 (ixA K) (pv 0) zaf (fun _ _ => rfl)) zat (za2 _)))) zae)))) zb7)) (zar (i := 3) sc_c0.nd ρ (by walk_at "o"))
   (zah (zau (i := 1) sc_c0.nd ρ (by walk_at "o") (zan (za9 K) (pv 1) (zbg 1 [1] ["_law_name", "_law_found"] ⟨ρ,ρ,ρ,ρ,ρ,ρ,ρ⟩ ρ (zaY K (YC G_c0 hr_c0 ρ T.m_c0 (zaa (pv 3) zae))) (fun _ _ _ _ => zar (i := 0) (show List.Nodup (["_law_name", "_law_found"] : List Str) by decide +kernel) ρ (Or.inl ρ) (Or.inr ρ)) (za1 δ) (fun _ _ _ _ => zco (zaq (zbW K) (pv 0) (pv 1) ρ)) (fun _ _ _ _ => (pv 0)))))))
  (zah (zap (pv 1)))))), ?_⟩
  walk_at "S";obtain ⟨a, xs0, ev, h2⟩ := rS.tag;subst ev;refine zct (c := S.tag = "is") (fun Qb q => ?_) (fun c1 => ?_) fun c1 => ?_
  ·walk_at "";exact ⟨_, .inr h2, _, i0, by rw [zgJ]; exact ⟨_, rfl, q⟩⟩
  ·cases S with
   | is x ts =>
    obtain ⟨a', b, e', h2', h3⟩ := rS;cases e';walk_at "";refine ⟨yaq _, fun p hp => ⟨_, .inr ((zab hp _).seqT h2'), _, i2, ?_⟩⟩;walk_at "";refine .inr ⟨⟨_, (zab hp _).seqT h3⟩, zbx (xs := ts.map V.str) (fun i σ H2 => Same H H2 /\ ∃ (us : List Str) (u2 : Option V), H2 p = some (.lst (us.map V.str)) /\ us.Nodup /\ (∀ x, x ∈ us ↔ x ∈ ts.take i /\ Nm smallS x) /\ us.length <= i /\ σ = [some (.ref a), some (.ref p), u2, none]) ⟨zab hp _, [], _, zac, List.nodup_nil, fun x => by simp, yai _, rfl⟩ (fun i σ H2 _ hv => hv.1.seqT h3) (fun i y σ H2 hy hv => ?_) fun σ H2 hv => ?_⟩
    ·obtain ⟨s2, us, u2, hp2, und, umem, ulen, rfl⟩ := hv;rw [yav] at hy;obtain ⟨t, et, rfl⟩ := Option.map_eq_some_iff.mp hy;obtain ⟨hi, eg⟩ := yag.mp et;have htt := hSW.2.2 t (ya1 et);have hl0 : 0 < t.cps.toList.length := by rw [zaM]; exact htt.len.1
     have hx3 := hSW.2.1;walk_at "";refine ⟨zak (by have := htt.len.2; omega), _, zam (j := 0) (yal hl0), ?_⟩;walk_at "t";have hin := zmp htt hl0;have e1 : ts.take (i + 1) = ts.take i ++ [t] := by rw [List.take_succ_eq_append_getElem hi, eg]
     have mem1 : ∀ x, x ∈ ts.take (i + 1) /\ Nm smallS x ↔ (x ∈ ts.take i /\ Nm smallS x) \/ (x = t /\ Nm smallS t) := fun x => by
      rw [e1, yay, yah]
      constructor
      ·rintro ⟨h | rfl, hn⟩
       ·exact .inl ⟨h, hn⟩
       ·exact .inr ⟨rfl, hn⟩
      ·rintro (⟨h, hn⟩ | ⟨rfl, hn⟩)
       ·exact ⟨.inl h, hn⟩
       ·exact ⟨.inr rfl, hn⟩
     refine ite2 (fun cx => ⟨_, .inl (SqL.of hp2), rfl, zbQ us, ite2 (fun cy => ⟨⟨_, SqL.of hp2⟩, _, hp2, zaF (by rw [yaf]; omega), s2.upd hp, us ++ [t], _, by rw [zac]; simp, ?_, fun x => ?_, by rw [yae]; simp only [List.length_singleton]; omega, rfl⟩) fun cy => ⟨s2, us, _, hp2, und, fun x => ?_,ω, rfl⟩⟩) fun cx => ⟨s2, us, _, hp2, und, fun x => ?_,ω, rfl⟩
     ·rw [zbK] at cy;have hnot : t ∉ us := of_decide_eq_false cy;exact List.nodup_append.mpr ⟨und,ς, fun y1 hy1 z1 hz1 e => hnot (by rw [<- yah.mp hz1, <- e]; exact hy1)⟩
     ·have hn : Nm smallS t := yax fun z => by rw [hin.mpr z] at cx; cases cx
      rw [mem1, yay, umem, yah];exact ⟨fun h => h.imp id fun e => ⟨e, hn⟩, fun h => h.imp id fun e => e.1⟩
     ·rw [zbK] at cy;have hyes : t ∈ us := by simpa using cy
      rw [mem1, umem];refine ⟨.inl, fun h => h.elim id fun ⟨e, _⟩ => ?_⟩;rw [e];exact (umem t).mp hyes
     ·have hn : ¬ Nm smallS t := hin.mp (by simpa using cx);rw [mem1, umem];exact ⟨.inl, fun h => h.elim id fun ⟨_, z⟩ => absurd z hn⟩
    ·obtain ⟨s2, us, u2, hp2, und, umem, ulen, rfl⟩ := hv;rw [yaf] at ulen umem;rw [List.take_length] at umem;walk_at "";exact k p us H2 s2 hp2 und umem ulen
   | fls => exact absurd c1 (by decide +kernel)
   | neg B => exact absurd (show ("not" : Str) = "is" from c1) (by decide +kernel)
   | bi o B C => exact absurd c1 (zhn o)
   | qu q X B => exact absurd c1 (zho q)
  ·refine zbI (fun σ' H' => Same H H' /\ ∃ p, H p = none /\ H' p = some (.lst []) /\ σ' = [some (.ref a), some (.ref p), none, none]) (fun N hN => ?_) fun σ' H2 hv => ?_
   ·walk_at "";exact ⟨yaq _, fun p hp => hN _ _ ⟨zab hp _, p, hp, zac, rfl⟩⟩
   obtain ⟨s2, p, hp, hp2, rfl⟩ := hv;rw [zjP, zio];refine zoe rS s2 c1 fun q H1 xs s1 hq hRp => ?_;have hps := zec S;have ept : S.parts.flatMap Stm.tms = S.tms := by
    cases S with
    | is x ts => exact absurd rfl c1
    | fls => rfl
    | neg B => simp [Stm.parts, Stm.tms]
    | bi o B C => simp [Stm.parts, Stm.tms]
    | qu q X B => simp [Stm.parts, Stm.tms]
   refine zbx (xs := xs) (fun i σ H3 => Same H1 H3 /\ ∃ (p3 : Addr) (us : List Str) (u3 : Option V), H3 p3 = some (.lst (us.map V.str)) /\ us.Nodup /\ (∀ x, x ∈ us ↔ x ∈ (S.parts.take i).flatMap Stm.tms /\ Nm smallS x) /\ us.length <= ((S.parts.take i).flatMap Stm.tms).length /\ σ = [some (.ref a), some (.ref p3), none, u3]) ⟨Same.refl _, p, [], _, s1 _ _ hp2, List.nodup_nil, fun x => by simp, yai _, rfl⟩ (fun i σ H3 _ hv => hv.1.seqT hq) (fun i x σ H3 hx hv => ?_) fun σ H3 hv => ?_
   ·obtain ⟨s3, p3, us, u3, hp3, und, umem, ulen, rfl⟩ := hv;obtain ⟨B, hB, rB⟩ := RepL.get hRp hx;have hBm : B ∈ S.parts := ya1 hB;have hBd := zeU hB;walk_at "";have hBz : B.size <= S.size := by
     have key : ∀ {l : List Stm}, B ∈ l -> B.size <= (l.map Stm.size).sum := by
      intro l
      induction l with
      | nil => intro h; simp at h
      | cons A l ih =>
       intro h;rw [List.map_cons, List.sum_cons];rcases yau.mp h with rfl | h
       ·omega
       ·have := ih h; omega
     have := key hBm;omega
    refine ⟨x, B, rfl, rB.same s3, hSW.part hBm,ω,ω, fun p4 vs H4 s4 hp4 vnd vmem vlen => ?_⟩;walk_at "";refine .inl ⟨⟨_, SqL.of hp4⟩, zbV (xs := vs.map V.str) (fun j acc H5 => H5 = H4 /\ acc = ((vs.take j).filter fun y => !decide (y ∈ us)).map V.str) ⟨rfl, rfl⟩ (fun j acc H5 _ hv => hv.1 ▸ SqL.of hp4) (fun j y acc H5 hy hv => ?_) fun acc H5 hv p5 hp5 => ?_⟩
    ·obtain ⟨rfl, rfl⟩ := hv;rw [yav] at hy;obtain ⟨y', ey, rfl⟩ := Option.map_eq_some_iff.mp hy;obtain ⟨hj, eg⟩ := yag.mp ey;have htm := zbu hSW.ok (by omega : S.size <= 500);have hBt : B.tms.length <= 800 := zbu (hSW.part hBm).ok ω;refine ⟨zaF (by rw [yaf]; exact yat (List.length_filter_le _ _) (by rw [ya3]; omega)), ?_⟩;walk_at "T";walk_at "";refine ⟨_, .inl (SqL.of (s4 _ _ hp3)), rfl, zbQ us, ?_⟩;rw [List.take_succ_eq_append_getElem hj, eg, List.filter_append, zbK];refine ite2 (fun c => ⟨trivial, ?_⟩) fun c => ⟨trivial, ?_⟩
     ·rw [List.filter_cons_of_pos (by rw [c]; rfl), ya0]; rfl
     ·rw [List.filter_cons_of_neg (by simpa using c)]; simp
    ·obtain ⟨rfl, rfl⟩ := hv;rw [yaf, List.take_length];walk_at "";have hBt : B.tms.length <= 800 := zbu (hSW.part hBm).ok ω;have hfl := List.length_filter_le (fun y => !decide (y ∈ us)) vs;have eT : (S.parts.take (i + 1)).flatMap Stm.tms = (S.parts.take i).flatMap Stm.tms ++ B.tms := by
      obtain ⟨hi, eg⟩ := yag.mp hB;rw [List.take_succ_eq_append_getElem hi, eg, List.flatMap_append];simp
     refine ⟨_, _, .inl ⟨(zab hp5 _) _ _ (s4 _ _ hp3), zac, zak ?_, fun r hr' => ⟨((s3.trans s4).trans (zab hp5 _)).trans (zab hr' _), r, us ++ vs.filter (fun y => !decide (y ∈ us)), _, by rw [zac, ya0], ?_, fun x => ?_, ?_, rfl⟩⟩⟩
     ·have h1 : ((S.parts.take i).flatMap Stm.tms).length <= S.tms.length := by
       rw [<- ept]
       conv => rhs; rw [<- List.take_append_drop i S.parts]
       rw [List.flatMap_append, yae];omega
      have h2 := zbu hSW.ok (by omega : S.size <= 500);rw [yaf, yaf];omega
     ·refine List.nodup_append.mpr ⟨und, vnd.filter _, fun y hy z hz e => ?_⟩;subst e;have := (List.mem_filter.mp hz).2;rw [ya9 hy] at this;cases this
     ·rw [eT, yay, umem, List.mem_filter, vmem, yay]
      constructor
      ·rintro (⟨h, hn⟩ | ⟨⟨h, hn⟩, _⟩)
       ·exact ⟨.inl h, hn⟩
       ·exact ⟨.inr h, hn⟩
      ·rintro ⟨h | h, hn⟩
       ·exact .inl ⟨h, hn⟩
       ·by_cases c : x ∈ us
        ·exact .inl ((umem x).mp c)
        ·exact .inr ⟨⟨h, hn⟩, by simpa using c⟩
     ·rw [eT, yae, yae];omega
   ·obtain ⟨s3, p3, us, u3, hp3, und, umem, ulen, rfl⟩ := hv;have hxl := Paired.length hRp;rw [<- hxl, List.take_of_length_le (yai _)] at umem ulen;rw [ept] at umem ulen;walk_at "";exact k p3 us H3 ((s2.trans s1).trans s3) hp3 und umem ulen
theorem SZ.tms : ∀ {S : Stm}, SZ S -> ∀ t ∈ S.tms, tz t
 | .is w ts, h, t, ht => h.2.2 t ht
 | .fls, _, t, ht => by simp [Stm.tms] at ht
 | .neg A, h, t, ht => SZ.tms (S := A) h t ht
 | .bi _ A B, h, t, ht => (yay.mp ht).elim (SZ.tms (S := A) h.1 t) (SZ.tms (S := B) h.2 t)
 | .qu _ X A, h, t, ht => SZ.tms (S := A) h.2 t ht
theorem zgY {t : Str} (h : tz t) : isNm t = true ↔ Nm smallS t := by
 constructor
 ·intro hb;rcases h with h | ⟨c, r, e, hc, _, _⟩
  ·exact h
  ·exfalso
   unfold isNm base at hb;rw [e] at hb;have e0 : inS ⟨#[(c :: r).headD 0]⟩ "abcdefghijklmnopqrstuvwxyz" = false := by
    rcases hc with rfl | rfl | rfl <;> (rw [List.headD_cons, zdp]; decide +kernel)
   rw [e0] at hb
   split at hb
   ·cases hb
   ·split at hb
    ·cases hb
    ·cases hb
 ·intro hn;have h1 : base t "abcdefghijklmnopqrstuvwxyz" = true := zgs hn;unfold isNm;rw [h1, zgt hn]; rfl
theorem zgZ {Ss : List Stm} (hO : ∀ S ∈ Ss, StZ S) {x : Str} : x ∈ nmsT Ss ↔ x ∈ Ss.flatMap Stm.tms /\ Nm smallS x := by
 unfold nmsT;rw [List.mem_flatMap, List.mem_flatMap]
 constructor
 ·rintro ⟨S, hS, hx⟩
  obtain ⟨h1, h2⟩ := List.mem_filter.mp hx;exact ⟨⟨S, hS, h1⟩, (zgY ((hO S hS).sz.tms x h1)).mp h2⟩
 ·rintro ⟨⟨S, hS, h1⟩, h2⟩
  exact ⟨S, hS, List.mem_filter.mpr ⟨h1, (zgY ((hO S hS).sz.tms x h1)).mpr h2⟩⟩
def zof (K : W.Frag) : Sp := fun vs H Q _ => ∃ (a : Addr) (us : List V) (Ss : List Stm), vs = [.ref a] /\ SqT K H a us /\ RepL K H Ss us /\ zc9 Ss /\ ∀ (p : Addr) (ts : List Str) H', Same H H' -> H' p = some (.lst (ts.map V.str)) -> ts.Nodup -> (∀ x, x ∈ ts ↔ x ∈ nmsT Ss) -> ts.length <= 400 -> Q (.ref p) H'
theorem ze8 (T : Tx K mg D) : FnOk P w K mg Qd CX0 42 D.a_a4 D.d_a4 ["_law_statements"] (zof K) := by
 have G_c0 := zee (P := P) (w := w) (Qd := Qd) T 40;refine T.F_a4.ok sc_a4 (fun vs H Q E h => ?_) (fun cdv A outer s H vs Q E hr h => ?_)
 ·obtain ⟨a, us, Ss, rfl, _⟩ := h; rfl
 obtain ⟨a, us, Ss, rfl, hA, hR, hO, k⟩ := h;have hu := hr.units;have hr_c0 : Room 41 _ := hr.mono δ;refine ⟨_, (zag (zau (i := 1) sc_a4.nd ρ (by walk_at "o") (zaW zae))
  (zag (zb6 PassesOwn.never ρ (zaY K (pv 0)) (zar (i := 2) sc_a4.nd ρ (by walk_at "o"))
   (zah (zau (i := 1) sc_a4.nd ρ (by walk_at "o") (zan (za9 K) (pv 1) (zbg 1 [1] ["_law_name", "_law_found"] ⟨ρ,ρ,ρ,ρ,ρ,ρ,ρ⟩ ρ (zaY K (YC G_c0 hr_c0 ρ T.m_c0 (zaa (pv 2) zae))) (fun _ _ _ _ => zar (i := 0) (show List.Nodup (["_law_name", "_law_found"] : List Str) by decide +kernel) ρ (Or.inl ρ) (Or.inr ρ)) (za1 δ) (fun _ _ _ _ => zco (zaq (zbW K) (pv 0) (pv 1) ρ)) (fun _ _ _ _ => (pv 0)))))))
  (zah (zap (pv 1))))), ?_⟩
 walk_at "S";walk_at "";have Qe : us.length = Ss.length := (Paired.length hR).symm;refine ⟨yaq _, fun p hp => .inr ⟨⟨_, (zab hp _).seqT hA⟩, ?_⟩⟩;refine zbx (xs := us) (fun i σ H3 => Same H H3 /\ ∃ (p3 : Addr) (us : List Str) (u3 : Option V), H3 p3 = some (.lst (us.map V.str)) /\ us.Nodup /\ (∀ x, x ∈ us ↔ x ∈ (Ss.take i).flatMap Stm.tms /\ Nm smallS x) /\ us.length <= ((Ss.take i).map fun S => S.tms.length).sum /\ σ = [some (.ref a), some (.ref p3), u3]) ⟨zab hp _, p, [], _, zac, List.nodup_nil, fun x => by simp, yaq _, rfl⟩ (fun i σ H3 _ hv => hv.1.seqT hA) (fun i x σ H3 hx hv => ?_) fun σ H3 hv => ?_
 ·obtain ⟨s3, p3, us3, u3, hp3, und, umem, ulen, rfl⟩ := hv;obtain ⟨B, hB, rB⟩ := RepL.get hR hx;have oB := hO.ok B (ya1 hB);have hBz : B.size <= 100 := by have := oB.zz; omega
  walk_at "";refine ⟨x, B, rfl, rB.same s3, oB.sz, oB.dp, hBz, fun p4 vs H4 s4 hp4 vnd vmem vlen => ?_⟩;walk_at "";have htm := hO.tm;have hBt : B.tms.length <= 800 := zbu oB.sz.ok ω;have hul : us3.length <= 400 := by
   have h2 : ((Ss.take i).map fun S => S.tms.length).sum <= (Ss.map fun S => S.tms.length).sum := by
    conv => rhs; rw [<- List.take_append_drop i Ss]
    rw [ya0, List.sum_append];omega
   omega
  refine .inl ⟨⟨_, SqL.of hp4⟩, zbV (xs := vs.map V.str) (fun j acc H5 => H5 = H4 /\ acc = ((vs.take j).filter fun y => !decide (y ∈ us3)).map V.str) ⟨rfl, rfl⟩ (fun j acc H5 _ hv => hv.1 ▸ SqL.of hp4) (fun j y acc H5 hy hv => ?_) fun acc H5 hv p5 hp5 => ?_⟩
  ·obtain ⟨rfl, rfl⟩ := hv;rw [yav] at hy;obtain ⟨y', ey, rfl⟩ := Option.map_eq_some_iff.mp hy;obtain ⟨hj, eg⟩ := yag.mp ey;refine ⟨zaF (by rw [yaf]; exact yat (List.length_filter_le _ _) (by rw [ya3]; omega)), ?_⟩;walk_at "T";walk_at "";refine ⟨_, .inl (SqL.of (s4 _ _ hp3)), rfl, zbQ us3, ?_⟩;rw [List.take_succ_eq_append_getElem hj, eg, List.filter_append, zbK];refine ite2 (fun c => ⟨trivial, ?_⟩) fun c => ⟨trivial, ?_⟩
   ·rw [List.filter_cons_of_pos (by rw [c]; rfl), ya0]; rfl
   ·rw [List.filter_cons_of_neg (by simpa using c)]; simp
  ·obtain ⟨rfl, rfl⟩ := hv;rw [yaf, List.take_length];walk_at "";have hfl := List.length_filter_le (fun y => !decide (y ∈ us3)) vs;obtain ⟨hi, eg⟩ := yag.mp hB;have eT : (Ss.take (i + 1)).flatMap Stm.tms = (Ss.take i).flatMap Stm.tms ++ B.tms := by
    rw [List.take_succ_eq_append_getElem hi, eg, List.flatMap_append];simp
   have eN : ((Ss.take (i + 1)).map fun S => S.tms.length).sum = ((Ss.take i).map fun S => S.tms.length).sum + B.tms.length := by
    rw [List.take_succ_eq_append_getElem hi, eg, ya0, List.sum_append];simp
   refine ⟨_, _, .inl ⟨(zab hp5 _) _ _ (s4 _ _ hp3), zac, zak ?_, fun r hr' => ⟨((s3.trans s4).trans (zab hp5 _)).trans (zab hr' _), r, us3 ++ vs.filter (fun y => !decide (y ∈ us3)), _, by rw [zac, ya0], ?_, fun x => ?_, ?_, rfl⟩⟩⟩
   ·rw [yaf, yaf];omega
   ·refine List.nodup_append.mpr ⟨und, vnd.filter _, fun y hy z hz e => ?_⟩;subst e;have := (List.mem_filter.mp hz).2;rw [ya9 hy] at this;cases this
   ·rw [eT, yay, umem, List.mem_filter, vmem, yay]
    constructor
    ·rintro (⟨h, hn⟩ | ⟨⟨h, hn⟩, _⟩)
     ·exact ⟨.inl h, hn⟩
     ·exact ⟨.inr h, hn⟩
    ·rintro ⟨h | h, hn⟩
     ·exact .inl ⟨h, hn⟩
     ·by_cases c : x ∈ us3
      ·exact .inl ((umem x).mp c)
      ·exact .inr ⟨⟨h, hn⟩, by simpa using c⟩
   ·rw [eN, yae];omega
 ·obtain ⟨s3, p3, us3, u3, hp3, und, umem, ulen, rfl⟩ := hv;rw [Qe, List.take_length] at umem ulen;have htm := hO.tm;walk_at "";exact k p3 us3 H3 s3 hp3 und (fun x => by rw [umem, zgZ hO.ok]) ω
theorem zhJ {x y : Rw} (h : rowD true x = rowD true y) : x = y := by
 unfold rowD at h;simp only [Dt.tup.injEq, List.cons.injEq, Dt.str.injEq, and_true] at h;obtain ⟨h1, h2⟩ := h;have h3 : x.2 = y.2 := by
  have key : ∀ {l m : List Int}, l.map Dt.int = m.map Dt.int -> l = m := fun {l m} e => by
   induction l generalizing m with
   | nil => cases m with
    | nil => rfl
    | cons b m => cases e
   | cons a l ih => cases m with
    | nil => cases e
    | cons b m =>
     rw [List.map_cons, List.map_cons, List.cons.injEq] at e;obtain ⟨e1, e2⟩ := e;cases e1;rw [ih e2]
  exact key h2
 exact Prod.ext h1 h3
theorem zdD : ∀ l : List Int, Dt.deps (l.map Dt.int) = 0
 | [] => rfl
 | a :: l => by rw [List.map_cons, Dt.deps, zdD l]; rfl
theorem zj8 (k : Rw) : Dt.dep (rowD true k) <= 2 := by
 unfold rowD;simp only [Dt.dep, Dt.deps, zdD];omega
theorem zdE : ∀ l : List Rw, Dt.deps (l.map (rowD true)) <= 2
 | [] => yaq _
 | a :: l => by
  rw [List.map_cons, Dt.deps];have := zdE l;have := zj8 a;omega
theorem zef {K : W.Frag} {H : Hp} {p : Addr} {ys zs : List V} {k : Rw} {x : V} (h : RepD K H (rowD true k) x) (hp : H p = some (.lst ys)) : RepD K (upd H p (.lst zs)) (rowD true k) x := by
 obtain ⟨q, x1, x2, rfl, hq, e1, e2⟩ := RepD.two h;cases e1;obtain ⟨b, rfl, hb⟩ := RepD.intsT e2;exact RepD.t2 (hq.keepL hp) (.str _) (RepD.ints (hb.keepL hp))
def zk6 (K : W.Frag) : Sp := fun vs H Q _ => ∃ (a b : Addr) (us : List V) (Ss : List Stm), vs = [.ref a, .ref b] /\ SqT K H a us /\ RepL K H Ss us /\ zc9 Ss /\ SqL K H b ((nms Ss).map V.str) /\
 ∀ (p : Addr) (zs : List (V × Rw)) H', Same H H' -> H' p = some (.lst (zs.map (·.1))) -> (∀ z ∈ zs, RepD K H' (rowD true z.2) z.1) -> RisF (zs.map (·.2)) -> (∀ k, k ∈ zs.map (·.2) ↔ k ∈ zaK (nms Ss) Ss) -> zs.length <= 40 -> Q (.ref p) H'
theorem zhK (T : Tx K mg D) : FnOk P w K mg Qd CX0 1 D.a_c3 D.d_c3 ["_law_statements", "_law_names_here"] (zk6 K) := by
 refine T.F_c3.ok sc_c3 (fun vs H Q E h => ?_) (fun cdv A outer s H vs Q E hr h => ?_)
 ·obtain ⟨a, b, us, Ss, rfl, _⟩ := h; rfl
 obtain ⟨a, b, us, Ss, rfl, hA, hR, hO, hB, k⟩ := h;have hu := hr.units;refine ⟨_, (zag (zau (i := 2) sc_c3.nd ρ (by walk_at "o") (zaW zae))
  (zag (zb6 PassesOwn.never ρ (zaY K (pv 0)) (zar (i := 3) sc_c3.nd ρ (by walk_at "o"))
   (zah (zbv (zaq (zbj K hu) (za5 (ixA K) (pv 3) zaf (fun _ _ => rfl)) zat (za2 _)) (zag (zau (i := 4) sc_c3.nd ρ (by walk_at "o") (zbh (zaa (za5 (ixA K) (pv 3) zaf (fun _ _ => rfl)) (zaa (zax (zaJ K) ρ T.z_tuple ρ (zaa (zbg 1 [1] ["_law_name", "_law_names_here"] ⟨ρ,ρ,ρ,ρ,ρ,ρ,ρ⟩ ρ (zaY K (za5 (ixA K) (pv 3) zaf (fun _ _ => rfl))) (fun _ _ _ _ => zar (i := 0) (show List.Nodup (["_law_name", "_law_names_here"] : List Str) by decide +kernel) ρ (Or.inl ρ) (Or.inr ρ)) (za1 δ) (fun _ _ _ _ => zbH) (fun _ _ _ _ => (zcy K yar PySem.F.slot_list_index PySem.F.type_list_index (zjw K) (pv 1) (zaa (pv 0) zae)))) zae)) zae))))
  (zah (zbv (zaq (zd2 K hu) (pv 4) (pv 2) ρ) (zah (zbU (zcy K yar PySem.F.slot_list_append yaw zb4 (pv 2) (zaa (pv 4) zae)))) zaG))) zaG)))
  (zah (zap (zaz (zfs true K hu) ρ T.z_sorted ρ (zaa (pv 2) zae)))))), ?_⟩
 walk_at "S";walk_at "";have Qe : us.length = Ss.length := (Paired.length hR).symm;have few := hO.few;have hnl := ze6 hO;refine ⟨yaq _, fun p hp => .inr ⟨⟨_, (zab hp _).seqT hA⟩, ?_⟩⟩;refine zbx (xs := us) (fun i σ H3 => Same H H3 /\ ∃ (zs : List (V × Rw)) (u3 u4 : Option V), H3 p = some (.lst (zs.map (·.1))) /\ (∀ z ∈ zs, RepD K H3 (rowD true z.2) z.1) /\ (zs.map (·.2)).Nodup /\ (∀ k, k ∈ zs.map (·.2) ↔ k ∈ zaK (nms Ss) (Ss.take i)) /\ zs.length <= i /\ σ = [some (.ref a), some (.ref b), some (.ref p), u3, u4]) ⟨zab hp _, [], _, _, zac, fun z h => by simp at h, List.nodup_nil, fun x => by simp [zaK], yaq _, rfl⟩ (fun i σ H3 _ hv => hv.1.seqT hA) (fun i x σ H3 hx hv => ?_) fun σ H3 hv => ?_
 ·obtain ⟨s3, zs, u3, u4, hp3, hRz, znd, zmem, zlen, rfl⟩ := hv;obtain ⟨S, eS, rS⟩ := RepL.get hR hx;obtain ⟨hi, eg⟩ := yag.mp eS;have hSm := ya1 eS;have e1 : Ss.take (i + 1) = Ss.take i ++ [S] := by rw [List.take_succ_eq_append_getElem hi, eg]
  obtain ⟨c, ws, rfl, ht⟩ := rS.tag;walk_at "";refine ⟨_, .inr (s3.seqT ht), _, i0, ?_⟩;walk_at "";rw [e1];simp only [zcc];refine ite2 (fun ci => ?_) fun ci => ?_
  ·cases S with
   | is w' ts =>
    obtain ⟨n1, n2, n3⟩ := zcA hO hSm;obtain ⟨a', b', e', h2, h3⟩ := rS;cases e';refine ⟨_, .inr (s3.seqT h2), _, i1, _, .inr (s3.seqT h2), _, i2, ?_⟩;walk_at "";refine .inr ⟨⟨_, s3.seqT h3⟩, zci (xs := ts.map V.str) (fun j acc H5 => H5 = H3 /\ acc = ((ts.take j).map fun t => (((nms Ss).idxOf t : Nat) : Int)).map V.int) ⟨rfl, rfl⟩ (fun j acc H5 _ hv => hv.1 ▸ s3.seqT h3) (fun j x acc H5 hx hv => ?_) fun acc H5 hv q hq => ?_⟩
    ·obtain ⟨rfl, rfl⟩ := hv;rw [yav] at hx;obtain ⟨t, et, rfl⟩ := Option.map_eq_some_iff.mp hx;obtain ⟨hj, eg'⟩ := yag.mp et;refine ⟨zaF (by simp only [List.length_map, List.length_take]; omega), ?_⟩;walk_at "T";walk_at "";refine ⟨⟨_, s3.seq hB⟩, _, s3.seq hB, (n3 t (ya1 et)).2,ω, trivial, ?_⟩;rw [List.take_succ_eq_append_getElem hj, eg', ya0, ya0]
     rfl
    ·obtain ⟨rfl, rfl⟩ := hv;rw [yaf, List.take_length];walk_at "";refine ⟨_, .inl ⟨SqL.of zac, fun p1 hp1 => ⟨zak (show 2 <= 100000 by decide), fun p2 hp2 => ?_⟩⟩⟩;have sA := ((zab hq (.lst ((ts.map fun t => (((nms Ss).idxOf t : Nat) : Int)).map V.int))).trans (zab hp1 (.tup ((ts.map fun t => (((nms Ss).idxOf t : Nat) : Int)).map V.int)))).trans (zab hp2 (.tup [V.str w', V.ref p1]));have hF : RepD K _ (rowD true (zcb (nms Ss) w' ts)) (.ref p2) := RepD.t2 (SqT.of zac) (.str _) (RepD.ints ((zab hp2 _).seqT (SqT.of zac)));have hpe := sA _ _ hp3;have hL : RepD K _ (.lst ((zs.map (·.2)).map (rowD true))) (.ref p) := RepD.lst (SqL.of hpe) ς fun j d x e1 e2 => by
      rw [yav, yav] at e1;rw [yav] at e2;cases e : zs[j]? with
      | none => rw [e] at e1; cases e1
      | some f =>
       rw [e] at e1 e2;cases e1;cases e2;exact (hRz f (ya1 e)).same sA
     refine .inr ⟨_, _, hF, .inr hL, yat (zdE _) δ, ?_⟩;have hdm : decide (rowD true (zcb (nms Ss) w' ts) ∈ (zs.map (·.2)).map (rowD true)) = decide (zcb (nms Ss) w' ts ∈ zs.map (·.2)) := by
      refine decide_eq_decide.mpr ⟨fun h => ?_, fun h => ya6.mpr ⟨_, h, rfl⟩⟩;obtain ⟨k, hk, e⟩ := ya6.mp h;rw [<- zhJ e]; exact hk
     refine ⟨_, rfl, ?_⟩;rw [hdm];have ef : zaK (nms Ss) [Stm.is w' ts] = [zcb (nms Ss) w' ts] := rfl;rw [ef]
     by_cases cm : zcb (nms Ss) w' ts ∈ zs.map (·.2)
     ·rw [ya9 cm];refine iteF ⟨s3.trans sA, zs, _, _, hpe, fun z hz => (hRz z hz).same sA, znd, fun k => ?_,ω, rfl⟩;rw [yay, <- zmem, yah];refine ⟨.inl, fun h => h.elim id fun e => ?_⟩;rw [e]; exact cm
     ·rw [ya8 cm];refine iteT ⟨⟨_, SqL.of hpe⟩, _, hpe, zaF (by rw [yaf]; omega), (s3.trans sA).upd hp, zs ++ [(.ref p2, zcb (nms Ss) w' ts)], _, _, by rw [zac]; simp, fun z hz => ?_, ?_, fun k => ?_, by rw [yae]; simp only [List.length_singleton]; omega, rfl⟩
      ·rcases yay.mp hz with h | h
       ·exact zef ((hRz z h).same sA) hpe
       ·rw [yah.mp h];exact zef hF hpe
      ·rw [ya0];refine List.nodup_append.mpr ⟨znd,ς, fun y1 hy1 z1 hz1 e => cm ?_⟩;have : z1 = zcb (nms Ss) w' ts := by simpa using hz1
       rw [<- this, <- e]; exact hy1
      ·rw [ya0, yay, zmem, yay];simp
   | fls => exact absurd ci (by decide +kernel)
   | neg B => exact absurd (show ("not" : Str) = "is" from ci) (by decide +kernel)
   | bi o B C => exact absurd ci (zhn o)
   | qu q X B => exact absurd ci (zho q)
  ·have e2 : zaK (nms Ss) [S] = [] := by
    cases S with
    | is w' ts => exact absurd rfl ci
    | fls => rfl
    | neg B => rfl
    | bi o B C => rfl
    | qu q X B => rfl
   rw [e2, List.append_nil];exact ⟨s3, zs, _, _, hp3, hRz, znd, zmem,ω, rfl⟩
 ·obtain ⟨s3, zs, u3, u4, hp3, hRz, znd, zmem, zlen, rfl⟩ := hv;rw [Qe, List.take_length] at zmem;walk_at "";refine ⟨zs, SqL.of hp3, fun z hz => ⟨hRz z hz, fun h => nomatch h⟩,ω, fun l zs' hl hperm hs => ?_⟩;refine k l zs' _ (s3.trans (zab hl _)) zac (fun z hz => (hRz z (hperm.mem_iff.mp hz)).same (zab hl _)) (zjp hs (hperm.map _) znd) (fun x => ?_) (by rw [hperm.length_eq]; omega);rw [<- zmem];exact (hperm.map (·.2)).mem_iff
theorem zkW {x : Str} (h : Nm smallS x) : nmQ x = true := by
 unfold nmQ;rw [show base x "abcdefghijklmnopqrstuvwxyz" = true from zgs h, zgt h]; rfl
theorem zgv {ks : List (List Nat × List Int)} (h : ∀ j, j + 1 < ks.length -> zbe (ks.getD j ([], [])) (ks.getD (j + 1) ([], []))) : risQ ks = true := by
 unfold risQ;rw [List.all_eq_true];intro j hj;exact ya9 (h j (by have := List.mem_range.mp hj; omega))
theorem zfB {ks : List (List Nat × List Int)} (h : ks.Pairwise zbe) : risQ ks = true := zgv fun j hj => by
 have h1 := List.pairwise_iff_getElem.mp h j (j + 1) ω hj ω;simpa [List.getD, List.getElem?_eq_getElem (show j < ks.length by omega), List.getElem?_eq_getElem hj] using h1
theorem zha : ∀ {a b : List Nat}, Spec.ltCps a b = true -> a < b
 | [], [], h => by simp [Spec.ltCps] at h
 | [], _ :: _, _ => by simp
 | _ :: _, [], h => by simp [Spec.ltCps] at h
 | a :: r, b :: t, h => by
  simp only [Spec.ltCps, Bool.or_eq_true, Bool.and_eq_true, decide_eq_true_eq, beq_iff_eq] at h;rw [List.cons_lt_cons_iff];exact h.imp id fun ⟨h1, h2⟩ => ⟨h1, zha h2⟩
theorem zfC (ns : List Str) : (zaL ns).map (·.1) = ns := by
 unfold zaL;rw [List.map_map];show ns.zipIdx.map Prod.fst = ns;exact List.zipIdx_map_fst 0 ns
theorem zcd (ns : List Str) : (zaL ns).length = ns.length := by unfold zaL; simp
theorem zcU {ns : List Str} {p : Str × Int} (h : p ∈ zaL ns) : p.1 ∈ ns /\ 0 <= p.2 /\ p.2 < ns.length := by
 unfold zaL at h;obtain ⟨q, hq, rfl⟩ := ya6.mp h;have := List.mem_zipIdx hq;refine ⟨?_,ω, by simp only; omega⟩;have h2 : q.1 ∈ ns.zipIdx.map Prod.fst := ya6.mpr ⟨q, hq, rfl⟩
 rwa [List.zipIdx_map_fst] at h2
theorem zkX {Ss : List Stm} (hO : zc9 Ss) {x : Str} (h : x ∈ nms Ss) : Nm smallS x := by
 unfold nms at h;rw [zb9, zgZ hO.ok] at h;exact h.2
theorem zcu {ns : List Str} : ∀ {Ss : List Stm} {k : Rw}, k ∈ zaK ns Ss -> ∃ w ts, Stm.is w ts ∈ Ss /\ k = zcb ns w ts
 | [], k, h => by simp [zaK] at h
 | A :: Ss, k, h => by
  have step : k ∈ zaK ns Ss -> ∃ w ts, Stm.is w ts ∈ A :: Ss /\ k = zcb ns w ts := fun h => by
   obtain ⟨w, ts, h1, h2⟩ := zcu h;exact ⟨w, ts, List.mem_cons_of_mem _ h1, h2⟩
  cases A with
  | is w ts =>
   rcases yau.mp h with h | h
   ·exact ⟨w, ts, List.mem_cons_self, h⟩
   ·exact step h
  | fls => exact step h
  | neg B => exact step h
  | bi o B C => exact step h
  | qu q X B => exact step h
theorem zoU {Ss : List Stm} {W : Wd} (hO : zc9 Ss) (h : WdOf Ss W) : fitQ W = true := by
 have hs : 1 <= W.size /\ ((nms Ss).length : Int) <= W.size := by
  rw [h.size]
  split <;> omega
 have a1 : W.cs.all (prQ W.size) = true := List.all_eq_true.mpr fun p hp => by
  rw [h.cs] at hp;obtain ⟨n1, n2, n3⟩ := zcU hp;unfold prQ thQ;rw [zkW (zkX hO n1), ya9 ⟨n2,ω⟩]; rfl
 have a2 : W.fs.all (ftQ W.size) = true := List.all_eq_true.mpr fun f hf => by
  obtain ⟨w, ts, hm, rfl⟩ := zcu ((h.mem f).mp hf);obtain ⟨n1, n2, n3⟩ := zcA hO hm;have : (zcb (nms Ss) w ts).2.all (thQ W.size) = true := List.all_eq_true.mpr fun i hi => by
   obtain ⟨t, ht, rfl⟩ := ya6.mp hi;have hlt := List.idxOf_lt_length_of_mem (n3 t ht).2;exact ya9 ⟨ω,ω⟩
  unfold ftQ;rw [this, show nmQ (zcb (nms Ss) w ts).1 = true from zkW n1, ya9 (show (zcb (nms Ss) w ts).2.length <= 3 by unfold zcb; simpa using n2)]; rfl
 have a3 : risQ (W.cs.map fun p => (p.1.cps.toList, [])) = true := by
  refine zfB ?_;have e : (W.cs.map fun p => (p.1.cps.toList, ([] : List Int))) = (nms Ss).map fun n => (n.cps.toList, ([] : List Int)) := by
   rw [h.cs]
   conv => rhs; rw [<- zfC (nms Ss)]
   rw [List.map_map]
   rfl
  rw [e];exact List.pairwise_map.mpr ((zbi (nmsT Ss)).imp fun {a b} z => .inl (zha z))
 have a4 : risQ (W.fs.map rowK) = true := zfB (List.pairwise_map.mpr h.ris);unfold fitQ clQ fsQ;rw [a1, a2, a3, a4, ya9 hs.1]; rfl
theorem zce {l : List Rw} (h : RisF l) : l.Nodup := List.Pairwise.imp (fun {a b} z e => by
 rw [e] at z;exact zbY _ z) h
theorem zgw {l m : List Rw} (hl : RisF l) (hm : RisF m) (h : ∀ k, k ∈ l ↔ k ∈ m) : l = m := by
 have flip : ∀ {a b : Rw}, zbe (rowK a) (rowK b) -> ¬ zbe (rowK b) (rowK a) := fun h1 h2 => zbY _ (zcs h1 h2);refine zjo (List.Pairwise.imp flip hl) (List.Pairwise.imp flip hm) ?_;exact (List.perm_ext_iff_of_nodup (zce hl) (zce hm)).mpr h
theorem zoV {Ss : List Stm} {W : Wd} (hO : zc9 Ss) (h : WdOf Ss W) (hf : W.fs.length <= 400) : Bnd W := by
 refine ⟨?_, hf, fun p hp => ?_, fun p hp => ?_⟩
 ·rw [h.cs, zcd]; exact ze6 hO
 ·rw [h.cs] at hp;have := (zkX hO (zcU hp).1).len.1;omega
 ·obtain ⟨w, ts, hm, rfl⟩ := zcu ((h.mem p).mp hp);obtain ⟨n1, n2, n3⟩ := zcA hO hm;have := n1.len.1;refine ⟨?_, ?_⟩
  ·show w.length <= 1000;omega
  ·unfold zcb;simp only [List.length_map];omega
theorem zdF {α : Type} [DecidableEq α] : ∀ {l m : List α}, l.Nodup -> (∀ x ∈ l, x ∈ m) -> l.length <= m.length
 | [], _, _, _ => yaq _
 | a :: l, m, hn, h => by
  have h1 := List.length_erase_of_mem (h a List.mem_cons_self);have h2 : l.length <= (m.erase a).length := zdF (List.nodup_cons.mp hn).2 fun x hx => (List.mem_erase_of_ne (fun e : x = a => (List.nodup_cons.mp hn).1 (by rw [<- e]; exact hx))).mpr (h x (List.mem_cons_of_mem _ hx));have h3 : 0 < m.length := List.length_pos_of_mem (h a List.mem_cons_self);rw [List.length_cons];omega
theorem zmq {Ss : List Stm} {W : Wd} (hO : zc9 Ss) (h : WdOf Ss W) : W.fs.length <= 400 := by
 have h1 : W.fs.length <= (zaK (nms Ss) Ss).length := zdF (zce h.ris) fun k hk => (h.mem k).mp hk;have := zbP (nms Ss) Ss;have := hO.few;omega
def zog (K : W.Frag) : Sp := fun vs H Q _ => ∃ (a : Addr) (us : List V) (Ss : List Stm), vs = [.ref a] /\ SqT K H a us /\ RepL K H Ss us /\ zc9 Ss /\ ∀ H', Same H H' -> Q (.bl true) H'
theorem zj9 (T : Tx K mg D) : FnOk P w K mg Qd CX0 53 D.a_c6 D.d_c6 ["_law_statements"] (zog K) := by
 have G_a4 := @ze8 P w _ _ Qd _ T;have G_a2 := @zdB P w _ _ Qd _ T;have G_a6 := @zfA P w _ _ Qd _ T;have G_c3 := @zhK P w _ _ Qd _ T;refine T.F_c6.ok sc_c6 (fun vs H Q E h => ?_) (fun cdv A outer s H vs Q E hr h => ?_)
 ·obtain ⟨a, us, Ss, rfl, _⟩ := h; rfl
 obtain ⟨a, us, Ss, rfl, hA, hR, hO, k⟩ := h;have hu := hr.units;have hr_a4 : Room 42 _ := hr.mono δ;have hr_a2 : Room 52 _ := hr.mono δ;have hr_a6 : Room 5 _ := hr.mono δ;have hr_c3 : Room 1 _ := hr.mono δ;refine ⟨_, (zag (zau (i := 1) sc_c6.nd ρ (by walk_at "o") (zaz (zbX P w K ρ) ρ T.z_sorted ρ (zaa (YC G_a4 hr_a4 ρ T.m_a4 (zaa (pv 0) zae)) zae)))
  (zag (zau (i := 2) sc_c6.nd ρ (by walk_at "o") (zax (zaJ K) ρ T.z_tuple ρ (zaa (zbg 1 [1] ["_law_k", "_law_names_here"] ⟨ρ,ρ,ρ,ρ,ρ,ρ,ρ⟩ ρ (zbJ ρ T.z_range (zaa (zaz (zaX K) ρ T.z_len yap (zaa (pv 1) zae)) zae)) (fun _ _ _ _ => zar (i := 0) (show List.Nodup (["_law_k", "_law_names_here"] : List Str) by decide +kernel) ρ (Or.inl ρ) (Or.inr ρ)) (za1 δ) (fun _ _ _ _ => zbH) (fun _ _ _ _ => (zbh (zaa (za5 (ixA K) (pv 1) (pv 0) (fun _ _ => rfl)) (zaa (pv 0) zae))))) zae)))
  (zag (zau (i := 3) sc_c6.nd ρ (by walk_at "o") (YC G_a2 hr_a2 ρ T.m_a2 (zaa (pv 0) zae)))
  (zag (zbv (PW.pt (zfE (zeD (zdO (zaz (zhp K "tuple") ρ T.z_isinstance ρ (zaa (pv 3) (zaa (zla (v := .ty "tuple") ρ T.z_tuple ρ ρ) zae))))) (zfE (zaq (zgI K hu) (zaz (zaX K) ρ T.z_len yap (zaa (pv 3) zae)) zaf (za2 _)) (zeB (zaq zme (YC G_a6 hr_a6 ρ T.m_a6 (zaa (pv 3) zae)) zhb (za2 _)))))) (zah (zap zhb)) zaG)
  (zah (zap (zbF (zbj K hu) (pv 3) (zbh (zaa (zaz (zeI ρ) ρ T.z_max ρ (zaa zaf (zaa (zaz (zaX K) ρ T.z_len yap (zaa (pv 1) zae)) zae))) (zaa (pv 2) (zaa (zax (zaJ K) ρ T.z_tuple ρ (zaa (YC G_c3 hr_c3 ρ T.m_c3 (zaa (pv 0) (zaa (pv 1) zae))) zae)) zae)))) (za2 _)))))))), ?_⟩
 walk_at "S";walk_at "";have hnl := ze6 hO;refine ⟨a, us, Ss, rfl, hA, hR, hO, fun p ts H1 s1 hp tnd tmem tlen => ?_⟩;walk_at "";refine ⟨ts, .inr (SqL.of hp),ω, fun b vs hb hso hperm => ?_⟩;have evs : vs = nms Ss := zcr hso hperm tnd fun x => by rw [tmem]
 subst evs;have sb := zab hb (.lst ((nms Ss).map V.str));generalize eH2 : upd H1 b (.lst ((nms Ss).map V.str)) = H2 at sb ⊢;have hB : SqL K H2 b ((nms Ss).map V.str) := by rw [<- eH2]; exact SqL.of zac
 refine ⟨_, .inl hB, by rw [yaf]; omega, by rw [yaf]; omega, ?_⟩;refine zch (fun i acc H5 => Same H2 H5 /\ RepX K H5 ((((zaL (nms Ss)).take i).map prR).map (rowD false)) acc) ⟨Same.refl _, by rw [List.take_zero]; exact RepX.nil⟩ (fun i acc H5 hi hv => ?_) fun acc H5 hv q hq => ?_
 ·obtain ⟨s5, hX⟩ := hv;have hi' : i < (nms Ss).length := by rw [yaf] at hi; omega
  have hic : i < (zaL (nms Ss)).length := by rw [zcd]; exact hi'
  refine ⟨zaF (by have := hX.1; simp only [List.length_map, List.length_take] at this; omega), ?_⟩;walk_at "T";walk_at "";refine ⟨_, .inl (s5.seq hB), _, at0 (by rw [yav, yal hi']; rfl), zak (show 2 <= 100000 by decide), fun t ht => ⟨s5.trans (zab ht _), ?_⟩⟩;have e0 : (zaL (nms Ss))[i]? = some ((nms Ss)[i], ((i : Nat) : Int)) := by
   unfold zaL;rw [yav, List.getElem?_zipIdx, yal hi'];simp
  have e : (zaL (nms Ss))[i] = ((nms Ss)[i], ((i : Nat) : Int)) := by
   rw [yal hic] at e0;exact Option.some.inj e0
  rw [List.take_succ_eq_append_getElem hic, ya0, ya0];refine (hX.same (zab ht _)).snoc ?_;rw [e];refine RepD.t2 (SqT.of zac) (.str _) ?_;rw [Int.zero_add];exact .int _
 ·obtain ⟨s5, hX⟩ := hv;have en : (((List.map V.str (nms Ss)).length : Nat) : Int).toNat = (zaL (nms Ss)).length := by rw [yaf, zcd]; omega
  rw [en, List.take_length] at hX;walk_at "";refine ⟨_, .inl ⟨SqL.of zac, fun c0 hc0 => ?_⟩⟩;have sq := (zab hq (.lst acc)).trans (zab hc0 (.tup acc));generalize eH6 : upd (upd H5 q (.lst acc)) c0 (.tup acc) = H6 at sq ⊢;have hC0 : SqT K H6 c0 acc := by rw [<- eH6]; exact SqT.of zac
  have s6 := ((s1.trans sb).trans s5).trans sq;refine ⟨a, us, Ss, rfl, s6.seqT hA, hR.same s6, hO, fun r c f W xs ys H7 s7 hW hWd => ?_⟩;walk_at "";refine ⟨_, _, .tup hW.top, rfl, ?_⟩;rw [if_neg (fun z => nomatch z)];refine ⟨_, .inr hW.top, ?_⟩;rw [if_neg (fun z => z rfl)];refine ⟨r, c, f, W, xs, ys, rfl, hW, zoV hO hWd (zmq hO hWd), fun H8 s8 => ?_⟩;rw [zoU hO hWd];walk_at "";have s28 := ((s5.trans sq).trans s7).trans s8;refine ⟨_, .inl (s28.seq hB), a, b, us, Ss, rfl, (((s6.trans s7).trans s8)).seqT hA, hR.same ((s6.trans s7).trans s8), hO, s28.seq hB, fun g zs H9 s9 hg hz hris hmem hzl => ?_⟩;walk_at "";refine ⟨_, .inl ⟨SqL.of hg, fun h1 hh1 => ⟨zak (show 3 <= 100000 by decide), fun h2 hh2 => ?_⟩⟩⟩;have sz := (zab hh1 (.tup (zs.map (·.1)))).trans (zab hh2 (.tup [V.int (if ((((nms Ss).map V.str).length : Nat) : Int) > 1 then ((((nms Ss).map V.str).length : Nat) : Int) else 1), V.ref c0, V.ref h1]));have efs : zs.map (·.2) = W.fs := zgw hris hWd.ris fun k => by rw [hmem, hWd.mem]
  refine ⟨W.dt, W.dt, (hW.same ((s8.trans s9).trans sz)).repD, ?_, W.dep, ?_⟩
  ·refine RepD.t3 (SqT.of zac) ?_ ?_ ?_
   ·rw [hWd.size, yaf];exact .int _
   ·rw [hWd.cs];exact ((hX.same (((sq.trans s7).trans s8).trans (s9.trans sz))).tup ((((s7.trans s8).trans (s9.trans sz))).seqT hC0))
   ·rw [<- efs, List.map_map];refine RepX.tup (xs := zs.map (·.1)) ⟨ς, fun j d x e1 e2 => ?_⟩ ((zab hh2 _).seqT (SqT.of zac));rw [yav] at e1 e2;cases e : zs[j]? with
    | none => rw [e] at e1; cases e1
    | some z =>
     rw [e] at e1 e2;cases e1;cases e2;exact (hz z (ya1 e)).same sz
  ·rw [ya9 rfl];exact k _ ((((s6.trans s7).trans s8).trans s9).trans sz)
def zk7 (K : W.Frag) : Sp := fun vs H Q _ => ∃ sh c, vs = [.int sh, .int c] /\ 0 <= sh /\ ∀ x ts v H', Same H H' -> RepS K H' (.is x ts) v -> StZ (.is x ts) -> Q v H'
theorem zkY {x : Str} {ts : List Str} (hx : Nm smallS x) (hl : ts.length <= 3) (ht : ∀ t ∈ ts, Nm smallS t) : StZ (.is x ts) := by
 refine ⟨⟨hx, hl, fun t h => .inl (ht t h)⟩, ?_, ?_, fun w us e u hu => ?_⟩
 ·show 1 <= 40
  decide
 ·show 1 <= 28
  decide
 ·cases e;exact ht u hu
theorem zfD (T : Tx K mg D) : FnOk P w K mg Qd CX0 3 D.a_b0 D.d_b0 ["_law_shape", "_law_cell"] (zk7 K) := by
 have G_b3 := @zbE P w _ _ Qd _ T;refine T.F_b0.ok sc_b0 (fun vs H Q E h => ?_) (fun cdv A outer s H vs Q E hr h => ?_)
 ·obtain ⟨sh, c, rfl, _⟩ := h; rfl
 obtain ⟨sh, c, rfl, h0, k⟩ := h;have hu := hr.units;have hr_b3 : Room 2 _ := hr.mono δ;refine ⟨_, (zag (zdT (i := 2) 1 [0, 1] ["_law_k", "_law_shape", "_law_cell"] sc_b0.nd ρ ρ ⟨ρ,ρ,ρ,ρ,ρ,ρ,ρ⟩ ρ (zbJ ρ T.z_range (zaa (zan za3 (pv 1) zaf) zae)) (fun _ _ _ _ => zar (i := 0) (show List.Nodup (["_law_k", "_law_shape", "_law_cell"] : List Str) by decide +kernel) ρ (Or.inl ρ) (Or.inr ρ)) (za1 δ) (fun _ _ _ _ => zbH) (fun _ _ _ _ => (YC G_b3 hr_b3 ρ T.m_b3 (zaa (pv 1) (zaa (zan za3 (zan zav (zan zav (pv 2) zaf) (za5 (ixA K) (zaW (zaa zaf (zaa zaf (zaa zaf zae)))) (pv 0) (fun _ _ => rfl))) zaf) zae)))))
  (zah (zap (zbh (zaa zat (zaa (YC G_b3 hr_b3 ρ T.m_b3 (zaa (zan zav (pv 0) zaf) (zaa (zan za3 (zan zav (pv 1) zaf) zaf) zae))) (zaa (zax (zaJ K) ρ T.z_tuple ρ (zaa (pv 2) zae)) zae))))))), ?_⟩
 walk_at "S";walk_at "";have hc4 := yak c (show (0 : Int) < 4 by decide);have hc0 := yao c (show (4 : Int) ≠ 0 by decide)
 refine ⟨δ,ω,ω, ?_⟩;refine zch (fun i acc H4 => Same H H4 /\ ∃ ts : List Str, acc = ts.map V.str /\ ts.length = i /\ ∀ t ∈ ts, Nm smallS t) ⟨Same.refl _, [], rfl, rfl,ς⟩ (fun i acc H4 hi hv => ?_) fun acc H4 hv p5 hp5 => ?_
 ·obtain ⟨s4, ts, rfl, htl, hts⟩ := hv;refine ⟨zaF (by rw [yaf]; omega), ?_⟩;walk_at "T";walk_at "";obtain ⟨y, hy, ey⟩ := zls (ts := [1, 5, 25]) (i := 0 + (i : Int)) ω (by show 0 + (i : Int) < ((3 : Nat) : Int); omega);have hy' : 0 < y /\ y < 1073741824 := by
   have : ∀ y ∈ ([1, 5, 25] : List Int), 0 < y /\ y < 1073741824 := by decide
   exact this y hy
  refine ⟨cdiv, zak δ, fun p6 hp6 => ⟨_, .inl (SqL.of zac), _, ey, ?_⟩⟩;walk_at "t";refine ⟨⟨hy'.1, hy'.2⟩,δ, _, _, rfl, h0, yao _ δ, yak _ δ, fun t H6 s6 ht => ⟨s4.trans ((zab hp6 _).trans s6), ts ++ [t],ς, by simp [htl], fun t' ht' => ?_⟩⟩;rcases yay.mp ht' with q | q
  ·exact hts t' q
  ·rw [yah.mp q]; exact ht
 ·obtain ⟨s4, ts, rfl, htl, hts⟩ := hv;walk_at "";refine ⟨cdiv, cdiv,δ, _, _, rfl,ω, yao _ δ, by have := yak (c / 4) (show (0 : Int) < 3 by decide); omega, fun x H2 s2 hx => ?_⟩;walk_at "";refine ⟨_, .inl ⟨s2.seq (SqL.of zac), fun p6 hp6 => ⟨zak (show 3 <= 100000 by decide), fun p7 hp7 => ?_⟩⟩⟩;have hsm := ((s4.trans (zab hp5 _)).trans s2).trans ((zab hp6 (.tup (ts.map V.str))).trans (zab hp7 (.tup [V.str "is", V.str x, V.ref p6])));exact k x ts _ _ hsm ⟨p7, p6, rfl, SqT.of zac, (zab hp7 _).seqT (SqT.of zac)⟩ (zkY hx ω hts)
theorem zoW (ns : List Int) : ∃ ms : List Int, cutV (ns.map V.int) (some 1) (some 7) = ms.map V.int /\ ms.length <= 6 := by
 refine ⟨(ns.drop (min 1 ns.length)).take (min 7 ns.length - min 1 ns.length), ?_, by rw [ya3]; omega⟩;show cutV (ns.map V.int) (some ((1 : Nat) : Int)) (some ((7 : Nat) : Int)) = _;unfold cutV;rw [HT.sIx_nat, HT.sIx_nat, List.map_take, List.map_drop, yaf]
theorem zmr : ∀ n : Fin 30, ∃ r, ((Str.ofString "b") ++ Str.ofString (toString ((n.val : Nat) : Int))).cps.toList = 98 :: r /\ (∀ d ∈ r, d ∈ nvS.cps.toList) /\ r.length <= 7 := by
 have h : ∀ n : Fin 30, ((Str.ofString "b") ++ Str.ofString (toString ((n.val : Nat) : Int))).cps.toList.headD 0 = 98 /\ (∀ d ∈ ((Str.ofString "b") ++ Str.ofString (toString ((n.val : Nat) : Int))).cps.toList.tail, d ∈ nvS.cps.toList) /\ ((Str.ofString "b") ++ Str.ofString (toString ((n.val : Nat) : Int))).cps.toList.tail.length <= 7 := by decide +kernel
 intro n;obtain ⟨h1, h2, h3⟩ := h n;cases e : ((Str.ofString "b") ++ Str.ofString (toString ((n.val : Nat) : Int))).cps.toList with
 | nil => rw [e] at h1; cases h1
 | cons c r =>
  rw [e] at h1 h2 h3;have : c = 98 := h1;subst this;exact ⟨r, rfl, h2, h3⟩
theorem zms {i : Int} (h0 : 0 <= i) (h1 : i < 30) : Nm smallS ((Str.ofString "b") ++ Str.ofString (toString i)) := by
 obtain ⟨n, rfl⟩ : ∃ n : Nat, i = n := ⟨i.toNat,ω⟩
 obtain ⟨r, e, hr, hl⟩ := zmr ⟨n,ω⟩;refine ⟨98, r, e, by decide +kernel, fun d hd => zkV d (hr d hd), hl, zjz fun d hd => ?_⟩;rw [e] at hd;rcases yau.mp hd with rfl | hd
 ·decide +kernel
 ·exact hr d hd
def LOk (K : W.Frag) (H : Hp) (p : Addr) (n m : Nat) : Prop := ∃ us Ss, H p = some (.lst us) /\ RepL K H Ss us /\ (∀ S ∈ Ss, StZ S) /\ Ss.length <= n /\ (Ss.map fun S => S.tms.length).sum <= m
theorem LOk.app {H H' : Hp} {p : Addr} {n m t : Nat} {S : Stm} {v : V} (h : LOk K H p n m) (s : Same H H') (hv : RepS K H' S v) (hz : StZ S) (ht : S.tms.length <= t) : ∃ us, H' p = some (.lst us) /\ us.length <= n /\ LOk K (upd H' p (.lst (us ++ [v]))) p (n + 1) (m + t) := by
 obtain ⟨us, Ss, h1, h2, h3, h4, h5⟩ := h;have hp := s _ _ h1;refine ⟨us, hp, by rw [<- Paired.length h2]; exact h4, us ++ [v], Ss ++ [S], zac, RepL.snoc ((h2.same s).keepL hp) (hv.keepL hp), fun T hT => ?_, by rw [yae]; simp only [List.length_singleton]; omega, by rw [ya0, List.sum_append]; simp only [List.map_cons, List.map_nil, List.sum_cons, List.sum_nil]; omega⟩;rcases yay.mp hT with q | q
 ·exact h3 T q
 ·rw [yah.mp q]; exact hz
theorem StZ.tm {S : Stm} (h : StZ S) : S.tms.length <= 43 := by
 have h1 := zcM h.sz.ok;have h2 := h.zz;omega
theorem RepL.rev43 {H : Hp} : ∀ {Ss : List Stm} {us : List V}, RepL K H Ss us -> RepL K H Ss.reverse us.reverse
 | [], _, h => by cases h; exact .nil
 | S :: Ss, _, .cons h1 h2 => by
  rw [List.reverse_cons, List.reverse_cons];exact RepL.snoc (RepL.rev43 h2) h1
theorem RepL.one43 {H : Hp} {Ss : List Stm} {us : List V} (h : RepL K H Ss us) : RepL K H (Ss.take 1) (us.take 1) := by
 cases h with
 | nil => exact .nil
 | cons h1 h2 => exact .cons h1 .nil
theorem lg43 {i : Int} (h0 : 0 <= i) (h1 : i < 30) : i.natAbs.log2 < 1920 := by
 have h : ∀ n : Fin 30, n.val.log2 < 1920 := by decide +kernel
 exact h ⟨i.natAbs,ω⟩
theorem ln43 {i : Int} (h0 : 0 <= i) (h1 : i < 30) : (Str.ofString "b").length + (Str.ofString (toString i)).length <= sizeLine := by
 have := (zms h0 h1).len.1;rw [Str.length_append] at this;exact zak ω
theorem ok_law (T : Tx K mg D) : FnOk P w K mg Qd CX0 60 D.a_d1 D.d_d1 ["_law_script"] (ziq K) := by
 have G_b2 := @zf2 P w _ _ Qd _ T;have G_b9 := @zhH P w _ _ Qd _ T;have G_b0 := @zfD P w _ _ Qd _ T;have G_a1 := @zcL P w _ _ Qd _ T;have G_b3 := @zbE P w _ _ Qd _ T;have G_c6 := @zj9 P w _ _ Qd _ T;refine T.F_d1.ok sc_d1 (fun vs H Q E h => ?_) (fun cdv A outer s H vs Q E hr h => ?_)
 ·obtain ⟨a, ns, rfl, _⟩ := h; rfl
 obtain ⟨a, ns, rfl, hS, hl, k⟩ := h;have hu := hr.units;have hr_b2 : Room 1 _ := hr.mono δ;have hr_b9 : Room 1 _ := hr.mono δ;have hr_b0 : Room 3 _ := hr.mono δ;have hr_a1 : Room 23 _ := hr.mono δ;have hr_b3 : Room 2 _ := hr.mono δ;have hr_c6 : Room 53 _ := hr.mono δ;refine ⟨_, (zag (zau (i := 1) sc_d1.nd ρ (by walk_at "o") (zan za3 (YC G_b2 hr_b2 ρ T.m_b2 (zaa (pv 0) (zaa zaf zae))) (zan zm5 zaf zaf)))
  (zag (zau (i := 2) sc_d1.nd ρ (by walk_at "o") (zaW zae))
  (zag (zb6 PassesOwn.never ρ (zaY K (YC G_b9 hr_b9 ρ T.m_b9 (zaa (zbf (slB K) (pv 0) (zbs zaf) (zbs zaf)) zae))) (zar (i := 3) sc_d1.nd ρ (by walk_at "o"))
   (zah (zbv (zaq zcO (zan za3 (pv 3) zaf) zaf (za2 _)) (zah (zbU (zcy K yar PySem.F.slot_list_append yaw zb4 (pv 2) (zaa (YC G_b0 hr_b0 ρ T.m_b0 (zaa (pv 1) (zaa (zan zav (pv 3) zaf) zae))) zae)))) (zah (zbU (zcy K yar PySem.F.slot_list_append yaw zb4 (pv 2) (zaa (YC G_a1 hr_a1 ρ T.m_a1 (zaa (pv 1) (zaa (zaW (zaa (zan zav (pv 3) zaf) (zaa (zan zav (pv 3) zaf) (zaa (zan zav (pv 3) zaf) zae)))) zae))) zae)))))))
  (zag (zb6 PassesOwn.never ρ (zbJ ρ T.z_range (zaa (zan zfL (zan za3 (YC G_b2 hr_b2 ρ T.m_b2 (zaa (pv 0) (zaa zaf zae))) zaf) (zax zeT ρ T.z_int ρ (zaa (zbF (zbj K hu) (zan za3 (YC G_b2 hr_b2 ρ T.m_b2 (zaa (pv 0) (zaa zaf zae))) zaf) zaf (za2 _)) zae))) zae)) (zar (i := 4) sc_d1.nd ρ (by walk_at "o"))
   (zag (zau (i := 5) sc_d1.nd ρ (by walk_at "o") (zan (za9 K) zat (zax zcN ρ T.z_str ρ (zaa (zan za3 (zan (za9 K) (zan zfL (pv 4) zaf) (YC G_b2 hr_b2 ρ T.m_b2 (zaa (pv 0) (zaa zaf zae)))) zaf) zae))))
  (zah (zbU (zcy K yar PySem.F.slot_list_append yaw zb4 (pv 2) (zaa (zbh (zaa zat (zaa (YC G_b3 hr_b3 ρ T.m_b3 (zaa (zan zav (pv 1) zaf) (zaa (zan za3 (pv 4) zaf) zae))) (zaa (zbh (zaa (pv 5) (zaa (zan (za9 K) zat (zax zcN ρ T.z_str ρ (zaa (zan zav (pv 4) zaf) zae))) zae))) zae)))) zae))))))
  (zag (zau (i := 6) sc_d1.nd ρ (by walk_at "o") (zax (zaJ K) ρ T.z_tuple ρ (zaa (pv 2) zae)))
  (zah (zap (zdg (YC G_c6 hr_c6 ρ T.m_c6 (zaa (pv 6) zae)) (zdg (YC G_c6 hr_c6 ρ T.m_c6 (zaa (znV K (pv 6) (zeg zcv zaf)) zae)) (zdg (YC G_c6 hr_c6 ρ T.m_c6 (zaa (zbf (slB K) (pv 6) zb7 (zbs zaf)) zae)) (zeE (YC G_c6 hr_c6 ρ T.m_c6 (zaa (pv 6) zae))))))))))))), ?_⟩
 walk_at "S";refine zbI (fun σ' H1 => H1 = H /\ ∃ sh : Int, 0 <= sh /\ σ' = [some (.ref a), some (.int sh), none, none, none, none, none]) (fun N hN => ?_) fun σ' H1 hv => ?_
 ·walk_at "";refine ⟨a, ns, 0, rfl, hS,δ, ⟨δ,δ,δ⟩, ?_⟩;walk_at "";exact ⟨δ, hN _ _ ⟨rfl, _, yao _ δ, rfl⟩⟩
 obtain ⟨rfl, sh, sh0, rfl⟩ := hv;refine zbI (fun σ' H2 => Same H1 H2 /\ ∃ p, H1 p = none /\ H2 p = some (.lst []) /\ σ' = [some (.ref a), some (.int sh), some (.ref p), none, none, none, none]) (fun N hN => ?_) fun σ' H2 hv => ?_
 ·walk_at "";exact ⟨yaq _, fun p hp => hN _ _ ⟨zab hp _, p, hp, zac, rfl⟩⟩
 obtain ⟨s2, p, hp, hp2, rfl⟩ := hv;refine zbI (fun σ' H3 => Same H1 H3 /\ LOk K H3 p 6 258 /\ ∃ u3, σ' = [some (.ref a), some (.int sh), some (.ref p), u3, none, none, none]) (fun N hN => ?_) fun σ' H3 hv => ?_
 ·obtain ⟨cs, ec, hcl⟩ := zoW ns;walk_at "";refine ⟨_, .inl ⟨s2.seq hS, fun q hq => ?_⟩⟩;rw [ec];refine ⟨q, cs, rfl, SqL.of zac,ω, fun m ms H4 s4 hm hml hm0 => ?_⟩;have s24 := (zab hq (.lst (cs.map V.int))).trans s4;walk_at "";refine .inl ⟨⟨_, SqL.of hm⟩, ?_⟩;cases ms with
  | nil =>
   refine zcz (xs := []) (fun i σ H5 => H5 = H4 /\ σ = [some (.ref a), some (.int sh), some (.ref p), none, none, none, none]) ⟨rfl, rfl⟩ (fun i σ H5 _ hv => hv.1 ▸ SqL.of hm) (fun i x σ H5 hx hv => by simp at hx) fun σ H5 hv => ?_;obtain ⟨rfl, rfl⟩ := hv;exact hN _ _ ⟨s2.trans s24, ⟨[], [], s24 _ _ hp2, .nil, fun S h => by simp at h,δ,δ⟩, _, rfl⟩
  | cons m0 ms =>
   have hpm : m ≠ p := fun e => by
    subst e;have h1 := s24 _ _ hp2;rw [hm] at h1;cases h1
   have hml' : (m0 :: ms).length <= 6 := by omega
   refine zcz (xs := (m0 :: ms).map V.int) (fun i σ H5 => Same H1 H5 /\ H5 m = some (.lst ((m0 :: ms).map V.int)) /\ LOk K H5 p i (43 * i) /\ ∃ u3, σ = [some (.ref a), some (.int sh), some (.ref p), u3, none, none, none]) ⟨s2.trans s24, hm, ⟨[], [], s24 _ _ hp2, .nil, fun S h => by simp at h, yai _, yai _⟩, _, rfl⟩ (fun i σ H5 _ hv => SqL.of hv.2.1) (fun i x σ H5 hx hv => ?_) fun σ H5 hv => ?_
   ·obtain ⟨s5, hm5, hL, u3, rfl⟩ := hv;have hi := (yag.mp hx).1;rw [yaf] at hi;rw [yav] at hx;obtain ⟨c, ec', rfl⟩ := Option.map_eq_some_iff.mp hx;have hc0 := hm0 c (ya1 ec');have hLp : ∃ us, H5 p = some (.lst us) := let ⟨us, _, h, _⟩ := hL; ⟨us, h⟩;obtain ⟨us0, hus0⟩ := hLp;walk_at "";refine ⟨δ, ite2 (fun c1 => ⟨⟨_, SqL.of hus0⟩, cdiv, _, _, rfl, sh0, fun x ts v H6 s6 rS hz => ?_⟩) fun c1 => ⟨⟨_, SqL.of hus0⟩, ?_⟩⟩
    ·obtain ⟨us, hp6, hul, hL6⟩ := hL.app s6 rS hz hz.tm;refine ⟨us, hp6, zaF ω, (s5.trans s6).upd hp, ?_, hL6, _, rfl⟩;rw [zaE hpm];exact s6 _ _ hm5
    ·refine ⟨cdiv, cdiv, cdiv, zak (show 3 <= 100000 by decide), fun q2 hq2 => ⟨q2, sh, [c / 3, c / 7, c / 11], rfl, SqL.of zac, yai _, sh0, fun S v H6 s6 rS hz hd hsz ht => ?_⟩⟩;have s6' := (zab hq2 (.lst [V.int (c / 3), V.int (c / 7), V.int (c / 11)])).trans s6;obtain ⟨us, hp6, hul, hL6⟩ := hL.app s6' rS ⟨hz, hd, hsz, ht⟩ (StZ.tm ⟨hz, hd, hsz, ht⟩);refine ⟨us, hp6, zaF ω, (s5.trans s6').upd hp, ?_, hL6, _, rfl⟩;rw [zaE hpm];exact s6' _ _ hm5
   ·obtain ⟨s5, hm5, hL, u3, rfl⟩ := hv;rw [yaf] at hL;obtain ⟨us, Ss, h1, h2, h3, h4, h5⟩ := hL;exact hN _ _ ⟨s5, ⟨us, Ss, h1, h2, h3,ω,ω⟩, _, rfl⟩
 obtain ⟨s3, hL, u3, rfl⟩ := hv;refine zbI (fun σ' H4 => Same H1 H4 /\ LOk K H4 p 36 350 /\ ∃ u3 u4 u5, σ' = [some (.ref a), some (.int sh), some (.ref p), u3, u4, u5, none]) (fun N hN => ?_) fun σ' H4 hv => ?_
 ·walk_at "";refine ⟨a, ns, 7, rfl, s3.seq hS,δ, ?_⟩;walk_at "";refine ⟨δ, a, ns, 8, rfl, s3.seq hS,δ, ?_⟩;walk_at "";refine ⟨δ, ?_⟩;have c0 := yao (zcE ns 7) (show (31 : Int) ≠ 0 by decide);have c1 := yak (zcE ns 7) (show (0 : Int) < 31 by decide);have cj : 0 <= (zcE ns 7 % 31 * if zcE ns 8 % 4 = 1 then 1 else 0) /\ (zcE ns 7 % 31 * if zcE ns 8 % 4 = 1 then 1 else 0) <= 30 := by
   split
   ·rw [Int.mul_one]; omega
   ·rw [Int.mul_zero]; omega
  refine ⟨.inl ⟨ω,ω⟩, ?_⟩;generalize (zcE ns 7 % 31 * if zcE ns 8 % 4 = 1 then 1 else 0) = j at cj ⊢;obtain ⟨j0, j30⟩ := cj;refine ⟨ω,ω, ?_⟩;refine zcD (fun i σ H5 => Same H1 H5 /\ LOk K H5 p (6 + i) (258 + 3 * i) /\ ∃ u3 u4 u5, σ = [some (.ref a), some (.int sh), some (.ref p), u3, u4, u5, none]) ⟨s3, hL, _, _, _, rfl⟩ (fun i σ H5 hi hv => ?_) fun σ H5 hv => ?_
  ·obtain ⟨s5, hL5, u3, u4, u5, rfl⟩ := hv;have hLp : ∃ us, H5 p = some (.lst us) := let ⟨us, _, h, _⟩ := hL5; ⟨us, h⟩;obtain ⟨us0, hus0⟩ := hLp;walk_at "";refine ⟨.inl ⟨ω,ω⟩, a, ns, 7, rfl, s5.seq hS,δ, ?_⟩;walk_at "";have b0 := yao ((0 + (i : Int)) * 17 + zcE ns 7) (show (30 : Int) ≠ 0 by decide);have b1 := yak ((0 + (i : Int)) * 17 + zcE ns 7) (show (0 : Int) < 30 by decide);generalize ((0 + (i : Int)) * 17 + zcE ns 7) % 30 = z at b0 b1 ⊢;refine ⟨δ, lg43 b0 b1, ln43 b0 b1, ⟨_, SqL.of hus0⟩, cdiv,δ, _, _, rfl,ω, yao _ δ, by have := yak (0 + (i : Int)) (show (0 : Int) < 3 by decide); omega, fun x H6 s6 hx => ⟨cdiv, lg43 ω ω, ln43 ω ω, zak (show 2 <= 100000 by decide), fun q1 hq1 => ⟨zak (show 3 <= 100000 by decide), fun q2 hq2 => ?_⟩⟩⟩;have d0 : Nm smallS (Str.ofString "b" ++ Str.ofString (toString z)) := zms b0 b1;have d1 : Nm smallS (Str.ofString "b" ++ Str.ofString (toString ((0 + (i : Int)) / 2))) := zms ω ω;generalize Str.ofString "b" ++ Str.ofString (toString z) = t0 at d0 hq2 ⊢;generalize Str.ofString "b" ++ Str.ofString (toString ((0 + (i : Int)) / 2)) = t1 at d1 hq2 ⊢;have s7 := s6.trans ((zab hq1 (.tup [V.str t0, V.str t1])).trans (zab hq2 (.tup [V.str "is", V.str x, V.ref q1])));have rS : RepS K (upd (upd H6 q1 (.tup [V.str t0, V.str t1])) q2 (.tup [V.str "is", V.str x, V.ref q1])) (.is x [t0, t1]) (.ref q2) := ⟨q2, q1, rfl, SqT.of zac, (zab hq2 _).seqT (SqT.of zac)⟩
   have hz : StZ (.is x [t0, t1]) := zkY hx (show 2 <= 3 by decide) fun t ht => by
    rcases yau.mp ht with rfl | ht
    ·exact d0
    ·rw [yah.mp ht]; exact d1
   obtain ⟨us, hp7, hul, hL7⟩ := hL5.app s7 rS hz (t := 3) (show 2 <= 3 by decide);exact ⟨us, hp7, zaF ω, (s5.trans s7).upd hp, hL7, _, _, _, rfl⟩
  ·obtain ⟨s5, hL5, u3, u4, u5, rfl⟩ := hv;obtain ⟨us, Ss, h1, h2, h3, h4, h5⟩ := hL5;exact hN _ _ ⟨s5, ⟨us, Ss, h1, h2, h3,ω,ω⟩, _, _, _, rfl⟩
 obtain ⟨s4, hL4, u3, u4, u5, rfl⟩ := hv;obtain ⟨us, Ss, h1, h2, h3, h4, h5⟩ := hL4;have hO : zc9 Ss := ⟨h3,ω,ω⟩
 have hOr : zc9 Ss.reverse := ⟨fun S h => h3 S (List.mem_reverse.mp h), by rw [List.length_reverse]; omega, by rw [List.map_reverse, List.sum_reverse]; omega⟩
 have hO1 : zc9 (Ss.take 1) := ⟨fun S h => h3 S (List.mem_of_mem_take h), by rw [ya3]; omega, by
  cases Ss with
  | nil => decide
  | cons S Ss =>
   have := (h3 S List.mem_cons_self).tm;simp only [List.take_succ_cons, List.take_zero, List.map_cons, List.map_nil, List.sum_cons, List.sum_nil];omega⟩
 walk_at "";refine ⟨_, .inl ⟨SqL.of h1, fun r hr' => ?_⟩⟩;have sr := zab hr' (.tup us);generalize eH5 : upd H4 r (.tup us) = H5 at sr ⊢;have hr5 : SqT K H5 r us := by rw [<- eH5]; exact SqT.of zac
 have hR5 := h2.same sr;refine ⟨r, us, Ss, rfl, hr5, hR5, hO, fun H6 s6 => ⟨true, rfl, iteT ?_⟩⟩;refine ⟨1, rfl, rfl, r, us, rfl, s6.seqT hr5, fun q hq => ⟨q, us.reverse, Ss.reverse, rfl, SqT.of zac, RepL.rev43 (hR5.same (s6.trans (zab hq _))), hOr, fun H7 s7 => ⟨true, rfl, iteT ?_⟩⟩⟩;have s57 := s6.trans ((zab hq (.tup us.reverse)).trans s7);refine ⟨us, .inr ⟨s57.seqT hr5, fun q2 H8 s8 hq2 => ⟨q2, us.take 1, Ss.take 1, rfl, by rw [<- znD]; exact hq2, RepL.one43 (hR5.same (s57.trans s8)), hO1, fun H9 s9 => ⟨true, rfl, iteT ?_⟩⟩⟩⟩;exact ⟨r, us, Ss, rfl, ((s57.trans s8).trans s9).seqT hr5, hR5.same ((s57.trans s8).trans s9), hO, fun H' _ => k H'⟩
end
local macro_rules | `(tactic| walk_at "b1") => `(tactic| exact fun _ _ _ _ _ _ us hl => match us, hl with | [_], _ => rfl)
local macro_rules | `(tactic| walk_at "b2") => `(tactic| exact fun _ _ _ _ _ _ us hl => match us, hl with | [_, _], _ => rfl)
abbrev LK (K : W.Frag) (f : Addr) (oc : Value) (od : Option Addr) (n q : Str) (s : Stmt) (kV dc pm : Value) (an : Option Addr) (cd ct : Value) (sl : Array (Option Value)) : Prop := K.lookup f = some ⟨oc, od, .func (W.fnOf n q (zaj s) (zai s) (zad s) .none kV dc pm an cd ct), sl⟩
abbrev NI (K : W.Frag) (n : Str) (f : Addr) : Prop := W.nsIn K mainGlobals n = some (some (.ref f))
abbrev CI (K : W.Frag) (c : Value) (n : Str) : Prop := W.codeIn K c n = true
abbrev KI (K : W.Frag) (f : Addr) : Prop := W.keepIn K (.ref f) = true
abbrev TL (K : W.Frag) (a : Addr) (d : Option Addr) (x : Array Value) (n : Nat) (s : Array (Option Value)) : Prop := K.lookup a = some ⟨.type "tuple", d, .seq x n, s⟩
theorem all_mk {l : W.OpenLaw} {w : World} {K : W.Frag} {h : Heap} {mg : Str -> Option Value} {fa : Addr} (X : K.In h) (G : h.Ns mainGlobals mg) (hfa : mg "law" = some (.ref fa)) 
  (a0 : NI K "begins_and_goes_on" f0) (l0 : LK K f0 oc0 od0 "begins_and_goes_on" "begins_and_goes_on" zao kV0 dc0 pm0 an0 cd0 ct0 sl0) (c0 : CI K cd0 "begins_and_goes_on") (k0 : KI K f0)
  (a1 : NI K "is_name" f1) (l1 : LK K f1 oc1 od1 "is_name" "is_name" zbm kV1 dc1 pm1 an1 cd1 ct1 sl1) (c1 : CI K cd1 "is_name") (k1 : KI K f1)
  (a2 : NI K "is_word" f2) (l2 : LK K f2 oc2 od2 "is_word" "is_word" zbn kV2 dc2 pm2 an2 cd2 ct2 sl2) (c2 : CI K cd2 "is_word") (k2 : KI K f2)
  (a3 : NI K "parts" f3) (l3 : LK K f3 oc3 od3 "parts" "parts" zbN kV3 dc3 pm3 an3 cd3 ct3 sl3) (c3 : CI K cd3 "parts") (k3 : KI K f3)
  (a4 : NI K "terms_in" f4) (l4 : LK K f4 oc4 od4 "terms_in" "terms_in" zaZ kV4 dc4 pm4 an4 cd4 ct4 sl4) (c4 : CI K cd4 "terms_in") (k4 : KI K f4)
  (a5 : NI K "names_in" f5) (l5 : LK K f5 oc5 od5 "names_in" "names_in" zba kV5 dc5 pm5 an5 cd5 ct5 sl5) (c5 : CI K cd5 "names_in") (k5 : KI K f5)
  (a6 : NI K "names_on" f6) (l6 : LK K f6 oc6 od6 "names_on" "names_on" zbb kV6 dc6 pm6 an6 cd6 ct6 sl6) (c6 : CI K cd6 "names_on") (k6 : KI K f6)
  (a7 : NI K "branch_world" f7) (l7 : LK K f7 oc7 od7 "branch_world" "branch_world" za7 kV7 dc7 pm7 an7 cd7 ct7 sl7) (c7 : CI K cd7 "branch_world") (k7 : KI K f7)
  (a8 : NI K "fact_of" f8) (l8 : LK K f8 oc8 od8 "fact_of" "fact_of" zbo kV8 dc8 pm8 an8 cd8 ct8 sl8) (c8 : CI K cd8 "fact_of") (k8 : KI K f8)
  (a9 : NI K "fit_world" f9) (l9 : LK K f9 oc9 od9 "fit_world" "fit_world" zaO kV9 dc9 pm9 an9 cd9 ct9 sl9) (c9 : CI K cd9 "fit_world") (k9 : KI K f9)
  (a10 : NI K "fit_called" f10) (l10 : LK K f10 oc10 od10 "fit_called" "fit_called" zaH kV10 dc10 pm10 an10 cd10 ct10 sl10) (c10 : CI K cd10 "fit_called") (k10 : KI K f10)
  (a11 : NI K "fit_facts" f11) (l11 : LK K f11 oc11 od11 "fit_facts" "fit_facts" zaP kV11 dc11 pm11 an11 cd11 ct11 sl11) (c11 : CI K cd11 "fit_facts") (k11 : KI K f11)
  (a12 : NI K "is_thing" f12) (l12 : LK K f12 oc12 od12 "is_thing" "is_thing" zbc kV12 dc12 pm12 an12 cd12 ct12 sl12) (c12 : CI K cd12 "is_thing") (k12 : KI K f12)
  (a13 : NI K "rises" f13) (l13 : LK K f13 oc13 od13 "rises" "rises" zbO kV13 dc13 pm13 an13 cd13 ct13 sl13) (c13 : CI K cd13 "rises") (k13 : KI K f13)
  (a14 : NI K "_law_cell_at" f14) (l14 : LK K f14 oc14 od14 "_law_cell_at" "_law_cell_at" zaQ kV14 dc14 pm14 an14 cd14 ct14 sl14) (c14 : CI K cd14 "_law_cell_at") (k14 : KI K f14)
  (a15 : NI K "_law_mixed" f15) (l15 : LK K f15 oc15 od15 "_law_mixed" "_law_mixed" zbp kV15 dc15 pm15 an15 cd15 ct15 sl15) (c15 : CI K cd15 "_law_mixed") (k15 : KI K f15)
  (a16 : NI K "_law_sign" f16) (l16 : LK K f16 oc16 od16 "_law_sign" "_law_sign" zb0 kV16 dc16 pm16 an16 cd16 ct16 sl16) (c16 : CI K cd16 "_law_sign") (k16 : KI K f16)
  (a17 : NI K "_law_name_by" f17) (l17 : LK K f17 oc17 od17 "_law_name_by" "_law_name_by" zaR kV17 dc17 pm17 an17 cd17 ct17 sl17) (c17 : CI K cd17 "_law_name_by") (k17 : KI K f17)
  (a18 : NI K "_law_letter_by" f18) (l18 : LK K f18 oc18 od18 "_law_letter_by" "_law_letter_by" zaB kV18 dc18 pm18 an18 cd18 ct18 sl18) (c18 : CI K cd18 "_law_letter_by") (k18 : KI K f18)
  (a19 : NI K "_law_term_by" f19) (l19 : LK K f19 oc19 od19 "_law_term_by" "_law_term_by" zaS kV19 dc19 pm19 an19 cd19 ct19 sl19) (c19 : CI K cd19 "_law_term_by") (k19 : KI K f19)
  (a20 : NI K "_law_atom_by" f20) (l20 : LK K f20 oc20 od20 "_law_atom_by" "_law_atom_by" zaT kV20 dc20 pm20 an20 cd20 ct20 sl20) (c20 : CI K cd20 "_law_atom_by") (k20 : KI K f20)
  (a21 : NI K "_law_step" f21) (l21 : LK K f21 oc21 od21 "_law_step" "_law_step" zb1 kV21 dc21 pm21 an21 cd21 ct21 sl21) (c21 : CI K cd21 "_law_step") (k21 : KI K f21)
  (a22 : NI K "_law_pile_by" f22) (l22 : LK K f22 oc22 od22 "_law_pile_by" "_law_pile_by" zaU kV22 dc22 pm22 an22 cd22 ct22 sl22) (c22 : CI K cd22 "_law_pile_by") (k22 : KI K f22)
  (a23 : NI K "_law_free" f23) (l23 : LK K f23 oc23 od23 "_law_free" "_law_free" zb2 kV23 dc23 pm23 an23 cd23 ct23 sl23) (c23 : CI K cd23 "_law_free") (k23 : KI K f23)
  (a24 : NI K "_law_closed" f24) (l24 : LK K f24 oc24 od24 "_law_closed" "_law_closed" zbd kV24 dc24 pm24 an24 cd24 ct24 sl24) (c24 : CI K cd24 "_law_closed") (k24 : KI K f24)
  (a25 : NI K "_law_statement_by" f25) (l25 : LK K f25 oc25 od25 "_law_statement_by" "_law_statement_by" zaw kV25 dc25 pm25 an25 cd25 ct25 sl25) (c25 : CI K cd25 "_law_statement_by") (k25 : KI K f25)
  (a26 : NI K "_law_names" f26) (l26 : LK K f26 oc26 od26 "_law_names" "_law_names" zbq kV26 dc26 pm26 an26 cd26 ct26 sl26) (c26 : CI K cd26 "_law_names") (k26 : KI K f26)
  (a27 : NI K "_law_names_on" f27) (l27 : LK K f27 oc27 od27 "_law_names_on" "_law_names_on" zaI kV27 dc27 pm27 an27 cd27 ct27 sl27) (c27 : CI K cd27 "_law_names_on") (k27 : KI K f27)
  (a28 : NI K "_law_facts" f28) (l28 : LK K f28 oc28 od28 "_law_facts" "_law_facts" zbr kV28 dc28 pm28 an28 cd28 ct28 sl28) (c28 : CI K cd28 "_law_facts") (k28 : KI K f28)
  (a29 : NI K "_law_told" f29) (l29 : LK K f29 oc29 od29 "_law_told" "_law_told" zb3 kV29 dc29 pm29 an29 cd29 ct29 sl29) (c29 : CI K cd29 "_law_told") (k29 : KI K f29)
  (a30 : NI K "_law_fact_by" f30) (l30 : LK K f30 oc30 od30 "_law_fact_by" "_law_fact_by" zaV kV30 dc30 pm30 an30 cd30 ct30 sl30) (c30 : CI K cd30 "_law_fact_by") (k30 : KI K f30)
  (a31 : NI K "law" f31) (l31 : LK K f31 oc31 od31 "law" "law" ze5 kV31 dc31 pm31 an31 cd31 ct31 sl31) (c31 : CI K cd31 "law") (k31 : KI K f31)
  (g0 : W.nsIn K mainGlobals "SMALL" = some (some (.str "abcdefghijklmnopqrstuvwxyz" t0)))
  (g1 : W.nsIn K mainGlobals "SMALL_OR_FIGURE" = some (some (.str "abcdefghijklmnopqrstuvwxyz0123456789" t1)))
  (g2 : W.nsIn K mainGlobals "KEPT_WORDS" = some (some (.ref p2))) (q2 : TL K p2 dd2 #[Value.str "not" u2_0, Value.str "and" u2_1, Value.str "or" u2_2, Value.str "then" u2_3, Value.str "all" u2_4, Value.str "some" u2_5, Value.str "false" u2_6] nn2 ss2)
  (g3 : W.nsIn K mainGlobals "MOST_SIGNS" = some (some (.int 8 t3)))
  (g4 : W.nsIn K mainGlobals "QUANTIFIERS" = some (some (.ref p4))) (q4 : TL K p4 dd4 #[Value.str "all" u4_0, Value.str "some" u4_1] nn4 ss4)
  (g5 : W.nsIn K mainGlobals "MOST_THINGS_OF_A_FACT" = some (some (.int 3 t5)))
  (z_all : W.nsIn K mainGlobals "all" = some none)
  (z_dict : W.nsIn K mainGlobals "dict" = some none)
  (z_enumerate : W.nsIn K mainGlobals "enumerate" = some none)
  (z_int : W.nsIn K mainGlobals "int" = some none)
  (z_isinstance : W.nsIn K mainGlobals "isinstance" = some none)
  (z_len : W.nsIn K mainGlobals "len" = some none)
  (z_list : W.nsIn K mainGlobals "list" = some none)
  (z_max : W.nsIn K mainGlobals "max" = some none)
  (z_range : W.nsIn K mainGlobals "range" = some none)
  (z_set : W.nsIn K mainGlobals "set" = some none)
  (z_sorted : W.nsIn K mainGlobals "sorted" = some none)
  (z_str : W.nsIn K mainGlobals "str" = some none)
  (z_sum : W.nsIn K mainGlobals "sum" = some none)
  (z_tuple : W.nsIn K mainGlobals "tuple" = some none)
  (OK : ∀ (P : Program) (D : Defs) (base : Heap), Tx K mg D -> FnOk P w K mg base CX0 60 D.a_d1 D.d_d1 ["_law_script"] (ziq K)) :
  ∃ fd : FuncData, (∀ (s : Shared) (v : Value), BindsTo s fd ⟨[v], []⟩ [("_law_script", v)]) /\ ∀ base : Heap, K.In base -> base.Ns mainGlobals mg -> FnOk l.prog w K mg base CX0 60 fa fd ["_law_script"] (ziq K) := by
 have e := hfa.symm.trans (W.mg_of X G a31);cases e;have F0 := zaC (st := zao) l0 c0 k0;have F1 := zaC (st := zbm) l1 c1 k1;have F2 := zaC (st := zbn) l2 c2 k2;have F3 := zaC (st := zbN) l3 c3 k3;have F4 := zaC (st := zaZ) l4 c4 k4;have F5 := zaC (st := zba) l5 c5 k5;have F6 := zaC (st := zbb) l6 c6 k6;have F7 := zaC (st := za7) l7 c7 k7;have F8 := zaC (st := zbo) l8 c8 k8;have F9 := zaC (st := zaO) l9 c9 k9;have F10 := zaC (st := zaH) l10 c10 k10;have F11 := zaC (st := zaP) l11 c11 k11;have F12 := zaC (st := zbc) l12 c12 k12;have F13 := zaC (st := zbO) l13 c13 k13;have F14 := zaC (st := zaQ) l14 c14 k14;have F15 := zaC (st := zbp) l15 c15 k15;have F16 := zaC (st := zb0) l16 c16 k16;have F17 := zaC (st := zaR) l17 c17 k17;have F18 := zaC (st := zaB) l18 c18 k18;have F19 := zaC (st := zaS) l19 c19 k19;have F20 := zaC (st := zaT) l20 c20 k20;have F21 := zaC (st := zb1) l21 c21 k21;have b21 := F21.binds (ps := ["_law_pile", "_law_shape", "_law_cell"]) fun _ _ _ _ _ _ us hl => match us, hl with | [_, _, _], _ => rfl
 have F22 := zaC (st := zaU) l22 c22 k22;have F23 := zaC (st := zb2) l23 c23 k23;have F24 := zaC (st := zbd) l24 c24 k24;have F25 := zaC (st := zaw) l25 c25 k25;have F26 := zaC (st := zbq) l26 c26 k26;have F27 := zaC (st := zaI) l27 c27 k27;have F28 := zaC (st := zbr) l28 c28 k28;have F29 := zaC (st := zb3) l29 c29 k29;have F30 := zaC (st := zaV) l30 c30 k30;have F31 := zaC (st := ze5) l31 c31 k31;have T : Tx K mg ⟨f0, _, f1, _, f2, _, f3, _, f4, _, f5, _, f6, _, f7, _, f8, _, f9, _, f10, _, f11, _, f12, _, f13, _, f14, _, f15, _, f16, _, f17, _, f18, _, f19, _, f20, _, f21, _, f22, _, f23, _, f24, _, f25, _, f26, _, f27, _, f28, _, f29, _, f30, _, f31, _, p2, p4⟩ := ⟨F0, ⟨W.mg_of X G a0, k0, F0.binds (by walk_at "b2")⟩, F1, ⟨W.mg_of X G a1, k1, F1.binds (by walk_at "b1")⟩, F2, ⟨W.mg_of X G a2, k2, F2.binds (by walk_at "b1")⟩, F3, ⟨W.mg_of X G a3, k3, F3.binds (by walk_at "b1")⟩, F4, ⟨W.mg_of X G a4, k4, F4.binds (by walk_at "b1")⟩, F5, ⟨W.mg_of X G a5, k5, F5.binds (by walk_at "b1")⟩, F6, ⟨W.mg_of X G a6, k6, F6.binds (by walk_at "b1")⟩, F7, ⟨W.mg_of X G a7, k7, F7.binds (by walk_at "b1")⟩, F8, ⟨W.mg_of X G a8, k8, F8.binds (by walk_at "b2")⟩, F9, ⟨W.mg_of X G a9, k9, F9.binds (by walk_at "b1")⟩, F10, ⟨W.mg_of X G a10, k10, F10.binds (by walk_at "b2")⟩, F11, ⟨W.mg_of X G a11, k11, F11.binds (by walk_at "b2")⟩, F12, ⟨W.mg_of X G a12, k12, F12.binds (by walk_at "b2")⟩, F13, ⟨W.mg_of X G a13, k13, F13.binds (by walk_at "b1")⟩, F14, ⟨W.mg_of X G a14, k14, F14.binds (by walk_at "b2")⟩, F15, ⟨W.mg_of X G a15, k15, F15.binds (by walk_at "b1")⟩, F16, ⟨W.mg_of X G a16, k16, F16.binds (by walk_at "b1")⟩, F17, ⟨W.mg_of X G a17, k17, F17.binds (by walk_at "b2")⟩, F18, ⟨W.mg_of X G a18, k18, F18.binds (by walk_at "b2")⟩, F19, ⟨W.mg_of X G a19, k19, F19.binds (by walk_at "b2")⟩, F20, ⟨W.mg_of X G a20, k20, F20.binds (by walk_at "b2")⟩, F21, ⟨W.mg_of X G a21, k21, b21⟩, F22, ⟨W.mg_of X G a22, k22, F22.binds (by walk_at "b2")⟩, F23, ⟨W.mg_of X G a23, k23, F23.binds (by walk_at "b1")⟩, F24, ⟨W.mg_of X G a24, k24, F24.binds (by walk_at "b2")⟩, F25, ⟨W.mg_of X G a25, k25, F25.binds (by walk_at "b2")⟩, F26, ⟨W.mg_of X G a26, k26, F26.binds (by walk_at "b1")⟩, F27, ⟨W.mg_of X G a27, k27, F27.binds (by walk_at "b1")⟩, F28, ⟨W.mg_of X G a28, k28, F28.binds (by walk_at "b2")⟩, F29, ⟨W.mg_of X G a29, k29, F29.binds (by walk_at "b1")⟩, F30, ⟨W.mg_of X G a30, k30, F30.binds (by walk_at "b2")⟩, F31, ⟨W.mg_of X G a31, k31, F31.binds (by walk_at "b1")⟩, ⟨_, W.mg_of X G g0⟩, ⟨_, W.mg_of X G g1⟩, W.mg_of X G g2, fun H => .inr ⟨_, _, _, q2, rfl, rfl, (by show 7 <= sizeLine; decide), (.cons ⟨_, rfl⟩ (.cons ⟨_, rfl⟩ (.cons ⟨_, rfl⟩ (.cons ⟨_, rfl⟩ (.cons ⟨_, rfl⟩ (.cons ⟨_, rfl⟩ (.cons ⟨_, rfl⟩ .nil)))))))⟩, ⟨_, W.mg_of X G g3⟩, W.mg_of X G g4, fun H => .inr ⟨_, _, _, q4, rfl, rfl, (by show 2 <= sizeLine; decide), (.cons ⟨_, rfl⟩ (.cons ⟨_, rfl⟩ .nil))⟩, ⟨_, W.mg_of X G g5⟩, W.mg_none_of X G z_all, W.mg_none_of X G z_dict, W.mg_none_of X G z_enumerate, W.mg_none_of X G z_int, W.mg_none_of X G z_isinstance, W.mg_none_of X G z_len, W.mg_none_of X G z_list, W.mg_none_of X G z_max, W.mg_none_of X G z_range, W.mg_none_of X G z_set, W.mg_none_of X G z_sorted, W.mg_none_of X G z_str, W.mg_none_of X G z_sum, W.mg_none_of X G z_tuple⟩
 exact ⟨_, fun s v => .of_eq rfl, fun base _ _ => OK l.prog _ base T⟩
theorem walk {l : W.OpenLaw} {q : Program} {loose : List Str} {XP : (Str -> Option Value) -> Heap -> Prop} {YP : World -> Heap -> Prop} {d : DefRec} {K : Params -> W.Frag} (hn : l.most = some 63) (hdf : d.params.defaults = [])
  (hY : ∀ (w : World) (h : Heap), YP w h -> (K w.params).In h)
  (F : ∀ (w : World) (mg : Str -> Option Value) (fa : Addr) (h : Heap), (K w.params).In h -> h.Ns mainGlobals mg -> mg d.name = some (.ref fa) ->
   ∃ fd : FuncData, (∀ (s : Shared) (u : Value), BindsTo s fd ⟨[u], []⟩ [("_law_script", u)]) /\ ∀ base : Heap, (K w.params).In base -> base.Ns mainGlobals mg -> FnOk l.prog w (K w.params) mg base CX0 60 fa fd ["_law_script"] (ziq (K w.params))) :
  W.WalkO q loose XP YP l.row.toRowW d [] (fun f vs => PySem.call f vs) :=
 L2.walk_of (n := 63) (k := 60) (x := "_law_script") (CX := fun _ => CX0) (sp := fun w => ziq (K w.params)) hn δ hdf ⟨rfl,δ,δ, rfl⟩ hY F (fun _ _ a ns hl _ hS => ⟨a, ns, rfl, hS, hl, fun _ => rfl⟩) fun _ _ _ _ _ z => z
end K43
namespace PySem.W.Fast
def tw13068892354340077745 := 0
def tw11990950079372196121 := 0
def tw10489287534158443212 := 0
def tw13371810480621670103 := 0
def tw7513089820506967802 := 0
def tw8397078906875979208 := 0
def tw15693053347662178144 := 0
def tw2034588123613745959 := 0
def tw18000107950863288264 := 0
def tw11140721079968123880 := 0
def tw2694360358787256545 := 0
def tw16030984746338871951 := 0
def tw1906492488962246024 := 0
def tw1375227243039055388 := 0
def tw14594324086444599452 := 0
def tw16173249530396514887 := 0
def tw16500950127568064661 := 0
def tw7053641667071310727 := 0
def tw4716843470110341165 := 0
def tw1719177106398310982 := 0
def tw1722068805809290728 := 0
def tw14564120428977930853 := 0
def tw10751867655431299212 := 0
def tw9734088823660840747 := 0
def tw4852579454847187320 := 0
def tw659713850511270112 := 0
def tw15166632559879144715 := 0
def tw63250233105155414 := 0
def tw9634547066308878220 := 0
def tw11113329586885377666 := 0
def tw9794957705899405471 := 0
def tw15522546000042699559 := 0
def tw828444929096933572 := 0
def tw3593883446627365019 := 0
def tw5098317624895825310 := 0
def tw3970116951573143070 := 0
def tw12751297001178853905 := 0
def tw2385690765612114405 := 0
def tw176032331189823108 := 0
def tw16983917516282772092 := 0
def tw14563325072629272365 := 0
def tw10886733139954089033 := 0
def tw8159335422859120340 := 0
def tw12879933703782878517 := 0
def tw13547925596176223022 := 0
def tw9879893586501336218 := 0
def tw2609921057408388444 := 0
def tw8111947145909833476 := 0
def tw16872546370753448984 := 0
def tw12545019365348570025 := 0
def tw13072757278945864803 := 0
def tw11386039938941821704 := 0
def tw2577080600266974578 := 0
def tw10262843225439206681 := 0
def tw3629161644372840421 := 0
def tw16392489769249914871 := 0
def tw10534686729423844028 := 0
def tw2164306810507078978 := 0
def tw17790010589025738201 := 0
def tw2512693931447933603 := 0
def tw2325438263098888130 := 0
def tw5804458633277252540 := 0
def tw4858118536002933517 := 0
def tw5879331893477619066 := 0
def tw3825680263637830402 := 0
def tw10895636467119612129 := 0
def tw17502111817298844721 := 0
def tw12209371839319739146 := 0
def tw4717818058211572179 := 0
def tw4767570153649753880 := 0
def tw3131894956218557366 := 0
def tw16027640636542014180 := 0
def tw13980983765922717151 := 0
def tw143306548916606492 := 0
def tw10748874527251864789 := 0
def tw17880942912205174560 := 0
def tw4011151200307505001 := 0
def tw17982183753245235518 := 0
end PySem.W.Fast
open PySem PySem.W PyProof.Rows
set_option maxRecDepth 100000 in
set_option maxHeartbeats 0 in
theorem PySem.Challenge.cw_boxproof_k43_worlds_of_branches_holds : PySem.Challenge.rw_boxproof_k43_worlds_of_branches.Holds := by
 w_on; o_law; k_head; (case hw => w_witness2)
 k_fill
 refine K43.walk (l := PySem.Challenge.rw_boxproof_k43_worlds_of_branches) rfl rfl (fun w h Y => W.kIn_of Y) ?F
 case F =>
  intro w mg fa h KX G hmg;refine' K43.all_mk KX G hmg ?Xa0 ?Xl0 ?Xc0 ?Xk0 ?Xa1 ?Xl1 ?Xc1 ?Xk1 ?Xa2 ?Xl2 ?Xc2 ?Xk2 ?Xa3 ?Xl3 ?Xc3 ?Xk3 ?Xa4 ?Xl4 ?Xc4 ?Xk4 ?Xa5 ?Xl5 ?Xc5 ?Xk5 ?Xa6 ?Xl6 ?Xc6 ?Xk6 ?Xa7 ?Xl7 ?Xc7 ?Xk7 ?Xa8 ?Xl8 ?Xc8 ?Xk8 ?Xa9 ?Xl9 ?Xc9 ?Xk9 ?Xa10 ?Xl10 ?Xc10 ?Xk10 ?Xa11 ?Xl11 ?Xc11 ?Xk11 ?Xa12 ?Xl12 ?Xc12 ?Xk12 ?Xa13 ?Xl13 ?Xc13 ?Xk13 ?Xa14 ?Xl14 ?Xc14 ?Xk14 ?Xa15 ?Xl15 ?Xc15 ?Xk15 ?Xa16 ?Xl16 ?Xc16 ?Xk16 ?Xa17 ?Xl17 ?Xc17 ?Xk17 ?Xa18 ?Xl18 ?Xc18 ?Xk18 ?Xa19 ?Xl19 ?Xc19 ?Xk19 ?Xa20 ?Xl20 ?Xc20 ?Xk20 ?Xa21 ?Xl21 ?Xc21 ?Xk21 ?Xa22 ?Xl22 ?Xc22 ?Xk22 ?Xa23 ?Xl23 ?Xc23 ?Xk23 ?Xa24 ?Xl24 ?Xc24 ?Xk24 ?Xa25 ?Xl25 ?Xc25 ?Xk25 ?Xa26 ?Xl26 ?Xc26 ?Xk26 ?Xa27 ?Xl27 ?Xc27 ?Xk27 ?Xa28 ?Xl28 ?Xc28 ?Xk28 ?Xa29 ?Xl29 ?Xc29 ?Xk29 ?Xa30 ?Xl30 ?Xc30 ?Xk30 ?Xa31 ?Xl31 ?Xc31 ?Xk31 ?Xg0 ?Xg1 ?Xg2 ?Xq2 ?Xg3 ?Xg4 ?Xq4 ?Xg5 ?Xz_all ?Xz_dict ?Xz_enumerate ?Xz_int ?Xz_isinstance ?Xz_len ?Xz_list ?Xz_max ?Xz_range ?Xz_set ?Xz_sorted ?Xz_str ?Xz_sum ?Xz_tuple ?XOK
  case Xa0|Xa1|Xa2|Xa3|Xa4|Xa5|Xa6|Xa7|Xa8|Xa9|Xa10|Xa11|Xa12|Xa13|Xa14|Xa15|Xa16|Xa17|Xa18|Xa19|Xa20|Xa21|Xa22|Xa23|Xa24|Xa25|Xa26|Xa27|Xa28|Xa29|Xa30|Xa31=>(unfold K43.NI;k_is)
  case Xl0|Xl1|Xl2|Xl3|Xl4|Xl5|Xl6|Xl7|Xl8|Xl9|Xl10|Xl11|Xl12|Xl13|Xl14|Xl15|Xl16|Xl17|Xl18|Xl19|Xl20|Xl21|Xl22|Xl23|Xl24|Xl25|Xl26|Xl27|Xl28|Xl29|Xl30|Xl31=>(unfold K43.LK;k_is)
  case Xc0|Xc1|Xc2|Xc3|Xc4|Xc5|Xc6|Xc7|Xc8|Xc9|Xc10|Xc11|Xc12|Xc13|Xc14|Xc15|Xc16|Xc17|Xc18|Xc19|Xc20|Xc21|Xc22|Xc23|Xc24|Xc25|Xc26|Xc27|Xc28|Xc29|Xc30|Xc31=>(unfold K43.CI;k_is)
  case Xk0|Xk1|Xk2|Xk3|Xk4|Xk5|Xk6|Xk7|Xk8|Xk9|Xk10|Xk11|Xk12|Xk13|Xk14|Xk15|Xk16|Xk17|Xk18|Xk19|Xk20|Xk21|Xk22|Xk23|Xk24|Xk25|Xk26|Xk27|Xk28|Xk29|Xk30|Xk31=>(unfold K43.KI;k_is)
  case Xg0|Xg1|Xg2|Xg3|Xg4|Xg5|Xz_all|Xz_dict|Xz_enumerate|Xz_int|Xz_isinstance|Xz_len|Xz_list|Xz_max|Xz_range|Xz_set|Xz_sorted|Xz_str|Xz_sum|Xz_tuple=>k_is
  case Xq2|Xq4=>(unfold K43.TL;k_is)
  case XOK => exact fun P D base T => K43.ok_law T
#print axioms PySem.Challenge.cw_boxproof_k43_worlds_of_branches_holds