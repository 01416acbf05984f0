import PyProof.Rows.All
import Wide.All
import OpenK.AllK
import Wide.FinOn
import Lean
import PyProof.EqAt
import PyProof.EqKinds
import PyProof.TupleCall
import PyProof.StrCalls
import PyProof.StrCalls2
import PyProof.FitsReplace
import PyProof.StrOps2
import PyProof.StrCalls6
import PyProof.ToksMono
import PyProof.StationsW
import PyProof.PassesOwn
import PyProof.Rows.CatchOwn
import PyProof.Rows.CatchBare
import PyProof.Rows.Own
import PyProof.ExcAttrAll.ValueError
import PyProof.ExcBaseAll.ValueError
import KE.RegKIsAll
import PyProof.FString4
import PyProof.StrLawsRepr
import PyProof.StrLawsReplace
import PyProof.NeKinds
import PyProof.ConsumeWalk
import PyProof.SumWalkG
import PyProof.EnumFor
import PyProof.EnumStmt
import PyProof.EnumMake
import PyProof.TupleIter
import PyProof.ListRange
import KE.KTab
import PyProof.ZipIter
import PyProof.Rows.ZipGen
import PyProof.MeetsDict
import PyProof.DictList
import PyProof.FactsAll.dict
import PyProof.DictIter
import PyProof.DictWalks
import PyProof.MeetsDictList
import PyProof.Rows.SortShellK
import PyProof.Rows.SortStr
import PyProof.FactsAll.tuple_2
import PyProof.DictRoadsH
import PyProof.AutoListH
import PyProof.Conv_int_bool
import PyProof.Rows.StrCut
import KE.KIntText
import PyProof.SliceSyntax
import PyProof.Rows.TupMore
import PyProof.SeqI3
import PySem.Challenge.RW_boxproof_k27_texts_of_lines_read
set_option Elab.async false
set_option linter.all false
set_option maxRecDepth 100000
set_option maxHeartbeats 4000000
set_option compiler.extract_closed false
abbrev ZQ := PySem.Value -> PySem.Shared -> Prop
abbrev ZP := List (PySem.Addr × PySem.Obj)
theorem ω {p : Prop} (h : p := by omega) : p := h
theorem δ {p : Prop} (h : p := by decide) : p := h
theorem ς {p : Prop} (h : p := by simp) : p := h
theorem ρ {p : Prop} (h : p := by rfl) : p := h
namespace L2
open PySem PySem.Spec PyProof.Rows
def _root_.yaa := @wpAny_bind
def _root_.yab := @wpAny_pure
def _root_.yac := @Heap.get?_push_of_some
def _root_.yad := @List.size_toArray
def _root_.yae := @List.length_append
def _root_.yaf := @List.length_map
def _root_.yag := @List.getElem?_eq_some_iff
def _root_.yah := @List.mem_singleton
def _root_.yai := @Nat.le_refl
def _root_.yaj := @Heap.get?_push_size
def _root_.yak := @Int.emod_lt_of_pos
def _root_.yal := @List.getElem?_eq_getElem
def _root_.yam := @Bool.false_ne_true
def _root_.yan := @Heap.lt_size
def _root_.yao := @Int.emod_nonneg
def _root_.yap := @PySem.boot_len
def _root_.yaq := @Nat.zero_le
def _root_.yas := @List.length_singleton
def _root_.yat := @Nat.le_trans
def _root_.yau := @List.mem_cons
def _root_.yav := @List.getElem?_map
def _root_.yax := @Classical.byContradiction
def _root_.yay := @List.mem_append
def _root_.ya0 := @List.map_append
def _root_.ya1 := @List.mem_of_getElem?
def _root_.ya3 := @List.length_take
def _root_.ya5 := @List.getElem?_append_left
def _root_.ya6 := @List.mem_map
def _root_.ya7 := @of_decide_eq_true
def _root_.ya8 := @decide_eq_false
def _root_.ya9 := @decide_eq_true
abbrev Key := Sum Int Str
def zmo : Key -> Value -> Bool
 | .inl k, v => Value.isInt k v
 | .inr x, v => Value.isStrOf x v
def keyH (w : World) : Key -> Int
 | .inl k => hashInt k
 | .inr x => hashStr w x
theorem keyIs_shape : ∀ {k : Key} {v : Value}, zmo k v = true -> (∃ i t, k = Sum.inl i /\ v = Value.int i t) \/ (∃ x t, k = Sum.inr x /\ v = Value.str x t)
 | .inl i, v, h => by
  obtain ⟨t, e⟩ := Value.isInt_shape (k := i) (v := v) h;exact .inl ⟨i, t, rfl, e⟩
 | .inr x, v, h => by
  obtain ⟨t, e⟩ := Value.isStrOf_shape (x := x) (v := v) h;exact .inr ⟨x, t, rfl, e⟩
theorem zmp (a b : Int) : decide ((Sum.inl a : Key) = Sum.inl b) = (a == b) := by
 by_cases e : a = b
 ·subst e; simp
 ·have h : ¬ (Sum.inl a : Key) = Sum.inl b := fun q => e (Sum.inl.inj q);rw [ya8 h];exact (beq_eq_false_iff_ne.mpr e).symm
theorem zmq (a b : Str) : decide ((Sum.inr a : Key) = Sum.inr b) = decide (a = b) := by
 by_cases e : a = b
 ·subst e; simp
 ·have h : ¬ (Sum.inr a : Key) = Sum.inr b := fun q => e (Sum.inr.inj q);rw [ya8 h, ya8 e]
theorem zmr (a : Int) (b : Str) : decide ((Sum.inl a : Key) = Sum.inr b) = false := ya8 (fun q => nomatch q)
theorem zms (a : Str) (b : Int) : decide ((Sum.inr a : Key) = Sum.inl b) = false := ya8 (fun q => nomatch q)
def mixKind (prog : Program) (w : World) : PySem.KeyKind prog w Key where
 is := zmo
 hash := keyH w
 inj := fun v a b ha hb => by
  rcases keyIs_shape ha with ⟨i, t, rfl, rfl⟩ | ⟨x, t, rfl, rfl⟩
  ·rcases keyIs_shape hb with ⟨j, u, rfl, e⟩ | ⟨y, u, rfl, e⟩
   ·injection e with e1 _; rw [e1]
   ·exact nomatch e
  ·rcases keyIs_shape hb with ⟨j, u, rfl, e⟩ | ⟨y, u, rfl, e⟩
   ·exact nomatch e
   ·injection e with e1 _; rw [e1]
 byValue := fun k v h => by
  rcases keyIs_shape h with ⟨i, t, rfl, rfl⟩ | ⟨x, t, rfl, rfl⟩ <;> rfl
 pyHash := fun hv h => by
  rcases keyIs_shape hv with ⟨i, t, rfl, rfl⟩ | ⟨x, t, rfl, rfl⟩
  ·exact wpAny_pyHash_int h
  ·exact wpAny_pyHash_str h
 eqBool := fun hu hv h => by
  rcases keyIs_shape hu with ⟨i, t, rfl, rfl⟩ | ⟨x, t, rfl, rfl⟩
  ·rcases keyIs_shape hv with ⟨j, u, rfl, rfl⟩ | ⟨y, u, rfl, rfl⟩
   ·rw [zmp] at h; exact wpAny_eqBool_int h
   ·rw [zmr] at h; exact SeqAt.EqAt.int_str i t y u _ _ _ _ h
  ·rcases keyIs_shape hv with ⟨j, u, rfl, rfl⟩ | ⟨y, u, rfl, rfl⟩
   ·rw [zms] at h; exact SeqAt.EqAt.str_int x t j u _ _ _ _ h
   ·rw [zmq] at h; exact wpAny_eqBool_str h
 «strs» := fun k x t v h => by
  rcases keyIs_shape h with ⟨i, u, rfl, e⟩ | ⟨y, u, rfl, e⟩
  ·exact nomatch e
  ·injection e with e1 _
   subst e1;cases v <;> rfl
inductive V where
 | non | bl (b : Bool) | int (i : Int) | str (x : Str) | byt (b : Array UInt8) | flt (b : UInt64) | ref (a : Addr) | ty (n : String)
 deriving DecidableEq
def RelV : V -> Value -> Prop
 | .non, u => u = Value.none
 | .bl b, u => u = Value.bool b
 | .int i, u => ∃ t, u = Value.int i t
 | .str x, u => ∃ t, u = Value.str x t
 | .byt b, u => ∃ t, u = Value.bytes b t
 | .flt b, u => ∃ t, u = Value.float b t
 | .ref a, u => u = Value.ref a
 | .ty n, u => u = Value.type n
abbrev Vals : List V -> List Value -> Prop := Paired RelV
theorem Vals.length {xs : List V} {us : List Value} (r : Vals xs us) : xs.length = us.length := Paired.length r
theorem Vals.get : ∀ {xs : List V} {us : List Value} {i : Nat} {x : V}, Vals xs us -> xs[i]? = some x -> ∃ u, us[i]? = some u /\ RelV x u
 | _, _, _, _, .nil, e => by simp at e
 | _, _, 0, _, .cons r _, e => by simp at e; subst e; exact ⟨_, rfl, r⟩
 | _, _, i + 1, x, .cons _ t, e => by
  obtain ⟨u, h1, h2⟩ := Vals.get (i := i) (x := x) t (by simpa using e);exact ⟨u, by simpa using h1, h2⟩
theorem Vals.set {x : V} {u : Value} (r : RelV x u) : ∀ {xs : List V} {us : List Value} (i : Nat), Vals xs us -> Vals (xs.set i x) (us.set i u)
 | _, _, _, .nil => .nil
 | _, _, 0, .cons _ t => .cons r t
 | _, _, i + 1, .cons q t => .cons q (Vals.set r i t)
theorem Vals.append : ∀ {xs ys : List V} {us ws : List Value}, Vals xs us -> Vals ys ws -> Vals (xs ++ ys) (us ++ ws)
 | _, _, _, _, .nil, s => s
 | _, _, _, _, .cons r t, s => .cons r (Vals.append t s)
theorem Vals.take : ∀ {xs : List V} {us : List Value} (n : Nat), Vals xs us -> Vals (xs.take n) (us.take n)
 | _, _, 0, _ => .nil
 | _, _, _ + 1, .nil => .nil
 | _, _, n + 1, .cons r t => .cons r (Vals.take n t)
theorem Vals.drop : ∀ {xs : List V} {us : List Value} (n : Nat), Vals xs us -> Vals (xs.drop n) (us.drop n)
 | _, _, 0, r => r
 | _, _, _ + 1, .nil => .nil
 | _, _, n + 1, .cons _ t => Vals.drop n t
def RelO : Option V -> Option Value -> Prop
 | some v, some u => RelV v u
 | none, none => True
 | _, _ => False
def KV {κ : Type} : List (κ × V) -> List (κ × Value) -> Prop := Paired fun (p : κ × V) (q : κ × Value) => p.1 = q.1 /\ RelV p.2 q.2
def kV : Key -> V
 | .inl i => .int i
 | .inr x => .str x
inductive HO where
 | lst (xs : List V)
 | tup (xs : List V)
 | dK (kvs : List (Key × V)) | dT (kvs : List (List Key × V))
 | set (S : Int -> Bool) (n : Nat)
 | ins (C dx : Addr) (fs : List (Str × V))
 | own (x : Addr)
 | xd (fs : List (Str × V))
 | met (f x : Addr)
 | rng (lo hi : Int)
 | frz (o : Obj) (u : HO)
 | tbl (ps : Array Value)
 | ext (φ : Heap -> Prop)
abbrev Hp := Addr -> Option HO
def upd (H : Hp) (a : Addr) (o : HO) : Hp := fun b => if b = a then some o else H b
theorem zad {H : Hp} {a : Addr} {o : HO} : upd H a o a = some o := by unfold upd; rw [if_pos rfl]
theorem zaw {H : Hp} {a b : Addr} {o : HO} (h : b ≠ a) : upd H a o b = H b := by unfold upd; rw [if_neg h]
theorem zh4 {H : Hp} {a : Addr} {o u : HO} : upd (upd H a o) a u = upd H a u := by
 funext b; unfold upd; split <;> rfl
theorem zmt {H : Hp} {a b : Addr} {o u : HO} (h : H a = some o) (h' : H b = some u) (d : o ≠ u) : a ≠ b := by
 intro e; subst e; rw [h] at h'; exact d (Option.some.inj h')
theorem zas {H : Hp} {a b : Addr} {o : HO} (h : H a = some o) (h' : H b = none) : a ≠ b := by
 intro e; subst e; rw [h] at h'; cases h'
section
variable (P : Program) (w : World)
def ObjOk (H : Hp) (h : Heap) (a : Addr) : HO -> Prop
 | .lst xs => xs.length <= sizeLine /\ ∃ (its : List Value) (n : Nat), Vals xs its /\ h.get? a = some { cls := .type "list", data := .seq its.toArray n }
 | .tup xs => xs.length <= sizeLine /\ ∃ its : List Value, Vals xs its /\ IsTup h a its.toArray
 | .dK kvs => kvs.length <= sizeLine /\ (a == sysModules) = false /\ ∃ vs, KV kvs vs /\ h.DictOf (mixKind P w) a vs
 | .dT kvs => kvs.length <= sizeLine /\ (a == sysModules) = false /\ ∃ xs : List (List Key × Addr × Value),
   Paired (fun (p : List Key × V) (q : List Key × Addr × Value) => p.1 = q.1 /\ H q.2.1 = some (.tup (p.1.map kV)) /\ RelV p.2 q.2.2) kvs xs /\
   ∃ o es ep, h.get? a = some o /\ o.ExactDict /\ o.data = .dict es ep /\ es.toList = xs.map (entryOfKey (tupleKind (mixKind P w))) /\ (xs.map (·.1)).Nodup
 | .set S n => h.SetOf (intKind P w) a S n
 | .ins C dx fs => H dx = some (.own a) /\ fs.length <= 1000 /\ dx ≠ a /\ h.get? a = some (W.instObj C dx) /\
   ∃ mA, h.Ns1 dx mA /\ (∀ f, RelO (fs.lookup f) (mA f)) /\ PySem.Within mA (fs.map (·.1))
 | .own _ => ∃ o, h.get? a = some o
 | .xd fs => ∃ mA, h.Ns1 a mA /\ ∀ f, RelO (fs.lookup f) (mA f)
 | .rng lo hi => ∃ t u v, h.get? a = some { cls := .type "range", data := .fields #[.int lo t, .int hi u, .int 1 v] }
 | .frz o u => h.get? a = some o /\ ObjOk H h a u
 | .tbl ps => h.get? a = some { cls := .none, data := .fields ps }
 | .met f x => h.get? a = some (W.methodObj (.ref f) (.ref x))
 | .ext φ => φ h /\ (∃ o, h.get? a = some o) /\ ∀ h1 h2 : Heap, φ h1 -> (∀ o, h1.get? a = some o -> h2.get? a = some o) -> φ h2
def HOk (H : Hp) (h : Heap) : Prop := ∀ a o, H a = some o -> ObjOk P w H h a o
end
section
variable {P : Program} {w : World} {H H' : Hp} {h h' : Heap} {a : Addr} {o : HO}
theorem ObjOk.lt (x : ObjOk P w H h a o) : a < h.objs.size := by
 cases o with
 | lst xs => obtain ⟨_, _, _, _, e⟩ := x; exact yan e
 | tup xs => obtain ⟨_, _, _, p⟩ := x; exact p.lt
 | dK kvs => obtain ⟨_, _, _, _, o, _, _, e, _⟩ := x; exact yan e
 | dT kvs => obtain ⟨_, _, _, _, o, _, _, e, _⟩ := x; exact yan e
 | set S n => obtain ⟨o, _, _, _, e, _⟩ := x; exact yan e
 | ins C dx fs => obtain ⟨_, _, _, e, _⟩ := x; exact yan e
 | own y => obtain ⟨_, e⟩ := x; exact yan e
 | xd fs => obtain ⟨_, ⟨_, _, _, e, _⟩, _⟩ := x; exact yan e
 | rng lo hi => obtain ⟨_, _, _, e⟩ := x; exact yan e
 | frz ob u => obtain ⟨e, _⟩ := x; exact yan e
 | tbl ps => exact yan (show h.get? a = some _ from x)
 | met f y => exact yan (show h.get? a = some _ from x)
 | ext φ => obtain ⟨_, ⟨_, e⟩, _⟩ := x; exact yan e
theorem Paired.mapP {α β : Type} {F G : α -> β -> Prop} : ∀ {l₁ : List α} {l₂ : List β}, Paired F l₁ l₂ -> (∀ a b, F a b -> G a b) -> Paired G l₁ l₂
 | _, _, .nil, _ => .nil
 | _, _, .cons r t, f => .cons (f _ _ r) (Paired.mapP t f)
theorem ObjOk.stay (x : ObjOk P w H h a o) (k : ∀ b u, (b = a \/ H b = some (.own a)) -> h.get? b = some u -> h'.get? b = some u)
  (ho : ∀ b, H b = some (.own a) -> H' b = some (.own a)) (ht : ∀ b xs, H b = some (.tup xs) -> H' b = some (.tup xs)) : ObjOk P w H' h' a o := by
 induction o with
 | lst xs => obtain ⟨z, its, n, r, e⟩ := x; exact ⟨z, its, n, r, k _ _ (.inl rfl) e⟩
 | tup xs => obtain ⟨z, its, r, ob, e, c⟩ := x; exact ⟨z, its, r, ob, k _ _ (.inl rfl) e, c⟩
 | dK kvs => obtain ⟨z, y, vs, r, ob, es, ep, e, c⟩ := x; exact ⟨z, y, vs, r, ob, es, ep, k _ _ (.inl rfl) e, c⟩
 | dT kvs =>
  obtain ⟨z, y, xs, r, ob, es, ep, e, c⟩ := x;exact ⟨z, y, xs, Paired.mapP r fun p q z => ⟨z.1, ht _ _ z.2.1, z.2.2⟩, ob, es, ep, k _ _ (.inl rfl) e, c⟩
 | set S n => obtain ⟨ob, es, ep, t, e, c⟩ := x; exact ⟨ob, es, ep, t, k _ _ (.inl rfl) e, c⟩
 | ins C dx fs =>
  obtain ⟨d, z, ne, e, mA, ⟨od, es, ep, e2, c⟩, r⟩ := x;exact ⟨ho _ d, z, ne, k _ _ (.inl rfl) e, mA, ⟨od, es, ep, k _ _ (.inr d) e2, c⟩, r⟩
 | own y => obtain ⟨ob, e⟩ := x; exact ⟨ob, k _ _ (.inl rfl) e⟩
 | xd fs => obtain ⟨mA, ⟨od, es, ep, e, c⟩, r⟩ := x; exact ⟨mA, ⟨od, es, ep, k _ _ (.inl rfl) e, c⟩, r⟩
 | rng lo hi => obtain ⟨t, u, v, e⟩ := x; exact ⟨t, u, v, k _ _ (.inl rfl) e⟩
 | frz ob u ih => obtain ⟨e, q⟩ := x; exact ⟨k _ _ (.inl rfl) e, ih q⟩
 | tbl ps =>
  have e : h.get? a = some { cls := .none, data := .fields ps } := x;show h'.get? a = some { cls := .none, data := .fields ps };exact k a _ (.inl rfl) e
 | met f y =>
  have e : h.get? a = some (W.methodObj (.ref f) (.ref y)) := x;show h'.get? a = some (W.methodObj (.ref f) (.ref y));exact k a _ (.inl rfl) e
 | ext φ => obtain ⟨p, ⟨o, e⟩, st⟩ := x; exact ⟨st _ _ p fun o q => k _ _ (.inl rfl) q, ⟨o, k _ _ (.inl rfl) e⟩, st⟩
theorem HOk.lt (x : HOk P w H h) (e : H a = some o) : a < h.objs.size := (x a o e).lt
theorem HOk.fresh (x : HOk P w H h) (e : h.objs.size <= a) : H a = none := by
 cases q : H a with
 | none => rfl
 | some u => exact absurd (Nat.lt_of_lt_of_le (x.lt q) e) (Nat.lt_irrefl _)
theorem HOk.kept (x : HOk P w H h) (k : ∀ b u, h.get? b = some u -> h'.get? b = some u) : HOk P w H h' := fun a o e =>
 (x a o e).stay (fun b u _ q => k b u q) (fun _ q => q) fun _ _ q => q
theorem HOk.laid (x : HOk P w H h) (k : ∀ b u, h.get? b = some u -> h'.get? b = some u) (hp : h.objs.size <= a) (new : ObjOk P w (upd H a o) h' a o) : HOk P w (upd H a o) h' := fun b u e => by
 have hn := x.fresh hp
 by_cases hb : b = a
 ·subst hb; rw [zad] at e; cases e; exact new
 ·rw [zaw hb] at e;exact (x b u e).stay (fun c v _ q => k c v q) (fun c q => by rw [zaw (zas q hn)]; exact q) fun c xs q => by rw [zaw (zas q hn)]; exact q
end
def Rd (H : Hp) (a : Addr) (u : HO) : Prop := H a = some u \/ ∃ o, H a = some (.frz o u)
theorem Rd.ok {P : Program} {w : World} {H : Hp} {h : Heap} {a : Addr} {u : HO} (r : Rd H a u) (x : HOk P w H h) : ObjOk P w H h a u := by
 rcases r with r | ⟨o, r⟩
 ·exact x a u r
 ·obtain ⟨_, q⟩ := x a _ r;exact q
def Mut : Option HO -> Prop
 | some (.lst _) => True
 | some (.dK _) => True
 | some (.dT _) => True
 | some (.set _ _) => True
 | some (.ins _ _ _) => True
 | some (.ext _) => True
 | _ => False
section
variable {P : Program} {w : World} {H : Hp} {h h' : Heap} {x e : Addr} {o' : HO}
theorem HOk.write (ok : HOk P w H h) (mu : Mut (H x)) (he : e = x \/ H e = some (.own x)) (k : ∀ b u, b ≠ e -> h.get? b = some u -> h'.get? b = some u) (heo : ∃ u, h'.get? e = some u)
  (new : ObjOk P w (upd H x o') h' x o') : HOk P w (upd H x o') h' := fun b u q => by
 have nown : ∀ c y, H c = some (.own y) -> c ≠ x := fun c y r z => by subst z; rw [r] at mu; exact mu
 have ntup : ∀ c xs, H c = some (.tup xs) -> c ≠ x := fun c xs r z => by subst z; rw [r] at mu; exact mu
 by_cases hb : b = x
 ·subst hb; rw [zad] at q; cases q; exact new
 ·rw [zaw hb] at q
  by_cases hbe : b = e
  ·have q' : H b = some (.own x) := by
    rcases he with z | z
    ·exact absurd (hbe.trans z) hb
    ·rw [hbe]; exact z
   rw [q] at q'; cases q';obtain ⟨v, hv⟩ := heo;exact ⟨v, by rw [hbe]; exact hv⟩
  ·refine (ok b u q).stay (fun c v hc r => k c v ?_ r) (fun c r => by rw [zaw (nown c b r)]; exact r) fun c xs r => by rw [zaw (ntup c xs r)]; exact r
   rcases hc with rfl | hc
   ·exact hbe
   ·rintro rfl
    rcases he with z | z
    ·exact nown c b hc z
    ·rw [hc] at z; cases z; exact hb rfl
end
structure Un (fs ex : List Addr) (H H' : Hp) (h h' : Heap) : Prop where
 keep : ∀ b o, h.get? b = some o -> H b = none -> b ∉ fs -> b ∉ ex -> h'.get? b = some o
 slot : ∀ b o, h.get? b = some o -> H b = none -> b ∈ fs -> b ∉ ex -> ∃ sl, h'.get? b = some { o with slots := sl }
 free : ∀ b o, h.get? b = some o -> H b = none -> b ∉ ex -> H' b = none
 there : ∀ b o, h.get? b = some o -> b ∉ ex -> ∃ o', h'.get? b = some o'
 tups : ∀ b xs, H b = some (.tup xs) -> H' b = some (.tup xs)
 frzs : ∀ b o u, H b = some (.frz o u) -> H' b = some (.frz o u)
 tbls : ∀ b ps, H b = some (.tbl ps) -> ∃ more, H' b = some (.tbl (ps ++ more))
section
variable {fs fs' ex ex' : List Addr} {H H1 H2 : Hp} {h h1 h2 h' : Heap} {a x e : Addr} {o : HO}
theorem Un.any (u : Un fs ex H H1 h h1) {b : Addr} {ob : Obj} (q : h.get? b = some ob) (n : H b = none) (hx : b ∉ ex) : ∃ sl, h1.get? b = some { ob with slots := sl } := by
 by_cases hb : b ∈ fs
 ·exact u.slot b ob q n hb hx
 ·exact ⟨ob.slots, u.keep b ob q n hb hx⟩
theorem Un.kept (k : ∀ b u, h.get? b = some u -> h'.get? b = some u) : Un fs ex H H h h' :=
 ⟨fun b ob q _ _ _ => k b ob q, fun b ob q _ _ _ => ⟨ob.slots, k b ob q⟩, fun _ _ _ n _ => n, fun b ob q _ => ⟨ob, k b ob q⟩, fun _ _ q => q, fun _ _ _ q => q, fun _ ps q => ⟨#[], by rw [q]; simp⟩⟩
theorem Un.refl : Un fs ex H H h h := Un.kept fun _ _ q => q
theorem Un.laid (k : ∀ b u, h.get? b = some u -> h'.get? b = some u) (hp : h.objs.size <= a) (hn : H a = none) : Un fs ex H (upd H a o) h h' where
 keep := fun b u q _ _ _ => k b u q
 slot := fun b u q _ _ _ => ⟨u.slots, k b u q⟩
 free := fun b u q n _ => by rw [zaw (Nat.ne_of_lt (Nat.lt_of_lt_of_le (yan q) hp))]; exact n
 there := fun b u q _ => ⟨u, k b u q⟩
 tups := fun b xs q => by rw [zaw (zas q hn)]; exact q
 frzs := fun b u xs q => by rw [zaw (zas q hn)]; exact q
 tbls := fun b ps q => ⟨#[], by rw [zaw (zas q hn), q]; simp⟩
theorem Un.write (mu : Mut (H x)) (he : e = x \/ H e = some (.own x)) (k : ∀ b u, b ≠ e -> h.get? b = some u -> h'.get? b = some u) (heo : ∃ u, h'.get? e = some u) : Un fs ex H (upd H x o) h h' := by
 have hx : ∀ b, H b = none -> b ≠ x := fun b n z => by subst z; rw [n] at mu; exact mu
 have hb : ∀ b, H b = none -> b ≠ e := fun b n z => by
  subst z;rcases he with r | r
  ·exact hx b n r
  ·rw [n] at r; cases r
 have hm : ∀ b u, H b = some u -> ¬ Mut (some u) -> b ≠ x := fun b u q nm z => by subst z; rw [q] at mu; exact nm mu
 refine ⟨fun b u q n _ _ => k b u (hb b n) q, fun b u q n _ _ => ⟨u.slots, k b u (hb b n) q⟩, fun b u q n _ => by rw [zaw (hx b n)]; exact n, fun b u q _ => ?_,
  fun b xs q => by rw [zaw (hm b _ q fun z => z)]; exact q, fun b u xs q => by rw [zaw (hm b _ q fun z => z)]; exact q, fun b ps q => ⟨#[], by rw [zaw (hm b _ q fun z => z), q]; simp⟩⟩
 by_cases hbe : b = e
 ·subst hbe; exact heo
 ·exact ⟨u, k b u hbe q⟩
end
def trk (h : Heap) (H : Hp) : List Addr := (List.range h.objs.size).filter fun a => (H a).isSome
def hidT (h : Heap) (H : Hp) : Heap := W.hideAll h (trk h H)
theorem zh5 (h : Heap) (H : Hp) : (hidT h H).objs.size = h.objs.size := W.hideAll_size _ _
theorem zje {h : Heap} {H : Hp} {b : Addr} {o : Obj} (e : h.get? b = some o) (n : H b = none) : (hidT h H).get? b = some o :=
 W.hideAll_get _ e fun hm => by
  have q : (H b).isSome = true := (List.mem_filter.mp hm).2;rw [n] at q; simp at q
theorem zkL {h : Heap} {H : Hp} {b : Addr} {o : Obj} (e : (hidT h H).get? b = some o) : h.get? b = some o /\ H b = none := by
 have e' : h.get? b = some o := W.of_hideAll (trk h H) e;refine ⟨e', ?_⟩;cases q : H b with
 | none => rfl
 | some x =>
  have hm : b ∈ trk h H := List.mem_filter.mpr ⟨List.mem_range.mpr (yan e'), by simp [q]⟩;have z : (hidT h H).get? b = none := W.hideAll_none (trk h H) hm;rw [z] at e; cases e
structure Mod (K : W.Frag) (mg : Str -> Option Value) (base : Heap) : Prop where
 kin : K.In base
 glob : base.Ns mainGlobals mg
 blt : ∃ mb, base.Ns builtinsNs mb /\ ∀ x : Str, x ≠ "__name__" -> mb x = bootBuiltins x
 nolimit : base.NoLimit
structure Cx where
 prog : Program
 w : World
 K : W.Frag
 mg : Str -> Option Value
 base : Heap
 A : Around
 N : List Str
 s₀ : Shared
 H₀ : Hp
 env : Env
 outer : List Env
 stack : List Env
 ex : List Addr
 fn : Str -> Bool
 calm : Bool
 pn : ZP
 xe : ZQ
def frs (l : List Env) : List Addr := l.filterMap (·.frame)
abbrev Cx.fs (X : Cx) : List Addr := frs X.outer
def Vis (sc : Scope) (x : Str) : Prop := sc.names.lookup x = some .local \/ sc.names.lookup x = some .cell \/ sc.names.lookup x = some .free
def Loc (sc : Scope) (x : Str) : Prop := sc.names.lookup x = some .local \/ sc.names.lookup x = some .cell
def Look (env : Env) (h : Heap) (m : Str -> Option Value) (x : Str) (u : Value) : Prop :=
 (env.kindOf x = some .local /\ m x = some u) \/ ((env.kindOf x = some .cell \/ env.kindOf x = some .free) /\ ∃ c, env.cells.lookup x = some c /\ h.IsCell c (some u))
structure Cx.Ok (X : Cx) : Prop where
 mod : Mod X.K X.mg X.base
 kind : X.env.scope.kind = .function
 glob : X.env.globals = mainGlobals
 blt : X.env.builtins = builtinsNs
 above : X.s₀.heap.objs.size <= X.env.locals
 inj : ∀ x y c, X.env.cells.lookup x = some c -> X.env.cells.lookup y = some c -> x = y
 has : ∀ x, (X.env.kindOf x = some .cell \/ X.env.kindOf x = some .free) -> ∃ c, X.env.cells.lookup x = some c
 cab : ∀ x c, X.fn x = true -> X.env.cells.lookup x = some c -> X.s₀.heap.objs.size <= c
 hd : X.calm = true -> X.A.handled = none
 frames : X.A.frames = some X.stack
 stk : X.stack = X.outer \/ (X.stack = X.env :: X.outer /\ X.env.frame = some X.env.locals)
 exf : ∀ b ∈ X.ex, b ≠ X.env.locals /\ ∀ x c, X.env.cells.lookup x = some c -> c ≠ b
 bs : ∀ b o, X.base.get? b = some o -> X.s₀.heap.get? b = some o /\ X.H₀ b = none
 bsz : X.base.objs.size <= X.s₀.heap.objs.size
 noex : ∀ b o, X.base.get? b = some o -> b ∉ X.ex
 exfs : ∀ b ∈ X.ex, b ∉ X.fs
 funs : X.s₀.heap.FunFrames X.base X.outer
 frf : ∀ b ∈ X.fs, X.H₀ b = none
structure Inv (X : Cx) (Qa : ZP) (σ : List (Option V)) (H : Hp) (s : Shared) : Prop where
 ok : X.Ok
 os : s.os = X.s₀.os
 bare : AllBare s.gens
 base : Un X.fs X.ex X.H₀ H X.s₀.heap s.heap
 loc : ∃ m, s.heap.Ns X.env.locals m /\ ∀ (i : Nat) (x : Str) (v : V), X.N[i]? = some x -> σ[i]? = some (some v) -> Vis X.env.scope x -> ∃ u, RelV v u /\ Look X.env s.heap m x u
 cell : ∀ x c, X.env.cells.lookup x = some c -> ∃ v, s.heap.IsCell c v
 free : H X.env.locals = none
 freeC : ∀ x c, X.env.cells.lookup x = some c -> H c = none
 pin : ∀ p ∈ X.pn ++ Qa, s.heap.get? p.1 = some p.2 /\ H p.1 = none /\ p.1 ≠ X.env.locals /\ p.1 ∉ X.fs /\ ∀ v, p.2.data ≠ .cell v
 hok : HOk X.prog X.w H s.heap
 len : σ.length = X.N.length
section
variable {X : Cx} {Qa : ZP} {σ : List (Option V)} {H H' : Hp} {s : Shared} {h' : Heap}
theorem Cx.Ok.nofr (ok : X.Ok) {b : Addr} {o : Obj} (e : X.base.get? b = some o) : b ∉ X.fs := fun hb => by
 have := (ok.funs.mem hb).1;rw [e] at this; cases this
theorem Inv.bs (I : Inv X Qa σ H s) : ∀ b o, X.base.get? b = some o -> s.heap.get? b = some o /\ H b = none := fun b o e =>
 ⟨I.base.keep b o (I.ok.bs b o e).1 (I.ok.bs b o e).2 (I.ok.nofr e) (I.ok.noex b o e), I.base.free b o (I.ok.bs b o e).1 (I.ok.bs b o e).2 (I.ok.noex b o e)⟩
theorem Inv.bk (I : Inv X Qa σ H s) : ∀ b o, X.base.get? b = some o -> s.heap.get? b = some o := fun b o e => (I.bs b o e).1
theorem Inv.mod (I : Inv X Qa σ H s) : Mod X.K X.mg X.base := I.ok.mod
theorem Inv.kIn (I : Inv X Qa σ H s) : X.K.In s.heap := I.ok.mod.kin.keeps I.bk
theorem Inv.fr (I : Inv X Qa σ H s) : ∃ m, Fr X.base X.env.locals s.heap m :=
 let ⟨m, hn, _⟩ := I.loc
 ⟨m, hn, I.bk, yat I.ok.bsz I.ok.above⟩
theorem Inv.lt (I : Inv X Qa σ H s) : X.env.locals < s.heap.objs.size := let ⟨_, hn, _⟩ := I.loc; hn.lt
theorem Inv.sz (I : Inv X Qa σ H s) : X.s₀.heap.objs.size <= s.heap.objs.size := yat I.ok.above (Nat.le_of_lt I.lt)
theorem Inv.nofs (I : Inv X Qa σ H s) {a : Addr} (h : s.heap.objs.size <= a) : a ∉ X.fs := fun hb => by
 obtain ⟨_, o, ho, _⟩ := I.ok.funs.mem hb;exact absurd (Nat.lt_of_lt_of_le (yan ho) (yat I.sz h)) (Nat.lt_irrefl _)
theorem Inv.cne (I : Inv X Qa σ H s) : ∀ x c, X.env.cells.lookup x = some c -> c ≠ X.env.locals := fun x c e z => by
 obtain ⟨v, o, ho, hd⟩ := I.cell x c e;obtain ⟨m, ⟨o', es, ep, ho', hd', _⟩, _⟩ := I.loc;rw [z, ho'] at ho; cases ho; rw [hd'] at hd; cases hd
theorem Inv.funs (I : Inv X Qa σ H s) : s.heap.FunFrames X.base X.outer := by
 have all : ∀ (l : List Env), (∀ b ∈ frs l, b ∈ X.fs) -> X.s₀.heap.FunFrames X.base l -> s.heap.FunFrames X.base l := by
  intro l
  induction l with
  | nil => intro _ _; trivial
  | cons env r ih =>
   intro hs hl;obtain ⟨hk, ⟨L, o, hf, hn, ho, hd⟩, hr⟩ := hl;have hL : L ∈ X.fs := hs L (by unfold frs; rw [List.filterMap_cons, hf]; exact List.mem_cons_self);obtain ⟨sl, e⟩ := I.base.slot L o ho (I.ok.frf L hL) hL fun z => I.ok.exfs L z hL;exact ⟨hk, ⟨L, _, hf, hn, e, hd⟩, ih (fun b hb => hs b (by unfold frs; rw [List.filterMap_cons, hf]; exact List.mem_cons_of_mem _ hb)) hr⟩
 exact all X.outer (fun _ hb => hb) I.ok.funs
theorem Inv.stack (I : Inv X Qa σ H s) : s.heap.FunFrames X.base X.stack := by
 rcases I.ok.stk with e | ⟨e, hf⟩
 ·rw [e]; exact I.funs
 ·rw [e];obtain ⟨m, hn, _⟩ := I.loc;refine .cons (by rw [I.ok.kind]; decide) hf hn ?_ I.funs;exact Heap.get?_none_of_le (yat I.ok.bsz I.ok.above)
theorem Inv.stkSub (I : Inv X Qa σ H s) : ∀ b ∈ frs X.stack, b ∈ X.env.locals :: X.fs := fun b hb => by
 rcases I.ok.stk with e | ⟨e, hf⟩
 ·rw [e] at hb; exact List.mem_cons_of_mem _ hb
 ·rw [e] at hb;unfold frs at hb;rw [List.filterMap_cons, hf] at hb;exact hb
theorem Inv.stkFree (I : Inv X Qa σ H s) : ∀ b ∈ frs X.stack, H b = none := fun b hb => by
 rcases yau.mp (I.stkSub b hb) with e | hb
 ·rw [e]; exact I.free
 ·obtain ⟨_, o, ho, _⟩ := I.ok.funs.mem hb;exact I.base.free b o ho (I.ok.frf b hb) fun z => I.ok.exfs b z hb
theorem Inv.step {g' : Array GenState} {t' : Nat} {d' : Drawn} {ch : List Addr} (I : Inv X Qa σ H s)
  (hch : ∀ b ∈ ch, (b ∈ X.ex \/ X.s₀.heap.objs.size <= b) /\ b ≠ X.env.locals /\ (∀ x c, X.env.cells.lookup x = some c -> c ≠ b) /\ ∀ p ∈ X.pn ++ Qa, p.1 ≠ b)
  (keep : ∀ b o, b ≠ X.env.locals -> b ∉ X.fs -> b ∉ ch -> s.heap.get? b = some o -> H b = none -> h'.get? b = some o)
  (slot : ∀ b o, b ≠ X.env.locals -> b ∈ X.fs -> b ∉ ch -> s.heap.get? b = some o -> H b = none -> ∃ sl, h'.get? b = some { o with slots := sl }) (free : ∀ b o, b ∉ ch -> s.heap.get? b = some o -> H b = none -> H' b = none)
  (there : ∀ b o, b ∉ ch -> s.heap.get? b = some o -> ∃ o', h'.get? b = some o')
  (tups : ∀ b xs, H b = some (.tup xs) -> H' b = some (.tup xs)) (frzs : ∀ b o u, H b = some (.frz o u) -> H' b = some (.frz o u)) (tbls : ∀ b ps, H b = some (.tbl ps) -> ∃ more, H' b = some (.tbl (ps ++ more)))
  (ns : ∀ m, s.heap.Ns X.env.locals m -> h'.Ns X.env.locals m) (hok : HOk X.prog X.w H' h') (hg : AllBare g') :
  Inv X Qa σ H' { s with heap := h', gens := g', drawn := d', toks := t' } := by
 have neL : ∀ b o, X.s₀.heap.get? b = some o -> b ≠ X.env.locals := fun b o e => Nat.ne_of_lt (Nat.lt_of_lt_of_le (yan e) I.ok.above);have neC : ∀ b o, X.s₀.heap.get? b = some o -> b ∉ X.ex -> b ∉ ch := fun b o e hx hb => by
  rcases (hch b hb).1 with z | z
  ·exact hx z
  ·exact absurd (Nat.lt_of_lt_of_le (yan e) z) (Nat.lt_irrefl _)
 have cellK : ∀ x c, X.env.cells.lookup x = some c -> ∀ v, s.heap.IsCell c v -> h'.IsCell c v := fun x c e v ⟨o, ho, hd⟩ => by
  have nch : c ∉ ch := fun z => (hch c z).2.2.1 x c e rfl
  by_cases hc : c ∈ X.fs
  ·obtain ⟨sl, q⟩ := slot c o (I.cne x c e) hc nch ho (I.freeC x c e);exact ⟨_, q, hd⟩
  ·exact ⟨o, keep c o (I.cne x c e) hc nch ho (I.freeC x c e), hd⟩
 refine ⟨I.ok, I.os, hg, ⟨fun b o e n hb hx => ?_, fun b o e n hb hx => ?_, fun b o e n hx => ?_, fun b o e hx => ?_, fun b xs e => tups b xs (I.base.tups b xs e), fun b o xs e => frzs b o xs (I.base.frzs b o xs e), fun b ps e => ?_⟩, ?_, fun x c e => ?_, ?_, fun x c e => ?_, fun p hp => ?_, hok, I.len⟩
 ·exact keep b o (neL b o e) hb (neC b o e hx) (I.base.keep b o e n hb hx) (I.base.free b o e n hx)
 ·obtain ⟨sl, e1⟩ := I.base.slot b o e n hb hx;obtain ⟨sl', e2⟩ := slot b _ (neL b o e) hb (neC b o e hx) e1 (I.base.free b o e n hx);exact ⟨sl', e2⟩
 ·obtain ⟨o', e1⟩ := I.base.there b o e hx;exact free b o' (neC b o e hx) e1 (I.base.free b o e n hx)
 ·obtain ⟨o', e1⟩ := I.base.there b o e hx;exact there b o' (neC b o e hx) e1
 ·obtain ⟨m1, e1⟩ := I.base.tbls b ps e;obtain ⟨m2, e2⟩ := tbls b _ e1;exact ⟨m1 ++ m2, by rw [e2, Array.append_assoc]⟩
 ·obtain ⟨m, hn, hl⟩ := I.loc;refine ⟨m, ns m hn, fun i x v e1 e2 e3 => ?_⟩;obtain ⟨u, r, l⟩ := hl i x v e1 e2 e3;refine ⟨u, r, ?_⟩;rcases l with l | ⟨k, c, e, z⟩
  ·exact .inl l
  ·exact .inr ⟨k, c, e, cellK x c e _ z⟩
 ·obtain ⟨v, z⟩ := I.cell x c e;exact ⟨v, cellK x c e v z⟩
 ·obtain ⟨m, ⟨o, _, _, ho, _⟩, _⟩ := I.loc;exact free _ o (fun z => (hch _ z).2.1 rfl) ho I.free
 ·obtain ⟨v, o, ho, hd⟩ := I.cell x c e;exact free c o (fun z => (hch c z).2.2.1 x c e rfl) ho (I.freeC x c e)
 ·obtain ⟨e, n, ne, nf, d⟩ := I.pin p hp;have nch : p.1 ∉ ch := fun z => (hch p.1 z).2.2.2 p hp rfl;exact ⟨keep p.1 p.2 ne nf nch e n, free p.1 p.2 nch e n, ne, nf, d⟩
theorem Inv.un {t' : Nat} (I : Inv X Qa σ H s) (u : Un X.fs [] H H' s.heap h') (hok : HOk X.prog X.w H' h') : Inv X Qa σ H' { s with heap := h', toks := t' } := by
 obtain ⟨m, ⟨o, es, ep, ho, r⟩, _⟩ := id I.loc;obtain ⟨sl, hL⟩ := u.any ho I.free ς;exact I.step (g' := s.gens) (d' := s.drawn) (ch := []) (fun _ z => nomatch z) (fun b o _ hb _ e n => u.keep b o e n hb ς) (fun b o _ hb _ e n => u.slot b o e n hb ς) (fun b o _ e n => u.free b o e n ς) (fun b o _ e => u.there b o e ς) u.tups u.frzs u.tbls (fun m' hm => by
  obtain ⟨o', es', ep', ho', r'⟩ := hm;rw [ho] at ho'; cases ho';exact ⟨_, es', ep', hL, r'⟩) hok I.bare
theorem Inv.call {g' : Array GenState} {t' : Nat} {d' : Drawn} {ch : List Addr} (I : Inv X Qa σ H s) (u : Un (frs X.stack) ch H H' s.heap h') (hok : HOk X.prog X.w H' h') (hg : AllBare g')
  (hch : ∀ b ∈ ch, (b ∈ X.ex \/ X.s₀.heap.objs.size <= b) /\ b ≠ X.env.locals /\ (∀ x c, X.env.cells.lookup x = some c -> c ≠ b) /\ ∀ p ∈ X.pn ++ Qa, p.1 ≠ b) :
  Inv X Qa σ H' { s with heap := h', gens := g', drawn := d', toks := t' } := by
 obtain ⟨m, ⟨o, es, ep, ho, r⟩, _⟩ := id I.loc;obtain ⟨sl, hL⟩ := u.any ho I.free fun z => (hch _ z).2.1 rfl;exact I.step (ch := ch) hch (fun b o hL hb hc e n => u.keep b o e n (fun z => (yau.mp (I.stkSub b z)).elim hL hb) hc) (fun b o _ _ hc e n => u.any e n hc) (fun b o hc e n => u.free b o e n hc) (fun b o hc e => u.there b o e hc) u.tups u.frzs u.tbls (fun m' hm => by
  obtain ⟨o', es', ep', ho', r'⟩ := hm;rw [ho] at ho'; cases ho';exact ⟨_, es', ep', hL, r'⟩) hok hg
theorem Inv.turned {t' : Nat} {it : Addr} (I : Inv X Qa σ H s) (k : ∀ b o, b ≠ it -> s.heap.get? b = some o -> h'.get? b = some o) (hn : H it = none) (hL : it ≠ X.env.locals)
  (h1 : it ∈ X.ex \/ X.s₀.heap.objs.size <= it) (h2 : ∀ x c, X.env.cells.lookup x = some c -> c ≠ it) (h3 : ∀ p ∈ X.pn ++ Qa, p.1 ≠ it) : Inv X Qa σ H { s with heap := h', toks := t' } := by
 have nit : ∀ b u, H b = some u -> b ≠ it := fun b u e z => by rw [z, hn] at e; cases e
 refine I.step (g' := s.gens) (d' := s.drawn) (ch := [it]) (fun b hb => ?_) (fun b o _ _ hc e _ => k b o (fun z => hc (by simp [z])) e) (fun b o _ _ hc e _ => ⟨o.slots, k b o (fun z => hc (by simp [z])) e⟩) (fun _ _ _ _ n => n)
  (fun b o hc e => ⟨o, k b o (fun z => hc (by simp [z])) e⟩) (fun _ _ e => e) (fun _ _ _ e => e) (fun b ps e => ⟨#[], by rw [e]; simp⟩) (fun m hm => ?_) (fun b u e => ?_) I.bare
 ·have e : b = it := by simpa using hb
  subst e;exact ⟨h1, hL, h2, h3⟩
 ·obtain ⟨o, es, ep, ho, r⟩ := hm;exact ⟨o, es, ep, k _ o (Ne.symm hL) ho, r⟩
 ·refine (I.hok b u e).stay (fun c v hc q => k c v ?_ q) (fun _ q => q) fun _ _ q => q;rcases hc with z | z
  ·rw [z]; exact nit b u e
  ·exact nit c _ z
theorem Inv.tok (I : Inv X Qa σ H s) (t : Nat) : Inv X Qa σ H { s with toks := t } := I.un (h' := s.heap) (t' := t) Un.refl I.hok
theorem Inv.kept {t' : Nat} (I : Inv X Qa σ H s) (k : ∀ b u, s.heap.get? b = some u -> h'.get? b = some u) : Inv X Qa σ H { s with heap := h', toks := t' } := I.un (Un.kept k) (I.hok.kept k)
theorem Inv.laid {a : Addr} {o : HO} {t' : Nat} (I : Inv X Qa σ H s) (k : ∀ b u, s.heap.get? b = some u -> h'.get? b = some u) (hp : s.heap.objs.size <= a) (new : ObjOk X.prog X.w (upd H a o) h' a o) :
  Inv X Qa σ (upd H a o) { s with heap := h', toks := t' } := I.un (Un.laid k hp (I.hok.fresh hp)) (I.hok.laid k hp new)
theorem Inv.write {x e : Addr} {o : HO} {t' : Nat} (I : Inv X Qa σ H s) (mu : Mut (H x)) (he : e = x \/ H e = some (.own x)) (k : ∀ b u, b ≠ e -> s.heap.get? b = some u -> h'.get? b = some u) (heo : ∃ u, h'.get? e = some u)
  (new : ObjOk X.prog X.w (upd H x o) h' x o) : Inv X Qa σ (upd H x o) { s with heap := h', toks := t' } := I.un (Un.write mu he k heo) (I.hok.write mu he k heo new)
theorem Inv.weak {σ' : List (Option V)} (I : Inv X Qa σ H s) (hl : σ'.length = σ.length) (w : ∀ (i : Nat) v, σ'[i]? = some (some v) -> σ[i]? = some (some v)) : Inv X Qa σ' H s :=
 ⟨I.ok, I.os, I.bare, I.base, let ⟨m, hn, hl'⟩ := I.loc; ⟨m, hn, fun i x v e1 e2 e3 => hl' i x v e1 (w i v e2) e3⟩, I.cell, I.free, I.freeC, I.pin, I.hok, hl.trans I.len⟩
theorem Inv.pins_of {pins' : ZP} (I : Inv X Qa σ H s) (h : ∀ p ∈ pins', s.heap.get? p.1 = some p.2 /\ H p.1 = none /\ p.1 ≠ X.env.locals /\ p.1 ∉ X.fs /\ ∀ v, p.2.data ≠ .cell v) : Inv X pins' σ H s :=
 ⟨I.ok, I.os, I.bare, I.base, I.loc, I.cell, I.free, I.freeC, fun p hp => (yay.mp hp).elim (fun z => I.pin p (List.mem_append_left _ z)) (h p), I.hok, I.len⟩
theorem zdj {N : List Str} (hN : N.Nodup) {i j : Nat} {x : Str} (a : N[i]? = some x) (b : N[j]? = some x) : i = j := by
 obtain ⟨h1, e1⟩ := yag.mp a;obtain ⟨h2, e2⟩ := yag.mp b;exact (List.getElem_inj hN).mp (e1.trans e2.symm)
theorem zeN {M : Model} {A : Around} {E : ZQ} {i : Nat} {x : Str} {v : V} {u : Value} {Q : Unit -> Shared -> Prop} (I : Inv X Qa σ H s) (hN : X.N.Nodup) (hi : X.N[i]? = some x) (hx : Loc X.env.scope x) (r : RelV v u)
  (h : ∀ s', Inv X Qa (σ.set i (some v)) H s' -> (∃ a, Heap.SameBut a s.heap s'.heap /\ (a = X.env.locals \/ X.env.cells.lookup x = some a)) -> Q () s') (hf : X.fn x = true \/ X.env.scope.names.lookup x = some .local := by first | exact .inl rfl | exact .inr rfl | assumption) : wpAny M A (storeName X.env x u) Q E s := by
 obtain ⟨m, hn, hl⟩ := id I.loc;have hcls : (X.env.scope.kind == .class || (X.env.scope.kind == .module && X.env.locals != X.env.globals)) = false := by rw [I.ok.kind]; rfl
 have hiσ : i < σ.length := by rw [I.len]; exact (yag.mp hi).1
 have cne := I.cne;have tracked : ∀ {a : Addr} {h' : Heap}, (∃ o, s.heap.get? a = some o /\ H a = none) -> Heap.SameBut a s.heap h' -> HOk X.prog X.w H h' := fun {a h'} ha hs b ob e => by
  obtain ⟨_, _, hfree⟩ := ha;refine (I.hok b ob e).stay (fun c w' hc q => (hs.2 c ?_).trans q) (fun _ q => q) fun _ _ q => q
  rintro rfl
  rcases hc with rfl | hc
  ·rw [hfree] at e; cases e
  ·rw [hfree] at hc; cases hc
 rcases hx with hk | hk
 ·refine wpAny_storeName_local hk hn (fun h' hn' hs => ?_) hcls;obtain ⟨oL, _, _, hoL, _⟩ := id hn;refine h _ ⟨I.ok, I.os, I.bare, ⟨fun b o e n hb hx => ?_, fun b o e n hb hx => ?_, I.base.free, fun b o e hx => ?_, I.base.tups, I.base.frzs, I.base.tbls⟩, ⟨_, hn', fun j y v' e1 e2 e3 => ?_⟩, fun y c e => ?_, I.free, I.freeC, fun p hp => ?_, tracked ⟨oL, hoL, I.free⟩ hs, by simpa using I.len⟩ ⟨_, hs, .inl rfl⟩
  ·exact (hs.2 b (Nat.ne_of_lt (Nat.lt_of_lt_of_le (yan e) I.ok.above))).trans (I.base.keep b o e n hb hx)
  ·obtain ⟨sl, e1⟩ := I.base.slot b o e n hb hx;exact ⟨sl, (hs.2 b (Nat.ne_of_lt (Nat.lt_of_lt_of_le (yan e) I.ok.above))).trans e1⟩
  ·obtain ⟨o', e1⟩ := I.base.there b o e hx;exact ⟨o', (hs.2 b (Nat.ne_of_lt (Nat.lt_of_lt_of_le (yan e) I.ok.above))).trans e1⟩
  ·by_cases hj : j = i
   ·subst hj;rw [hi] at e1; cases e1;rw [List.getElem?_set_self hiσ] at e2;cases e2;exact ⟨u, r, .inl ⟨hk,ς⟩⟩
   ·rw [List.getElem?_set_ne (Ne.symm hj)] at e2;obtain ⟨u', r', q⟩ := hl j y v' e1 e2 e3;refine ⟨u', r', ?_⟩;rcases q with ⟨k, e⟩ | ⟨k, c, e, z⟩
    ·refine .inl ⟨k, ?_⟩;have : y ≠ x := fun e => hj (zdj hN e1 (e ▸ hi));simp [this, e]
    ·exact .inr ⟨k, c, e, z.sameBut hs (cne y c e)⟩
  ·obtain ⟨w', z⟩ := I.cell y c e;exact ⟨w', z.sameBut hs (cne y c e)⟩
  ·obtain ⟨e, n, ne, nf, d⟩ := I.pin p hp;exact ⟨(hs.2 p.1 ne).trans e, n, ne, nf, d⟩
 ·have hfn : X.fn x = true := by
   rcases hf with z | z
   ·exact z
   ·rw [z] at hk; cases hk
  obtain ⟨c, hc⟩ := I.ok.has x (.inl hk);obtain ⟨w', z⟩ := I.cell x c hc;refine wpAny_storeName_cell I.ok.kind hk hc z (fun h' hc' hs => ?_);obtain ⟨oc, hoc, hocd⟩ := id z;refine h { s with heap := h' } ⟨I.ok, I.os, I.bare, ⟨fun b o e n hb hx => ?_, fun b o e n hb hx => ?_, I.base.free, fun b o e hx => ?_, I.base.tups, I.base.frzs, I.base.tbls⟩, ⟨m, hn.sameBut hs (Ne.symm (cne x c hc)), fun j y v' e1 e2 e3 => ?_⟩, fun y c' e => ?_, I.free, I.freeC, fun p hp => ?_, tracked ⟨oc, hoc, I.freeC x c hc⟩ hs, by simpa using I.len⟩ ⟨c, hs, .inr hc⟩
  ·exact (hs.2 b (Nat.ne_of_lt (Nat.lt_of_lt_of_le (yan e) (I.ok.cab x c hfn hc)))).trans (I.base.keep b o e n hb hx)
  ·obtain ⟨sl, e1⟩ := I.base.slot b o e n hb hx;exact ⟨sl, (hs.2 b (Nat.ne_of_lt (Nat.lt_of_lt_of_le (yan e) (I.ok.cab x c hfn hc)))).trans e1⟩
  ·obtain ⟨o', e1⟩ := I.base.there b o e hx;exact ⟨o', (hs.2 b (Nat.ne_of_lt (Nat.lt_of_lt_of_le (yan e) (I.ok.cab x c hfn hc)))).trans e1⟩
  ·by_cases hj : j = i
   ·subst hj;rw [hi] at e1; cases e1;rw [List.getElem?_set_self hiσ] at e2;cases e2;exact ⟨u, r, .inr ⟨.inl hk, c, hc, hc'⟩⟩
   ·rw [List.getElem?_set_ne (Ne.symm hj)] at e2;obtain ⟨u', r', q⟩ := hl j y v' e1 e2 e3;refine ⟨u', r', ?_⟩;rcases q with q | ⟨k, c', e, z'⟩
    ·exact .inl q
    ·refine .inr ⟨k, c', e, z'.sameBut hs ?_⟩
     rintro rfl
     exact hj (zdj hN e1 (I.ok.inj _ _ _ e hc ▸ hi))
  ·by_cases hcc : c' = c
   ·subst hcc; exact ⟨_, hc'⟩
   ·obtain ⟨w2, z2⟩ := I.cell y c' e;exact ⟨w2, z2.sameBut hs hcc⟩
  ·obtain ⟨e, n, ne, nf, d⟩ := I.pin p hp;refine ⟨(hs.2 p.1 ?_).trans e, n, ne, nf, d⟩;intro q;rw [q, hoc] at e;have q' : oc = p.2 := Option.some.inj e;exact d w' (by rw [<- q']; exact hocd)
theorem zbZ {M : Model} {A : Around} {E : ZQ} {i : Nat} {x : Str} {v : V} {u : Value} {Q : Unit -> Shared -> Prop} (I : Inv X Qa σ H s) (hN : X.N.Nodup) (hi : X.N[i]? = some x) (hx : Loc X.env.scope x) (r : RelV v u)
  (h : ∀ s', Inv X Qa (σ.set i (some v)) H s' -> Q () s') (hf : X.fn x = true \/ X.env.scope.names.lookup x = some .local := by first | exact .inl rfl | exact .inr rfl | assumption) : wpAny M A (storeName X.env x u) Q E s :=
 zeN I hN hi hx r (fun s' I' _ => h s' I') hf
theorem Inv.call' {s' : Shared} {ch : List Addr} (I : Inv X Qa σ H s) (ho : s'.os = s.os) (u : Un (frs X.stack) ch H H' s.heap s'.heap) (hok : HOk X.prog X.w H' s'.heap) (hg : AllBare s'.gens)
  (hch : ∀ b ∈ ch, (b ∈ X.ex \/ X.s₀.heap.objs.size <= b) /\ b ≠ X.env.locals /\ (∀ x c, X.env.cells.lookup x = some c -> c ≠ b) /\ ∀ p ∈ X.pn ++ Qa, p.1 ≠ b) : Inv X Qa σ H' s' := by
 obtain ⟨h', g', d', t', o'⟩ := s';have e : o' = s.os := ho;subst e;exact I.call (g' := g') (t' := t') (d' := d') u hok hg hch
end
abbrev XK := Value -> Option Addr -> Hp -> Prop
abbrev St := List (Option V)
abbrev VK := V -> Hp -> Prop
abbrev TE := St -> Hp -> VK -> Prop
abbrev TT := St -> Hp -> (Bool -> Hp -> Prop) -> Prop
abbrev TA := St -> Hp -> (List V -> Hp -> Prop) -> Prop
structure Ends where
 nx : St -> Hp -> Prop
 rt : VK
 bk : St -> Hp -> Prop := fun _ _ => False
 ct : St -> Hp -> Prop := fun _ _ => False
abbrev TS := Ends -> St -> Hp -> Prop
def EP (X : Cx) (Qa : ZP) (σ : St) (Q : VK) (u : Value) (s' : Shared) : Prop := ∃ v H', Inv X Qa σ H' s' /\ RelV v u /\ Q v H'
def TP (X : Cx) (Qa : ZP) (σ : St) (Q : Bool -> Hp -> Prop) (b : Bool) (s' : Shared) : Prop := ∃ H', Inv X Qa σ H' s' /\ Q b H'
def AP (X : Cx) (Qa : ZP) (σ : St) (Q : List V -> Hp -> Prop) (us : List Value) (s' : Shared) : Prop := ∃ vs H', Inv X Qa σ H' s' /\ Vals vs us /\ Q vs H'
def SP (X : Cx) (Qa : ZP) (D : Ends) (f : Flow) (s' : Shared) : Prop :=
 match f with
 | .next => ∃ σ' H', Inv X Qa σ' H' s' /\ D.nx σ' H'
 | .brk => ∃ σ' H', Inv X Qa σ' H' s' /\ D.bk σ' H'
 | .cont => ∃ σ' H', Inv X Qa σ' H' s' /\ D.ct σ' H'
 | .ret u => ∃ v σ' H', Inv X Qa σ' H' s' /\ RelV v u /\ D.rt v H'
def PE (X : Cx) (e : Expr) (t : TE) : Prop :=
 ∀ (Qa : ZP) (s : Shared) (σ : St) (H : Hp) (Q : VK), Inv X Qa σ H s -> t σ H Q -> wpAny (model X.prog X.w) X.A (eval e X.env) (EP X Qa σ Q) X.xe s
def PT (X : Cx) (e : Expr) (t : TT) : Prop :=
 ∀ (Qa : ZP) (s : Shared) (σ : St) (H : Hp) (Q : Bool -> Hp -> Prop), Inv X Qa σ H s -> t σ H Q -> wpAny (model X.prog X.w) X.A (isTrue e X.env (eval e X.env)) (TP X Qa σ Q) X.xe s
def PW (X : Cx) (e : Expr) (t : TT) : Prop :=
 ∀ (whole : Sem Value) (Qa : ZP) (s : Shared) (σ : St) (H : Hp) (Q : Bool -> Hp -> Prop), Inv X Qa σ H s -> t σ H Q -> wpAny (model X.prog X.w) X.A (isTrue e X.env whole) (TP X Qa σ Q) X.xe s
theorem PW.pt {X : Cx} {e : Expr} {t : TT} (h : PW X e t) : PT X e t := h _
def PA (X : Cx) (es : List Expr) (t : TA) : Prop :=
 ∀ (pos : Pos) (Qa : ZP) (s : Shared) (σ : St) (H : Hp) (Q : List V -> Hp -> Prop), Inv X Qa σ H s -> t σ H Q -> wpAny (model X.prog X.w) X.A (spliced (backTo pos (starEach es X.env))) (AP X Qa σ Q) X.xe s
def PS (X : Cx) (st : Stmt) (t : TS) : Prop :=
 ∀ (Qa : ZP) (s : Shared) (σ : St) (H : Hp) (D : Ends), Inv X Qa σ H s -> t D σ H -> wpAny (model X.prog X.w) X.A (exec st X.env) (SP X Qa D) X.xe s
def PSs (X : Cx) (st : List Stmt) (t : TS) : Prop :=
 ∀ (Qa : ZP) (s : Shared) (σ : St) (H : Hp) (D : Ends), Inv X Qa σ H s -> t D σ H -> wpAny (model X.prog X.w) X.A (execs st X.env) (SP X Qa D) X.xe s
theorem thn {α : Type} {t : Sem α} {Q Q' : α -> Shared -> Prop} {M : Model} {A : Around} {E : ZQ} {s : Shared} (h : wpAny M A t Q E s) (hQ : ∀ a s, Q a s -> Q' a s) : wpAny M A t Q' E s := wpAny_mono h hQ fun _ _ x => x
section
variable {X : Cx}
theorem bin {a b : Expr} {ta tb : TE} (ha : PE X a ta) (hb : PE X b tb) {Qa : ZP} {s : Shared} {σ : St} {H : Hp} {R : V -> V -> Hp -> Prop} (I : Inv X Qa σ H s) (h : ta σ H fun x H1 => tb σ H1 fun y H2 => R x y H2)
  {α : Type} {Q : α -> Shared -> Prop} {f : Value -> Value -> Sem α}
  (hf : ∀ v u s2 x y H2, Inv X Qa σ H2 s2 -> RelV x v -> RelV y u -> R x y H2 -> wpAny (model X.prog X.w) X.A (f v u) Q X.xe s2) :
  wpAny (model X.prog X.w) X.A (eval a X.env) (fun v s₁ => wpAny (model X.prog X.w) X.A (eval b X.env) (fun u s₂ => wpAny (model X.prog X.w) X.A (f v u) Q X.xe s₂) X.xe s₁) X.xe s := by
 refine thn (ha Qa s σ H _ I h) fun v s1 ⟨x, H1, I1, r1, q1⟩ => ?_;refine thn (hb Qa s1 σ H1 _ I1 q1) fun u s2 ⟨y, H2, I2, r2, q2⟩ => ?_;exact hf v u s2 x y H2 I2 r1 r2 q2
def tVar (i : Nat) : TE := fun σ H Q => ∃ v, σ[i]? = some (some v) /\ Q v H
def tC (v : V) : TE := fun _ H Q => Q v H
theorem zmu {i : Nat} {x : Str} {pos : Pos} (hN : X.N[i]? = some x) (hv : Vis X.env.scope x) (hd : (x == ("__debug__" : Str)) = false := by decide) (hcd : (x == ("__classdict__" : Str)) = false := by decide) : PE X (.Name x pos) (tVar i) := by
 intro Qa s σ H Q I h;obtain ⟨v, e, h⟩ := h;obtain ⟨m, hn, hl⟩ := I.loc;obtain ⟨u, r, l⟩ := hl i x v hN e hv;have fin : EP X Qa σ Q u s := ⟨v, H, I, r, h⟩
 rcases l with ⟨hk, hm⟩ | ⟨hk, c, hc, hcell⟩
 ·exact wpAny_Name (wpAny_loadName_local I.ok.kind hk hn hm fin) hd
 ·rcases hk with hk | hk
  ·exact wpAny_Name (wpAny_loadName_cell I.ok.kind hk hc hcell fin) hd
  ·exact wpAny_Name (wpAny_loadName_free I.ok.kind hk hc hcell fin hcd) hd
theorem zag {i j pos} : PE X (.Constant (.int i) j pos) (tC (.int i)) := fun _ _ _ H _ I h => wpAny_Constant_int ⟨.int i, H, I.tok _, ⟨_, rfl⟩, h⟩
theorem zdO {b j pos} : PE X (.Constant (.bool b) j pos) (tC (.bl b)) := fun _ _ _ H _ I h => Constant_bool ⟨.bl b, H, I, rfl, h⟩
theorem zc2 {j pos} : PE X (.Constant .none j pos) (tC .non) := fun _ _ _ H _ I h => Constant_none ⟨.non, H, I, rfl, h⟩
theorem zai {x j pos} : PE X (.Constant (.str x) j pos) (tC (.str x)) := fun _ _ _ H _ I h => Calls.Constant_str ⟨.str x, H, I.tok _, ⟨_, rfl⟩, h⟩
def Gl (X : Cx) (x : Str) : Prop := X.env.kindOf x = some .globalImplicit
theorem zbV {E : ZQ} {Qa : ZP} {s : Shared} {σ : St} {H : Hp} {x : Str} {u : Value} {pos : Pos} {Q : ZQ} (I : Inv X Qa σ H s) (hg : Gl X x) (hm : X.mg x = some u) (h : Q u s)
  (hd : (x == ("__debug__" : Str)) = false := by decide) : wpAny (model X.prog X.w) X.A (eval (.Name x pos) X.env) Q E s :=
 Calls.Name_function_global I.ok.kind hg (Calls.loadGlobal_global (by rw [I.ok.glob]; exact I.mod.glob.keeps I.bk) hm h) hd
theorem zfY {E : ZQ} {Qa : ZP} {s : Shared} {σ : St} {H : Hp} {x : Str} {u : Value} {pos : Pos} {Q : ZQ} (I : Inv X Qa σ H s) (hg : Gl X x) (hm : X.mg x = none) (hv : bootBuiltins x = some u) (h : Q u s)
  (hn : x ≠ "__name__" := by decide) (hd : (x == ("__debug__" : Str)) = false := by decide) : wpAny (model X.prog X.w) X.A (eval (.Name x pos) X.env) Q E s := by
 obtain ⟨mb, h1, h2⟩ := I.mod.blt;exact Calls.Name_function_global I.ok.kind hg (Calls.loadGlobal_builtin (by rw [I.ok.glob]; exact I.mod.glob.keeps I.bk) hm (by rw [I.ok.blt]; exact h1.keeps I.bk) ((h2 x hn).trans hv) h) hd
theorem zaQ {x : Str} {v : V} {u : Value} {pos : Pos} (hg : Gl X x) (hm : X.mg x = some u) (r : RelV v u) (hd : (x == ("__debug__" : Str)) = false := by decide) : PE X (.Name x pos) (tC v) :=
 fun _ _ _ H _ I h => zbV I hg hm ⟨v, H, I, r, h⟩ hd
theorem zh6 {x : Str} {v : V} {u : Value} {pos : Pos} (hg : Gl X x) (hm : X.mg x = none) (hv : bootBuiltins x = some u) (r : RelV v u) (hn : x ≠ "__name__" := by decide) (hd : (x == ("__debug__" : Str)) = false := by decide) : PE X (.Name x pos) (tC v) :=
 fun _ _ _ H _ I h => zfY I hg hm hv ⟨v, H, I, r, h⟩ hn hd
variable {a b : Expr} {ta tb : TE} {pos : Pos}
def PC (X : Cx) (op : CmpOp) (a b : Expr) (t : TE) : Prop :=
 ∀ (Qa : ZP) (s : Shared) (σ : St) (H : Hp) (Q : VK), Inv X Qa σ H s -> t σ H Q ->
  wpAny (model X.prog X.w) X.A (eval a X.env) (fun v s₁ => wpAny (model X.prog X.w) X.A (eval b X.env) (fun u s₂ => wpAny (model X.prog X.w) X.A (compareOp op v u) (EP X Qa σ Q) X.xe s₂) X.xe s₁) X.xe s
theorem zjf (b : Expr) {op : CmpOp} (h : op ≠ .In) (h2 : op ≠ .NotIn) : behindInMarks op b = false := by
 have e1 : (op == CmpOp.In) = false := by cases op <;> first | rfl | exact absurd rfl h
 have e2 : (op == CmpOp.NotIn) = false := by cases op <;> first | rfl | exact absurd rfl h2
 cases b <;> simp [behindInMarks, e1, e2]
def tIsN (ta : TE) : TE := fun σ H Q => ta σ H fun x H1 => Q (.bl (decide (x = .non))) H1
theorem RelV.none_iff {x : V} {v : Value} (r : RelV x v) : (v == Value.none) = decide (x = .non) := by
 cases x with
 | non => cases r; rfl
 | bl _ => cases r; rfl
 | int _ => obtain ⟨t, rfl⟩ := r; rfl
 | str _ => obtain ⟨t, rfl⟩ := r; rfl
 | byt _ => obtain ⟨t, rfl⟩ := r; rfl
 | flt _ => obtain ⟨t, rfl⟩ := r; rfl
 | ref _ => cases r; rfl
 | ty _ => cases r; rfl
theorem zmv {j pos'} (ha : PE X a ta) : PC X .Is a (.Constant .none j pos') (tIsN ta) := by
 intro Qa s σ H Q I h;refine thn (ha Qa s σ H _ I h) fun v s1 ⟨x, H1, I1, r1, q1⟩ => ?_;exact Constant_none (is_none_gen ⟨.bl _, H1, I1, by rw [r1.none_iff]; rfl, q1⟩)
def tB (t : TE) : TT := fun σ H Q => t σ H fun x H1 => ∃ c, x = .bl c /\ Q c H1
theorem zmw {op : CmpOp} {t : TE} (h : PC X op a b t) (h1 : behindInMarks op b = false := by first | exact zjf _ δ δ | rfl) : PT X (.Compare a [op] [b] pos) (tB t) := by
 intro Qa s σ H Q I hw;refine wpAny_isTrue_Compare1 (thn (h Qa s σ H _ I hw) fun v s1 h1 => thn h1 fun u s2 h2 => thn h2 fun c s3 ⟨x, H1, I1, r1, q1⟩ => ?_) h1;obtain ⟨d, rfl, q⟩ := q1;cases r1;exact wpAny_truthy_bool ⟨H1, I1, q⟩
theorem zc3 {e : Expr} {t : TE} (h : PE X e t) (he : ∀ whole, isTrue e X.env whole = (do let v <- whole; standAt e.pos; holding [v] (truthy v)) := by intro _; rfl) : PT X e (tB t) := by
 intro Qa s σ H Q I hw;refine isTrue_plain (thn (h Qa s σ H _ I hw) fun v s1 ⟨x, H1, I1, r1, q1⟩ => ?_) (he _);obtain ⟨d, rfl, q⟩ := q1;cases r1;exact wpAny_truthy_bool ⟨H1, I1, q⟩
variable {tA tB' : TT} {rest : List Expr}
def tAnd (t u : TT) : TT := fun σ H Q => t σ H fun c H1 => if c = true then u σ H1 Q else Q false H1
def tOr (t u : TT) : TT := fun σ H Q => t σ H fun c H1 => if c = true then Q true H1 else u σ H1 Q
def tNot (t : TT) : TT := fun σ H Q => t σ H fun c H1 => Q (!c) H1
theorem zcL (ha : PT X a tA) : PW X (.BoolOp .And [a] pos) tA := by
 intro wh Qa s σ H Q I h;refine isTrue_and (thn (ha Qa s σ H Q I h) fun c s1 e => ?_);cases c with
 | true => exact isTrue_and_nil e
 | false => exact e
theorem zdp (ha : PT X a tA) : PW X (.BoolOp .Or [a] pos) tA := by
 intro wh Qa s σ H Q I h;refine isTrue_or (thn (ha Qa s σ H Q I h) fun c s1 e => ?_);cases c with
 | false => exact isTrue_or_nil e
 | true => exact e
theorem zdq (ha : PT X a tA) (hb : PW X (.BoolOp .And (b :: rest) pos) tB') : PW X (.BoolOp .And (a :: b :: rest) pos) (tAnd tA tB') := by
 intro wh Qa s σ H Q I h;refine isTrue_and (thn (ha Qa s σ H _ I h) fun c s1 ⟨H1, I1, q1⟩ => ?_);cases c with
 | true => exact hb wh Qa s1 σ H1 Q I1 q1
 | false => exact ⟨H1, I1, q1⟩
theorem zeO (ha : PT X a tA) (hb : PW X (.BoolOp .Or (b :: rest) pos) tB') : PW X (.BoolOp .Or (a :: b :: rest) pos) (tOr tA tB') := by
 intro wh Qa s σ H Q I h;refine isTrue_or (thn (ha Qa s σ H _ I h) fun c s1 ⟨H1, I1, q1⟩ => ?_);cases c with
 | true => exact ⟨H1, I1, q1⟩
 | false => exact hb wh Qa s1 σ H1 Q I1 q1
theorem zdr (ha : PT X a tA) : PT X (.UnaryOp .Not a pos) (tNot tA) := by
 intro Qa s σ H Q I h;exact isTrue_not (ha Qa s σ H (fun c H1 => Q (!c) H1) I h)
def zmx (ta tb : TE) : TE := fun σ H Q => ta σ H fun x H1 => ∃ c, x = .bl c /\ if c = true then tb σ H1 Q else Q (.bl false) H1
theorem zeP {op} {t : TE} (h : PE X a t) : PE X (.BoolOp op [a] pos) t := fun Qa s σ H Q I hw => BoolOp_one (h Qa s σ H Q I hw)
theorem zeQ (ha : PE X a ta) (hb : PE X (.BoolOp .And (b :: rest) pos) tb) : PE X (.BoolOp .And (a :: b :: rest) pos) (zmx ta tb) := by
 intro Qa s σ H Q I h;refine BoolOp_and (thn (ha Qa s σ H _ I h) fun v s1 ⟨x, H1, I1, r1, q1⟩ => ?_);obtain ⟨c, rfl, q1⟩ := q1;cases r1;refine wpAny_truthy_bool ?_;cases c with
 | true => exact hb Qa s1 σ H1 Q I1 q1
 | false => exact ⟨.bl false, H1, I1, rfl, q1⟩
end
def SqL (K : W.Frag) (H : Hp) (a : Addr) (xs : List V) : Prop :=
 Rd H a (.lst xs) \/
  ∃ (o : Obj) (its : Array Value) (n : Nat), K.lookup a = some o /\ o.cls = .type "list" /\ o.dict = none /\ o.data = .seq its n /\ its.size <= sizeLine /\ Vals xs its.toList
def SqT (K : W.Frag) (H : Hp) (a : Addr) (xs : List V) : Prop :=
 Rd H a (.tup xs) \/
  ∃ (o : Obj) (its : Array Value) (n : Nat), K.lookup a = some o /\ o.cls = .type "tuple" /\ o.data = .seq its n /\ its.size <= sizeLine /\ Vals xs its.toList
def absV : Value -> Option V
 | .none => some .non
 | .bool b => some (.bl b)
 | .int i _ => some (.int i)
 | .str x _ => some (.str x)
 | .bytes b _ => some (.byt b)
 | .float b _ => some (.flt b)
 | .ref a => some (.ref a)
 | .type n => some (.ty n)
 | _ => none
theorem RelV.abs {x : V} {u : Value} (r : RelV x u) : absV u = some x := by
 cases x with
 | non => cases r; rfl
 | bl _ => cases r; rfl
 | int _ => obtain ⟨t, rfl⟩ := r; rfl
 | str _ => obtain ⟨t, rfl⟩ := r; rfl
 | byt _ => obtain ⟨t, rfl⟩ := r; rfl
 | flt _ => obtain ⟨t, rfl⟩ := r; rfl
 | ref _ => cases r; rfl
 | ty _ => cases r; rfl
theorem RelV.inj {x y : V} {u : Value} (r : RelV x u) (q : RelV y u) : x = y := Option.some.inj (r.abs.symm.trans q.abs)
theorem Vals.inj : ∀ {xs ys : List V} {us : List Value}, Vals xs us -> Vals ys us -> xs = ys
 | _, _, _, .nil, .nil => rfl
 | _, _, _, .cons r t, .cons r' t' => by rw [r.inj r', Vals.inj t t']
section
variable {X : Cx} {Qa : ZP} {σ : St} {H : Hp} {s : Shared} {a : Addr} {xs ys : List V}
theorem SqL.of {K : W.Frag} (h : H a = some (.lst xs)) : SqL K H a xs := .inl (.inl h)
theorem SqT.of {K : W.Frag} (h : H a = some (.tup xs)) : SqT K H a xs := .inl (.inl h)
theorem Inv.list (I : Inv X Qa σ H s) (h : SqL X.K H a xs) : ∃ its : List Value, Vals xs its /\ PlainL s.heap a its.toArray /\ xs.length <= sizeLine := by
 rcases h with h | ⟨o, its, n, hk, hc, hd, hs, hz, r⟩
 ·obtain ⟨z, its, n, r, e⟩ := h.ok I.hok;exact ⟨its, r, ⟨_, n, e, rfl, rfl, rfl⟩, z⟩
 ·refine ⟨its.toList, r, ⟨o, n, I.kIn a o hk, hc, hd, by simpa using hs⟩, ?_⟩;have e := r.length;simp only [Array.length_toList] at e;omega
theorem Inv.tuple (I : Inv X Qa σ H s) (h : SqT X.K H a xs) : ∃ its : List Value, Vals xs its /\ IsTup s.heap a its.toArray /\ xs.length <= sizeLine := by
 rcases h with h | ⟨o, its, n, hk, hc, hs, hz, r⟩
 ·obtain ⟨z, its, r, p⟩ := h.ok I.hok;exact ⟨its, r, p, z⟩
 ·refine ⟨its.toList, r, ⟨o, I.kIn a o hk, hc, n, by simpa using hs⟩, ?_⟩;have e := r.length;simp only [Array.length_toList] at e;omega
theorem Inv.list_inj (I : Inv X Qa σ H s) (h : SqL X.K H a xs) (h' : SqL X.K H a ys) : xs = ys := by
 obtain ⟨its, r, ⟨o, n, e, _, _, d⟩, _⟩ := I.list h;obtain ⟨its', r', ⟨o', n', e', _, _, d'⟩, _⟩ := I.list h';rw [e] at e'; cases e';rw [d] at d'
 injection d' with d1 _
 have : its = its' := by simpa using congrArg Array.toList d1
 subst this;exact r.inj r'
theorem Inv.tuple_inj (I : Inv X Qa σ H s) (h : SqT X.K H a xs) (h' : SqT X.K H a ys) : xs = ys := by
 obtain ⟨its, r, ⟨o, e, _, n, d⟩, _⟩ := I.tuple h;obtain ⟨its', r', ⟨o', e', _, n', d'⟩, _⟩ := I.tuple h';rw [e] at e'; cases e';rw [d] at d'
 injection d' with d1 _
 have : its = its' := by simpa using congrArg Array.toList d1
 subst this;exact r.inj r'
end
abbrev Cx.wish (X : Cx) (E : ZQ) : Cx := { X with xe := E }
abbrev Cx.nox (X : Cx) : Cx := X.wish fun _ _ => False
theorem Cx.Ok.wish {X : Cx} (ok : X.Ok) (E : ZQ) : (X.wish E).Ok :=
 ⟨ok.mod, ok.kind, ok.glob, ok.blt, ok.above, ok.inj, ok.has, ok.cab, ok.hd, ok.frames, ok.stk, ok.exf, ok.bs, ok.bsz, ok.noex, ok.exfs, ok.funs, ok.frf⟩
theorem Cx.Ok.unwish {X : Cx} {E : ZQ} (ok : (X.wish E).Ok) : X.Ok :=
 ⟨ok.mod, ok.kind, ok.glob, ok.blt, ok.above, ok.inj, ok.has, ok.cab, ok.hd, ok.frames, ok.stk, ok.exf, ok.bs, ok.bsz, ok.noex, ok.exfs, ok.funs, ok.frf⟩
section
variable {X : Cx} {Qa : ZP} {σ : St} {H : Hp} {s : Shared} {E : ZQ}
theorem Inv.wish (I : Inv X Qa σ H s) (E : ZQ) : Inv (X.wish E) Qa σ H s := ⟨I.ok.wish E, I.os, I.bare, I.base, I.loc, I.cell, I.free, I.freeC, I.pin, I.hok, I.len⟩
theorem Inv.unwish (I : Inv (X.wish E) Qa σ H s) : Inv X Qa σ H s := ⟨I.ok.unwish, I.os, I.bare, I.base, I.loc, I.cell, I.free, I.freeC, I.pin, I.hok, I.len⟩
theorem SP.unwish {D : Ends} {f : Flow} {s' : Shared} (h : SP (X.wish E) Qa D f s') : SP X Qa D f s' := by
 cases f with
 | next => obtain ⟨σ', H', I, q⟩ := h; exact ⟨σ', H', I.unwish, q⟩
 | brk => obtain ⟨σ', H', I, q⟩ := h; exact ⟨σ', H', I.unwish, q⟩
 | cont => obtain ⟨σ', H', I, q⟩ := h; exact ⟨σ', H', I.unwish, q⟩
 | ret u => obtain ⟨v, σ', H', I, r, q⟩ := h; exact ⟨v, σ', H', I.unwish, r, q⟩
theorem PSs.nox {st : List Stmt} {t : TS} (h : PSs X.nox st t) : PSs X st t := fun Qa s σ H D I hw =>
 wpAny_mono (h Qa s σ H D (I.wish _) hw) (fun _ _ q => q.unwish) fun _ _ z => False.elim z
end
section
variable {X : Cx} {st : Stmt} {rest : List Stmt} {t u : TS} {e : Expr} {te : TE} {pos : Pos}
def zmy : TS := fun D σ H => D.nx σ H
def tSeq (t u : TS) : TS := fun D σ H => t { D with nx := u D } σ H
theorem zao : PSs X [] zmy := fun _ _ σ H _ I h => wpAny_execs_nil ⟨σ, H, I, h⟩
theorem zac (h1 : PS X st t) (h2 : PSs X rest u) : PSs X (st :: rest) (tSeq t u) := by
 intro Qa s σ H D I h;refine wpAny_execs_cons (thn (h1 Qa s σ H { D with nx := u D } I h) fun f s1 q => ?_);cases f with
 | next =>
  obtain ⟨σ', H', I', q⟩ := q;exact h2 Qa s1 σ' H' D I' q
 | ret v => exact q
 | brk => exact q
 | cont => exact q
theorem zah (h1 : PS X st t) : PSs X [st] t := by
 intro Qa s σ H D I h;refine wpAny_execs_cons (thn (h1 Qa s σ H D I h) fun f s1 q => ?_);cases f with
 | next => exact wpAny_execs_nil q
 | ret v => exact q
 | brk => exact q
 | cont => exact q
theorem Inv.quiet {Qa : ZP} {σ : St} {H : Hp} {s : Shared} (I : Inv X Qa σ H s) : interactive X.env = false := by simp [interactive, I.ok.kind]
def zmz (te : TE) : TS := fun D σ H => te σ H fun _ H1 => D.nx σ H1
theorem zco (he : PE X e te) (hs : swapsWith e none pos.line X.env = pure false := by rfl) : PS X (.Expr e pos) (zmz te) := by
 intro Qa s σ H D I h;exact wpAny_Expr_any (thn (he Qa s σ H _ I h) fun v s1 ⟨x, H1, I1, r1, q1⟩ => ⟨σ, H1, I1, q1⟩) I.quiet hs
def tRet (te : TE) : TS := fun D σ H => te σ H D.rt
theorem zan (he : PE X e te) : PS X (.Return (some e) pos) (tRet te) := by
 intro Qa s σ H D I h;exact wpAny_Return_some (thn (he Qa s σ H _ I h) fun v s1 ⟨x, H1, I1, r1, q1⟩ => ⟨x, σ, H1, I1, r1, q1⟩)
def tIfS (c : TT) (t u : TS) : TS := fun D σ H => c σ H fun b H1 => if b = true then t D σ H1 else u D σ H1
theorem zaF {c : Expr} {a b : List Stmt} {tc : TT} (hc : PT X c tc) (ha : PSs X a t) (hb : PSs X b u) : PS X (.If c a b pos) (tIfS tc t u) := by
 intro Qa s σ H D I h;refine wpAny_If (thn (hc Qa s σ H _ I h) fun d s1 ⟨H1, I1, q1⟩ => ?_);cases d with
 | true => exact ha Qa s1 σ H1 D I1 q1
 | false => exact hb Qa s1 σ H1 D I1 q1
end
abbrev TG := V -> St -> Hp -> (St -> Hp -> Prop) -> Prop
abbrev TGs := List V -> St -> Hp -> (St -> Hp -> Prop) -> Prop
def PG (X : Cx) (target : Expr) (t : TG) : Prop :=
 ∀ (Qa : ZP) (s : Shared) (σ : St) (H : Hp) (v : V) (u : Value) (Q : St -> Hp -> Prop), Inv X Qa σ H s -> RelV v u -> t v σ H Q ->
  wpAny (model X.prog X.w) X.A (assign target X.env u) (fun _ s' => ∃ σ' H', Inv X Qa σ' H' s' /\ Q σ' H') X.xe s
abbrev TSet := V -> V -> V -> Hp -> (Hp -> Prop) -> Prop
def PSet (X : Cx) (t : TSet) : Prop :=
 ∀ (Qa : ZP) (s : Shared) (σ : St) (H : Hp) (o i v : V) (ov iv u : Value) (Q : Hp -> Prop), Inv X Qa σ H s -> RelV o ov -> RelV i iv -> RelV v u -> t o i v H Q ->
  wpAny (model X.prog X.w) X.A (setItem ov iv u) (fun _ s' => ∃ H', Inv X Qa σ H' s' /\ Q H') X.xe s
abbrev TIp := V -> V -> Hp -> VK -> Prop
section
variable {X : Cx} {pos : Pos}
def zeo (i : Nat) : TG := fun v σ H Q => Q (σ.set i (some v)) H
theorem zaR {i : Nat} {x : Str} (hN : X.N.Nodup) (hi : X.N[i]? = some x) (hx : Loc X.env.scope x) (hf : X.fn x = true \/ X.env.scope.names.lookup x = some .local := by first | exact .inl rfl | exact .inr rfl | assumption) : PG X (.Name x pos) (zeo i) := by
 intro Qa s σ H v u Q I r h;exact wpAny_assign_Name (zbZ I hN hi hx r (fun s' I' => ⟨_, H, I', h⟩) hf)
def zox (t : TG) (u : TGs) : TGs := fun vs σ H Q => ∃ v r, vs = v :: r /\ t v σ H fun σ' H' => u r σ' H' Q
def gTup (K : W.Frag) (n : Nat) (t : TGs) : TG := fun v σ H Q => ∃ a xs, v = .ref a /\ SqT K H a xs /\ xs.length = n /\ t xs σ H Q
def gSub (to ti : TE) (t : TSet) : TG := fun v σ H Q => to σ H fun o H1 => ti σ H1 fun i H2 => t o i v H2 fun H3 => Q σ H3
theorem zfZ {o i : Expr} {to ti : TE} {t : TSet} (ho : PE X o to) (hi : PE X i ti) (hs : PSet X t)
  (ha : ∀ v, assign (.Subscript o i pos) X.env v = (do
   let ov <- holding [v] (eval o X.env)
   let iv <- holding [v, ov] (eval i X.env)
   standAt pos
   holding [v, ov, iv] (setItem ov iv v)
   release [v, ov, iv] []) := by intro _; rfl) : PG X (.Subscript o i pos) (gSub to ti t) := by
 intro Qa s σ H v u Q I r h;rw [ha];refine yaa (wpAny_holding (thn (ho Qa s σ H _ I h) fun ov s1 ⟨x, H1, I1, r1, q1⟩ => ?_));refine yaa (wpAny_holding (thn (hi Qa s1 σ H1 _ I1 q1) fun iv s2 ⟨y, H2, I2, r2, q2⟩ => ?_));refine yaa (wpAny_standAt (yaa (wpAny_holding (thn (hs Qa s2 σ H2 x y v ov iv u _ I2 r1 r2 r q2) fun _ s3 ⟨H3, I3, q3⟩ => ?_))));exact wpAny_release ⟨σ, H3, I3, q3⟩
def tAsg (te : TE) (g : TG) : TS := fun D σ H => te σ H fun x H1 => g x σ H1 D.nx
theorem zga {tg e : Expr} {te : TE} {g : TG} (he : PE X e te) (hg : PG X tg g) (hs : swapsWithSole [tg] e pos.line X.env = pure false := by rfl) (hw : swappedStores [tg] e X.env = pure none := by rfl)
  (h1 : (assignEach [tg] X.env).map (·.2) = [assign tg X.env] := by rfl) : PS X (.Assign [tg] e pos) (tAsg te g) := by
 intro Qa s σ H D I h;refine wpAny_Assign_stores (thn (he Qa s σ H _ I h) fun v s1 ⟨x, H1, I1, r1, q1⟩ => ?_) hs hw;rw [h1];exact thn (hg Qa s1 σ H1 x v _ I1 r1 q1) fun _ s2 q => q
theorem zar {i : Nat} {x : Str} {e : Expr} {te : TE} {pos' : Pos} (hN : X.N.Nodup) (hi : X.N[i]? = some x) (hx : Loc X.env.scope x) (he : PE X e te) (hs : swapsWith e (some (.Name x pos')) pos.line X.env = pure false := by rfl) (hf : X.fn x = true \/ X.env.scope.names.lookup x = some .local := by first | exact .inl rfl | exact .inr rfl | assumption) :
  PS X (.Assign [.Name x pos'] e pos) (tAsg te (zeo i)) := by
 intro Qa s σ H D I h;refine wpAny_Assign_Name (thn (he Qa s σ H _ I h) fun v s1 ⟨y, H1, I1, r1, q1⟩ => ?_) hs;exact zbZ I1 hN hi hx r1 (fun s2 I2 => ⟨_, H1, I2, q1⟩) hf
def ipI (f : Int -> Int -> Int) : TIp := fun x y H Q => ∃ i j, x = .int i /\ y = .int j /\ Q (.int (f i j)) H
def zky (c : TT) (tb : TS) : TS := fun D σ H => ∃ W : Nat -> St -> Hp -> Prop, (∃ m, W m σ H) /\ ∀ m σ H, W m σ H ->
 c σ H fun b H1 => if b = true then ∃ N : St -> Hp -> Prop, (∀ σ' H', N σ' H' -> ∃ m', m' < m /\ W m' σ' H') /\ tb { D with nx := N, ct := N, bk := D.nx } σ H1 else D.nx σ H1
theorem zgb {c : Expr} {body : List Stmt} {tc : TT} {tb : TS} (hp : PassesOwn (model X.prog X.w) X.A X.env X.xe) (hc : PT X c tc) (hb : PSs X body tb) : PS X (.While c body [] pos) (zky tc tb) := by
 intro Qa s σ H D I h;obtain ⟨W, ⟨m0, w0⟩, turn⟩ := h;refine wpAny_While (codeAny_whileLoop (fun n s' => ∃ σ' H', Inv X Qa σ' H' s' /\ W n σ' H') ?_ m0 ⟨σ, H, I, w0⟩)
 rintro n s1 ⟨σ1, H1, I1, w1⟩
 refine wpAny_passesOwn hp (thn (hc Qa s1 σ1 H1 _ I1 (turn n σ1 H1 w1)) fun b s2 ⟨H2, I2, q2⟩ => ?_);cases b with
 | true =>
  obtain ⟨N, hN, q2⟩ := q2;rw [if_pos rfl];refine wpAny_passesOwn hp (thn (hb Qa s2 σ1 H2 _ I2 q2) fun f s3 q3 => ?_);cases f with
  | next =>
   obtain ⟨σ3, H3, I3, n3⟩ := q3;obtain ⟨m', hm, w3⟩ := hN σ3 H3 n3;exact ⟨m', hm, σ3, H3, I3, w3⟩
  | cont =>
   obtain ⟨σ3, H3, I3, n3⟩ := q3;obtain ⟨m', hm, w3⟩ := hN σ3 H3 n3;exact ⟨m', hm, σ3, H3, I3, w3⟩
  | brk => exact q3
  | ret v => exact q3
 | false =>
  rw [if_neg yam];exact wpAny_execs_nil ⟨σ1, H2, I2, q2⟩
end
structure It where
 go : Nat -> Hp -> Prop
 yld : Nat -> Hp -> V -> Hp -> Prop
 stop : Nat -> Hp -> Prop
def FpOk (X : Cx) (Qa : ZP) (H : Hp) (b : Addr) : Prop :=
 H b = none /\ b ≠ X.env.locals /\ b ∉ X.fs /\ (b ∈ X.ex \/ X.s₀.heap.objs.size <= b) /\ (∀ x c, X.env.cells.lookup x = some c -> c ≠ b) /\ ∀ p ∈ X.pn ++ Qa, p.1 ≠ b
theorem Inv.fpOk {X : Cx} {Qa : ZP} {σ : St} {H H' : Hp} {s : Shared} {b : Addr} (I : Inv X Qa σ H s) (hb : s.heap.objs.size <= b) (hn : H' b = none) : FpOk X Qa H' b := by
 refine ⟨hn, Nat.ne_of_gt (Nat.lt_of_lt_of_le I.lt hb), I.nofs hb, .inr (yat I.sz hb), fun x c e z => ?_, fun p hp z => ?_⟩
 ·obtain ⟨v, q⟩ := I.cell x c e;exact absurd (Nat.lt_of_lt_of_le q.lt (by rw [z]; exact hb)) (Nat.lt_irrefl _)
 ·exact absurd (Nat.lt_of_lt_of_le (yan (I.pin p hp).1) (by rw [z]; exact hb)) (Nat.lt_irrefl _)
structure Turn (P : Program) (w : World) (K : W.Frag) (tg : Expr) (J : It) (fp : List Addr) (it : Addr) (tn : Nat -> Heap -> Prop) : Prop where
 mem : it ∈ fp
 obj : ∀ i h, tn i h -> ∀ b ∈ fp, ∃ o, h.get? b = some o /\ ∀ v, o.data ≠ .cell v
 keep : ∀ i h h', tn i h -> (∀ b ∈ fp, ∀ o, h.get? b = some o -> h'.get? b = some o) -> tn i h'
 item : ∀ (X : Cx), X.prog = P -> X.w = w -> X.K = K -> X.calm = true -> ∀ (i : Nat) (Qa : ZP) (s : Shared) (σ : St) (H : Hp) (E : ZQ), Inv X Qa σ H s -> (∀ b ∈ fp, FpOk X Qa H b) -> tn i s.heap -> J.go i H ->
  wpAny (model P w) X.A (pyNext (.ref it)) (fun r s1 => ∃ u, r = some u /\
   wpAny (model P w) X.A (letOwnedTupleGo tg (.ref it) u) (fun _ s2 => ∃ x H', Inv X Qa σ H' s2 /\ RelV x u /\ J.yld i H x H' /\ tn (i + 1) s2.heap /\ ∀ b ∈ fp, H' b = none) E s1) E s
 done : ∀ (X : Cx), X.prog = P -> X.w = w -> X.K = K -> X.calm = true -> ∀ (i : Nat) (Qa : ZP) (s : Shared) (σ : St) (H : Hp) (E : ZQ), Inv X Qa σ H s -> (∀ b ∈ fp, FpOk X Qa H b) -> tn i s.heap -> J.stop i H ->
  wpAny (model P w) X.A (pyNext (.ref it)) (fun r s1 => r = none /\ Inv X Qa σ H s1) E s
 self : ∀ (A : Around) (i : Nat) (s : Shared) (Q : ZQ) (E : ZQ), tn i s.heap -> Q (.ref it) s -> wpAny (model P w) A (pyIter (.ref it)) Q E s
abbrev TI := St -> Hp -> (It -> Hp -> Prop) -> Prop
def PIE (X : Cx) (Qa : ZP) (σ : St) (tg : Expr) (R : It -> Hp -> Prop) (itv : Value) (s2 : Shared) : Prop :=
 ∃ (it : Addr) (fp : List Addr) (tn : Nat -> Heap -> Prop) (J : It) (H' : Hp), itv = .ref it /\ Inv X Qa σ H' s2 /\ Turn X.prog X.w X.K tg J fp it tn /\ tn 0 s2.heap /\ (∀ b ∈ fp, FpOk X Qa H' b) /\ R J H'
def PI (X : Cx) (tg iter : Expr) (wi : TI) : Prop :=
 ∀ (Qa : ZP) (s : Shared) (σ : St) (H : Hp) (R : It -> Hp -> Prop), Inv X Qa σ H s -> wi σ H R ->
  wpAny (model X.prog X.w) X.A (eval iter X.env) (fun v s1 => wpAny (model X.prog X.w) X.A (pyIter v) (PIE X Qa σ tg R) X.xe s1) X.xe s
theorem zgP {M : Model} {A : Around} {E : ZQ} {s : Shared} {tg : Expr} {it : Addr} {u : Value} {o : Obj} {n : String} {vs : Array Value} {Q : Unit -> Shared -> Prop} (ho : s.heap.get? it = some o) (hc : o.cls = .type n) (hd : o.data = .fields vs)
    (hn : ["enumerate", "zip", "dict_itemiterator", "dict_reverseitemiterator", "odict_iterator", "itertools.zip_longest", "itertools.pairwise"].contains n = false) (hQ : Q () s) : wpAny M A (letOwnedTupleGo tg (.ref it) u) Q E s := by
  unfold letOwnedTupleGo;cases tg <;> first
    | exact yab hQ
    | (cases u <;> first
        | exact yab hQ
        | (refine yaa (wpAny_load ho ?_)
           rw [hc, hd];show wpAny M A (if (["enumerate", "zip", "dict_itemiterator", "dict_reverseitemiterator", "odict_iterator", "itertools.zip_longest", "itertools.pairwise"].contains n && vs[0]? == some (rawInt _)) = true then _ else _) Q E s;rw [if_neg (by intro h; rw [hn, Bool.false_and] at h; cases h)];exact yab hQ))
def Itl (K : W.Frag) (a : Addr) : It :=
 ⟨fun i H => ∃ xs x, SqL K H a xs /\ xs[i]? = some x, fun i H x H' => H' = H /\ ∀ xs, SqL K H a xs -> xs[i]? = some x, fun i H => ∃ xs, SqL K H a xs /\ xs.length <= i⟩
def Itt (K : W.Frag) (a : Addr) : It :=
 ⟨fun i H => ∃ xs x, SqT K H a xs /\ xs[i]? = some x, fun i H x H' => H' = H /\ ∀ xs, SqT K H a xs -> xs[i]? = some x, fun i H => ∃ xs, SqT K H a xs /\ xs.length <= i⟩
def Itr (lo : Int) (n : Nat) : It := ⟨fun i _ => i < n, fun i H x H' => H' = H /\ x = .int (lo + i), fun i _ => n <= i⟩
theorem zh7 {P : Program} {w : World} {K : W.Frag} {tg : Expr} (a it : Addr) : Turn P w K tg (Itl K a) [it] it (fun i h => h.IsListIter it a i) where
 mem := by simp
 obj := fun i h st b hb => by
  have e : b = it := by simpa using hb
  subst e;obtain ⟨o, e, c, d⟩ := st;exact ⟨o, e, fun v z => by rw [d] at z; cases z⟩
 keep := fun i h h' st k => st.at fun o e => k it ς o e
 item := by
  intro X hP hw hK hc i Qa s σ H E I hf st hg;subst hP hw hK;obtain ⟨xs, x, hq, hx⟩ := hg;obtain ⟨its, rv, p, hz⟩ := I.list hq;obtain ⟨u, hu, ru⟩ := rv.get hx;obtain ⟨f0, f1, f2, f3, f4, f5⟩ := hf it ς;refine wpAny_pyNext_list_item st p.isList (x := u) (by simpa using hu) fun h' st' sb => ?_;have I1 : Inv X Qa σ H { s with heap := h' } := I.turned (t' := s.toks) (fun b o hb e => (sb.2 b hb).trans e) f0 f1 f3 f4 f5;obtain ⟨o, e, c, d⟩ := id st';exact ⟨u, rfl, zgP (s := { s with heap := h' }) e c d δ ⟨x, H, I1, ru, ⟨rfl, fun ys hy => by rw [I.list_inj hy hq]; exact hx⟩, st', fun b hb => (hf b hb).1⟩⟩
 done := by
  intro X hP hw hK hc i Qa s σ H E I hf st hg;subst hP hw hK;obtain ⟨xs, hq, hx⟩ := hg;obtain ⟨its, rv, p, hz⟩ := I.list hq;obtain ⟨f0, f1, f2, f3, f4, f5⟩ := hf it ς;have hl := rv.length;exact wpAny_pyNext_list_end (I.ok.hd hc) st p.isList (by simp; omega) fun h' eb => ⟨rfl, I.turned (t' := s.toks) (fun b o hb e => eb b o hb e) f0 f1 f3 f4 f5⟩
 self := fun _ _ _ _ _ st h => wpAny_pyIter_listiter st h
theorem zgQ {P : Program} {w : World} {K : W.Frag} {tg : Expr} (a it : Addr) : Turn P w K tg (Itt K a) [it] it (fun i h => h.IsTupleIter it a i) where
 mem := by simp
 obj := fun i h st b hb => by
  have e : b = it := by simpa using hb
  subst e;obtain ⟨o, e, c, d⟩ := st;exact ⟨o, e, fun v z => by rw [d] at z; cases z⟩
 keep := fun i h h' st k => st.at fun o e => k it ς o e
 item := by
  intro X hP hw hK hc i Qa s σ H E I hf st hg;subst hP hw hK;obtain ⟨xs, x, hq, hx⟩ := hg;obtain ⟨its, rv, p, hz⟩ := I.tuple hq;obtain ⟨u, hu, ru⟩ := rv.get hx;obtain ⟨f0, f1, f2, f3, f4, f5⟩ := hf it ς;refine wpAny_pyNext_tuple_item st (show s.heap.IsTuple a its.toArray from p) (x := u) (by simpa using hu) fun h' st' sb => ?_;have I1 : Inv X Qa σ H { s with heap := h' } := I.turned (t' := s.toks) (fun b o hb e => (sb.2 b hb).trans e) f0 f1 f3 f4 f5;obtain ⟨o, e, c, d⟩ := id st';exact ⟨u, rfl, zgP (s := { s with heap := h' }) e c d δ ⟨x, H, I1, ru, ⟨rfl, fun ys hy => by rw [I.tuple_inj hy hq]; exact hx⟩, st', fun b hb => (hf b hb).1⟩⟩
 done := by
  intro X hP hw hK hc i Qa s σ H E I hf st hg;subst hP hw hK;obtain ⟨xs, hq, hx⟩ := hg;obtain ⟨its, rv, p, hz⟩ := I.tuple hq;obtain ⟨f0, f1, f2, f3, f4, f5⟩ := hf it ς;have hl := rv.length;exact wpAny_pyNext_tuple_end (I.ok.hd hc) st (show s.heap.IsTuple a its.toArray from p) (by simp; omega) fun h' eb => ⟨rfl, I.turned (t' := s.toks) (fun b o hb e => eb b o hb e) f0 f1 f3 f4 f5⟩
 self := fun _ _ _ _ _ st h => wpAny_pyIter_tupleiter st h
theorem zgR {P : Program} {w : World} {K : W.Frag} {tg : Expr} (it : Addr) (lo : Int) (n : Nat) : Turn P w K tg (Itr lo n) [it] it (fun i h => IsRangeIter h it (lo + (i : Nat) * 1) ((n : Int) - (i : Nat)) 1) where
 mem := by simp
 obj := fun i h st b hb => by
  have e : b = it := by simpa using hb
  subst e;exact ⟨_, st, fun v z => by
   have z' : Data.fields _ = Data.cell v := z;cases z'⟩
 keep := fun i h h' st k => k it ς _ st
 item := by
  intro X hP hw hK hc i Qa s σ H E I hf st hg;subst hP hw hK;obtain ⟨f0, f1, f2, f3, f4, f5⟩ := hf it ς;have W := Walks.range (prog := X.prog) (w := X.w) (I.ok.hd hc) it lo 1 n;refine W.item i s _ _ hg st fun v h' tk hv st' kk => ?_;obtain ⟨t, rfl⟩ := hv;have I1 : Inv X Qa σ H { s with heap := h', toks := tk } := I.turned (fun b o hb e => kk b o (by simpa using hb) e) f0 f1 f3 f4 f5;refine ⟨_, rfl, zgP (s := { s with heap := h', toks := tk }) (n := "range_iterator") st' rfl rfl δ ⟨.int (lo + i), H, I1, ⟨t, ?_⟩, ⟨rfl, rfl⟩, st', fun b hb => (hf b hb).1⟩⟩;rw [Int.mul_one]
 done := by
  intro X hP hw hK hc i Qa s σ H E I hf st hg;subst hP hw hK;obtain ⟨f0, f1, f2, f3, f4, f5⟩ := hf it ς;exact wpAny_pyNext_range_end (I.ok.hd hc) st (by have : n <= i := hg; omega) fun h' eb => ⟨rfl, I.turned (t' := s.toks) (fun b o hb e => eb b o hb e) f0 f1 f3 f4 f5⟩
 self := fun _ _ _ _ _ st h => wpAny_pyIter_rangeiter st h
section
variable {X : Cx} {tg : Expr}
theorem zjg {Qa : ZP} {σ : St} {H : Hp} {s : Shared} {R : It -> Hp -> Prop} {E : ZQ} {lo hi : Int} {t u v : Tok} {tk : Nat} (I : Inv X Qa σ H s) (h1 : -(2 ^ 62) <= lo) (h2 : lo < 2 ^ 62) (h3 : -(2 ^ 62) <= hi) (h4 : hi < 2 ^ 62)
  (q : R (Itr lo (hi - lo).toNat) H) : wpAny (model X.prog X.w) X.A (pyIter (.ref s.heap.objs.size)) (PIE X Qa σ tg R) E { s with heap := s.heap.push { cls := .type "range", data := .fields #[.int lo t, .int hi u, .int 1 v] }, toks := tk } := by
 refine wpAny_pyIter_range (IsRange.new ..) (small_one h1 h2 h3 h4) ?_;have I1 : Inv X Qa σ H { s with heap := s.heap.push { cls := .type "range", data := .fields #[.int lo t, .int hi u, .int 1 v] }, toks := tk } := I.kept fun b o e => yac _ e;refine ⟨(s.heap.push { cls := .type "range", data := .fields #[.int lo t, .int hi u, .int 1 v] }).objs.size, [(s.heap.push { cls := .type "range", data := .fields #[.int lo t, .int hi u, .int 1 v] }).objs.size], _, _, H, rfl,
  I1.kept (t' := tk) fun b o e => yac _ e, zgR _ lo (hi - lo).toNat, ?_, fun b hb => ?_, q⟩
 ·have e1 : lo + ((0 : Nat) : Int) * 1 = lo := by simp
  have e2 : (((hi - lo).toNat : Nat) : Int) - ((0 : Nat) : Int) = Builtin.Range.rangeSize lo hi 1 := by rw [rangeSize_one]; split <;> omega
  show IsRangeIter _ _ (lo + ((0 : Nat) : Int) * 1) ((((hi - lo).toNat : Nat) : Int) - ((0 : Nat) : Int)) 1;rw [e1, e2];exact yaj _ rfl
 ·have e : b = (s.heap.push { cls := .type "range", data := .fields #[.int lo t, .int hi u, .int 1 v] }).objs.size := by simpa using hb
  subst e;exact I1.fpOk (yai _) (I1.hok.fresh (yai _))
def zm0 (ta : TA) : TI := fun σ H R => ta σ H fun vs H1 => ∃ j : Int, vs = [.int j] /\ -(2 ^ 62) <= j /\ j < 2 ^ 62 /\ R (Itr 0 j.toNat) H1
theorem zcp {a : Expr} {ta : TA} {p pos : Pos} (hg : Gl X "range") (hm : X.mg "range" = none) (ha : PA X [a] ta) (hs : starEach [a] X.env = [(false, eval a X.env)] := by rfl) : PI X tg (.Call (.Name "range" p) [a] [] pos) (zm0 ta) := by
 intro Qa s σ H R I h;refine Call_ (zfY I hg hm boot_range (PyProof.Rows.callWith_type1 (thn (ha pos Qa s σ H _ I h) fun us s1 ⟨vs, H1, I1, r1, q1⟩ => ?_) hs rfl));obtain ⟨j, e, q1, q2, q⟩ := q1;subst e;cases r1 with
 | cons r rr =>
  cases rr;obtain ⟨t, rfl⟩ := r;exact call_range_1 (zjg I1 ω ω q1 q2 (by simpa using q))
def tFor (wi : TI) (g : TG) (tb : TS) : TS := fun D σ H => wi σ H fun J H1 => ∃ W : Nat -> Nat -> St -> Hp -> Prop, (∃ m, W 0 m σ H1) /\ ∀ i m σ H, W i m σ H ->
 (J.stop i H /\ D.nx σ H) \/ (J.go i H /\ ∃ N : St -> Hp -> Prop, (∀ σ' H', N σ' H' -> ∃ m', m' < m /\ W (i + 1) m' σ' H') /\ ∀ x H', J.yld i H x H' -> g x σ H' fun σ2 H2 => tb { D with nx := N, ct := N, bk := D.nx } σ2 H2)
def zdR (fp : List Addr) (h : Heap) : ZP := fp.filterMap fun b => (h.get? b).map fun o => (b, o)
theorem zbA {fp : List Addr} {h : Heap} {b : Addr} {o : Obj} (hb : b ∈ fp) (e : h.get? b = some o) : (b, o) ∈ zdR fp h := List.mem_filterMap.mpr ⟨b, hb, by rw [e]; rfl⟩
theorem zh8 {fp : List Addr} {h : Heap} {p : Addr × Obj} (hp : p ∈ zdR fp h) : p.1 ∈ fp /\ h.get? p.1 = some p.2 := by
 obtain ⟨b, hb, e⟩ := List.mem_filterMap.mp hp;cases q : h.get? b with
 | none => rw [q] at e; cases e
 | some o =>
  rw [q] at e;have e' : (b, o) = p := Option.some.inj e;subst e';exact ⟨hb, q⟩
theorem Inv.pinned {Qa : ZP} {σ : St} {H : Hp} {s : Shared} {fp : List Addr} (I : Inv X Qa σ H s) (hf : ∀ b ∈ fp, FpOk X Qa H b) (ho : ∀ b ∈ fp, ∃ o, s.heap.get? b = some o /\ ∀ v, o.data ≠ .cell v) : Inv X (Qa ++ zdR fp s.heap) σ H s :=
 I.pins_of fun p hp => (yay.mp hp).elim (fun z => I.pin p (List.mem_append_right _ z)) fun z => by
  obtain ⟨hb, e⟩ := zh8 z;obtain ⟨f0, f1, f2, _⟩ := hf p.1 hb;obtain ⟨o, e', d⟩ := ho p.1 hb;rw [e] at e'; cases e';exact ⟨e, f0, f1, f2, d⟩
theorem Inv.unpinned {Qa pl : ZP} {σ : St} {H : Hp} {s : Shared} (I : Inv X (Qa ++ pl) σ H s) : Inv X Qa σ H s := I.pins_of fun p hp => I.pin p (List.mem_append_right _ (List.mem_append_left _ hp))
theorem zdS {iter : Expr} {body : List Stmt} {wi : TI} {g : TG} {tb : TS} {pos : Pos} (hp : PassesOwn (model X.prog X.w) X.A X.env X.xe) (hc : X.calm = true) (hi : PI X tg iter wi) (hg : PG X tg g) (hb : PSs X body tb)
  (hs : ∀ x, foldedSetIterable iter X.env x = pure x := by intro _; rfl) : PS X (.For tg iter body [] pos) (tFor wi g tb) := by
 intro Qa s σ H D I h;refine wpAny_For (thn (hi Qa s σ H _ I h) fun v s1 h1 => thn h1 fun itv s2 h2 => ?_) hs;obtain ⟨it, fp, tn, J, H2, e, I2, T, st2, f2, W, ⟨m0, w0⟩, turn⟩ := h2;subst e;have stat : ∀ {H' : Hp}, (∀ b ∈ fp, H' b = none) -> ∀ b ∈ fp, FpOk X Qa H' b := fun hn b hb => ⟨hn b hb, (f2 b hb).2⟩
 refine codeAny_forLoop_any (fun n s' => ∃ i σ' H', Inv X Qa σ' H' s' /\ tn i s'.heap /\ (∀ b ∈ fp, H' b = none) /\ W i n σ' H') ?_ m0 ⟨0, σ, H2, I2, st2, fun b hb => (f2 b hb).1, w0⟩
 rintro n s3 ⟨i, σ3, H3, I3, st3, fr3, w3⟩
 rcases turn i n σ3 H3 w3 with ⟨stop, qn⟩ | ⟨go, N, hN, step⟩
 ·refine wpAny_passesOwn hp (thn (T.done X rfl rfl rfl hc i Qa s3 σ3 H3 X.xe I3 (stat fr3) st3 stop) fun r s4 ⟨hr, I4⟩ => ?_);subst hr;exact wpAny_execs_nil ⟨σ3, H3, I4, qn⟩
 ·refine wpAny_passesOwn hp (thn (T.item X rfl rfl rfl hc i Qa s3 σ3 H3 X.xe I3 (stat fr3) st3 go) fun r s4 ⟨u, hr, h4⟩ => ?_);subst hr;refine wpAny_passesOwn hp (thn h4 fun _ s5 ⟨x, H5, I5, r5, y5, st5, fr5⟩ => ?_);have I5' := I5.pinned (stat fr5) (T.obj _ _ st5);refine wpAny_passesOwn hp (thn (hg _ s5 σ3 H5 x u _ I5' r5 (step x H5 y5)) fun _ s6 ⟨σ6, H6, I6, q6⟩ => ?_);refine wpAny_passesOwn hp (thn (hb _ s6 σ6 H6 _ I6 q6) fun f s7 q7 => ?_);have again : ∀ {σ7 : St} {H7 : Hp}, Inv X (Qa ++ zdR fp s5.heap) σ7 H7 s7 -> N σ7 H7 -> ∃ m, m < n /\ ∃ i σ' H', Inv X Qa σ' H' s7 /\ tn i s7.heap /\ (∀ b ∈ fp, H' b = none) /\ W i m σ' H' := fun {σ7 H7} I7 n7 => by
   obtain ⟨m', hm, w7⟩ := hN σ7 H7 n7;refine ⟨m', hm, i + 1, σ7, H7, I7.unpinned, T.keep _ _ _ st5 fun b hb o e => (I7.pin (b, o) (List.mem_append_right _ (List.mem_append_right _ (zbA hb e)))).1, fun b hb => ?_, w7⟩;obtain ⟨o, e, d⟩ := T.obj _ _ st5 b hb;exact (I7.pin (b, o) (List.mem_append_right _ (List.mem_append_right _ (zbA hb e)))).2.1
  cases f with
  | next => obtain ⟨σ7, H7, I7, n7⟩ := q7; exact again I7 n7
  | cont => obtain ⟨σ7, H7, I7, n7⟩ := q7; exact again I7 n7
  | brk => obtain ⟨σ7, H7, I7, q7⟩ := q7; exact ⟨σ7, H7, I7.unpinned, q7⟩
  | ret v => obtain ⟨x7, σ7, H7, I7, r7, q7⟩ := q7; exact ⟨x7, σ7, H7, I7.unpinned, r7, q7⟩
end
theorem zjh {K : W.Frag} {a : Addr} {xs : List V} {g : TG} {tb : TS} {D : Ends} {σ : St} {H : Hp} (Pv : Nat -> St -> Hp -> Prop) (h0 : Pv 0 σ H) (hl : ∀ i σ H, i <= xs.length -> Pv i σ H -> SqL K H a xs)
  (hs : ∀ i x σ H, xs[i]? = some x -> Pv i σ H -> g x σ H fun σ2 H2 => tb { D with nx := Pv (i + 1), ct := Pv (i + 1), bk := D.nx } σ2 H2) (hd : ∀ σ H, Pv xs.length σ H -> D.nx σ H) :
  ∃ W : Nat -> Nat -> St -> Hp -> Prop, (∃ m, W 0 m σ H) /\ ∀ i m σ H, W i m σ H ->
   ((Itl K a).stop i H /\ D.nx σ H) \/ ((Itl K a).go i H /\ ∃ N : St -> Hp -> Prop, (∀ σ' H', N σ' H' -> ∃ m', m' < m /\ W (i + 1) m' σ' H') /\ ∀ x H', (Itl K a).yld i H x H' -> g x σ H' fun σ2 H2 => tb { D with nx := N, ct := N, bk := D.nx } σ2 H2) := by
 refine ⟨fun i m σ H => m = xs.length - i /\ i <= xs.length /\ Pv i σ H, ⟨xs.length,ς, yaq _, h0⟩, ?_⟩
 rintro i m σ H ⟨rfl, hi, p⟩
 have q := hl i σ H hi p
 by_cases hlt : i < xs.length
 ·refine .inr ⟨⟨xs, xs[i], q, by simp [hlt]⟩, Pv (i + 1), fun σ' H' p' => ⟨xs.length - (i + 1),ω, rfl, hlt, p'⟩, fun x H' y => ?_⟩;obtain ⟨e, y⟩ := y;subst e;exact hs i x σ _ (y xs q) p
 ·have e : i = xs.length := by omega
  subst e;exact .inl ⟨⟨xs, q, yai _⟩, hd σ H p⟩
theorem zh9 {lo : Int} {n : Nat} {g : TG} {tb : TS} {D : Ends} {σ : St} {H : Hp} (Pv : Nat -> St -> Hp -> Prop) (h0 : Pv 0 σ H)
  (hs : ∀ i σ H, i < n -> Pv i σ H -> g (.int (lo + i)) σ H fun σ2 H2 => tb { D with nx := Pv (i + 1), ct := Pv (i + 1), bk := D.nx } σ2 H2) (hd : ∀ σ H, Pv n σ H -> D.nx σ H) :
  ∃ W : Nat -> Nat -> St -> Hp -> Prop, (∃ m, W 0 m σ H) /\ ∀ i m σ H, W i m σ H ->
   ((Itr lo n).stop i H /\ D.nx σ H) \/ ((Itr lo n).go i H /\ ∃ N : St -> Hp -> Prop, (∀ σ' H', N σ' H' -> ∃ m', m' < m /\ W (i + 1) m' σ' H') /\ ∀ x H', (Itr lo n).yld i H x H' -> g x σ H' fun σ2 H2 => tb { D with nx := N, ct := N, bk := D.nx } σ2 H2) := by
 refine ⟨fun i m σ H => m = n - i /\ i <= n /\ Pv i σ H, ⟨n,ς, yaq _, h0⟩, ?_⟩
 rintro i m σ H ⟨rfl, hi, p⟩
 by_cases hlt : i < n
 ·refine .inr ⟨hlt, Pv (i + 1), fun σ' H' p' => ⟨n - (i + 1),ω, rfl, hlt, p'⟩, fun x H' y => ?_⟩;obtain ⟨e, y⟩ := y;subst e y;exact hs i σ _ hlt p
 ·have e : i = n := by omega
  subst e;exact .inl ⟨yai _, hd σ H p⟩
abbrev R2 := V -> V -> Hp -> VK -> Prop
def OpR (X : Cx) (f : Value -> Value -> Sem Value) (r : R2) : Prop :=
 ∀ (Qa : ZP) (s : Shared) (σ : St) (H : Hp) (x y : V) (v u : Value) (Q : VK), Inv X Qa σ H s -> RelV x v -> RelV y u -> r x y H Q ->
  wpAny (model X.prog X.w) X.A (f v u) (EP X Qa σ Q) X.xe s
def UnR (X : Cx) (f : Value -> Sem Value) (r : V -> Hp -> VK -> Prop) : Prop :=
 ∀ (Qa : ZP) (s : Shared) (σ : St) (H : Hp) (x : V) (v : Value) (Q : VK), Inv X Qa σ H s -> RelV x v -> r x H Q ->
  wpAny (model X.prog X.w) X.A (f v) (EP X Qa σ Q) X.xe s
def zbW (X : Cx) (f : Value) (r : List V -> Hp -> VK -> Prop) : Prop :=
 ∀ (Qa : ZP) (s : Shared) (σ : St) (H : Hp) (xs : List V) (us : List Value) (Q : VK), Inv X Qa σ H s -> Vals xs us -> r xs H Q ->
  wpAny (model X.prog X.w) X.A (call f us) (EP X Qa σ Q) X.xe s
def TruR (X : Cx) (r : V -> Hp -> (Bool -> Hp -> Prop) -> Prop) : Prop :=
 ∀ (Qa : ZP) (s : Shared) (σ : St) (H : Hp) (x : V) (v : Value) (Q : Bool -> Hp -> Prop), Inv X Qa σ H s -> RelV x v -> r x H Q ->
  wpAny (model X.prog X.w) X.A (truthy v) (TP X Qa σ Q) X.xe s
def tOp (r : R2) (ta tb : TE) : TE := fun σ H Q => ta σ H fun x H1 => tb σ H1 fun y H2 => r x y H2 Q
def tUn (r : V -> Hp -> VK -> Prop) (ta : TE) : TE := fun σ H Q => ta σ H fun x H1 => r x H1 Q
def rI (C : Int -> Int -> Prop) (g : Int -> Int -> V) : R2 := fun x y H Q => ∃ i j, x = .int i /\ y = .int j /\ C i j /\ Q (g i j) H
def rI0 (g : Int -> Int -> V) : R2 := fun x y H Q => ∃ i j, x = .int i /\ y = .int j /\ Q (g i j) H
def rU (g : Int -> V) : V -> Hp -> VK -> Prop := fun x H Q => ∃ i, x = .int i /\ Q (g i) H
section
variable {X : Cx} {a b c : Expr} {ta tb tc : TE} {pos : Pos}
theorem binT (ha : PE X a ta) (hb : PE X b tb) {Qa : ZP} {s : Shared} {σ : St} {H : Hp} {R : V -> V -> Hp -> Prop} (I : Inv X Qa σ H s)
  (h : ta σ H fun x H1 => tb σ H1 fun y H2 => R x y H2) {Q : ZQ} {f : Value -> Value -> Sem Value}
  (hf : ∀ v u s2 x y H2, Inv X Qa σ H2 s2 -> RelV x v -> RelV y u -> R x y H2 -> wpAny (model X.prog X.w) X.A (f v u) Q X.xe s2) :
  wpAny (model X.prog X.w) X.A (eval a X.env) (fun v s₁ => wpAny (model X.prog X.w) X.A (eval b X.env) (fun u s₂ => wpAny (model X.prog X.w) X.A (f v u) Q X.xe s₂) X.xe s₁) X.xe s := by
 refine thn (ha Qa s σ H _ I h) fun v s1 ⟨x, H1, I1, r1, q1⟩ => ?_;refine thn (hb Qa s1 σ H1 _ I1 q1) fun u s2 ⟨y, H2, I2, r2, q2⟩ => ?_;exact hf v u s2 x y H2 I2 r1 r2 q2
theorem zam {op : Operator} {r : R2} (ho : OpR X (binaryOp op) r) (ha : PE X a ta) (hb : PE X b tb) : PE X (.BinOp a op b pos) (tOp r ta tb) := by
 intro Qa s σ H Q I h;exact wpAny_BinOp (binT ha hb I h fun v u s2 x y H2 I2 rx ry q => ho Qa s2 σ H2 x y v u Q I2 rx ry q)
theorem zkM {op : UnaryOp} {r : V -> Hp -> VK -> Prop} (ho : UnR X (unaryOp op) r) (ha : PE X a ta) : PE X (.UnaryOp op a pos) (tUn r ta) := by
 intro Qa s σ H Q I h;exact UnaryOp_ (thn (ha Qa s σ H _ I h) fun v s1 ⟨x, H1, I1, r1, q1⟩ => ho Qa s1 σ H1 x v Q I1 r1 q1)
theorem opI {f : Value -> Value -> Sem Value} {C : Int -> Int -> Prop} {g : Int -> Int -> Int}
  (rule : ∀ (i j : Int) (t u : Tok) (s : Shared) (Q : ZQ) (E : ZQ), C i j -> Q (.int (g i j) s.toks) { s with toks := s.toks + 1 } -> wpAny (model X.prog X.w) X.A (f (.int i t) (.int j u)) Q E s) :
  OpR X f (rI C fun i j => .int (g i j)) := by
 intro Qa s σ H x y v u Q I rx ry h;obtain ⟨i, j, rfl, rfl, hc, q⟩ := h;obtain ⟨t, rfl⟩ := rx;obtain ⟨t', rfl⟩ := ry;exact rule i j t t' s _ _ hc ⟨.int (g i j), H, I.tok _, ⟨_, rfl⟩, q⟩
theorem opI0 {f : Value -> Value -> Sem Value} {g : Int -> Int -> Int}
  (rule : ∀ (i j : Int) (t u : Tok) (s : Shared) (Q : ZQ) (E : ZQ), Q (.int (g i j) s.toks) { s with toks := s.toks + 1 } -> wpAny (model X.prog X.w) X.A (f (.int i t) (.int j u)) Q E s) :
  OpR X f (rI0 fun i j => .int (g i j)) := by
 intro Qa s σ H x y v u Q I rx ry h;obtain ⟨i, j, rfl, rfl, q⟩ := h;obtain ⟨t, rfl⟩ := rx;obtain ⟨t', rfl⟩ := ry;exact rule i j t t' s _ _ ⟨.int (g i j), H, I.tok _, ⟨_, rfl⟩, q⟩
theorem opB0 {f : Value -> Value -> Sem Value} {g : Int -> Int -> Bool}
  (rule : ∀ (i j : Int) (t u : Tok) (s : Shared) (Q : ZQ) (E : ZQ), Q (.bool (g i j)) s -> wpAny (model X.prog X.w) X.A (f (.int i t) (.int j u)) Q E s) :
  OpR X f (rI0 fun i j => .bl (g i j)) := by
 intro Qa s σ H x y v u Q I rx ry h;obtain ⟨i, j, rfl, rfl, q⟩ := h;obtain ⟨t, rfl⟩ := rx;obtain ⟨t', rfl⟩ := ry;exact rule i j t t' s _ _ ⟨.bl (g i j), H, I, rfl, q⟩
def CDiv (i j : Int) : Prop := 0 < j /\ j < 1073741824
def CMul (i j : Int) : Prop := (-(2 ^ 64) < i /\ i < 2 ^ 64) \/ (-(2 ^ 64) < j /\ j < 2 ^ 64)
theorem CMul.ok {i j : Int} (h : CMul i j) : IntMulOk i j := by
 rcases h with ⟨h1, h2⟩ | ⟨h1, h2⟩
 ·exact .of_left (intBits_le_64 h1 h2)
 ·exact .of_right (intBits_le_64 h1 h2)
theorem zm1 : OpR X (binaryOp .Add) (rI0 fun i j => .int (i + j)) := opI0 fun _ _ _ _ _ _ _ q => add_int q
theorem zdb : OpR X (binaryOp .Sub) (rI0 fun i j => .int (i - j)) := opI0 fun _ _ _ _ _ _ _ q => sub_int q
theorem zm2 : OpR X (binaryOp .Mult) (rI CMul fun i j => .int (i * j)) := opI fun _ _ _ _ _ _ _ hc q => mul_int q hc.ok
theorem zkN : OpR X (binaryOp .FloorDiv) (rI CDiv fun i j => .int (i / j)) := opI fun i j _ _ _ _ _ hc q => by
 have h1 : (0 : Int) < j := hc.1;have h2 : j < 1073741824 := hc.2;exact floordiv_int ω (by rw [Int.fdiv_eq_ediv_of_nonneg i ω]; exact q) (.inl (PyProof.noPylong_small ω))
theorem zm3 : OpR X (binaryOp .Mod) (rI (fun _ j => 0 < j) fun i j => .int (i % j)) := opI fun i j _ _ _ _ _ hc q => by
 have h1 : (0 : Int) < j := hc;exact mod_int' ω (by rw [Int.fmod_eq_emod_of_nonneg i ω]; exact q)
theorem unI {f : Value -> Sem Value} {g : Int -> Int}
  (rule : ∀ (i : Int) (t : Tok) (s : Shared) (Q : ZQ) (E : ZQ), Q (.int (g i) s.toks) { s with toks := s.toks + 1 } -> wpAny (model X.prog X.w) X.A (f (.int i t)) Q E s) :
  UnR X f (rU fun i => .int (g i)) := by
 intro Qa s σ H x v Q I rx h;obtain ⟨i, rfl, q⟩ := h;obtain ⟨t, rfl⟩ := rx;exact rule i t s _ _ ⟨.int (g i), H, I.tok _, ⟨_, rfl⟩, q⟩
theorem zhA : UnR X (unaryOp .USub) (rU fun i => .int (-i)) := unI fun _ _ _ _ _ q => neg_int q
end
def scal : V -> V -> Bool
 | .non, .non => true | .non, .int _ => true | .int _, .non => true | .non, .bl _ => true | .bl _, .non => true | .non, .str _ => true | .str _, .non => true
 | .int _, .int _ => true | .bl _, .bl _ => true | .str _, .str _ => true | .byt _, .byt _ => true
 | .int _, .str _ => true | .str _, .int _ => true | .bl _, .str _ => true | .str _, .bl _ => true
 | _, _ => false
def rEq : R2 := fun x y H Q => scal x y = true /\ Q (.bl (decide (x = y))) H
def rNe : R2 := fun x y H Q => scal x y = true /\ Q (.bl (!decide (x = y))) H
theorem zhB {i j : Int} : decide (V.int i = V.int j) = (i == j) := by
 rw [Bool.eq_iff_iff];simp
theorem zdT {i j : Bool} : decide (V.bl i = V.bl j) = (i == j) := by
 rw [Bool.eq_iff_iff];simp
theorem zhC {i j : Str} : decide (V.str i = V.str j) = (i == j) := by
 rw [Bool.eq_iff_iff];simp
theorem zhD {i j : Array UInt8} : decide (V.byt i = V.byt j) = (i.toList == j.toList) := by
 rw [Bool.eq_iff_iff];cases i;cases j;simp
section
variable {X : Cx} {a b c : Expr} {ta tb tc : TE} {pos : Pos}
theorem zaD {Qa : ZP} {σ : St} {H : Hp} {s : Shared} {Q : VK} {k k' : Bool} (I : Inv X Qa σ H s) (q : Q (.bl k) H) (e : k = k') : EP X Qa σ Q (.bool k') s := by
 subst e;exact ⟨.bl k, H, I, rfl, q⟩
theorem zm4 : OpR X (compareOp .Eq) rEq := by
 intro Qa s σ H x y v u Q I rx ry h;obtain ⟨hs, q⟩ := h;cases x with
 | non =>
  cases rx;cases y with
  | non => cases ry; exact PySem.EqNone.eq_none_none (zaD I q ς)
  | bl j => cases ry; exact PySem.EqNone.eq_none_bool (zaD I q ς)
  | int j => obtain ⟨t', rfl⟩ := ry; exact PySem.EqNone.eq_none_int (zaD I q ς)
  | str j => obtain ⟨t', rfl⟩ := ry; exact PySem.EqNone.eq_none_str (zaD I q ς)
  | _ => exact absurd (show false = true from hs) yam
 | bl i =>
  cases rx;cases y with
  | non => cases ry; exact PySem.EqNone.eq_bool_none (zaD I q ς)
  | bl j => cases ry; exact eq_bool (zaD I q zdT)
  | str j => obtain ⟨t', rfl⟩ := ry; exact PySem.EqMixed.eq_bool_str (zaD I q ς)
  | _ => exact absurd (show false = true from hs) yam
 | int i =>
  obtain ⟨t, rfl⟩ := rx;cases y with
  | non => cases ry; exact PySem.EqNone.eq_int_none (zaD I q ς)
  | int j => obtain ⟨t', rfl⟩ := ry; exact eq_int (zaD I q zhB)
  | str j => obtain ⟨t', rfl⟩ := ry; exact PySem.EqMixed.eq_int_str (zaD I q ς)
  | _ => exact absurd (show false = true from hs) yam
 | str i =>
  obtain ⟨t, rfl⟩ := rx;cases y with
  | non => cases ry; exact PySem.EqNone.eq_str_none (zaD I q ς)
  | bl j => cases ry; exact PySem.EqMixed.eq_str_bool (zaD I q ς)
  | int j => obtain ⟨t', rfl⟩ := ry; exact PySem.EqMixed.eq_str_int (zaD I q ς)
  | str j => obtain ⟨t', rfl⟩ := ry; exact eq_str (zaD I q zhC)
  | _ => exact absurd (show false = true from hs) yam
 | byt i =>
  obtain ⟨t, rfl⟩ := rx;cases y with
  | byt j => obtain ⟨t', rfl⟩ := ry; exact W.eq_bytes (zaD I q zhD)
  | _ => exact absurd (show false = true from hs) yam
 | _ => cases y <;> exact absurd (show false = true from hs) yam
theorem zm5 : OpR X (compareOp .NotEq) rNe := by
 intro Qa s σ H x y v u Q I rx ry h;obtain ⟨hs, q⟩ := h;cases x with
 | non =>
  cases rx;cases y with
  | non => cases ry; exact PySem.EqNone.ne_none_none (zaD I q ς)
  | bl j => cases ry; exact PySem.EqNone.ne_none_bool (zaD I q ς)
  | int j => obtain ⟨t', rfl⟩ := ry; exact PySem.EqNone.ne_none_int (zaD I q ς)
  | str j => obtain ⟨t', rfl⟩ := ry; exact PySem.EqNone.ne_none_str (zaD I q ς)
  | _ => exact absurd (show false = true from hs) yam
 | bl i =>
  cases rx;cases y with
  | non => cases ry; exact PySem.EqNone.ne_bool_none (zaD I q ς)
  | bl j => cases ry; exact ne_bool (zaD I q (congrArg not zdT))
  | str j => obtain ⟨t', rfl⟩ := ry; exact PySem.EqMixed.ne_bool_str (zaD I q ς)
  | _ => exact absurd (show false = true from hs) yam
 | int i =>
  obtain ⟨t, rfl⟩ := rx;cases y with
  | non => cases ry; exact PySem.EqNone.ne_int_none (zaD I q ς)
  | int j => obtain ⟨t', rfl⟩ := ry; exact ne_int (zaD I q (congrArg not zhB))
  | str j => obtain ⟨t', rfl⟩ := ry; exact PySem.EqMixed.ne_int_str (zaD I q ς)
  | _ => exact absurd (show false = true from hs) yam
 | str i =>
  obtain ⟨t, rfl⟩ := rx;cases y with
  | non => cases ry; exact PySem.EqNone.ne_str_none (zaD I q ς)
  | bl j => cases ry; exact PySem.EqMixed.ne_str_bool (zaD I q ς)
  | int j => obtain ⟨t', rfl⟩ := ry; exact PySem.EqMixed.ne_str_int (zaD I q ς)
  | str j => obtain ⟨t', rfl⟩ := ry; exact ne_str (zaD I q (congrArg not zhC))
  | _ => exact absurd (show false = true from hs) yam
 | byt i =>
  obtain ⟨t, rfl⟩ := rx;cases y with
  | byt j => obtain ⟨t', rfl⟩ := ry; exact W.ne_bytes (zaD I q (congrArg not zhD))
  | _ => exact absurd (show false = true from hs) yam
 | _ => cases y <;> exact absurd (show false = true from hs) yam
theorem zoy : OpR X (compareOp .Lt) (rI0 fun i j => .bl (decide (i < j))) := opB0 fun _ _ _ _ _ _ _ q => lt_int q
theorem zgS : OpR X (compareOp .Gt) (rI0 fun i j => .bl (decide (j < i))) := opB0 fun _ _ _ _ _ _ _ q => gt_int q
theorem zhE : OpR X (compareOp .Lt) (fun x y H Q => ∃ i j, x = .str i /\ y = .str j /\ Q (.bl (decide (i.cps.toList < j.cps.toList))) H) := by
 intro Qa s σ H x y v u Q I rx ry h;obtain ⟨i, j, rfl, rfl, q⟩ := h;obtain ⟨t, rfl⟩ := rx;obtain ⟨t', rfl⟩ := ry;exact lt_str (zaD I q rfl)
theorem zhF : OpR X (compareOp .In) (fun x y H Q => ∃ i j, x = .str i /\ y = .str j /\ Q (.bl (!(Builtin.Str.occurrences j i 0 j.length 1).isEmpty)) H) := by
 intro Qa s σ H x y v u Q I rx ry h;obtain ⟨i, j, rfl, rfl, q⟩ := h;obtain ⟨t, rfl⟩ := rx;obtain ⟨t', rfl⟩ := ry;exact in_str (zaD I q rfl)
theorem OpR.or {f : Value -> Value -> Sem Value} {r r' : R2} (h : OpR X f r) (h' : OpR X f r') : OpR X f (fun x y H Q => r x y H Q \/ r' x y H Q) := by
 intro Qa s σ H x y v u Q I rx ry q;rcases q with q | q
 ·exact h Qa s σ H x y v u Q I rx ry q
 ·exact h' Qa s σ H x y v u Q I rx ry q
theorem zay (b : Expr) {op : CmpOp} (h : op ≠ .In := by decide) (h2 : op ≠ .NotIn := by decide) : behindInMarks op b = false := by
 have e1 : (op == CmpOp.In) = false := by cases op <;> first | rfl | exact absurd rfl h
 have e2 : (op == CmpOp.NotIn) = false := by cases op <;> first | rfl | exact absurd rfl h2
 cases b <;> simp [behindInMarks, e1, e2]
theorem zcM {op : CmpOp} {r : R2} (ho : OpR X (compareOp op) r) (ha : PE X a ta) (hb : PE X b tb) (hm : behindInMarks op b = false) : PE X (.Compare a [op] [b] pos) (tOp r ta tb) := by
 intro Qa s σ H Q I h;exact wpAny_Compare1 (binT ha hb I h fun v u s2 x y H2 I2 rx ry q => ho Qa s2 σ H2 x y v u Q I2 rx ry q) hm
def zji (t : TE) : TT := fun σ H Q => t σ H fun x H' => ∃ k, x = .bl k /\ Q k H'
theorem zal {op : CmpOp} {r : R2} (ho : OpR X (compareOp op) r) (ha : PE X a ta) (hb : PE X b tb) (hm : behindInMarks op b = false) : PT X (.Compare a [op] [b] pos) (zji (tOp r ta tb)) := by
 intro Qa s σ H Q I h;refine wpAny_isTrue_Compare1 (thn (ha Qa s σ H _ I h) fun v s1 ⟨x, H1, I1, r1, q1⟩ => thn (hb Qa s1 σ H1 _ I1 q1) fun u s2 ⟨y, H2, I2, r2, q2⟩ =>
  thn (ho Qa s2 σ H2 x y v u _ I2 r1 r2 q2) fun c s3 ⟨z, H3, I3, r3, k, e, q3⟩ => ?_) hm
 subst e;cases r3;exact wpAny_truthy_bool ⟨H3, I3, q3⟩
def zkz (r r' : R2) (ta tb tc : TE) : TE := fun σ H Q => ta σ H fun x H1 => tb σ H1 fun y H2 => r x y H2 fun z H3 => ∃ k, z = .bl k /\
 (if k = true then tc σ H3 fun w' H4 => r' y w' H4 Q else Q (.bl false) H3)
theorem zjj {op op' : CmpOp} {r r' : R2} (ho : OpR X (compareOp op) r) (ho' : OpR X (compareOp op') r') (ha : PE X a ta) (hb : PE X b tb) (hc : PE X c tc)
  (hm : lastMarks [op, op'] [b, c] = false := by with_unfolding_all rfl) : PT X (.Compare a [op, op'] [b, c] pos) (zji (zkz r r' ta tb tc)) := by
 intro Qa s σ H Q I h;refine isTrue_chain (thn (ha Qa s σ H _ I h) fun v s1 ⟨x, H1, I1, r1, q1⟩ => test_link (thn (hb Qa s1 σ H1 _ I1 q1) fun u s2 ⟨y, H2, I2, r2, q2⟩ =>
  thn (ho Qa s2 σ H2 x y v u _ I2 r1 r2 q2) fun d s3 ⟨z, H3, I3, r3, k, e, q3⟩ => ?_)) hm
 subst e;cases r3;refine wpAny_truthy_bool ?_;cases k with
 | false =>
  obtain ⟨k', e', q'⟩ := q3;cases e';exact ite_ff ⟨H3, I3, q'⟩
 | true =>
  refine ite_tt (test_last (thn (hc Qa s3 σ H3 _ I3 q3) fun w' s4 ⟨z', H4, I4, r4, q4⟩ => thn (ho' Qa s4 σ H4 y z' u w' _ I4 r2 r4 q4) fun d' s5 ⟨z2, H5, I5, r5, k2, e2, q5⟩ => ?_));subst e2;cases r5;exact wpAny_truthy_bool ⟨H5, I5, q5⟩
def TruV (K : W.Frag) (x : V) (H : Hp) (k : Bool) : Prop :=
 match x with
 | .non => k = false
 | .bl b => k = b
 | .int i => k = (i != 0)
 | .str y => y.length <= sizeLine /\ k = ((y.length : Int) != 0)
 | .byt y => y.size <= sizeLine /\ k = ((y.size : Int) != 0)
 | .ref p => (∃ xs, SqL K H p xs /\ k = !xs.isEmpty) \/ (∃ xs, SqT K H p xs /\ k = !xs.isEmpty) \/ ∃ kvs, H p = some (.dK kvs) /\ k = !kvs.isEmpty
 | _ => False
theorem zgT {κ : Type} {kvs : List (κ × V)} {vs : List (κ × Value)} (r : KV kvs vs) : (!vs.isEmpty) = !kvs.isEmpty := by
 cases r <;> rfl
theorem zdU {xs : List V} {its : List Value} (r : Vals xs its) : (!its.toArray.isEmpty) = !xs.isEmpty := by
 cases r <;> simp
theorem zdV : (sizeLine : Nat) < 2 ^ 63 := by rw [sizeLine_eq]; decide
theorem zpw : TruR X (fun x H Q => ∃ k, TruV X.K x H k /\ Q k H) := by
 intro Qa s σ H x v Q I rx h;obtain ⟨k, e, q⟩ := h;have hl := zdV;have hs : sizeLine = 16777216 := sizeLine_eq;cases x with
 | non =>
  cases rx;have e' : k = false := e;subst e';exact truthy_none ⟨H, I, q⟩
 | bl b =>
  cases rx;have e' : k = b := e;subst e';exact wpAny_truthy_bool ⟨H, I, q⟩
 | int i =>
  obtain ⟨t, rfl⟩ := rx;have e' : k = (i != 0) := e;subst e';exact PySem.P.truthy_int ⟨H, I, q⟩
 | str y =>
  obtain ⟨t, rfl⟩ := rx;obtain ⟨hy, e'⟩ : y.length <= sizeLine /\ k = ((y.length : Int) != 0) := e;subst e';exact PySem.P.truthy_str ω ⟨H, I.tok _, q⟩
 | byt y =>
  obtain ⟨t, rfl⟩ := rx;obtain ⟨hy, e'⟩ : y.size <= sizeLine /\ k = ((y.size : Int) != 0) := e;subst e';exact W.truthy_bytes ω ⟨H, I.tok _, q⟩
 | ref p =>
  cases rx;have e' : (∃ xs, SqL X.K H p xs /\ k = !xs.isEmpty) \/ (∃ xs, SqT X.K H p xs /\ k = !xs.isEmpty) \/ ∃ kvs, H p = some (.dK kvs) /\ k = !kvs.isEmpty := e;rcases e' with ⟨xs, hx, e'⟩ | ⟨xs, hx, e'⟩ | ⟨kvs, hx, e'⟩
  ·subst e';obtain ⟨its, r, pl, hz⟩ := I.list hx;have Qe := r.length;exact wpAny_truthy_list pl.isList (by simp only [List.size_toArray]; omega) ⟨H, I.tok _, by rw [zdU r]; exact q⟩
  ·subst e';obtain ⟨its, r, pl, hz⟩ := I.tuple hx;have Qe := r.length;exact truthy_tuple pl (by simp only [List.size_toArray]; omega) ⟨H, I.tok _, by rw [zdU r]; exact q⟩
  ·subst e';obtain ⟨hz, hS, vs, r, m⟩ : kvs.length <= sizeLine /\ (p == sysModules) = false /\ ∃ vs, KV kvs vs /\ s.heap.DictOf (mixKind X.prog X.w) p vs := I.hok p _ hx;have Qe : kvs.length = vs.length := Paired.length r;exact wpAny_truthy_dict hS m ω ⟨H, I.tok _, by rw [zgT r]; exact q⟩
 | _ => exact (show False from e).elim
theorem zgU : OpR X (binaryOp .Add) (fun x y H Q => ∃ i j, x = .str i /\ y = .str j /\ i.length + j.length <= sizeLine /\ Q (.str (i ++ j)) H) := by
 intro Qa s σ H x y v u Q I rx ry h;obtain ⟨i, j, rfl, rfl, hz, q⟩ := h;obtain ⟨t, rfl⟩ := rx;obtain ⟨t', rfl⟩ := ry;exact add_str (fun t' tk => ⟨.str (i ++ j), H, I.tok _, ⟨_, rfl⟩, q⟩) hz
theorem zep {x : V} {us : List Value} (r : Vals [x] us) : ∃ u, us = [u] /\ RelV x u := by
 cases r with
 | cons r1 r2 => cases r2; exact ⟨_, rfl, r1⟩
theorem zjk {x y : V} {us : List Value} (r : Vals [x, y] us) : ∃ u w', us = [u, w'] /\ RelV x u /\ RelV y w' := by
 cases r with
 | cons r1 r2 =>
  cases r2 with
  | cons r3 r4 => cases r4; exact ⟨_, _, rfl, r1, r3⟩
theorem zhG : zbW X (.type "int") (fun xs H Q => (∃ i, xs = [.int i] /\ Q (.int i) H) \/ ∃ k, xs = [.bl k] /\ Q (.int (if k then 1 else 0)) H) := by
 intro Qa s σ H xs us Q I r h;rcases h with ⟨i, rfl, q⟩ | ⟨k, rfl, q⟩
 ·obtain ⟨u, rfl, t, rfl⟩ := zep r;exact call_int_int ⟨.int i, H, I, ⟨_, rfl⟩, q⟩
 ·obtain ⟨u, rfl, r1⟩ := zep r;cases r1;exact call_int_bool ⟨.int (if k then 1 else 0), H, I.tok _, ⟨_, rfl⟩, q⟩
def LenV (K : W.Frag) (x : V) (H : Hp) (n : Nat) : Prop :=
 match x with
 | .str y => y.length <= sizeLine /\ n = y.length
 | .byt y => y.size <= sizeLine /\ n = y.size
 | .ref p => (∃ xs, SqL K H p xs /\ n = xs.length) \/ ∃ xs, SqT K H p xs /\ n = xs.length
 | _ => False
theorem call_len : zbW X (.builtin "len") (fun xs H Q => ∃ x n, xs = [x] /\ LenV X.K x H n /\ Q (.int n) H) := by
 intro Qa s σ H xs us Q I r h;obtain ⟨x, n, rfl, e, q⟩ := h;obtain ⟨u, rfl, rx⟩ := zep r;have hl := zdV;have hs : sizeLine = 16777216 := sizeLine_eq;cases x with
 | str y =>
  obtain ⟨t, rfl⟩ := rx;obtain ⟨hy, e'⟩ : y.length <= sizeLine /\ n = y.length := e;subst e';exact len_str ω ⟨.int _, H, I.tok _, ⟨_, rfl⟩, q⟩
 | byt y =>
  obtain ⟨t, rfl⟩ := rx;obtain ⟨hy, e'⟩ : y.size <= sizeLine /\ n = y.size := e;subst e';exact W.len_bytes ω ⟨.int _, H, I.tok _, ⟨_, rfl⟩, q⟩
 | ref p =>
  cases rx;have e' : (∃ xs, SqL X.K H p xs /\ n = xs.length) \/ ∃ xs, SqT X.K H p xs /\ n = xs.length := e;rcases e' with ⟨xs, hx, e'⟩ | ⟨xs, hx, e'⟩
  ·subst e';obtain ⟨its, r', pl, hz⟩ := I.list hx;have Qe := r'.length;exact Calls.call_len_list pl.isList (by simp only [List.size_toArray]; omega) ⟨.int xs.length, H, I.tok _, ⟨_, by simp only [List.size_toArray]; rw [Qe]⟩, q⟩
  ·subst e';obtain ⟨its, r', pl, hz⟩ := I.tuple hx;have Qe := r'.length;exact len_tuple pl (by simp only [List.size_toArray]; omega) ⟨.int xs.length, H, I.tok _, ⟨_, by simp only [List.size_toArray]; rw [Qe]⟩, q⟩
 | _ => exact (show False from e).elim
end
structure ObjM (h : Heap) (x dx C : Addr) (mA : Str -> Option Value) : Prop where
 obj : h.get? x = some (W.instObj C dx)
 ns : h.Ns1 dx mA
 ne : dx ≠ x
theorem zhH {h : Heap} {dx : Addr} {mA : Str -> Option Value} (n : h.Ns1 dx mA) : ∃ od, h.get? dx = some od /\ ∀ name, W.lookIn name od = some (mA name) := by
 obtain ⟨o, es, ep, ho, hd, hk, _, hm⟩ := n;refine ⟨o, ho, fun name => ?_⟩;have e := hm name;unfold nsFind findBy at e;rw [<- Array.find?_toList] at e;unfold W.lookIn;rw [hd];dsimp only
 split
 ·rename_i y q
  rw [q] at e;exact congrArg some e
 ·rename_i q
  rw [q] at e;have a : es.toList.any (·.refKey) = false := by
   rw [List.any_eq_false];intro y hy;obtain ⟨z, t, hkey⟩ := hk y (Array.mem_toList_iff.mp hy);simp [DictEntry.refKey, hkey]
  have a' : ¬ es.toList.any (·.refKey) = true := by rw [a]; exact yam
  rw [if_neg a'];exact congrArg some e
theorem ObjM.look {h : Heap} {x dx C : Addr} {mA : Str -> Option Value} (I : ObjM h x dx C mA) : ∃ od, W.InstAt h x (W.instObj C dx) C (some od) /\ ∀ name, W.lookIn name od = some (mA name) :=
 let ⟨od, ho, hl⟩ := zhH I.ns
 ⟨od, ⟨I.obj, rfl, rfl, ho⟩, hl⟩
section
variable {prog : Program} {w : World} {A : Around} {E : ZQ} {s : Shared} {K : W.Frag} {x dx C f : Addr} {mA : Str -> Option Value} {name : Str} {v : Value}
theorem zkO {expr : Bool} {Q : ZQ} (X : K.In s.heap) (I : ObjM s.heap x dx C mA) (hg : W.plainGet K C name = true) (hh : W.hasDictIn K C = true)
  (ha : W.findIn K (.ref C) name = some none) (hv : mA name = some v) (hv' : W.handedIn v = true) (h : Q v { s with toks := s.toks + 1 }) :
  wpAny (model prog w) A (getAttr (.ref x) name expr) Q E s := by
 obtain ⟨od, J, hl⟩ := I.look;exact W.get_value X J (W.plainGet_of hg).1 (W.findObj_own hh ha rfl (by rw [hl, hv])) hv' h
theorem zjl {pl : Sem Bool} {Q : Value × List Value -> Shared -> Prop} (X : K.In s.heap) (I : ObjM s.heap x dx C mA) (hg : W.plainGet K C name = true)
  (hf : W.findIn K (.ref C) name = some (some (.ref f))) (ht : W.isFn K (.ref f) = true) (hv : mA name = none) (h : Q (.ref f, [.ref x]) s) :
  wpAny (model prog w) A (getMethod (.ref x) name pl) Q E s := by
 obtain ⟨od, J, hl⟩ := I.look;exact W.method_fn X J (W.plainGet_of hg).1 (W.plainGet_of hg).2 hf (beq_iff_eq.mp ht) (by show (W.lookIn name od).map (·.isSome) = some false; rw [hl, hv]; rfl) h
theorem zkP {ns : List Str} {Q : Unit -> Shared -> Prop} (X : K.In s.heap) (I : ObjM s.heap x dx C mA)
  (hs : W.findIn K (.ref C) "__setattr__" = some (some (.builtin "object.__setattr__"))) (hp : W.plainOver K C = true) (ht : W.takerIn K C name = some none) (hh : W.hasDictIn K C = true)
  (hw : PySem.Within mA ns) (hsz : ns.length <= sizeLine)
  (h : ∀ h', ObjM h' x dx C (fun y => if y = name then some v else mA y) -> Heap.SameBut dx s.heap h' -> Q () { s with heap := h', toks := s.toks + 2 }) :
  wpAny (model prog w) A (setAttr (.ref x) name v) Q E s := by
 obtain ⟨od, J, hl⟩ := I.look;refine W.set_plain X J hs (W.osa_open (s := { s with toks := s.toks + 1 }) (r := none) X J hp ht fun b => ?_);obtain ⟨cd, hc, hd'⟩ := W.any_some hh;have hx : s.heap.get? x = some ⟨.ref C, some dx, .plain, #[]⟩ := I.obj;refine yaa (yab (yaa (yaa (wpAny_loadPart hx (yaa (W.Looks.here (s := { s with toks := s.toks + 1 }) (W.looks_clsIn X hc) ?_))))));rw [hd'];refine yab (a := some dx) (yaa (yab (yaa ?_)));refine wpAny_nsSet1 (s := { s with toks := s.toks + 1 }) I.ns fun h' hn2 hs2 => ?_;obtain ⟨oD, esD, epD, hoD, hdD, hcD⟩ := hn2.count (PySem.Within.cons name v hw);refine yaa (wpAny_lookBehind hoD (by rw [hdD]; exact pastItsLine_dict (yat hcD (by rw [List.length_cons]; omega))) ?_);exact yab (h _ ⟨(hs2.2 _ (Ne.symm I.ne)).trans I.obj, hn2, I.ne⟩ hs2)
theorem zjm {R : Result -> Shared -> Prop} {vs : List Value} {kw : List (Str × Value)} (X : K.In s.heap) (hm : W.makesIn K C = true)
  (hi : W.findIn K (.ref C) "__init__" = some (some (.ref f))) (hf : W.typeIn K (.ref f) = some (.type "function"))
  (h : codeAny (model prog w) (A.under (.builtin "type.__call__" ⟨.ref C :: vs, kw⟩)) (.call (.ref f) ⟨.ref (s.heap.objs.size + 1) :: vs, kw⟩) (W.InitBack (s.heap.objs.size + 1) R)
   { s with heap := (s.heap.push W.emptyDict).push (W.instObj C s.heap.objs.size) }) :
  codeAny (model prog w) A (.call (.ref C) ⟨vs, kw⟩) R s := by
 obtain ⟨hh, g, d, t, os⟩ := s;exact W.make_core (W.makes_of X hm) (W.looks_findIn X hi) (fun self => W.bind_fn X self hf) (.inl rfl) h
end
def putF (f : Str) (v : V) : List (Str × V) -> List (Str × V)
 | [] => [(f, v)]
 | (g, x) :: r => if g = f then (g, v) :: r else (g, x) :: putF f v r
theorem zds (f g : Str) (v : V) : ∀ fs : List (Str × V), (putF f v fs).lookup g = if g = f then some v else fs.lookup g
 | [] => by
  show List.lookup g [(f, v)] = _
  by_cases h : g = f
  ·have hb : (g == f) = true := beq_iff_eq.mpr h;simp only [List.lookup, hb, if_pos h]
  ·have hb : (g == f) = false := beq_eq_false_iff_ne.mpr h;simp only [List.lookup, hb, if_neg h]
 | (k, x) :: r => by
  have ih := zds f g v r;rw [show putF f v ((k, x) :: r) = (if k = f then (k, v) :: r else (k, x) :: putF f v r) from rfl]
  by_cases hk : k = f
  ·rw [if_pos hk]
   by_cases h : g = k
   ·have hb : (g == k) = true := beq_iff_eq.mpr h;simp only [List.lookup, hb, if_pos (h.trans hk)]
   ·have hb : (g == k) = false := beq_eq_false_iff_ne.mpr h;simp only [List.lookup, hb, if_neg (fun e : g = f => h (e.trans hk.symm))]
  ·rw [if_neg hk]
   by_cases h : g = k
   ·have hb : (g == k) = true := beq_iff_eq.mpr h;simp only [List.lookup, hb, if_neg (fun e : g = f => hk (h.symm.trans e))]
   ·have hb : (g == k) = false := beq_eq_false_iff_ne.mpr h;simp only [List.lookup, hb];exact ih
theorem zdt (f : Str) (v : V) : ∀ fs : List (Str × V), f ∈ (putF f v fs).map (·.1) /\ ∀ g, g ∈ fs.map (·.1) -> g ∈ (putF f v fs).map (·.1)
 | [] => ⟨by simp [putF], fun g h => by simp at h⟩
 | (k, x) :: r => by
  obtain ⟨i1, i2⟩ := zdt f v r;rw [show putF f v ((k, x) :: r) = (if k = f then (k, v) :: r else (k, x) :: putF f v r) from rfl]
  by_cases hk : k = f
  ·rw [if_pos hk];subst hk;exact ⟨ς, fun g h => by simpa using h⟩
  ·rw [if_neg hk];refine ⟨?_, fun g h => ?_⟩
   ·rw [List.map_cons];exact List.mem_cons_of_mem _ i1
   ·rw [List.map_cons] at h ⊢;rcases yau.mp h with e | e
    ·exact yau.mpr (.inl e)
    ·exact List.mem_cons_of_mem _ (i2 g e)
theorem zdu (f : Str) (v : V) : ∀ fs : List (Str × V), (putF f v fs).length <= fs.length + 1
 | [] => by simp [putF]
 | (k, x) :: r => by
  have ih := zdu f v r;rw [show putF f v ((k, x) :: r) = (if k = f then (k, v) :: r else (k, x) :: putF f v r) from rfl]
  by_cases hk : k = f
  ·rw [if_pos hk, List.length_cons, List.length_cons]; omega
  ·rw [if_neg hk, List.length_cons, List.length_cons]; omega
theorem RelO.some_of {v : V} {o : Option Value} (r : RelO (some v) o) : ∃ u, o = some u /\ RelV v u := by
 cases o with
 | none => exact (show False from r).elim
 | some u => exact ⟨u, rfl, r⟩
theorem RelO.none_of {o : Option Value} (r : RelO none o) : o = none := by
 cases o with
 | none => rfl
 | some u => exact (show False from r).elim
theorem zhI {v : V} {u : Value} (r : RelV v u) : W.handedIn u = true := by
 cases v with
 | non => cases (show u = Value.none from r); rfl
 | bl b => cases (show u = Value.bool b from r); rfl
 | int i => obtain ⟨t, e⟩ := (show ∃ t, u = Value.int i t from r); cases e; rfl
 | str x => obtain ⟨t, e⟩ := (show ∃ t, u = Value.str x t from r); cases e; rfl
 | byt b => obtain ⟨t, e⟩ := (show ∃ t, u = Value.bytes b t from r); cases e; rfl
 | flt b => obtain ⟨t, e⟩ := (show ∃ t, u = Value.float b t from r); cases e; rfl
 | ref a => cases (show u = Value.ref a from r); rfl
 | ty n => cases (show u = Value.type n from r); rfl
section
variable {P : Program} {w : World} {H H' : Hp} {h h' : Heap} {a C dx : Addr} {fs fs' : List (Str × V)}
theorem zeq (hok : HOk P w H h) (e : H a = some (.ins C dx fs)) : ∃ mA, ObjM h a dx C mA /\ (∀ f, RelO (fs.lookup f) (mA f)) /\ PySem.Within mA (fs.map (·.1)) /\ fs.length <= 1000 /\ H dx = some (.own a) := by
 obtain ⟨d, z, ne, ob, mA, n, r, q⟩ := (show ObjOk P w H h a (.ins C dx fs) from hok a _ e)
 exact ⟨mA, ⟨ob, n, ne⟩, r, q, z, d⟩
end
structure Cls (K : W.Frag) (C : Addr) : Prop where
 pg : W.plainGet K C Str.empty = true
 hd : W.hasDictIn K C = true
 po : W.plainOver K C = true
 sa : W.findIn K (.ref C) "__setattr__" = some (some (.builtin "object.__setattr__"))
theorem Cls.get {K : W.Frag} {C : Addr} (c : Cls K C) (f : Str) : W.plainGet K C f = true := c.pg
def NoAttr (K : W.Frag) (C : Addr) (f : Str) : Prop := W.findIn K (.ref C) f = some none
theorem NoAttr.taker {K : W.Frag} {C : Addr} {f : Str} (n : NoAttr K C f) : W.takerIn K C f = some none := by
 unfold W.takerIn;rw [show W.findIn K (.ref C) f = some none from n]
 rfl
structure Con (K : W.Frag) (C : Addr) (f : Str) (v : V) (u : Value) : Prop where
 at_ : W.findIn K (.ref C) f = some (some u)
 rel : RelV v u
 get : W.specialIn K u "__get__" = some none
 cp : W.copiedNames.contains f = false
structure Meth (K : W.Frag) (C : Addr) (m : Str) (f : Addr) : Prop where
 at_ : W.findIn K (.ref C) m = some (some (.ref f))
 fn : W.isFn K (.ref f) = true
 kp : W.keepIn K (.ref f) = true
section
variable {X : Cx} {Qa : ZP} {σ : St} {H : Hp} {s : Shared} {a C dx : Addr} {fs : List (Str × V)} {f : Str} {v : V} {A : Around} {E : ZQ}
theorem zdW {b : Bool} {Q : ZQ} (I : Inv X Qa σ H s) (e : H a = some (.ins C dx fs)) (c : Cls X.K C) (n : NoAttr X.K C f) (l : fs.lookup f = some v)
  (h : ∀ u s', Inv X Qa σ H s' -> RelV v u -> Q u s') : wpAny (model X.prog X.w) A (getAttr (.ref a) f b) Q E s := by
 obtain ⟨mA, O, r, _, _, _⟩ := zeq I.hok e;obtain ⟨u, hu, ru⟩ := RelO.some_of (v := v) (o := mA f) (by rw [<- l]; exact r f);exact zkO I.kIn O (c.get f) c.hd n hu (zhI ru) (h u _ (I.tok _) ru)
theorem zcN {m : Str} {g : Addr} {pl : Sem Bool} {Q : Value × List Value -> Shared -> Prop} (I : Inv X Qa σ H s) (e : H a = some (.ins C dx fs)) (c : Cls X.K C) (k : Meth X.K C m g) (l : fs.lookup m = none)
  (h : Q (.ref g, [.ref a]) s) : wpAny (model X.prog X.w) A (getMethod (.ref a) m pl) Q E s := by
 obtain ⟨mA, O, r, _, _, _⟩ := zeq I.hok e;have hn : mA m = none := RelO.none_of (by rw [<- l]; exact r m);exact zjl I.kIn O (c.get m) k.at_ k.fn hn h
theorem zdX {y : V} {u : Value} {Q : Unit -> Shared -> Prop} (I : Inv X Qa σ H s) (e : H a = some (.ins C dx fs)) (c : Cls X.K C) (n : NoAttr X.K C f) (hl : fs.length < 1000) (ry : RelV y u)
  (h : ∀ s', Inv X Qa σ (upd H a (.ins C dx (putF f y fs))) s' -> Q () s') : wpAny (model X.prog X.w) A (setAttr (.ref a) f u) Q E s := by
 obtain ⟨mA, O, r, wi, _, ho⟩ := zeq I.hok e;have hz : (fs.map (·.1)).length <= sizeLine := by rw [yaf, sizeLine_eq]; omega
 refine zkP I.kIn O c.sa c.po n.taker c.hd wi hz fun h' O' sb => h _ ?_;have hd : ∃ o, h'.get? dx = some o := let ⟨o, _, _, e', _⟩ := O'.ns; ⟨o, e'⟩;refine I.write (x := a) (e := dx) (by rw [e]; exact True.intro) (.inr ho) (fun b q hb z => (sb.2 b hb).trans z) hd ?_;refine ⟨by rw [zaw O.ne]; exact ho, ?_, O.ne, O'.obj, _, O'.ns, fun g => ?_, fun g hg => ?_⟩
 ·have := zdu f y fs; omega
 ·show RelO ((putF f y fs).lookup g) (if g = f then some u else mA g);rw [zds]
  by_cases q : g = f
  ·rw [if_pos q, if_pos q]; exact ry
  ·rw [if_neg q, if_neg q]; exact r g
 ·by_cases q : g = f
  ·rw [q]; exact (zdt f y fs).1
  ·refine (zdt f y fs).2 g (wi g fun z => hg ?_);show (if g = f then some u else mA g) = none;rw [if_neg q]; exact z
theorem Inv.made (I : Inv X Qa σ H s) : Inv X Qa σ (upd (upd H s.heap.objs.size (.own (s.heap.objs.size + 1))) (s.heap.objs.size + 1) (.ins C s.heap.objs.size []))
  { s with heap := (s.heap.push W.emptyDict).push (W.instObj C s.heap.objs.size) } := by
 have e1 : (s.heap.push W.emptyDict).get? s.heap.objs.size = some W.emptyDict := yaj s.heap rfl;have e2 : ((s.heap.push W.emptyDict).push (W.instObj C s.heap.objs.size)).get? (s.heap.objs.size + 1) = some (W.instObj C s.heap.objs.size) := by
  have := yaj (s.heap.push W.emptyDict) (o := W.instObj C s.heap.objs.size) rfl
  rwa [Heap.size_push] at this
 have e3 : (s.heap.push W.emptyDict).Ns s.heap.objs.size (fun _ => none) := ⟨W.emptyDict, #[], _, e1, rfl, (fun e he => absurd he ς), fun _ => rfl⟩
 have I1 := I.laid (a := s.heap.objs.size) (o := .own (s.heap.objs.size + 1)) (h' := s.heap.push W.emptyDict) (t' := s.toks) (fun b u q => yac _ q) (yai _) ⟨_, e1⟩;refine I1.laid (a := s.heap.objs.size + 1) (o := .ins C s.heap.objs.size []) (t' := s.toks) (fun b u q => yac _ q) (Nat.le_of_eq (Heap.size_push _ _)) ?_;have ne : s.heap.objs.size ≠ s.heap.objs.size + 1 := Nat.ne_of_lt (Nat.lt_succ_self _);refine ⟨by rw [zaw ne, zad], yaq _, ne, e2, fun _ => none, (Heap.Ns1.of_empty e3).at fun o q => yac _ q, fun _ => True.intro, fun y hy => absurd rfl hy⟩
theorem zkQ {prog : Program} {w : World} {env : Env} {e : Expr} {f : Str} {pos : Pos} {s : Shared} {Q : ZQ} (hb : attributeBase e f env (eval e env) = eval e env)
  (h : wpAny (model prog w) A (eval e env) (fun o s₁ => wpAny (model prog w) A (getAttr o f true) Q E s₁) E s) : wpAny (model prog w) A (eval (.Attribute e f pos) env) Q E s :=
 Attribute_any_ h (by rw [arm_eval_Attribute, hb])
end
def tFld (K : W.Frag) (ta : TE) (f : Str) : TE := fun σ H Q => ta σ H fun x H1 => ∃ a C dx fs v, x = .ref a /\ H1 a = some (.ins C dx fs) /\ Cls K C /\ NoAttr K C f /\ fs.lookup f = some v /\ Q v H1
def sFld (K : W.Frag) (ta tv : TE) (f : Str) : TS := fun D σ H => tv σ H fun y H1 => ta σ H1 fun x H2 => ∃ a C dx fs, x = .ref a /\ H2 a = some (.ins C dx fs) /\ Cls K C /\ NoAttr K C f /\ fs.length < 1000 /\
 D.nx σ (upd H2 a (.ins C dx (putF f y fs)))
def InOp (X : Cx) (op : Operator) (rd : V -> V -> Hp -> VK -> Prop) : Prop :=
 ∀ (Qa : ZP) (s : Shared) (σ : St) (H : Hp) (x y : V) (u v : Value) (Q : VK), Inv X Qa σ H s -> RelV x u -> RelV y v -> rd x y H Q -> wpAny (model X.prog X.w) X.A (inplaceOp op u v) (EP X Qa σ Q) X.xe s
def zkR (K : W.Frag) (ta tv : TE) (rd : V -> V -> Hp -> VK -> Prop) (f : Str) : TS := fun D σ H => ta σ H fun x H1 => ∃ a C dx fs v, x = .ref a /\ H1 a = some (.ins C dx fs) /\ Cls K C /\ NoAttr K C f /\ fs.lookup f = some v /\
 tv σ H1 fun y H2 => rd v y H2 fun z H3 => ∃ dx' fs', H3 a = some (.ins C dx' fs') /\ fs'.length < 1000 /\ D.nx σ (upd H3 a (.ins C dx' (putF f z fs')))
section
variable {X : Cx} {o e value : Expr} {f : Str} {pos pos' tpos : Pos} {ta tv : TE}
theorem zgc (he : PE X e ta) (hb : attributeBase e f X.env (eval e X.env) = eval e X.env) : PE X (.Attribute e f pos) (tFld X.K ta f) := by
 intro Qa s σ H Q I h;refine zkQ hb (thn (he Qa s σ H _ I h) fun u s1 ⟨x, H1, I1, rx, a, C, dx, fs, v, ex, ea, c, n, l, q⟩ => ?_);subst ex;obtain rfl : u = Value.ref a := rx;exact zdW I1 ea c n l fun u' s2 I2 ru => ⟨v, H1, I2, ru, q⟩
theorem zk0 (ha : PE X o ta) (hv : PE X value tv) (hs : swapsWith value (some (.Attribute o f pos')) pos.line X.env = pure false) : PS X (.Assign [.Attribute o f pos'] value pos) (sFld X.K ta tv f) := by
 intro Qa s σ H D I h;refine plainObj_wpAny_Assign_Attribute (thn (hv Qa s σ H _ I h) fun u s1 ⟨y, H1, I1, ry, q⟩ => thn (ha Qa s1 σ H1 _ I1 q) fun ov s2 ⟨x, H2, I2, rx, a, C, dx, fs, ex, ea, c, n, l, q2⟩ => ?_) hs;subst ex;obtain rfl : ov = Value.ref a := rx;exact zdX I2 ea c n l ry fun s3 I3 => ⟨σ, _, I3, q2⟩
theorem zhJ {op : Operator} {rd : V -> V -> Hp -> VK -> Prop} (ha : PE X o ta) (hv : PE X value tv) (hop : InOp X op rd) : PS X (.AugAssign (.Attribute o f tpos) op value pos) (zkR X.K ta tv rd f) := by
 intro Qa s σ H D I h;refine wpAny_AugAssign_AttributeAny (thn (ha Qa s σ H _ I h) fun ov s1 ⟨x, H1, I1, rx, a, C, dx, fs, v, ex, ea, c, n, l, q⟩ => ?_);subst ex;obtain rfl : ov = Value.ref a := rx;refine zdW I1 ea c n l fun u s2 I2 ru => thn (hv Qa s2 σ H1 _ I2 q) fun w3 s3 ⟨y, H2, I3, ry, q3⟩ => thn (hop Qa s3 σ H2 v y u w3 _ I3 ru ry q3) fun w4 s4 ⟨z, H3, I4, rz, dx', fs', ea', l', q4⟩ => ?_;exact zdX I4 ea' c n l' rz fun s5 I5 => ⟨σ, _, I5, q4⟩
def rAdd : V -> V -> Hp -> VK -> Prop := fun x y H Q => ∃ i j, x = .int i /\ y = .int j /\ Q (.int (i + j)) H
theorem zm6 : InOp X .Add rAdd := by
 rintro Qa s σ H x y u v Q I rx ry ⟨i, j, rfl, rfl, q⟩
 obtain ⟨t, rfl⟩ := (show ∃ t, u = Value.int i t from rx)
 obtain ⟨t', rfl⟩ := (show ∃ t', v = Value.int j t' from ry)
 exact PyProof.Rows.iadd_int ⟨.int (i + j), H, I.tok _, ⟨_, rfl⟩, q⟩
theorem zkS {pl : Sem Bool} {m : Str} {apos : Pos} {args : List Expr} {Qa : ZP} {s : Shared} {σ : St} {H : Hp} {Q : ZQ} {te : TE} (he : PE X e te) (I : Inv X Qa σ H s)
  (h : te σ H fun x H1 => ∃ a C dx fs g, x = .ref a /\ H1 a = some (.ins C dx fs) /\ Cls X.K C /\ Meth X.K C m g /\ fs.lookup m = none /\
   ∀ s1, Inv X Qa σ H1 s1 -> wpAny (model X.prog X.w) X.A (callWith pos (.ref g) [.ref a] (backTo pos (starEach args X.env)) (backToKw pos (keywordEach [] X.env))) Q X.xe s1)
  (ht : eval (.Call (.Attribute e m apos) args [] pos) X.env = (do
   let ov <- eval e X.env
   standAt apos.atName
   let (f, first) <- holding [ov] (getMethod ov m pl)
   callWith pos f first (backTo pos (starEach args X.env)) (backToKw pos (keywordEach [] X.env)))) :
  wpAny (model X.prog X.w) X.A (eval (.Call (.Attribute e m apos) args [] pos) X.env) Q X.xe s := by
 refine W.methodCall_KW (pl := pl) (thn (he Qa s σ H _ I h) fun u s1 ⟨x, H1, I1, rx, a, C, dx, fs, g, ex, ea, c, k, l, q⟩ => ?_) ht;subst ex;obtain rfl : u = Value.ref a := rx;exact zcN I1 ea c k l (q s1 I1)
end
section
variable {X : Cx} {Qa : ZP} {σ : St} {H : Hp} {s : Shared} {A : Around} {E : ZQ} {Q : ZQ} {c : Value} {b : Bool}
inductive TyOf (K : W.Frag) (H : Hp) : V -> Value -> Prop where
 | non : TyOf K H .non (.type "NoneType")
 | bl (x : Bool) : TyOf K H (.bl x) (.type "bool")
 | int (i : Int) : TyOf K H (.int i) (.type "int")
 | str (x : Str) : TyOf K H (.str x) (.type "str")
 | flt (x : UInt64) : TyOf K H (.flt x) (.type "float")
 | lst {a : Addr} {xs : List V} (e : H a = some (.lst xs)) : TyOf K H (.ref a) (.type "list")
 | frz {a : Addr} {o : Obj} {xs : List V} (e : H a = some (.frz o (.lst xs))) : TyOf K H (.ref a) (.type "list")
 | tup {a : Addr} {xs : List V} (e : H a = some (.tup xs)) : TyOf K H (.ref a) (.type "tuple")
 | dK {a : Addr} {kvs : List (Key × V)} (e : H a = some (.dK kvs)) : TyOf K H (.ref a) (.type "dict")
 | dT {a : Addr} {kvs : List (List Key × V)} (e : H a = some (.dT kvs)) : TyOf K H (.ref a) (.type "dict")
 | ins {a C dx : Addr} {fs : List (Str × V)} (e : H a = some (.ins C dx fs)) (cl : Cls K C) (ha : W.findIn K (.ref C) "__class__" = some (some (.builtin "object.__class__")))
   (hn : W.specialIn K (.builtin "object.__class__") "__get__" = some (some (.builtin "getset_descriptor.__get__"))) (htk : W.takesIn K (.builtin "object.__class__") = some true)
   (hm : W.mroIn K C (.type "object") = some true) : TyOf K H (.ref a) (.ref C)
theorem zhK {x : V} {u t : Value} (I : Inv X Qa σ H s) (rx : RelV x u) (ty : TyOf X.K H x t) (e : W.kitOne X.K t c = some b) (h : ∀ tk, Q (.bool b) { s with toks := tk }) :
  wpAny (model X.prog X.w) A (call (.builtin "isinstance") [u, c]) Q E s := by
 cases ty with
 | non => cases (show u = Value.none from rx); exact W.kia_one W.kitx_none I.kIn True.intro e (fun z => nomatch z) h
 | bl y => cases (show u = Value.bool y from rx); exact W.kia_one W.kitx_bool I.kIn True.intro e (fun z => nomatch z) h
 | int i => obtain ⟨t, q⟩ := (show ∃ t, u = Value.int i t from rx); cases q; exact W.kia_one W.kitx_int I.kIn True.intro e (fun z => nomatch z) h
 | str y => obtain ⟨t, q⟩ := (show ∃ t, u = Value.str y t from rx); cases q; exact W.kia_one W.kitx_str I.kIn True.intro e (fun z => nomatch z) h
 | flt y => obtain ⟨t, q⟩ := (show ∃ t, u = Value.float y t from rx); cases q; exact W.kia_one W.kitx_float I.kIn True.intro e (fun z => nomatch z) h
 | @lst a xs ea =>
  cases (show u = Value.ref a from rx);obtain ⟨_, _, n, _, h1⟩ := (show ObjOk X.prog X.w H s.heap a (.lst xs) from I.hok a _ ea)
  exact W.kia_one W.kitx_list I.kIn ⟨_, h1, rfl⟩ e (fun z => nomatch z) h
 | @frz a ob xs ea =>
  cases (show u = Value.ref a from rx);obtain ⟨_, _, _, n, _, h1⟩ := (show ObjOk X.prog X.w H s.heap a (.frz ob (.lst xs)) from I.hok a _ ea)
  exact W.kia_one W.kitx_list I.kIn ⟨_, h1, rfl⟩ e (fun z => nomatch z) h
 | @tup a xs ea =>
  cases (show u = Value.ref a from rx);obtain ⟨_, _, _, p⟩ := (show ObjOk X.prog X.w H s.heap a (.tup xs) from I.hok a _ ea)
  obtain ⟨o, h1, h2, _⟩ := p;exact W.kia_one W.kitx_tuple I.kIn ⟨o, h1, h2⟩ e (fun z => nomatch z) h
 | @dK a kvs ea =>
  cases (show u = Value.ref a from rx);obtain ⟨_, _, vs, _, p⟩ := (show ObjOk X.prog X.w H s.heap a (.dK kvs) from I.hok a _ ea)
  obtain ⟨o, es, ep, h1, h2, _⟩ := p;exact W.kia_one W.kitx_dict I.kIn ⟨o, h1, h2.1⟩ e (fun z => nomatch z) h
 | @dT a kvs ea =>
  cases (show u = Value.ref a from rx);obtain ⟨_, _, xs, _, o, es, ep, h1, h2, _⟩ := (show ObjOk X.prog X.w H s.heap a (.dT kvs) from I.hok a _ ea)
  exact W.kia_one W.kitx_dict I.kIn ⟨o, h1, h2.1⟩ e (fun z => nomatch z) h
 | @ins a C dx fs ea cl ha hn htk hm =>
  cases (show u = Value.ref a from rx);obtain ⟨mA, O, _⟩ := zeq I.hok ea;obtain ⟨od, J, _⟩ := O.look;exact W.kia_one (W.kitx_own (cl.get _) cl.hd ha hn htk hm) I.kIn J e (fun z => nomatch z) h
end
structure Room (k : Nat) (A : Around) : Prop where
 hd : A.handled = none
 dp : A.depth + 3 * k + 5 < recursionLimit
 un : A.units + 16 * k + 200 < cLine
 gd : A.guards = some []
theorem Room.mono {j k : Nat} {A : Around} (r : Room k A) (h : j <= k) : Room j A := ⟨r.hd, by have := r.dp; omega, by have := r.un; omega, r.gd⟩
theorem Room.deeper {k : Nat} {A : Around} (r : Room (k + 1) A) (env : Env) : Room k (A.deeper env) :=
 ⟨r.hd, by have := r.dp; show A.depth + 1 + 3 * k + 5 < _; omega, by have := r.un; show A.units + 3 + 16 * k + 200 < _; omega, r.gd⟩
theorem zgV {A : Around} {C : Addr} {us : List Value} {kw : List (Str × Value)} : (A.under (.builtin "type.__call__" ⟨.ref C :: us, kw⟩)).depth = A.depth + 1 := by
 first | rfl | simp [Around.under, Code.weight, Code.isCreation, Code.isGuard, Code.isCaller, Code.frames, Code.isFrame, guardIds]
theorem zgW {A : Around} {C : Addr} {us : List Value} {kw : List (Str × Value)} : (A.under (.builtin "type.__call__" ⟨.ref C :: us, kw⟩)).units = A.units + 1 := by
 first | rfl | simp [Around.under, Code.cUnits, Code.frames, Code.isFrame]
theorem zfA {A : Around} {C : Addr} {us : List Value} {kw : List (Str × Value)} : (A.under (.builtin "type.__call__" ⟨.ref C :: us, kw⟩)).guards = A.guards := by
 first | rfl | simp [Around.under, Code.isGuard, guardIds] | (simp [Around.under, Code.isGuard, guardIds]; decide)
theorem Room.make {k : Nat} {A : Around} (r : Room (k + 1) A) (C : Addr) (us : List Value) (kw : List (Str × Value)) : Room k (A.under (.builtin "type.__call__" ⟨.ref C :: us, kw⟩)) :=
 ⟨r.hd, by have := r.dp; rw [zgV]; omega, by have := r.un; rw [zgW]; omega, by rw [zfA]; exact r.gd⟩
theorem Room.depth {k : Nat} {A : Around} (r : Room k A) : A.depth < recursionLimit := by have := r.dp; omega
theorem Room.units {k : Nat} {A : Around} (r : Room k A) : A.units + 64 < cLine := by have := r.un; omega
def tNil : TA := fun _ H Q => Q [] H
def zkT (ta : TE) (tr : TA) : TA := fun σ H Q => ta σ H fun x H1 => tr σ H1 fun xs H2 => Q (x :: xs) H2
section
variable {X : Cx} {e : Expr} {es : List Expr} {te : TE} {t : TA} {pos : Pos}
theorem zae : PA X [] tNil := fun _ _ _ _ H Q I h => Calls.spliced_nil ⟨[], H, I, .nil, h⟩
theorem zaa (ha : PE X e te) (hr : PA X es t) (hs : starEach (e :: es) X.env = (false, eval e X.env) :: starEach es X.env := by rfl) : PA X (e :: es) (zkT te t) := by
 intro pos Qa s σ H Q I h;rw [hs];show wpAny _ _ (spliced ((false, eval e X.env) :: backTo pos (starEach es X.env))) _ _ s;refine Calls.spliced_cons (thn (ha Qa s σ H _ I h) fun u s1 ⟨x, H1, I1, r1, q1⟩ => ?_);exact thn (hr pos Qa s1 σ H1 _ I1 q1) fun us s2 ⟨xs, H2, I2, r2, q2⟩ => ⟨x :: xs, H2, I2, .cons r1 r2, q2⟩
def tTup (t : TA) : TE := fun σ H Q => t σ H fun xs H1 => xs.length <= sizeLine /\ ∀ p, H1 p = none -> Q (.ref p) (upd H1 p (.tup xs))
def tLst (t : TA) : TE := fun σ H Q => t σ H fun xs H1 => xs.length <= sizeLine /\ ∀ p, H1 p = none -> Q (.ref p) (upd H1 p (.lst xs))
theorem zci {x1} (h : PA X es t) : PE X (.Tuple es x1 pos) (tTup t) := by
 intro Qa s σ H Q I hq;refine wpAny_Tuple_spliced (thn (h pos Qa s σ H _ I hq) fun us s1 ⟨xs, H1, I1, r, z, q⟩ => ⟨by rw [<- r.length]; exact z, ?_⟩);have hf : H1 s1.heap.objs.size = none := I1.hok.fresh (yai _);refine ⟨.ref s1.heap.objs.size, upd H1 s1.heap.objs.size (.tup xs), I1.laid (t' := s1.toks) (fun b u e => yac _ e) (yai _) ?_, rfl, q _ hf⟩;exact ⟨z, us, r, ⟨_, yaj _ rfl, rfl, _, rfl⟩⟩
theorem zbx (h : PA X es t) : PE X (.List es pos) (tLst t) := by
 intro Qa s σ H Q I hq;refine wpAny_List_spliced (thn (h pos Qa s σ H _ I hq) fun us s1 ⟨xs, H1, I1, r, z, q⟩ => ⟨by rw [<- r.length]; exact z, ?_⟩);have hf : H1 s1.heap.objs.size = none := I1.hok.fresh (yai _);refine ⟨.ref s1.heap.objs.size, upd H1 s1.heap.objs.size (.lst xs), I1.laid (t' := s1.toks) (fun b u e => yac _ e) (yai _) ?_, rfl, q _ hf⟩;exact ⟨z, us, 0, r, yaj _ rfl⟩
end
abbrev Sp := List V -> Hp -> VK -> XK -> Prop
abbrev CXT := List Env -> Hp -> Shared -> XK -> Value -> Shared -> Prop
structure Env0 (P : Program) (w : World) (K : W.Frag) (mg : Str -> Option Value) (base : Heap) (A : Around) (outer : List Env) (s : Shared) (H : Hp) : Prop where
 frames : A.frames = some outer
 mod : Mod K mg base
 bs : ∀ b o, base.get? b = some o -> s.heap.get? b = some o /\ H b = none
 bsz : base.objs.size <= s.heap.objs.size
 funs : s.heap.FunFrames base outer
 frf : ∀ b ∈ frs outer, H b = none
 hok : HOk P w H s.heap
 bare : AllBare s.gens
def CE (outer : List Env) (P : Program) (w : World) (H : Hp) (s : Shared) (Q : VK) (u : Value) (s' : Shared) : Prop :=
 ∃ v H', s'.os = s.os /\ AllBare s'.gens /\ Un (frs outer) [] H H' s.heap s'.heap /\ HOk P w H' s'.heap /\ RelV v u /\ Q v H'
def CR (CX : CXT) (outer : List Env) (P : Program) (w : World) (H : Hp) (s : Shared) (Q : VK) (E : XK) (r : Result) (s' : Shared) : Prop :=
 match r with
 | .ok (.ret u) => CE outer P w H s Q u s'
 | .ok _ => False
 | .error e => CX outer H s E e s'
structure FnOk (P : Program) (w : World) (K : W.Frag) (mg : Str -> Option Value) (base : Heap) (CX : CXT) (k : Nat) (f : Addr) (fd : FuncData) (ps : List Str) (sp : Sp) : Prop where
 len : ∀ vs H Q E, sp vs H Q E -> vs.length = ps.length
 run : ∀ (A : Around) (outer : List Env) (s : Shared) (H : Hp) (args : Args) (us : List Value) (vs : List V) (Q : VK) (E : XK), Room k A -> Env0 P w K mg base A outer s H -> BindsTo s fd args (ps.zip us) -> Vals vs us -> sp vs H Q E ->
  codeAny (model P w) A (.call (.ref f) args) (CR CX outer P w H s Q E) s
theorem Env0.make {P : Program} {w : World} {K : W.Frag} {mg : Str -> Option Value} {base : Heap} {A : Around} {outer : List Env} {s : Shared} {H : Hp} (e : Env0 P w K mg base A outer s H) (C : Addr) (us : List Value) (kw : List (Str × Value)) :
  Env0 P w K mg base (A.under (.builtin "type.__call__" ⟨.ref C :: us, kw⟩)) outer s H := ⟨by first | exact e.frames | (simpa [Around.under, Code.envs, Code.isFrame, pushEnvs] using e.frames), e.mod, e.bs, e.bsz, e.funs, e.frf, e.hok, e.bare⟩
section
variable {X : Cx} {Qa : ZP} {σ : St} {H : Hp} {s s' : Shared}
theorem Inv.env0 (I : Inv X Qa σ H s) : Env0 X.prog X.w X.K X.mg X.base X.A X.stack s H :=
 ⟨I.ok.frames, I.ok.mod, I.bs, yat I.ok.bsz I.sz, I.stack, I.stkFree, I.hok, I.bare⟩
theorem Inv.after {Q : VK} {u : Value} (I : Inv X Qa σ H s) (h : CE X.stack X.prog X.w H s Q u s') : EP X Qa σ Q u s' := by
 obtain ⟨v, H', os, bare, un, hok, r, q⟩ := h;obtain ⟨hh, g, d, t, os'⟩ := s';obtain rfl : os' = s.os := os;exact ⟨v, H', I.call (h' := hh) (g' := g) (d' := d) (t' := t) (ch := []) un hok bare (fun b z => absurd z ς), r, q⟩
end
def zkU (sp : Sp) (dvs : List V) (E : XK) (t : TA) : TE := fun σ H Q => t σ H fun vs H1 => sp (vs ++ dvs) H1 Q E
def zm7 (C : Addr) (m : Str) (sp : Sp) (dvs : List V) (E : XK) (ta : TE) (t : TA) : TE := fun σ H Q => ta σ H fun x H1 => ∃ a dx fs, x = .ref a /\ H1 a = some (.ins C dx fs) /\ fs.lookup m = none /\
 t σ H1 fun vs H2 => sp (x :: (vs ++ dvs)) H2 Q E
def zm8 (C : Addr) (sp : Sp) (dvs : List V) (E : XK) (t : TA) : TE := fun σ H Q => t σ H fun vs H1 => ∀ x dx, H1 x = none -> H1 dx = none -> dx ≠ x ->
 sp (.ref x :: (vs ++ dvs)) (upd (upd H1 dx (.own x)) x (.ins C dx [])) (fun v H2 => v = .non /\ Q (.ref x) H2) E
def Binds (K : W.Frag) (fd : FuncData) (ps : List Str) (ds : List Value) : Prop :=
 ∀ (s : Shared) (us : List Value), K.In s.heap -> (us ++ ds).length = ps.length -> BindsTo s fd ⟨us, []⟩ (ps.zip (us ++ ds))
theorem Binds.all {K : W.Frag} {fd : FuncData} {ps : List Str} (h : ∀ us : List Value, us.length = ps.length -> bindArgs fd ⟨us, []⟩ = pure (ps.zip us)) : Binds K fd ps [] := fun s us _ hl => by
 rw [List.append_nil] at hl ⊢;exact .of_eq (h us hl)
def zdv (CX : CXT) (X : Cx) (E : XK) : Prop := ∀ (Qa : ZP) (σ : St) (H : Hp) (s : Shared) (e : Value) (s' : Shared), Inv X Qa σ H s -> CX X.stack H s E e s' -> X.xe e s'
section
variable {X : Cx} {CX : CXT} {k : Nat} {f C : Addr} {fd : FuncData} {ps : List Str} {sp : Sp} {dvs : List V} {ds : List Value} {E : XK} {x m : Str} {p pos apos : Pos} {e o : Expr} {es : List Expr} {ta : TE} {t : TA}
theorem zk1 {Qa : ZP} {σ : St} {H : Hp} {s : Shared} {Q : VK} {us : List Value} {vs : List V} (F : FnOk X.prog X.w X.K X.mg X.base CX k f fd ps sp) (hr : Room k X.A) (hb : Binds X.K fd ps ds) (hd : Vals dvs ds) (hx : zdv CX X E)
  (I : Inv X Qa σ H s) (r : Vals vs us) (h : sp (vs ++ dvs) H Q E) : wpAny (model X.prog X.w) X.A (call (.ref f) us) (EP X Qa σ Q) X.xe s := by
 have r2 : Vals (vs ++ dvs) (us ++ ds) := r.append hd;have hl : (us ++ ds).length = ps.length := by rw [<- r2.length]; exact F.len _ _ _ _ h
 refine wpAny_call (codeAny_mono (F.run X.A X.stack s H ⟨us, []⟩ (us ++ ds) (vs ++ dvs) Q E hr I.env0 (hb s us I.kIn hl) r2 h) fun r s' hq => ?_);cases r with
 | error e => exact hx Qa σ H s e s' I hq
 | ok fl =>
  cases fl with
  | ret u => exact I.after hq
  | next => exact False.elim hq
  | brk => exact False.elim hq
  | cont => exact False.elim hq
theorem zav (F : FnOk X.prog X.w X.K X.mg X.base CX k f fd ps sp) (hr : Room k X.A) (hg : Gl X x) (hm : X.mg x = some (.ref f)) (hk : W.keepIn X.K (.ref f) = true) (hb : Binds X.K fd ps ds) (hd : Vals dvs ds) (hx : zdv CX X E)
  (ha : PA X (e :: es) t) (hdb : (x == ("__debug__" : Str)) = false := by decide) (he : starEach (e :: es) X.env = (false, eval e X.env) :: starEach es X.env := by rfl) (hpl : (backTo pos (starEach es X.env)).any (·.1) = false := by rfl) :
  PE X (.Call (.Name x p) (e :: es) [] pos) (zkU sp dvs E t) := by
 intro Qa s σ H Q I h;refine wpAny_Call_Name_kw (zbV I hg hm ?_ hdb);refine W.callWith_K (h₀ := X.base) I.ok.mod.kin hk (thn (ha pos Qa s σ H _ I h) fun us s1 ⟨vs, H1, I1, r, q⟩ => ⟨I1.kIn, ?_⟩) he hpl;exact zk1 F hr hb hd hx I1 r q
theorem zca {pl : Sem Bool} (he : PE X o ta) (c : Cls X.K C) (hm : Meth X.K C m f) (F : FnOk X.prog X.w X.K X.mg X.base CX k f fd ps sp) (hr : Room k X.A) (hb : Binds X.K fd ps ds) (hd : Vals dvs ds) (hx : zdv CX X E)
  (ht : eval (.Call (.Attribute o m apos) [] [] pos) X.env = (do
   let ov <- eval o X.env
   standAt apos.atName
   let (f, first) <- holding [ov] (getMethod ov m pl)
   callWith pos f first (backTo pos (starEach [] X.env)) (backToKw pos (keywordEach [] X.env))) := by rfl) :
  PE X (.Call (.Attribute o m apos) [] [] pos) (zm7 C m sp dvs E ta tNil) := by
 intro Qa s σ H Q I h;refine W.methodCall_KW (pl := pl) (thn (he Qa s σ H _ I h) fun u s1 ⟨x, H1, I1, rx, a, dx, fs, ex, ea, l, q⟩ => ?_) ht;subst ex;obtain rfl : u = Value.ref a := rx;refine zcN I1 ea c hm l ?_;exact W.callWith_K0 (first := [.ref a]) I1.kIn hm.kp (zk1 (us := [.ref a]) (vs := [.ref a]) F hr hb hd hx I1 (.cons rfl .nil) q)
structure Mk (K : W.Frag) (C f : Addr) : Prop where
 makes : W.makesIn K C = true
 init : W.findIn K (.ref C) "__init__" = some (some (.ref f))
 fn : W.isFn K (.ref f) = true
 kp : W.keepIn K (.ref C) = true
theorem zjn {Qa : ZP} {σ : St} {H : Hp} {s : Shared} {Q : VK} {us : List Value} {vs : List V} (M : Mk X.K C f) (F : FnOk X.prog X.w X.K X.mg X.base CX k f fd ps sp) (hr : Room (k + 1) X.A) (hb : Binds X.K fd ps ds) (hd : Vals dvs ds)
  (hx : zdv CX X E) (I : Inv X Qa σ H s) (r : Vals vs us)
  (h : ∀ x dx, H x = none -> H dx = none -> dx ≠ x -> sp (.ref x :: (vs ++ dvs)) (upd (upd H dx (.own x)) x (.ins C dx [])) (fun v H2 => v = .non /\ Q (.ref x) H2) E) :
  wpAny (model X.prog X.w) X.A (call (.ref C) us) (EP X Qa σ Q) X.xe s := by
 have hq := h (s.heap.objs.size + 1) s.heap.objs.size (I.hok.fresh (Nat.le_succ _)) (I.hok.fresh (yai _)) (Nat.ne_of_lt (Nat.lt_succ_self _));have I2 := Inv.made (C := C) I;have r2 : Vals (V.ref (s.heap.objs.size + 1) :: (vs ++ dvs)) (Value.ref (s.heap.objs.size + 1) :: (us ++ ds)) := .cons rfl (r.append hd);have hl : (Value.ref (s.heap.objs.size + 1) :: us ++ ds).length = ps.length := by
  have e := r2.length;rw [F.len _ _ _ _ hq] at e;exact e.symm
 refine wpAny_call (zjm (f := f) I.kIn M.makes M.init (beq_iff_eq.mp M.fn) (codeAny_mono (F.run _ X.stack _ _ ⟨Value.ref (s.heap.objs.size + 1) :: us, []⟩ (Value.ref (s.heap.objs.size + 1) :: (us ++ ds)) _ _ E (hr.make C us [])
  (I2.env0.make C us []) (hb _ (Value.ref (s.heap.objs.size + 1) :: us) I2.kIn hl) r2 hq) fun r s' hq' => ?_))
 cases r with
 | error e => exact hx Qa σ _ _ e s' I2 hq'
 | ok fl =>
  cases fl with
  | ret u =>
   obtain ⟨v, H', I3, rv, ev, q3⟩ := I2.after hq';subst ev;exact ⟨rv, ⟨V.ref (s.heap.objs.size + 1), H', I3, rfl, q3⟩⟩
  | next => exact False.elim hq'
  | brk => exact False.elim hq'
  | cont => exact False.elim hq'
end
section
variable {X : Cx} {CX : CXT} {k : Nat} {f C : Addr} {fd : FuncData} {ps ks : List Str} {sp : Sp} {E : XK} {x m : Str} {p pos apos kpos : Pos} {e o : Expr} {es : List Expr} {kws : List Keyword} {te ta : TE} {t tk : TA} {nm : Option Str}
structure zpx (K : W.Frag) (fd : FuncData) (ps ks : List Str) (g : List Value -> List Value -> List Value) (gV : List V -> List V -> List V) : Prop where
 to : ∀ (s : Shared) (us ws : List Value), K.In s.heap -> (g us ws).length = ps.length -> BindsTo s fd ⟨us, ks.zip ws⟩ (ps.zip (g us ws))
 rel : ∀ {vs : List V} {us : List Value} {zs : List V} {ws : List Value}, Vals vs us -> Vals zs ws -> Vals (gV vs zs) (g us ws)
end
structure zap (N P : List Str) (sc : Scope) : Prop where
 kind : sc.kind = .function
 co : sc.isCoroutine = false
 gen : sc.isGenerator = false
 nd : N.Nodup
 pre : N.take P.length = P
 par : ∀ x ∈ P, sc.names.lookup x = some .local \/ sc.names.lookup x = some .cell
 nofree : ∀ y ∈ sc.names, y.2 ≠ .free
theorem zeR {kindOf : Str -> Option NameKind} {x : Str} : ∀ {binds : List (Str × Value)} {m : Str -> Option Value}, (∀ v, (x, v) ∉ binds) -> bindL kindOf binds m x = m x
 | [], _, _ => rfl
 | (n, v) :: r, m, h => by
  unfold bindL;rw [zeR fun w hw => h w (List.mem_cons_of_mem _ hw)]
  split
  ·have : x ≠ n := by rintro rfl; exact h v List.mem_cons_self
   simp [this]
  ·rfl
theorem zeS {kindOf : Str -> Option NameKind} {x : Str} : ∀ {binds : List (Str × Value)} {m : Str -> Option Value}, (∀ v, (x, v) ∉ binds) -> bindC kindOf binds m x = m x
 | [], _, _ => rfl
 | (n, v) :: r, m, h => by
  unfold bindC;rw [zeS fun w hw => h w (List.mem_cons_of_mem _ hw)]
  split
  ·rfl
  ·have : x ≠ n := by rintro rfl; exact h v List.mem_cons_self
   simp [this]
theorem zeT {kindOf : Str -> Option NameKind} {x : Str} {v : Value} : ∀ {P : List Str} {vs : List Value} {i : Nat} {m : Str -> Option Value}, P.Nodup -> P[i]? = some x -> vs[i]? = some v -> kindOf x = some .local ->
  bindL kindOf (P.zip vs) m x = some v
 | [], _, _, _, _, h, _, _ => by simp at h
 | _ :: _, [], _, _, _, _, h, _ => by simp at h
 | p :: P, w :: vs, 0, m, nd, h1, h2, hk => by
  simp at h1 h2; subst h1; subst h2;show bindL kindOf ((p, w) :: P.zip vs) m p = _;unfold bindL;rw [zeR fun v hv => (List.nodup_cons.mp nd).1 (List.of_mem_zip hv).1, if_pos hk];simp
 | p :: P, w :: vs, i + 1, m, nd, h1, h2, hk => by
  show bindL kindOf ((p, w) :: P.zip vs) m x = _;unfold bindL;exact zeT (i := i) (List.nodup_cons.mp nd).2 (by simpa using h1) (by simpa using h2) hk
theorem zeU {kindOf : Str -> Option NameKind} {x : Str} {v : Value} : ∀ {P : List Str} {vs : List Value} {i : Nat} {m : Str -> Option Value}, P.Nodup -> P[i]? = some x -> vs[i]? = some v -> kindOf x ≠ some .local ->
  bindC kindOf (P.zip vs) m x = some v
 | [], _, _, _, _, h, _, _ => by simp at h
 | _ :: _, [], _, _, _, _, h, _ => by simp at h
 | p :: P, w :: vs, 0, m, nd, h1, h2, hk => by
  simp at h1 h2; subst h1; subst h2;show bindC kindOf ((p, w) :: P.zip vs) m p = _;unfold bindC;rw [zeS fun v hv => (List.nodup_cons.mp nd).1 (List.of_mem_zip hv).1, if_neg hk];simp
 | p :: P, w :: vs, i + 1, m, nd, h1, h2, hk => by
  show bindC kindOf ((p, w) :: P.zip vs) m x = _;unfold bindC;exact zeU (i := i) (List.nodup_cons.mp nd).2 (by simpa using h1) (by simpa using h2) hk
def start (N : List Str) (vs : List V) : St := vs.map some ++ List.replicate (N.length - vs.length) none
def cxOf (CX : CXT) (P : Program) (w : World) (K : W.Frag) (mg : Str -> Option Value) (base : Heap) (N : List Str) (qual : Str) (scope : Scope) (f : Addr) (cd : Value) (A : Around) (outer : List Env) (s : Shared) (H : Hp) (E : XK) : Cx where
 prog := P
 w := w
 K := K
 mg := mg
 base := base
 A := A.deeper (envOfC qual scope s.heap.objs.size f cd)
 N := N
 s₀ := s
 H₀ := H
 env := envOfC qual scope s.heap.objs.size f cd
 outer := outer
 stack := envOfC qual scope s.heap.objs.size f cd :: outer
 ex := []
 calm := true
 fn := fun _ => true
 pn := []
 xe := fun e s' => wpAny (model P w) (A.deeper (envOfC qual scope s.heap.objs.size f cd)) (leaving (envOfC qual scope s.heap.objs.size f cd) e) (fun _ s'' => CX outer H s E e s'') (fun e' s'' => CX outer H s E e' s'') s'
theorem zgd {sc : Scope} {n : Nat} {x : Str} (h : sc.names.lookup x = some .cell) : ∃ c, (cellsFrom n sc.names []).lookup x = some c := by
 have q := W.cellsFrom_some sc.names n [] (.inl h);exact Option.isSome_iff_exists.mp q
theorem zdw {CX : CXT} {P : Program} {w : World} {K : W.Frag} {mg : Str -> Option Value} {base : Heap} {N ps : List Str} {qual : Str} {scope : Scope} {f : Addr} {cd : Value} {A : Around} {outer : List Env} {s s1 : Shared} {H : Hp} {E : XK} {us : List Value} {vs : List V}
  (S : zap N ps scope) (hd : A.handled = none) (e0 : Env0 P w K mg base A outer s H) (hl : vs.length = ps.length) (r : Vals vs us)
  (x : InCallC s s.heap.objs.size (bindL (envOfC qual scope s.heap.objs.size f cd).kindOf (ps.zip us) fun _ => none) (cellsFrom (s.heap.objs.size + 1) scope.names []) (bindC (envOfC qual scope s.heap.objs.size f cd).kindOf (ps.zip us) fun _ => none) s1) :
  Inv (cxOf CX P w K mg base N qual scope f cd A outer s H E) [] (start N vs) H s1 := by
 have hpl : ps.length <= N.length := by have := congrArg List.length S.pre; rw [ya3] at this; omega
 obtain ⟨h1, tk, rfl, hk⟩ := x.done;have noA : ∀ b : Addr, b ∉ (cxOf CX P w K mg base N qual scope f cd A outer s H E).ex := fun b z => absurd (show b ∈ ([] : List Addr) from z) ς;refine ⟨⟨e0.mod, S.kind, rfl, rfl, yai _, fun y z c h1 h2 => ?_, fun y hy => ?_, fun y c _ h => ?_, fun _ => hd, Around.frames_deeper e0.frames, .inr ⟨rfl, rfl⟩, fun b z => absurd z (noA b), e0.bs, e0.bsz, fun b _ _ => noA b, fun b z => absurd z (noA b), e0.funs, e0.frf⟩,
  rfl, e0.bare, Un.kept hk, ⟨_, x.toInCall.ns, fun i y v h1 h2 h3 => ?_⟩, fun y c h => ⟨_, x.cell y c h⟩, e0.hok.fresh (yai _), fun y c h => ?_, fun p hp => absurd (show p ∈ ([] : ZP) from hp) ς, e0.hok.kept hk, ?_⟩
 ·exact name_of_addr x.apart (PySem.mem_of_lookup h1) (PySem.mem_of_lookup h2)
 ·have hy : scope.names.lookup y = some .cell \/ scope.names.lookup y = some .free := hy;rcases hy with hy | hy
  ·exact zgd hy
  ·exact absurd rfl (S.nofree _ (PySem.mem_of_lookup hy))
 ·exact Nat.le_of_lt (x.above y c (PySem.mem_of_lookup h))
 ·have hi : i < vs.length := by
   unfold start at h2
   by_cases hi : i < vs.length
   ·exact hi
   ·rw [List.getElem?_append_right (by simpa using hi)] at h2;rw [List.getElem?_replicate] at h2
    split at h2 <;> cases h2
  have ha : vs[i]? = some v := by
   unfold start at h2;rw [ya5 (by simpa using hi), yav] at h2;cases e : vs[i]? with
   | none => rw [e] at h2; cases h2
   | some a => rw [e] at h2; cases h2; rfl
  obtain ⟨u, hu, rv⟩ := r.get ha;have hp : ps[i]? = some y := by
   rw [<- S.pre, List.getElem?_take_of_lt ω]; exact h1
  have ndP : ps.Nodup := by rw [<- S.pre]; exact S.nd.sublist (List.take_sublist _ _)
  refine ⟨u, rv, ?_⟩;rcases S.par y (ya1 hp) with k | k
  ·exact .inl ⟨k, zeT ndP hp hu k⟩
  ·obtain ⟨c, e⟩ := zgd (n := s.heap.objs.size + 1) k;refine .inr ⟨.inl k, c, e, ?_⟩;have q := x.cell y c e;rw [zeU ndP hp hu (by show scope.names.lookup y ≠ _; rw [k]; decide)] at q;exact q
 ·exact e0.hok.fresh (Nat.le_of_lt (x.above y c (PySem.mem_of_lookup h)))
 ·unfold start;show _ = N.length;rw [yae, yaf, List.length_replicate];omega
theorem zm9 {CX : CXT} {P : Program} {w : World} {K : W.Frag} {mg : Str -> Option Value} {base : Heap} {k : Nat} {f : Addr} {name qual : Str} {params : Arguments} {body : List Stmt} {scope : Scope} {dV kV doc pm cdv ct oc : Value} {an od : Option Addr}
  {osl : Array (Option Value)} {N ps : List Str} {sp : Sp} (lk : K.lookup f = some ⟨oc, od, .func (W.fnOf name qual params body scope dV kV doc pm an cdv ct), osl⟩) (hcd : W.codeIn K cdv qual = true) (S : zap N ps scope)
  (len : ∀ vs H Q E, sp vs H Q E -> vs.length = ps.length)
  (hbody : ∀ (A : Around) (outer : List Env) (s : Shared) (H : Hp) (vs : List V) (Q : VK) (E : XK), Room k (A.deeper (envOfC qual scope s.heap.objs.size f cdv)) -> sp vs H Q E ->
   ∃ t, PSs (cxOf CX P w K mg base N qual scope f cdv A outer s H E) body t /\ t { nx := fun _ H' => Q .non H', rt := Q } (start N vs) H) :
  FnOk P w K mg base CX (k + 1) f (W.fnOf name qual params body scope dV kV doc pm an cdv ct) ps sp := by
 refine ⟨len, fun A outer s H args us vs Q E hr e0 hb r hsp => ?_⟩;have hl := len _ _ _ _ hsp;have KX : K.In s.heap := e0.mod.kin.keeps fun b o e => (e0.bs b o e).1;have lim : s.heap.NoLimit := e0.mod.nolimit.keeps fun b o e => (e0.bs b o e).1;have hkind : ∀ y ∈ ps.zip us, scope.names.lookup y.1 = some .local \/ (scope.names.lookup y.1 = some .cell /\ ((cellsFrom (s.heap.objs.size + 1) scope.names []).lookup y.1).isSome = true) := fun ⟨n, v⟩ hy => by
  rcases S.par n (List.of_mem_zip hy).1 with q | q
  ·exact .inl q
  ·exact .inr ⟨q, W.cellsFrom_some _ _ _ (.inl q)⟩
 refine codeAny_call_function hr.depth (KX _ _ lk) rfl S.co S.gen rfl (W.codeRec_of KX hcd) (hb _ _ _ _ ?_);refine wpAny_newFunctionEnv_cells S.kind hkind fun env he s1 x => ?_;subst he;refine ⟨lim.keeps x.toInCall.keep, codeAny_func ?_⟩;obtain ⟨t, ht, hq⟩ := hbody A outer s H vs Q E (hr.deeper _) hsp;have I : Inv (cxOf CX P w K mg base N qual scope f cdv A outer s H E) [] (start N vs) H s1 := zdw S hr.hd e0 hl r x;refine wpAny_mono (ht [] s1 (start N vs) H _ I hq) (fun fl s' hs => ?_) fun e s' hs => hs;have fin : ∀ {σ' : St} {H' : Hp} {v : V} {u : Value}, Inv (cxOf CX P w K mg base N qual scope f cdv A outer s H E) [] σ' H' s' -> RelV v u -> Q v H' -> CE outer P w H s Q u s' :=
  fun {σ' H' v u} J rv q => ⟨v, H', J.os, J.bare, J.base, J.hok, rv, q⟩
 cases fl with
 | ret u =>
  obtain ⟨v, σ', H', J, rv, q⟩ := hs;exact fin J rv q
 | next =>
  obtain ⟨σ', H', J, q⟩ := hs;exact fin (v := V.non) (u := Value.none) J rfl q
 | brk =>
  obtain ⟨_, _, _, q⟩ := hs;exact False.elim q
 | cont =>
  obtain ⟨_, _, _, q⟩ := hs;exact False.elim q
section
variable {X : Cx} {x : Str} {p pos : Pos} {e : Expr} {es : List Expr} {t : TA} {id T : String} {r : List V -> Hp -> VK -> Prop}
def tCB (r : List V -> Hp -> VK -> Prop) (t : TA) : TE := fun σ H Q => t σ H fun vs H1 => r vs H1 Q
theorem zau (hc : zbW X (.builtin id) r) (hg : Gl X x) (hm : X.mg x = none) (hv : bootBuiltins x = some (.builtin id)) (ha : PA X (e :: es) t) (hn : x ≠ "__name__" := by decide) (hdb : (x == ("__debug__" : Str)) = false := by decide)
  (he : starEach (e :: es) X.env = (false, eval e X.env) :: starEach es X.env := by rfl) (hpl : (backTo pos (starEach es X.env)).any (·.1) = false := by rfl) : PE X (.Call (.Name x p) (e :: es) [] pos) (tCB r t) := by
 intro Qa s σ H Q I h;refine wpAny_Call_Name_kw (zfY I hg hm hv ?_ hn hdb);exact PyProof.Rows.callWith_builtin1 (thn (ha pos Qa s σ H _ I h) fun us s1 ⟨vs, H1, I1, r1, q1⟩ => hc Qa s1 σ H1 vs us Q I1 r1 q1) he hpl
theorem zbE (hc : zbW X (.type T) r) (hg : Gl X x) (hm : X.mg x = none) (hv : bootBuiltins x = some (.type T)) (ha : PA X (e :: es) t) (hn : x ≠ "__name__" := by decide) (hdb : (x == ("__debug__" : Str)) = false := by decide)
  (he : starEach (e :: es) X.env = (false, eval e X.env) :: starEach es X.env := by rfl) (hpl : (backTo pos (starEach es X.env)).any (·.1) = false := by rfl) : PE X (.Call (.Name x p) (e :: es) [] pos) (tCB r t) := by
 intro Qa s σ H Q I h;refine wpAny_Call_Name_kw (zfY I hg hm hv ?_ hn hdb);exact PyProof.Rows.callWith_type1 (thn (ha pos Qa s σ H _ I h) fun us s1 ⟨vs, H1, I1, r1, q1⟩ => hc Qa s1 σ H1 vs us Q I1 r1 q1) he hpl
end
end L2
namespace HT
open PySem PyProof.Rows
section
open PySem.SeqAt
open PySem.AutoSeq1 (wpAny_loadPart')
open PySem.MeetsSeq PySem.MeetsSeq2 PySem.MeetsSeq3
end
section
variable {prog : Program} {w : World} {A : Around} {E : ZQ} {s : Shared}
theorem cat_tup {t b : Addr} {vs ws : List Value} {Q : ZQ} (ht : IsTup s.heap t vs.toArray) (hb : IsTup s.heap b ws.toArray) (hv : vs ≠ [])
  (h1 : ws = [] -> Q (.ref t) s) (h2 : ws ≠ [] -> Q (.ref s.heap.objs.size) { s with heap := s.heap.push { cls := .type "tuple", data := .seq (vs ++ ws).toArray } })
  (hsz : vs.length + ws.length <= sizeLine) : wpAny (model prog w) A (binaryOp .Add (.ref t) (.ref b)) Q E s := by
 obtain ⟨⟨cls, dd, data, sl⟩, ho, hc, n, hd⟩ := id ht;obtain ⟨⟨cls2, dd2, data2, sl2⟩, ho2, hc2, n2, hd2⟩ := id hb;simp only at hc hd hc2 hd2;subst hc hd hc2 hd2;have e : vs.toArray ++ ws.toArray = (vs ++ ws).toArray := by simp
 by_cases hw : ws = []
 ·exact concat_meets ⟨_, ho, rfl⟩ ⟨_, ho2, rfl⟩ noFill_tuple_add seq_tuple_add PySem.F.slot_tuple_add PySem.F.entry_tuple_add (PySem.F.args_tuple_add_2 _ _)
   (tuple_addW1 t b vs.toArray ws.toArray n n2 dd dd2 sl sl2 (by simpa using hv) (by simp [hw])) ⟨ho, ho2, h1 hw⟩
 ·refine concat_meets ⟨_, ho, rfl⟩ ⟨_, ho2, rfl⟩ noFill_tuple_add seq_tuple_add PySem.F.slot_tuple_add PySem.F.entry_tuple_add (PySem.F.args_tuple_add_2 _ _)
   (tuple_addW2 t b vs.toArray ws.toArray n n2 dd dd2 sl sl2 (by simpa using hv) (by simpa using hw) (by rw [yad, yad]; exact hsz)) ⟨ho, ho2, ?_⟩
  rw [e];exact h2 hw
def sIx (n d : Nat) : Option Int -> Nat
 | none => d
 | some v => if v < 0 then (v + (n : Int)).toNat else min v.toNat n
theorem sIx_none (n d : Nat) : sIx n d none = d := rfl
theorem sIx_nat (n d k : Nat) : sIx n d (some (k : Int)) = min k n := by
 show (if (k : Int) < 0 then ((k : Int) + (n : Int)).toNat else min (k : Int).toNat n) = min k n;rw [if_neg ω, Int.toNat_natCast]
theorem sIx_le (n d : Nat) (hd : d <= n) (o : Option Int) : sIx n d o <= n := by
 cases o with
 | none => exact hd
 | some v =>
  show (if v < 0 then (v + (n : Int)).toNat else min v.toNat n) <= n
  by_cases hv : v < 0
  ·rw [if_pos hv]; omega
  ·rw [if_neg hv]; exact Nat.min_le_right _ _
theorem clip_eq (v : Int) (n d : Nat) : (if v < 0 then max (v + (n : Int)) 0 else min v (n : Int)) = ((sIx n d (some v) : Nat) : Int) := by
 show (if v < 0 then max (v + (n : Int)) 0 else min v (n : Int)) = (((if v < 0 then (v + (n : Int)).toNat else min v.toNat n) : Nat) : Int)
 by_cases hv : v < 0
 ·simp only [if_pos hv]; omega
 ·simp only [if_neg hv]; omega
theorem zgX (lo hi : Option Int) (n : Nat) : Builtin.Slice.sliceAdjust lo hi 1 (n : Int) = (((sIx n 0 lo : Nat) : Int), ((sIx n n hi : Nat) : Int)) := by
 have h1 : ¬ ((1 : Int) < 0) := by omega
 unfold Builtin.Slice.sliceAdjust;simp only [h1, if_false];refine Prod.ext ?_ ?_
 ·cases lo with
  | none => rfl
  | some v => exact clip_eq v n 0
 ·cases hi with
  | none => rfl
  | some v => exact clip_eq v n n
theorem zgY (i j : Nat) : Builtin.Slice.slicePlaces (i : Int) (j : Int) 1 = j - i := by
 unfold Builtin.Slice.slicePlaces;have h1 : (1 : Int) > 0 := by omega
 simp only [h1, if_true, Int.ediv_one]
 split <;> omega
theorem zdY {v : Value} {o : Option Int} {Q : Option Int -> Shared -> Prop} (p : IsPart v o) (h : Q o s) : wpAny (model prog w) A (Builtin.Slice.slicePartIndex v) Q E s := by
 cases p with
 | none => exact slicePart_none h
 | int i t => exact slicePart_int h
theorem zcj {sl : Addr} {vl vu : Value} {lo hi : Option Int} {n : Nat} {Q : Int × Int × Nat -> Shared -> Prop} (hs : s.heap.IsSliceOf sl vl vu .none) (pl : IsPart vl lo) (pu : IsPart vu hi)
  (h : Q (((sIx n 0 lo : Nat) : Int), 1, sIx n n hi - sIx n 0 lo) s) : wpAny (model prog w) A (Builtin.Slice.sliceApplied (.ref sl) (pure (n : Int))) Q E s := by
 obtain ⟨os, hos, hcs, hds⟩ := id hs;unfold Builtin.Slice.sliceApplied Builtin.Slice.sliceFields;refine yaa (yaa (wpAny_field hos hds (x := vl) rfl (yaa (wpAny_field hos hds (x := vu) rfl (yaa (wpAny_field hos hds (x := .none) rfl (yab ?_)))))));refine yaa (slicePart_none ?_);show wpAny _ _ (if ((1 : Int) == 0) = true then _ else _) _ _ s;rw [if_neg δ];refine yaa (zdY pl (yaa (zdY pu (yaa (yab ?_)))));show wpAny _ _ (match Builtin.Slice.sliceAdjust lo hi 1 (n : Int) with | (lo, hi) => pure (lo, (1 : Int), Builtin.Slice.slicePlaces lo hi 1)) _ _ s;rw [zgX lo hi n];show wpAny _ _ (pure (((sIx n 0 lo : Nat) : Int), (1 : Int), Builtin.Slice.slicePlaces ((sIx n 0 lo : Nat) : Int) ((sIx n n hi : Nat) : Int) 1)) _ _ s;rw [zgY];exact yab h
theorem zjo (xs : Array Value) (i k : Nat) : ((List.range k).filterMap fun (m : Nat) => xs[((i : Int) + (m : Int) * 1).toNat]?).toArray = ((xs.toList.drop i).take k).toArray := by
 have e : (fun (m : Nat) => xs[((i : Int) + (m : Int) * 1).toNat]?) = fun m => xs[i + m]? := by
  funext m
  have : ((i : Int) + (m : Int) * 1).toNat = i + m := by omega
  rw [this]
 rw [e];have := pick_run xs i k;rw [List.filterMap_map] at this;have e2 : ((fun x => xs[x]?) ∘ fun x => i + x) = fun m => xs[i + m]? := rfl;rw [e2] at this;rw [this]
theorem getItem_tuple_cut {t sl : Addr} {items : Array Value} {vl vu : Value} {lo hi : Option Int} {Q : ZQ} (ht : IsTup s.heap t items) (hs : s.heap.IsSliceOf sl vl vu .none) (pl : IsPart vl lo) (pu : IsPart vu hi)
  (hw : ¬ (sIx items.size 0 lo = 0 /\ sIx items.size items.size hi = items.size))
  (h : Q (.ref s.heap.objs.size) { s with heap := s.heap.push { cls := .type "tuple", data := .seq ((items.toList.drop (sIx items.size 0 lo)).take (sIx items.size items.size hi - sIx items.size 0 lo)).toArray } })
  (hsz : items.size <= sizeLine) : wpAny (model prog w) A (getItem (.ref t) (.ref sl)) Q E s := by
 have htake : sizeOk (.seq ((items.toList.drop (sIx items.size 0 lo)).take (sIx items.size items.size hi - sIx items.size 0 lo)).toArray) := by
  show ((items.toList.drop (sIx items.size 0 lo)).take (sIx items.size items.size hi - sIx items.size 0 lo)).toArray.size <= sizeLine;rw [yad, ya3, List.length_drop, Array.length_toList];omega
 have hj : sIx items.size items.size hi <= items.size := sIx_le _ _ (yai _) hi;obtain ⟨os, hos, hcs, hds⟩ := id hs;have hTs : s.TypeIs (.ref sl) "slice" := ⟨os, hos, hcs⟩
 unfold getItem
 try with_reducible refine wpAny_holding ?_
 first | refine yaa (yab ?_) | skip
 refine yaa (wpAny_sequenceKey ht.typeIs δ ?_);refine yaa (wpAny_callSpecial?_slot (name := Str.ofString "__getitem__") ht.typeIs PyProof.Rows.slot_tuple_getitem
  (wpAny_call_entry PyProof.Rows.slot_tuple_getitem ht.typeIs entry_tuple_getitem ?_ (args_tuple_getitem _ _)))
 show wpAny _ _ (Builtin.Tuple.tupleItemsOf (.ref t) >>= _) _ _ s;refine yaa (tupleItemsOf_ ht ?_);refine yaa (wpAny_typeOf hTs ?_);rw [if_pos δ];refine yaa (zcj hs pl pu ?_);have hno : ¬ ((((sIx items.size 0 lo : Nat) : Int) == 0 && (1 : Int) == 1 && (sIx items.size items.size hi - sIx items.size 0 lo) == items.size) = true) := by
  intro q;rw [Bool.and_eq_true, Bool.and_eq_true] at q;have q1 : ((sIx items.size 0 lo : Nat) : Int) = 0 := eq_of_beq q.1.1;have q2 : sIx items.size items.size hi - sIx items.size 0 lo = items.size := eq_of_beq q.2;exact hw ⟨ω,ω⟩
 show wpAny _ _ (if (((sIx items.size 0 lo : Nat) : Int) == 0 && (1 : Int) == 1 && (sIx items.size items.size hi - sIx items.size 0 lo) == items.size) = true then _ else _) _ _ s;rw [if_neg hno, zjo]
 first
  | exact yaa (m := Builtin.Tuple.tupleExact _) (wpAny_newObj_type (yab ⟨_, rfl, yab h⟩) htake)
  | exact yaa (m := Builtin.Tuple.tupleExact _) (wpAny_newObj_type (yaa (yab (yab ⟨_, rfl, yab h⟩))) htake)
  | exact yaa (yaa (m := Builtin.Tuple.tupleExact _) (wpAny_newObj_type (yab (yab ⟨_, rfl, yab h⟩)) htake))
  | exact yaa (yaa (m := Builtin.Tuple.tupleExact _) (wpAny_newObj_type (yab ⟨_, rfl, yab h⟩) htake))
end
end HT
namespace L2
open PySem PySem.Spec PyProof.Rows
abbrev TO := St -> Hp -> (Option Int -> Hp -> Prop) -> Prop
def PO (X : Cx) (e : Option Expr) (t : TO) : Prop :=
 ∀ (Qa : ZP) (s : Shared) (σ : St) (H : Hp) (Q : Option Int -> Hp -> Prop), Inv X Qa σ H s -> t σ H Q ->
  wpAny (model X.prog X.w) X.A (evalPart e X.env) (fun u s' => ∃ o H', Inv X Qa σ H' s' /\ IsPart u o /\ Q o H') X.xe s
def zhL : TO := fun _ H Q => Q none H
def zmA (t : TE) : TO := fun σ H Q => t σ H fun x H1 => ∃ i, x = .int i /\ Q (some i) H1
section
variable {X : Cx} {e : Expr} {te : TE} {lo hi : Option Expr} {tl th : TO} {pos p2 : Pos}
theorem zby : PO X none zhL := by
 intro Qa s σ H Q I h;rw [evalPart_none];exact yab ⟨none, H, I, .none, h⟩
theorem zbz (h : PE X e te) : PO X (some e) (zmA te) := by
 intro Qa s σ H Q I hw;rw [evalPart_some];refine thn (h Qa s σ H _ I hw) fun u s1 ⟨x, H1, I1, r1, q1⟩ => ?_;obtain ⟨i, rfl, q⟩ := q1;obtain ⟨t, rfl⟩ := r1;exact ⟨some i, H1, I1, .int i t, q⟩
def SlR (X : Cx) (r : V -> Option Int -> Option Int -> Hp -> VK -> Prop) : Prop :=
 ∀ (Qa : ZP) (s : Shared) (σ : St) (H : Hp) (x : V) (v vl vu : Value) (lo hi : Option Int) (sl : Addr) (Q : VK), Inv X Qa σ H s -> RelV x v -> s.heap.IsSliceOf sl vl vu .none -> IsPart vl lo -> IsPart vu hi -> r x lo hi H Q ->
  ∃ T id, typeLookup (.type T) "__getitem__" = pure (some (.builtin id)) /\ s.TypeIs v T /\ wpAny (model X.prog X.w) X.A (getItem v (.ref sl)) (EP X Qa σ Q) X.xe s
theorem SlR.or {r r' : V -> Option Int -> Option Int -> Hp -> VK -> Prop} (h : SlR X r) (h' : SlR X r') : SlR X (fun x lo hi H Q => r x lo hi H Q \/ r' x lo hi H Q) := by
 intro Qa s σ H x v vl vu lo hi sl Q I rx hs pl pu q;rcases q with q | q
 ·exact h Qa s σ H x v vl vu lo hi sl Q I rx hs pl pu q
 ·exact h' Qa s σ H x v vl vu lo hi sl Q I rx hs pl pu q
def tSl (r : V -> Option Int -> Option Int -> Hp -> VK -> Prop) (te : TE) (tl th : TO) : TE := fun σ H Q => te σ H fun x H1 => tl σ H1 fun l H2 => th σ H2 fun u H3 => r x l u H3 Q
theorem zbh {r : V -> Option Int -> Option Int -> Hp -> VK -> Prop} (hr : SlR X r) (he : PE X e te) (hl : PO X lo tl) (hu : PO X hi th) : PE X (.Subscript e (.Slice lo hi none p2) pos) (tSl r te tl th) := by
 intro Qa s σ H Q I h;refine Subscript_ (thn (he Qa s σ H _ I h) fun v s1 ⟨x, H1, I1, r1, q1⟩ => ?_);refine wpAny_Slice (thn (hl Qa s1 σ H1 _ I1 q1) fun vl s2 ⟨l, H2, I2, pl, q2⟩ => thn (hu Qa s2 σ H2 _ I2 q2) fun vu s3 ⟨u, H3, I3, pu, q3⟩ => ?_);rw [evalPart_none];refine yab ?_;have I4 : Inv X Qa σ H3 { s3 with heap := s3.heap.push { cls := .type "slice", data := .fields #[vl, vu, .none] } } := I3.kept (t' := s3.toks) fun b ob q => yac _ q;obtain ⟨T, id, hT, ht, hg⟩ := hr Qa { s3 with heap := s3.heap.push { cls := .type "slice", data := .fields #[vl, vu, .none] } } σ H3 x v vl vu l u s3.heap.objs.size Q I4 r1 (Heap.IsSliceOf.new ..) pl pu q3;show wpAny (model X.prog X.w) X.A (subscriptTail e (.Slice lo hi none p2) v (.ref s3.heap.objs.size)) (EP X Qa σ Q) X.xe { s3 with heap := s3.heap.push { cls := .type "slice", data := .fields #[vl, vu, .none] } };exact tail_any (ops := [.ref s3.heap.objs.size, v]) ht hT hg (by with_unfolding_all rfl)
def cutV (xs : List V) (lo hi : Option Int) : List V := (xs.drop (HT.sIx xs.length 0 lo)).take (HT.sIx xs.length xs.length hi - HT.sIx xs.length 0 lo)
theorem zdx (xs : List V) (lo hi : Option Int) : (cutV xs lo hi).length <= xs.length := by
 unfold cutV;rw [ya3, List.length_drop];omega
def rSlT (K : W.Frag) : V -> Option Int -> Option Int -> Hp -> VK -> Prop := fun x lo hi H Q => ∃ a xs, x = .ref a /\ SqT K H a xs /\
 ¬ (HT.sIx xs.length 0 lo = 0 /\ HT.sIx xs.length xs.length hi = xs.length) /\ ∀ p, H p = none -> Q (.ref p) (upd H p (.tup (cutV xs lo hi)))
theorem zmB : SlR X (rSlT X.K) := by
 intro Qa s σ H x v vl vu lo hi sl Q I rx hs pl pu h;obtain ⟨a, xs, rfl, hx, hw, q⟩ := h;cases rx;obtain ⟨its, r, ht, hz⟩ := I.tuple hx;have Qe : its.toArray.size = xs.length := by rw [yad]; exact r.length.symm
 refine ⟨"tuple", _, PyProof.Rows.slot_tuple_getitem.lookup, ht.typeIs, ?_⟩;refine HT.getItem_tuple_cut ht hs pl pu (by rw [Qe]; exact hw) ?_ (by rw [Qe]; exact hz);rw [Qe];refine ⟨.ref s.heap.objs.size, _, I.laid (t' := s.toks) (o := .tup (cutV xs lo hi)) (fun b ob q => yac _ q) (yai _) ?_, rfl, q _ (I.hok.fresh (yai _))⟩;exact ⟨yat (zdx xs lo hi) hz, _, (r.drop (HT.sIx xs.length 0 lo)).take (HT.sIx xs.length xs.length hi - HT.sIx xs.length 0 lo), IsTup.new _ _⟩
def zmC (K : W.Frag) : R2 := fun x y H Q => ∃ a b xs ys, x = .ref a /\ y = .ref b /\ SqT K H a xs /\ SqT K H b ys /\ xs ≠ [] /\ xs.length + ys.length <= sizeLine /\
 (ys = [] -> Q (.ref a) H) /\ (ys ≠ [] -> ∀ p, H p = none -> Q (.ref p) (upd H p (.tup (xs ++ ys))))
theorem Vals.nil_iff {xs : List V} {us : List Value} (r : Vals xs us) : us = [] ↔ xs = [] := by
 cases r with
 | nil => simp
 | cons _ _ => simp
theorem zkV : OpR X (binaryOp .Add) (zmC X.K) := by
 intro Qa s σ H x y v u Q I rx ry h;obtain ⟨a, b, xs, ys, rfl, rfl, ha, hb, hx, hz, q1, q2⟩ := h;cases rx;cases ry;obtain ⟨its, r1, p1, _⟩ := I.tuple ha;obtain ⟨its2, r2, p2, _⟩ := I.tuple hb;refine HT.cat_tup p1 p2 (fun z => hx (r1.nil_iff.mp z)) (fun z => ⟨.ref a, H, I, rfl, q1 (r2.nil_iff.mp z)⟩) (fun z => ?_) (by rw [<- r1.length, <- r2.length]; exact hz);refine ⟨.ref s.heap.objs.size, _, I.laid (t' := s.toks) (o := .tup (xs ++ ys)) (fun b ob q => yac _ q) (yai _) ?_, rfl, q2 (fun w => z (r2.nil_iff.mpr w)) _ (I.hok.fresh (yai _))⟩;exact ⟨by rw [yae]; exact hz, _, r1.append r2, IsTup.new _ _⟩
end
def ixN (n : Nat) (i : Int) : Option Nat := if 0 <= i then (if i < n then some i.toNat else none) else if -(n : Int) <= i then some (i + n).toNat else none
def atI {α : Type} (xs : List α) (i : Int) : Option α := (ixN xs.length i).bind fun j => xs[j]?
theorem zhM {n : Nat} {i : Int} {j : Nat} (h : ixN n i = some j) : seqIndex? i n = some j /\ j < n /\ -(n : Int) <= i /\ i < n := by
 unfold ixN at h
 by_cases h0 : 0 <= i
 ·rw [if_pos h0] at h
  by_cases h1 : i < n
  ·rw [if_pos h1] at h;have e : i.toNat = j := Option.some.inj h;exact ⟨by rw [seqIndex_of h0 h1, e],ω,ω, h1⟩
  ·rw [if_neg h1] at h; cases h
 ·rw [if_neg h0] at h
  by_cases h1 : -(n : Int) <= i
  ·rw [if_pos h1] at h;have e : (i + n).toNat = j := Option.some.inj h;exact ⟨by rw [seqIndex_neg ω h1, e],ω, h1,ω⟩
  ·rw [if_neg h1] at h; cases h
theorem zfB {α : Type} {xs : List α} {i : Int} {v : α} (h : atI xs i = some v) : ∃ j, seqIndex? i xs.length = some j /\ xs[j]? = some v /\ j < xs.length /\ -(xs.length : Int) <= i /\ i < xs.length := by
 unfold atI at h;cases e : ixN xs.length i with
 | none => rw [e] at h; cases h
 | some j =>
  rw [e] at h;obtain ⟨h1, h2, h3, h4⟩ := zhM e;exact ⟨j, h1, h, h2, h3, h4⟩
theorem zaI {α : Type} {xs : List α} {j : Nat} {v : α} (h : xs[j]? = some v) : atI xs (j : Int) = some v := by
 have hj : j < xs.length := (yag.mp h).1;have e : ixN xs.length (j : Int) = some j := by
  unfold ixN;rw [if_pos ω, if_pos ω]; simp
 unfold atI; rw [e]; exact h
def zhN (b : Expr) : Prop := ∀ o i, subscripted b false o i = operate [o, i] (getItem o i)
def IxR (X : Cx) (r : R2) : Prop :=
 ∀ (value slice : Expr) (Qa : ZP) (s : Shared) (σ : St) (H : Hp) (x y : V) (v u : Value) (Q : VK), Inv X Qa σ H s -> RelV x v -> RelV y u -> r x y H Q ->
  subscripted slice false v u = operate [v, u] (getItem v u) -> wpAny (model X.prog X.w) X.A (subscriptTail value slice v u) (EP X Qa σ Q) X.xe s
def MtR (X : Cx) (id : String) (r : V -> List V -> Hp -> VK -> Prop) : Prop :=
 ∀ (Qa : ZP) (s : Shared) (σ : St) (H : Hp) (x : V) (xs : List V) (v : Value) (us : List Value) (Q : VK), Inv X Qa σ H s -> RelV x v -> Vals xs us -> r x xs H Q ->
  wpAny (model X.prog X.w) X.A (call (.builtin id) (v :: us)) (EP X Qa σ Q) X.xe s
section
variable {X : Cx} {a b : Expr} {ta tb : TE} {pos : Pos}
theorem IxR.or {r r' : R2} (h : IxR X r) (h' : IxR X r') : IxR X (fun x y H Q => r x y H Q \/ r' x y H Q) := by
 intro value slice Qa s σ H x y v u Q I rx ry q hs;rcases q with q | q
 ·exact h value slice Qa s σ H x y v u Q I rx ry q hs
 ·exact h' value slice Qa s σ H x y v u Q I rx ry q hs
theorem zbg {r : R2} (hr : IxR X r) (ha : PE X a ta) (hb : PE X b tb) (hs : zhN b) : PE X (.Subscript a b pos) (tOp r ta tb) := by
 intro Qa s σ H Q I h;exact Subscript_ (binT ha hb I h fun v u s2 x y H2 I2 rx ry q => hr a b Qa s2 σ H2 x y v u Q I2 rx ry q (hs _ _))
def rIxL (K : W.Frag) : R2 := fun x y H Q => ∃ p xs i v, x = .ref p /\ y = .int i /\ SqL K H p xs /\ atI xs i = some v /\ Q v H
def rIxT (K : W.Frag) : R2 := fun x y H Q => ∃ p xs i v, x = .ref p /\ y = .int i /\ SqT K H p xs /\ atI xs i = some v /\ Q v H
def rIxS : R2 := fun x y H Q => ∃ z i c, x = .str z /\ y = .int i /\ z.length <= sizeLine /\ atI z.cps.toList i = some c /\ Q (.str ⟨#[c]⟩) H
theorem ix_list : IxR X (rIxL X.K) := by
 intro value slice Qa s σ H x y v u Q I rx ry h hs;obtain ⟨p, xs, i, z, rfl, rfl, hq, he, q⟩ := h;cases rx;obtain ⟨t, rfl⟩ := ry;obtain ⟨its, r, pl, hz⟩ := I.list hq;obtain ⟨j, h1, h2, h3, h4, h5⟩ := zfB he;obtain ⟨w, ew, rw'⟩ := r.get h2;have hl := r.length;have hn := zdV;have fin : EP X Qa σ Q w s := ⟨z, H, I, rw', q⟩
 by_cases h0 : 0 <= i
 ·have hj : i.toNat = j := by
   rw [seqIndex_of h0 h5] at h1;exact Option.some.inj h1
  exact item_listR pl.isList h0 ω (by rw [hj]; simpa using ew) fin hs
 ·have hj : (i + (its.toArray.size : Int)).toNat = j := by
   rw [seqIndex_neg ω h4] at h1;rw [yad, <- hl];exact Option.some.inj h1
  exact subscriptTail_builtinR (x := w) pl.isList.typeIs slot_list_getitem.lookup
   (wpAny_getItem_list_neg (Q := fun r s' => r = w /\ EP X Qa σ Q r s') pl.isList ω (by rw [yad] <;> omega) ω (by rw [hj]; simpa using ew) ⟨rfl, fin⟩) hs
theorem ix_tup : IxR X (rIxT X.K) := by
 intro value slice Qa s σ H x y v u Q I rx ry h hs;obtain ⟨p, xs, i, z, rfl, rfl, hq, he, q⟩ := h;cases rx;obtain ⟨t, rfl⟩ := ry;obtain ⟨its, r, pl, hz⟩ := I.tuple hq;obtain ⟨j, h1, h2, h3, h4, h5⟩ := zfB he;obtain ⟨w, ew, rw'⟩ := r.get h2;have hl := r.length;have hn := zdV;have fin : EP X Qa σ Q w s := ⟨z, H, I, rw', q⟩
 exact subscriptTail_builtinR (x := w) pl.typeIs slot_tuple_getitem.lookup
  (getItem_tuple (j := j) (Q := fun r s' => r = w /\ EP X Qa σ Q r s') pl ω ω (by rw [yad, <- hl]; exact h1) (by simpa using ew) ⟨rfl, fin⟩) hs
theorem zmD : IxR X rIxS := by
 intro value slice Qa s σ H x y v u Q I rx ry h hs;obtain ⟨z, i, c, rfl, rfl, hz, he, q⟩ := h;obtain ⟨t, rfl⟩ := rx;obtain ⟨t', rfl⟩ := ry;obtain ⟨j, h1, h2, h3, h4, h5⟩ := zfB he;have hl : z.cps.toList.length = z.length := by simp [Str.length]
 rw [hl] at h1 h4 h5;have hn := zdV;exact tail_any (typeIs_str s z t) slot_str_getitem.lookup (getItem_str (c := c) (by
  have e1 : decide (i < -(2 ^ 63 : Int)) = false := ya8 ω;have e2 : decide (i ≥ 2 ^ 63) = false := ya8 ω;rw [e1, e2, Bool.or_false]) (by rw [h1]; simpa using h2) ⟨.str ⟨#[c]⟩, H, I.tok _, ⟨_, rfl⟩, q⟩) hs
def rIx (K : W.Frag) : R2 := fun x y H Q => rIxL K x y H Q \/ rIxT K x y H Q \/ rIxS x y H Q
theorem ix_seq : IxR X (rIx X.K) := ix_list.or (ix_tup.or zmD)
theorem zgZ (its : List Value) (n j : Nat) (u : Value) : Obj.mapSeq (·.setIfInBounds j u) { cls := .type "list", data := .seq its.toArray n } = { cls := .type "list", data := .seq (its.set j u).toArray n } := by
 simp [Obj.mapSeq]
theorem Inv.lst {Qa : ZP} {σ : St} {H : Hp} {s : Shared} {p : Addr} {xs : List V} (I : Inv X Qa σ H s) (h : H p = some (.lst xs)) :
  ∃ (its : List Value) (n : Nat), Vals xs its /\ s.heap.get? p = some { cls := .type "list", data := .seq its.toArray n } /\ xs.length <= sizeLine := by
 obtain ⟨z, its, n, r, e⟩ := I.hok p _ h;exact ⟨its, n, r, e, z⟩
theorem Inv.lstUpd {Qa : ZP} {σ : St} {H : Hp} {s : Shared} {p : Addr} {xs ys : List V} {its its' : List Value} {n n' : Nat} {f : Obj -> Obj} (I : Inv X Qa σ H s) (h : H p = some (.lst xs))
  (ho : s.heap.get? p = some { cls := .type "list", data := .seq its.toArray n }) (hf : f { cls := .type "list", data := .seq its.toArray n } = { cls := .type "list", data := .seq its'.toArray n' }) (r : Vals ys its') (hz : ys.length <= sizeLine) (t : Nat) :
  Inv X Qa σ (upd H p (.lst ys)) { s with heap := s.heap.update p f, toks := t } := by
 have e : (s.heap.update p f).get? p = some { cls := .type "list", data := .seq its'.toArray n' } := by
  rw [Heap.get?_update_self f ho (by rw [hf] <;> rfl), hf]
 refine I.write (x := p) (e := p) (by rw [h]; trivial) (.inl rfl) (fun b u hb q => (Heap.get?_update_other _ _ (Ne.symm hb)).trans q) ⟨_, e⟩ ?_;exact ⟨hz, its', n', r, e⟩
def zmE : V -> V -> V -> Hp -> (Hp -> Prop) -> Prop := fun o i v H Q => ∃ p xs k j, o = .ref p /\ i = .int k /\ H p = some (.lst xs) /\ ixN xs.length k = some j /\ Q (upd H p (.lst (xs.set j v)))
theorem zdk : PSet X zmE := by
 intro Qa s σ H o i v ov iv u Q I ro ri rv h;obtain ⟨p, xs, k, j, rfl, rfl, hp, hj, q⟩ := h;cases ro;obtain ⟨t, rfl⟩ := ri;obtain ⟨its, n, r, ho, hz⟩ := I.lst hp;obtain ⟨h1, h2, h3, h4⟩ := zhM hj;have hl := r.length;have hn := zdV;have I' : Inv X Qa σ (upd H p (.lst (xs.set j v))) { s with heap := s.heap.update p (Obj.mapSeq (·.setIfInBounds j u)) } :=
  I.lstUpd hp ho (zgZ its n j u) (r.set rv j) (by rw [List.length_set]; exact hz) s.toks
 by_cases h0 : 0 <= k
 ·have hk : k.toNat = j := by
   rw [seqIndex_of h0 h4] at h1;exact Option.some.inj h1
  exact W.ki_setAt ho h0 ω (by rw [yad, <- hl]; exact h4) (by rw [hk]; exact ⟨_, I', q⟩)
 ·have hk : (k + (its.toArray.size : Int)).toNat = j := by
   rw [seqIndex_neg ω h3] at h1;rw [yad, <- hl];exact Option.some.inj h1
  exact W.ki_setBack ho ω (by rw [yad, <- hl]; exact h3) ω (by rw [hk]; exact ⟨_, I', q⟩)
theorem zeV (lo hi : Option Int) (n : Nat) : (sliceBounds lo hi none n).1 = ((HT.sIx n 0 lo : Nat) : Int) /\ (sliceBounds lo hi none n).2.1 = ((HT.sIx n n hi : Nat) : Int) /\ (sliceBounds lo hi none n).2.2 = 1 := by
 refine ⟨?_, ?_, rfl⟩
 ·cases lo with
  | none => simp [sliceBounds, HT.sIx]
  | some i =>
   simp only [sliceBounds, HT.sIx, Option.getD_none, show (1 : Int) > 0 by decide, if_true]
   by_cases h : i < 0
   ·simp only [h, if_true] <;> omega
   ·simp only [h, if_false] <;> omega
 ·cases hi with
  | none => simp [sliceBounds, HT.sIx]
  | some i =>
   simp only [sliceBounds, HT.sIx, Option.getD_none, show (1 : Int) > 0 by decide, if_true]
   by_cases h : i < 0
   ·simp only [h, if_true] <;> omega
   ·simp only [h, if_false] <;> omega
theorem zer (its : List Value) (lo hi : Option Int) : slicePick its.toArray lo hi none = ((its.drop (HT.sIx its.length 0 lo)).take (HT.sIx its.length its.length hi - HT.sIx its.length 0 lo)).toArray := by
 obtain ⟨h1, h2, h3⟩ := zeV lo hi its.toArray.size;unfold slicePick;rw [h1, h2, h3];simp only [sliceRange_one, pick_run, List.size_toArray] <;> rfl
def rSlL (K : W.Frag) : V -> Option Int -> Option Int -> Hp -> VK -> Prop := fun x lo hi H Q => ∃ a xs, x = .ref a /\ SqL K H a xs /\ ∀ p, H p = none -> Q (.ref p) (upd H p (.lst (cutV xs lo hi)))
theorem zkW : SlR X (rSlL X.K) := by
 intro Qa s σ H x v vl vu lo hi sl Q I rx hs pl pu h;obtain ⟨a, xs, rfl, hx, q⟩ := h;cases rx;obtain ⟨its, r, ht, hz⟩ := I.list hx;have Qe := r.length;refine ⟨"list", _, slot_list_getitem.lookup, ht.isList.typeIs, ?_⟩;refine wpAny_getItem_list_slice ht.isList hs pl pu .none ς ?_ (by rw [yad] <;> omega);rw [zer, <- Qe];refine ⟨.ref s.heap.objs.size, _, I.laid (t' := s.toks) (o := .lst (cutV xs lo hi)) (fun b ob q => yac _ q) (yai _) ?_, rfl, q _ (I.hok.fresh (yai _))⟩;exact ⟨yat (zdx xs lo hi) hz, _, 0, (r.drop (HT.sIx xs.length 0 lo)).take (HT.sIx xs.length xs.length hi - HT.sIx xs.length 0 lo), yaj _ rfl⟩
def zbH : V -> Bool
 | .non => true
 | .bl _ => true
 | .int _ => true
 | .str _ => true
 | _ => false
def eqV : V -> V -> Bool
 | .non, .non => true
 | .bl a, .bl b => a == b
 | .bl a, .int b => (if a then 1 else 0) == b
 | .int a, .bl b => a == (if b then 1 else 0)
 | .int a, .int b => a == b
 | .str a, .str b => a == b
 | _, _ => false
theorem zhO {A : Around} {s : Shared} {y x : V} {u v : Value} (ry : RelV y u) (rx : RelV x v) (fy : zbH y = true) (fx : zbH x = true) : SeqAt.EqAt A s u v (eqV y x) := by
 cases y with
 | non =>
  cases ry;cases x with
  | non => cases rx; exact SeqAt.EqAt.same _
  | bl b => cases rx; exact SeqAt.EqAt.none_bool b
  | int b => obtain ⟨t, rfl⟩ := rx; exact SeqAt.EqAt.none_int b t
  | str b => obtain ⟨t, rfl⟩ := rx; exact SeqAt.EqAt.none_str b t
  | _ => exact absurd (show false = true from fx) yam
 | bl a =>
  cases ry;cases x with
  | non => cases rx; exact SeqAt.EqAt.bool_none a
  | bl b => cases rx; exact SeqAt.EqAt.bool_bool a b
  | int b => obtain ⟨t, rfl⟩ := rx; exact SeqAt.EqAt.bool_int a b t
  | str b => obtain ⟨t, rfl⟩ := rx; exact SeqAt.EqAt.bool_str a b t
  | _ => exact absurd (show false = true from fx) yam
 | int a =>
  obtain ⟨t', rfl⟩ := ry;cases x with
  | non => cases rx; exact SeqAt.EqAt.int_none a t'
  | bl b => cases rx; exact SeqAt.EqAt.int_bool a t' b
  | int b => obtain ⟨t, rfl⟩ := rx; exact SeqAt.EqAt.int_int a t' b t
  | str b => obtain ⟨t, rfl⟩ := rx; exact SeqAt.EqAt.int_str a t' b t
  | _ => exact absurd (show false = true from fx) yam
 | str a =>
  obtain ⟨t', rfl⟩ := ry;cases x with
  | non => cases rx; exact SeqAt.EqAt.str_none a t'
  | bl b => cases rx; exact SeqAt.EqAt.str_bool a t' b
  | int b => obtain ⟨t, rfl⟩ := rx; exact SeqAt.EqAt.str_int a t' b t
  | str b => obtain ⟨t, rfl⟩ := rx; exact SeqAt.EqAt.str_str a t' b t
  | _ => exact absurd (show false = true from fx) yam
 | _ => exact absurd (show false = true from fy) yam
def eqU (x : V) (u : Value) : Bool := match u with
 | .none => eqV .non x
 | .bool b => eqV (.bl b) x
 | .int i _ => eqV (.int i) x
 | .str z _ => eqV (.str z) x
 | _ => false
theorem zk2 {x y : V} {u : Value} (r : RelV y u) (f : zbH y = true) : eqU x u = eqV y x := by
 cases y with
 | non => cases r; rfl
 | bl b => cases r; rfl
 | int i => obtain ⟨t, rfl⟩ := r; rfl
 | str z => obtain ⟨t, rfl⟩ := r; rfl
 | _ => exact absurd (show false = true from f) yam
theorem zdy {x : V} : ∀ {xs : List V} {us : List Value}, Vals xs us -> xs.all zbH = true -> us.any (eqU x) = xs.any fun y => eqV y x
 | _, _, .nil, _ => rfl
 | y :: xs, u :: us, .cons r t, f => by
  rw [List.all_cons, Bool.and_eq_true] at f;rw [List.any_cons, List.any_cons, zk2 r f.1, zdy t f.2]
theorem zcA {A : Around} {s : Shared} {x : V} {v : Value} (rx : RelV x v) (fx : zbH x = true) : ∀ {xs : List V} {us : List Value}, Vals xs us -> xs.all zbH = true -> ∀ u ∈ us, SeqAt.EqAt A s u v (eqU x u)
 | _, _, .nil, _ => fun u hu => by cases hu
 | y :: xs, u :: us, .cons r t, f => fun u' hu => by
  rw [List.all_cons, Bool.and_eq_true] at f;rcases yau.mp hu with rfl | hu
  ·rw [zk2 r f.1]; exact zhO r rx f.1 fx
  ·exact zcA rx fx t f.2 u' hu
def inV (x : V) (xs : List V) : Bool := xs.any fun y => eqV y x
def rIn (K : W.Frag) (neg : Bool) : R2 := fun x y H Q => ∃ p xs, y = .ref p /\ (SqL K H p xs \/ SqT K H p xs) /\ zbH x = true /\ xs.all zbH = true /\ Q (.bl (if neg then !inV x xs else inV x xs)) H
theorem zhP : OpR X (compareOp .In) (rIn X.K false) := by
 intro Qa s σ H x y v u Q I rx ry h;obtain ⟨p, xs, rfl, hq, fx, fs, q⟩ := h;cases ry;rcases hq with hq | hq
 ·obtain ⟨its, r, pl, hz⟩ := I.list hq;refine SeqAt.in_listAt (eqU x) pl.isList (fun w hw => zcA rx fx r fs w (by simpa using hw)) ⟨.bl _, H, I, rfl, ?_⟩;rw [show its.toArray.any (eqU x) = its.any (eqU x) by simp, zdy r fs];exact q
 ·obtain ⟨its, r, pl, hz⟩ := I.tuple hq;refine SeqAt.in_tupleAt (eqU x) pl (fun w hw => zcA rx fx r fs w (by simpa using hw)) ⟨.bl _, H, I, rfl, ?_⟩;rw [show its.toArray.any (eqU x) = its.any (eqU x) by simp, zdy r fs];exact q
theorem zeW : OpR X (compareOp .NotIn) (rIn X.K true) := by
 intro Qa s σ H x y v u Q I rx ry h;obtain ⟨p, xs, rfl, hq, fx, fs, q⟩ := h;cases ry;rcases hq with hq | hq
 ·obtain ⟨its, r, pl, hz⟩ := I.list hq;refine SeqAt.notIn_listAt (eqU x) pl.isList (fun w hw => zcA rx fx r fs w (by simpa using hw)) ⟨.bl _, H, I, rfl, ?_⟩;rw [show its.toArray.any (eqU x) = its.any (eqU x) by simp, zdy r fs];exact q
 ·obtain ⟨its, r, pl, hz⟩ := I.tuple hq;refine SeqAt.notIn_tupleAt (eqU x) pl (fun w hw => zcA rx fx r fs w (by simpa using hw)) ⟨.bl _, H, I, rfl, ?_⟩;rw [show its.toArray.any (eqU x) = its.any (eqU x) by simp, zdy r fs];exact q
theorem zeX : OpR X (compareOp .NotIn) (fun x y H Q => ∃ i j, x = .str i /\ y = .str j /\ Q (.bl (!(!(Builtin.Str.occurrences j i 0 j.length 1).isEmpty))) H) := by
 intro Qa s σ H x y v u Q I rx ry h;obtain ⟨i, j, rfl, rfl, q⟩ := h;obtain ⟨t, rfl⟩ := rx;obtain ⟨t', rfl⟩ := ry;exact notIn_str ⟨.bl _, H, I, rfl, q⟩
theorem call_tuple_of : zbW X (.type "tuple") (fun xs H Q => ∃ p ys, xs = [.ref p] /\ ((SqL X.K H p ys /\ ∀ l, H l = none -> Q (.ref l) (upd H l (.tup ys))) \/ (SqT X.K H p ys /\ Q (.ref p) H))) := by
 intro Qa s σ H xs us Q I r h;obtain ⟨p, ys, rfl, h⟩ := h;obtain ⟨u, rfl, rx⟩ := zep r;cases rx;rcases h with ⟨hq, q⟩ | ⟨hq, q⟩
 ·obtain ⟨its, r', pl, hz⟩ := I.list hq;have Qe := r'.length;refine call_tuple_list pl.isList (fun h' kp => ?_) (by simp only [List.size_toArray] <;> omega);have I1 : Inv X Qa σ H { s with heap := h' } := I.kept (t' := s.toks) kp;have I2 : Inv X Qa σ (upd H h'.objs.size (.tup ys)) { s with heap := h'.push { cls := .type "tuple", data := .seq its.toArray } } :=
   I1.laid (t' := s.toks) (fun b o e => yac _ e) (yai _) (show ObjOk X.prog X.w _ _ _ (.tup ys) from ⟨hz, its, r', IsTup.new _ _⟩)
  exact ⟨.ref h'.objs.size, _, I2, rfl, q _ (I1.hok.fresh (yai _))⟩
 ·obtain ⟨its, r', pl, hz⟩ := I.tuple hq;exact call_tuple_same pl ⟨.ref p, H, I, rfl, q⟩
def tyV (K : W.Frag) (T : String) (x : V) (H : Hp) : Prop := match x with
 | .str _ => T = "str"
 | .int _ => T = "int"
 | .ref p => (T = "list" /\ ∃ xs, SqL K H p xs) \/ (T = "tuple" /\ ∃ o, K.lookup p = some o /\ o.cls = .type "tuple" /\ o.dict = none) \/
   (T = "dict" /\ ((∃ kvs, H p = some (.dK kvs)) \/ ∃ kvs, H p = some (.dT kvs))) \/ (T = "set" /\ ∃ S n, H p = some (.set S n))
 | _ => False
theorem zk3 {Qa : ZP} {σ : St} {H : Hp} {s : Shared} {T : String} {x : V} {v : Value} (I : Inv X Qa σ H s) (r : RelV x v) (ty : tyV X.K T x H) :
  s.TypeIs v T /\ ∀ a, v = .ref a -> ∃ ob, s.heap.get? a = some ob /\ ob.dict = none := by
 cases x with
 | str z =>
  obtain ⟨t, rfl⟩ := r;cases (show T = "str" from ty);exact ⟨typeIs_str s z t, fun _ e => nomatch e⟩
 | int i =>
  obtain ⟨t, rfl⟩ := r;cases (show T = "int" from ty);exact ⟨typeIs_int s i t, fun _ e => nomatch e⟩
 | ref p =>
  cases r;rcases ty with ⟨rfl, xs, hq⟩ | ⟨rfl, o, hk, hc, hd⟩ | ⟨rfl, hk⟩ | ⟨rfl, S, n, hk⟩
  ·obtain ⟨its, _, pl, _⟩ := I.list hq;refine ⟨pl.isList.typeIs, fun a e => ?_⟩;cases e;obtain ⟨o, n, e, c, hd, _⟩ := pl;exact ⟨o, e, hd⟩
  ·refine ⟨⟨o, I.kIn p o hk, hc⟩, fun a e => ?_⟩;cases e;exact ⟨o, I.kIn _ o hk, hd⟩
  ·have z : ∃ o, s.heap.get? p = some o /\ o.ExactDict := by
    rcases hk with ⟨kvs, hk⟩ | ⟨kvs, hk⟩
    ·obtain ⟨_, _, _, _, o, _, _, e, ex, _⟩ := I.hok p _ hk;exact ⟨o, e, ex⟩
    ·obtain ⟨_, _, _, _, o, _, _, e, ex, _⟩ := I.hok p _ hk;exact ⟨o, e, ex⟩
   obtain ⟨o, e, ex⟩ := z;refine ⟨⟨o, e, ex.1⟩, fun a e2 => ?_⟩;cases e2;exact ⟨o, e, ex.2.1⟩
  ·obtain ⟨o, _, _, _, e, ex, _⟩ := I.hok p _ hk;refine ⟨⟨o, e, ex.1⟩, fun a e2 => ?_⟩;cases e2;exact ⟨o, e, ex.2.1⟩
 | _ => exact False.elim ty
def tBM (K : W.Frag) (T : String) (r : V -> List V -> Hp -> VK -> Prop) (to : TE) (t : TA) : TE := fun σ H Q => to σ H fun x H1 => tyV K T x H1 /\ t σ H1 fun xs H2 => r x xs H2 Q
variable {o e : Expr} {es : List Expr} {to : TE} {t : TA} {name : Str} {apos cpos : Pos} {T id : String} {r : V -> List V -> Hp -> VK -> Prop}
theorem zoz (pa : PlainAttrs T) (slot : Slot T name id) (hty : typeOf (.builtin id) = pure (.type "method_descriptor")) (hm : MtR X id r) (ho : PE X o to) (ha : PA X (e :: es) t)
  (hbase : attributeBase o name X.env (eval o X.env) = eval o X.env := by rfl)
  (hfew : ((backTo cpos (starEach (e :: es) X.env)).all (fun x => !x.1) && (backToKw cpos (keywordEach [] X.env)).all (fun x => x.1.isSome)
   && decide ((e :: es).length + ([] : List Keyword).length + (if ([] : List Keyword).isEmpty then 0 else 1) < 30)) = true := by rfl)
  (hline : (apos.endLine == cpos.line) = true := by rfl) (hs : starEach (e :: es) X.env = (false, eval e X.env) :: starEach es X.env := by rfl) (hplain : (backTo cpos (starEach es X.env)).any (·.1) = false := by rfl) :
  PE X (.Call (.Attribute o name apos) (e :: es) [] cpos) (tBM X.K T r to t) := by
 intro Qa s σ H Q I h;refine wpAny_Call_method_late hbase hfew hline rfl (thn (ho Qa s σ H _ I h) fun v s1 ⟨x, H1, I1, r1, ty, q1⟩ => ?_);obtain ⟨h1, h2⟩ := zk3 I1 r1 ty;refine ⟨T, id, pa, slot, hty, h1, h2, ?_⟩;have hA := ha cpos Qa s1 σ H1 _ I1 q1;rw [hs] at hA ⊢;refine Calls.callWith_builtin (by show (false || (backTo cpos (starEach es X.env)).any (·.1)) = false; rw [hplain] <;> rfl) (Calls.evalArgs_plain ?_);exact thn hA fun us s2 ⟨vs, H2, I2, r2, q2⟩ => hm Qa s2 σ H2 x vs v us Q I2 r1 r2 q2
end
def MtM (X : Cx) (id : String) (r : V -> List V -> Hp -> VK -> Prop) : Prop :=
 ∀ (Qa : ZP) (s : Shared) (σ : St) (H : Hp) (x : V) (xs : List V) (v : Value) (us : List Value) (Q : VK), Inv X Qa σ H s -> RelV x v -> Vals xs us -> r x xs H Q ->
  wpAny (model X.prog X.w) X.A (call (.builtin id) (v :: us)) (EP X Qa σ Q) X.xe s
theorem Vals.one : ∀ {x : V} {us : List Value}, Vals [x] us -> ∃ u, us = [u] /\ RelV x u
 | _, _, .cons r .nil => ⟨_, rfl, r⟩
theorem Vals.rep {xs : List V} {us : List Value} (h : Vals xs us) : ∀ k : Nat, Vals (List.replicate k xs).flatten (List.replicate k us).flatten
 | 0 => .nil
 | k + 1 => by
  rw [List.replicate_succ, List.replicate_succ, List.flatten_cons, List.flatten_cons];exact Vals.append h (Vals.rep h k)
theorem zeY (its : List Value) : ∀ (k : Nat) (acc : List Value),
  List.foldl (fun x1 x2 => x1 ++ x2) acc.toArray (List.replicate k its.toArray) = (acc ++ (List.replicate k its).flatten).toArray
 | 0, acc => by simp
 | k + 1, acc => by
  have e : acc.toArray ++ its.toArray = (acc ++ its).toArray := by simp
  have e2 : (acc ++ its) ++ (List.replicate k its).flatten = acc ++ (List.replicate (k + 1) its).flatten := by
   rw [List.replicate_succ, List.flatten_cons, List.append_assoc]
  rw [<- e2, <- zeY its k (acc ++ its), <- e, List.replicate_succ, List.foldl_cons]
section
variable {X : Cx} {Qa : ZP} {σ : St} {H : Hp} {s : Shared} {l b : Addr} {xs ys zs : List V}
theorem Inv.lset {its its' : List Value} {n : Nat} {f : Array Value -> Array Value} {t' : Nat} (I : Inv X Qa σ H s) (hH : H l = some (.lst xs))
  (e : s.heap.get? l = some { cls := .type "list", data := .seq its.toArray n }) (hf : f its.toArray = its'.toArray) (hv : Vals ys its') (hz : ys.length <= sizeLine) :
  Inv X Qa σ (upd H l (.lst ys)) { s with heap := s.heap.update l (Obj.mapSeq f), toks := t' } := by
 have q := PySem.IsL.update e f;rw [hf] at q;refine I.write (x := l) (e := l) (by rw [hH]; exact trivial) (.inl rfl) (fun b' u hb hu => (Heap.get?_update_other s.heap (Obj.mapSeq f) (Ne.symm hb)).trans hu) ⟨_, q⟩ ?_;exact ⟨hz, its', _, hv, q⟩
theorem Inv.lnew {its : List Value} {t' : Nat} (I : Inv X Qa σ H s) (hv : Vals ys its) (hz : ys.length <= sizeLine) :
  Inv X Qa σ (upd H s.heap.objs.size (.lst ys)) { s with heap := s.heap.push { cls := .type "list", data := .seq its.toArray }, toks := t' } :=
 I.laid (fun _ _ q => yac _ q) (yai _) ⟨hz, its, 0, hv, yaj _ rfl⟩
theorem Inv.fresh (I : Inv X Qa σ H s) : H s.heap.objs.size = none := I.hok.fresh (yai _)
theorem Inv.lstM (I : Inv X Qa σ H s) (hH : H l = some (.lst xs)) : xs.length <= sizeLine /\ ∃ (its : List Value) (n : Nat), Vals xs its /\ xs.length = its.length /\ s.heap.get? l = some { cls := .type "list", data := .seq its.toArray n } := by
 obtain ⟨z, its, n, r, e⟩ := I.hok l _ hH;exact ⟨z, its, n, r, r.length, e⟩
theorem zge {n : Nat} (h : n <= sizeLine) : Builtin.List.listTooLong n = false := by
 unfold Builtin.List.listTooLong;exact ya8 ω
end
section
variable {X : Cx}
def zfC : V -> List V -> Hp -> VK -> Prop := fun x vs H Q => ∃ l xs y, x = .ref l /\ vs = [y] /\ H l = some (.lst xs) /\ xs.length < sizeLine /\ Q .non (upd H l (.lst (xs ++ [y])))
theorem zhQ : MtM X "list.append" zfC := by
 intro Qa s σ H x vs v us Q I rx rv h;obtain ⟨l, xs, y, rfl, rfl, hH, hz, q⟩ := h;cases rx;obtain ⟨u, rfl, ru⟩ := rv.one;obtain ⟨z, its, n, r, hl, e⟩ := I.lstM hH;refine call_meets F.slot_list_append ⟨_, e, rfl⟩ F.entry_list_append (F.args_list_append_2 _ _) (PySem.list_append l its.toArray n u (by rw [yad]; omega)) ⟨e, ?_⟩;refine ⟨.non, _, I.lset (its' := its ++ [u]) hH e ς (r.append (.cons ru .nil)) ?_, rfl, q⟩;rw [yae, yas];omega
def zhR : V -> List V -> Hp -> VK -> Prop := fun x vs H Q => ∃ l b xs zs, x = .ref l /\ vs = [.ref b] /\ H l = some (.lst xs) /\ H b = some (.lst zs) /\ xs.length + zs.length <= sizeLine /\ Q .non (upd H l (.lst (xs ++ zs)))
theorem zmF : MtM X "list.extend" zhR := by
 intro Qa s σ H x vs v us Q I rx rv h;obtain ⟨l, b, xs, zs, rfl, rfl, hH, hB, hz, q⟩ := h;cases rx;obtain ⟨u, rfl, ru⟩ := rv.one;cases ru;obtain ⟨z, its, n, r, hl, e⟩ := I.lstM hH;obtain ⟨z2, its2, n2, r2, hl2, e2⟩ := I.lstM hB;have hsz : its.toArray.size + its2.toArray.size <= sizeLine := by rw [yad, yad]; omega
 have hlong : ¬ (!its.toArray.isEmpty && Builtin.List.listTooLong (its.toArray.size + its2.toArray.size)) = true := by
  rw [zge hsz, Bool.and_false];exact yam
 refine call_meets F.slot_list_extend ⟨_, e, rfl⟩ F.entry_list_extend (F.args_list_extend_2 _ _)
  (AutoSeq1.list_extend_list_list_0 l its.toArray n b its2.toArray n2 hlong (by rw [yad]; omega) ω) ⟨e, e2, ?_⟩
 refine ⟨.non, _, I.lset (its' := its ++ its2) hH e ς (r.append r2) ?_, rfl, q⟩;rw [yae];omega
def rPop : V -> List V -> Hp -> VK -> Prop := fun x vs H Q => ∃ l xs y, x = .ref l /\ vs = [] /\ H l = some (.lst xs) /\ xs[xs.length - 1]? = some y /\ Q y (upd H l (.lst xs.dropLast))
def rCat : R2 := fun x y H Q => ∃ l b xs zs, x = .ref l /\ y = .ref b /\ H l = some (.lst xs) /\ H b = some (.lst zs) /\ xs.length + zs.length <= sizeLine /\ ∀ p, H p = none -> Q (.ref p) (upd H p (.lst (xs ++ zs)))
theorem zmG : OpR X (binaryOp .Add) rCat := by
 intro Qa s σ H x y v u Q I rx ry h;obtain ⟨l, b, xs, zs, rfl, rfl, hH, hB, hz, q⟩ := h;cases rx;cases ry;obtain ⟨z, its, n, r, hl, e⟩ := I.lstM hH;obtain ⟨z2, its2, n2, r2, hl2, e2⟩ := I.lstM hB;refine PySem.P.add_list e e2 ?_ (by rw [yad, yad]; omega);have ea : its.toArray ++ its2.toArray = (its ++ its2).toArray := by simp
 rw [ea];exact ⟨.ref _, _, I.lnew (t' := s.toks) (r.append r2) (by rw [yae]; omega), rfl, q _ I.fresh⟩
def rRep : R2 := fun x y H Q => ∃ l k xs, x = .ref l /\ y = .int k /\ H l = some (.lst xs) /\ -(2 ^ 63) <= k /\ k < 2 ^ 63 /\ xs.length * k.toNat <= sizeLine /\
 ∀ p, H p = none -> Q (.ref p) (upd H p (.lst (List.replicate k.toNat xs).flatten))
theorem zkX {α : Type} (xs : List α) (k : Nat) : (List.replicate k xs).flatten.length = k * xs.length := by
 induction k with
 | zero => simp
 | succ k ih => rw [List.replicate_succ, List.flatten_cons, yae, ih, Nat.succ_mul, Nat.add_comm]
theorem zmH : OpR X (binaryOp .Mult) rRep := by
 intro Qa s σ H x y v u Q I rx ry h;obtain ⟨l, k, xs, rfl, rfl, hH, h1, h2, hz, q⟩ := h;cases rx;obtain ⟨t, rfl⟩ := ry;obtain ⟨z, its, n, r, hl, e⟩ := I.lstM hH;have Qe : its.toArray.size * k.toNat <= sizeLine := by rw [yad, <- hl]; exact hz
 have hcap : ¬ its.toArray.size * k.toNat > (2 ^ 63 - 1) / 8 := by
  have : (sizeLine : Nat) <= (2 ^ 63 - 1) / 8 := by decide
  omega
 have hfit : ¬ (!Builtin.List.listFitsIndex k) = true := by
  rw [fitsIndex_both h1 h2];exact yam
 have hlong : ¬ Builtin.List.listTooLong (its.toArray.size * k.toNat) = true := by
  rw [zge Qe];exact yam
 have hnew : List.foldl (fun x1 x2 => x1 ++ x2) #[] (List.replicate (if its.toArray.isEmpty = true then 0 else k.toNat) its.toArray) = (List.replicate k.toNat its).flatten.toArray := by
  have f0 : ∀ m : Nat, List.foldl (fun x1 x2 => x1 ++ x2) #[] (List.replicate m its.toArray) = (List.replicate m its).flatten.toArray := fun m => by
   have := zeY its m [];rw [List.nil_append] at this;exact this
  rw [f0];cases its with
  | nil => simp
  | cons a r' => rw [if_neg ς]
 refine wpAny_binaryOp_repeat_ref (T := "list") (U := "int") δ ⟨_, e, rfl⟩ (fun s' => typeIs_int s' k t) noFill_list_mul F.fills_int_mul F.slot_int_rmul repeat_list F.slot_int_index.lookup
  (call_meets F.slot_int_rmul (typeIs_int s k t) F.entry_int_rmul (F.args_int_rmul_2 _ _) (int___rmul___int_list k t l its.toArray n)
   ⟨e, rfl, ⟨_, e, rfl⟩, call_meets F.slot_list_mul ⟨_, e, rfl⟩ F.entry_list_mul (F.args_list_mul_2 _ _) (AutoListH.list___mul___list_int_3 l its.toArray n k t hfit hcap hlong) ⟨e, ?_⟩⟩)
 rw [hnew];exact ⟨.ref _, _, I.lnew (t' := s.toks) (r.rep k.toNat) (by rw [zkX, Nat.mul_comm]; exact hz), rfl, q _ I.fresh⟩
end
end L2
namespace Att
open PySem PySem.W PySem.Calls PyProof.Rows
theorem zdz {P : Params} {h : Heap} : ∀ (ns : List Int) (vs : List Value), WellAll P h vs (ns.map WData.int) -> IntsAre vs ns := by
 intro ns
 induction ns with
 | nil =>
  intro vs w;rw [List.map_nil] at w;cases w;exact .nil
 | cons n ns ih =>
  intro vs w;rw [List.map_cons] at w;cases w with
  | cons a b =>
   cases a;exact .cons _ _ (ih _ b)
theorem zhS {l : OpenLaw} {n : Nat} (hn : l.most = some n) {P : Params} {h : Heap} {args : List WData} {vals : List Value}
  (hpre : l.row.toRowW.claim.pre args = true) (hwl : WellAll P h vals args) :
  ∃ a vs ns, vals = [Value.ref a] /\ args = [WData.list (ns.map WData.int)] /\ h.get? a = some { cls := .type "list", data := .seq vs.toArray } /\ IntsAre vs ns /\ ns.length <= n := by
 have hsh : WShape.hasAll [] args [.list .int] = true := (pre_splitW hpre).1;have hc : l.pre.holds [] { args := args } = true := (pre_splitW hpre).2;obtain ⟨d, r, rfl, h1, h2⟩ := hasAllW_cons hsh;obtain rfl := hasAllW_nil h2;obtain ⟨xs, rfl, h3⟩ := hasW_list h1;obtain ⟨ns, rfl⟩ := items_int h3;have Qe : ns.length <= n := by
  unfold OpenLaw.pre at hc;have h4 : (WTm.not (.lt (.lit (.int (n : Int))) (.len (.arg 0)))).holds [] { args := [.list (ns.map .int)] } = true := by
   have h4 := (holds_andW hc).1;rw [hn] at h4;exact h4
  have h5 := condW_of h4 (w_not (w_lt w_lit (w_len_list (w_arg rfl))));rw [yaf] at h5;refine Nat.le_of_not_lt fun q => ?_;have q' : (n : Int) < ((ns.length : Nat) : Int) := by omega
  first
   | (rw [ya9 q'] at h5; exact absurd h5 δ)
   | (simp at h5; omega)
 cases hwl with
 | cons w1 w2 =>
  cases w2;cases w1 with
  | list ho hall => exact ⟨_, _, ns, rfl, rfl, ho, zdz ns _ hall, Qe⟩
theorem zhT (l : OpenLaw) (args : List WData) : l.row.toRowW.claim.post args (.bool true) args = true :=
 postW_of (r := l.row.toRowW) (X := (true == true))
  (show WShape.has [] (.bool true) .bool = true by first | rfl | decide | simp [WShape.has, WShape.arms, WShape.armsAll])
  (show (WTm.eq .res (.lit (.bool true))).value [] { args := args, res := some (.bool true), after := args } = some (.bool (true == true)) from w_eq_bool (w_res rfl) w_lit) rfl
theorem attach_call {l : OpenLaw} {n : Nat} {q : Program} {loose : List Str} {XP : (Str -> Option Value) -> Heap -> Prop} {YP : World -> Heap -> Prop} {d : DefRec}
  (hn : l.most = some n) (hdf : d.params.defaults = [])
  (call : ∀ (w : World) (s₀ s₁ : Shared) (mg mb : Str -> Option Value) (fa : Addr) (o : Obj) (pm cd doc : Value) (a : Addr) (vs : List Value) (ns : List Int),
   Ground q loose [] XP w s₀ mg mb s₁.heap -> YP w s₁.heap ->
   s₁.heap.get? fa = some o -> o.data = .func (docDef d.name d.params d.body d.scope pm cd doc) -> s₁.heap.CodeRec cd d.name -> mg d.name = some (.ref fa) ->
   s₁.heap.get? a = some { cls := .type "list", data := .seq vs.toArray } -> IntsAre vs ns -> ns.length <= n -> s₁.gens = #[] ->
   codeAny (model l.prog w) callerA (.call (.ref fa) ⟨[.ref a], []⟩) (fun r s' => r = .ok (.ret (.bool true)) /\ OldK s₁.heap s'.heap /\ s'.os = s₁.os /\ AllBare s'.gens) s₁) :
  WalkO q loose XP YP l.row.toRowW d [] (fun f vs => PySem.call f vs) := by
 intro w s₀ s₁ mg mb G Y fa o pm cd doc dV kV ho hd hcd hD hmg hg args vals as hpre hlay hrd hwl hlo;obtain rfl : dV = .none := Dflts.none hD hdf;obtain rfl : kV = .none := Dflts.noKw hD;obtain ⟨a, vs, ns, rfl, rfl, hobj, hints, Qe⟩ := zhS hn hpre hwl;refine enter_call (codeAny_mono (call w s₀ s₁ mg mb fa o pm cd doc a vs ns G Y ho (fd_plain hd) hcd hmg hobj hints Qe hg) fun r s' hq => ?_);obtain ⟨rfl, h2, h3, h4⟩ := hq;exact ⟨.inl ⟨.bool true, .bool true, [], rfl, fun _ => rfl, .bool true, zhT l _, fun _ => ⟨List.Pairwise.nil, fun _ hm => (nomatch hm)⟩⟩, h2, h3, h4⟩
end Att
namespace L2
open PySem PySem.Spec PyProof.Rows
theorem zeZ : ∀ {vs : List Value} {ns : List Int}, IntsAre vs ns -> Vals (ns.map V.int) vs
 | _, _, .nil => .nil
 | _, _, .cons n t h => .cons ⟨t, rfl⟩ (zeZ h)
def Only (H : Hp) : Prop := ∀ b, H b = none \/ ∃ o xs, H b = some (.frz o (.lst xs))
theorem zjp {P : Program} {w : World} {K : W.Frag} {mg mb : Str -> Option Value} {CX : CXT} {k : Nat} {fa a : Addr} {fd : FuncData} {x : Str} {sp : Sp} {s₁ : Shared} {vs : List Value} {ns : List Int}
  (KX : K.In s₁.heap) (hns : s₁.heap.Ns mainGlobals mg) (hb : s₁.heap.Ns builtinsNs mb) (hbb : ∀ x : Str, x ≠ "__name__" -> mb x = bootBuiltins x) (hlim : s₁.heap.NoLimit) (hg : s₁.gens = #[])
  (ha : s₁.heap.get? a = some { cls := .type "list", data := .seq vs.toArray }) (hi : IntsAre vs ns) (hl : ns.length <= sizeLine) (hr : Room k callerA)
  (F : ∀ base : Heap, K.In base -> base.Ns mainGlobals mg -> FnOk P w K mg base CX k fa fd [x] sp) (hbind : ∀ (s : Shared) (u : Value), BindsTo s fd ⟨[u], []⟩ [(x, u)])
  (hsp : ∀ H : Hp, Only H -> SqL K H a (ns.map V.int) -> sp [.ref a] H (fun v _ => v = .bl true) fun _ _ _ => False)
  (hCX : ∀ H e s', CX [] H s₁ (fun _ _ _ => False) e s' -> False) :
  codeAny (model P w) callerA (.call (.ref fa) ⟨[.ref a], []⟩) (fun r s' => r = .ok (.ret (.bool true)) /\ OldK s₁.heap s'.heap /\ s'.os = s₁.os /\ AllBare s'.gens) s₁ := by
 have rv := zeZ hi;have lenV := hi.length;have core : ∀ H : Hp, Only H -> SqL K H a (ns.map V.int) -> HOk P w H s₁.heap -> (∀ b, H b ≠ none -> b = a) -> (H a ≠ none -> K.lookup a = none) ->
   codeAny (model P w) callerA (.call (.ref fa) ⟨[.ref a], []⟩) (fun r s' => r = .ok (.ret (.bool true)) /\ OldK s₁.heap s'.heap /\ s'.os = s₁.os /\ AllBare s'.gens) s₁ := by
  intro H hO hS hok hA hK;have base_of : ∀ {b : Addr} {o : Obj}, s₁.heap.get? b = some o -> H b = none -> (hidT s₁.heap H).get? b = some o := fun e n => zje e n;have noA : ∀ {b : Addr} {o : Obj} {es : Array DictEntry} {ep : Nat}, s₁.heap.get? b = some o -> o.data = .dict es ep -> H b = none := fun {b o es ep} e d => by
   cases q : H b with
   | none => rfl
   | some u =>
    have e' : b = a := hA b (by rw [q]; simp);subst e';rw [ha] at e; cases e;have d' : Data.seq vs.toArray _ = Data.dict es ep := d;cases d'
  have nsK : ∀ {b : Addr} {m : Str -> Option Value}, s₁.heap.Ns b m -> (hidT s₁.heap H).Ns b m := fun {b m} ⟨o, es, ep, e, d, r⟩ => ⟨o, es, ep, base_of e (noA e d), d, r⟩
  have hKb : K.In (hidT s₁.heap H) := fun b o e => base_of (KX b o e) (by
   cases q : H b with
   | none => rfl
   | some u =>
    have e' : b = a := hA b (by rw [q]; simp);subst e';rw [hK (by rw [q]; simp)] at e; cases e)
  have hM : Mod K mg (hidT s₁.heap H) := ⟨hKb, nsK hns, ⟨mb, nsK hb, hbb⟩, let ⟨mc, h1, h2⟩ := hlim; ⟨mc, nsK h1, h2⟩⟩
  have e0 : Env0 P w K mg (hidT s₁.heap H) callerA [] s₁ H := ⟨rfl, hM, fun b o e => zkL e, Nat.le_of_eq (zh5 _ _), trivial, fun b hb => absurd (show b ∈ ([] : List Addr) from hb) ς, hok, .of_eq hg⟩
  refine codeAny_mono ((F _ hKb (nsK hns)).run callerA [] s₁ H ⟨[.ref a], []⟩ [.ref a] [.ref a] _ _ hr e0 (hbind s₁ (.ref a)) (.cons rfl .nil) (hsp H hO hS)) fun r s' h => ?_;cases r with
  | error e => exact (hCX H e s' h).elim
  | ok fl =>
   cases fl with
   | next => exact False.elim h
   | brk => exact False.elim h
   | cont => exact False.elim h
   | ret u =>
    obtain ⟨v, H', os, bare, un, hok', r', q⟩ := h;have q' : v = .bl true := q;subst q';obtain rfl : u = Value.bool true := r';refine ⟨rfl, OldK.of_keep fun b o e => ?_, os, bare⟩;cases q : H b with
    | none => exact un.keep b o e q (by intro z; exact absurd (show b ∈ ([] : List Addr) from z) ς) ς
    | some u =>
     rcases hO b with z | ⟨ob, xs, z⟩
     ·rw [q] at z; cases z
     ·have z2 := un.frzs b ob _ z;obtain ⟨e1, _⟩ := hok b _ z;obtain ⟨e2, _⟩ := hok' b _ z2;rw [e] at e1; cases e1;exact e2
 cases hk : K.lookup a with
 | some o =>
  have e := KX a o hk;rw [ha] at e;cases e;refine core (fun _ => none) (fun _ => .inl rfl) (.inr ⟨_, vs.toArray, _, hk, rfl, rfl, rfl, by rw [yad, lenV]; exact hl, by simpa using rv⟩) (fun b u z => by have z' : (none : Option HO) = some u := z; cases z') (fun b z => absurd rfl z) fun z => absurd rfl z
 | none =>
  refine core (fun b => if b = a then some (.frz { cls := .type "list", data := .seq vs.toArray } (.lst (ns.map V.int))) else none) (fun b => ?_) (.inl (.inr ⟨{ cls := .type "list", data := .seq vs.toArray }, if_pos rfl⟩)) (fun b u z => ?_) (fun b z => ?_) fun _ => hk
  ·by_cases hb : b = a
   ·exact .inr ⟨_, _, if_pos hb⟩
   ·exact .inl (if_neg hb)
  ·by_cases hb : b = a
   ·have z' := (if_pos hb).symm.trans z;cases z';subst hb;exact ⟨ha, by rw [yaf]; exact hl, vs, _, rv, ha⟩
   ·have z' := (if_neg hb).symm.trans z;cases z'
  ·by_cases hb : b = a
   ·exact hb
   ·exact absurd (if_neg hb) z
theorem walk_of {l : W.OpenLaw} {n k : Nat} {q : Program} {loose : List Str} {XP : (Str -> Option Value) -> Heap -> Prop} {YP : World -> Heap -> Prop} {d : DefRec} {K : Params -> W.Frag} {CX : World -> CXT} {sp : World -> Sp} {x : Str}
  (hn : l.most = some n) (hn2 : n <= sizeLine) (hdf : d.params.defaults = []) (hr : Room k callerA)
  (hY : ∀ (w : World) (h : Heap), YP w h -> (K w.params).In h)
  (F : ∀ (w : World) (mg : Str -> Option Value) (fa : Addr) (h : Heap), (K w.params).In h -> h.Ns mainGlobals mg -> mg d.name = some (.ref fa) ->
   ∃ fd : FuncData, (∀ (s : Shared) (u : Value), BindsTo s fd ⟨[u], []⟩ [(x, u)]) /\
    ∀ base : Heap, (K w.params).In base -> base.Ns mainGlobals mg -> FnOk l.prog w (K w.params) mg base (CX w) k fa fd [x] (sp w))
  (hsp : ∀ (w : World) (H : Hp) (a : Addr) (ns : List Int), ns.length <= n -> Only H -> SqL (K w.params) H a (ns.map V.int) -> sp w [.ref a] H (fun v _ => v = .bl true) fun _ _ _ => False)
  (hCX : ∀ (w : World) (H : Hp) (s : Shared) (e : Value) (s' : Shared), CX w [] H s (fun _ _ _ => False) e s' -> False) :
  W.WalkO q loose XP YP l.row.toRowW d [] (fun f vs => PySem.call f vs) := by
 refine Att.attach_call hn hdf fun w s₀ s₁ mg mb fa o pm cd doc a vs ns G Y ho hd hcd hmg hobj hints Qe hg => ?_;have KX := hY w _ Y;obtain ⟨fd, hb, hF⟩ := F w mg fa _ KX G.T.g hmg;exact zjp KX G.T.g G.T.b G.T.builtins G.T.nolimit hg hobj hints (yat Qe hn2) hr hF hb (fun H hO hS => hsp w H a ns Qe hO hS) fun H e s' => hCX w H s₁ e s'
def zes (s : Stmt) (j : Nat) : Stmt := match s with
 | .ClassDef _ _ _ body _ _ _ _ _ _ _ => body.getD j (.Pass ⟨0, 0, 0, 0⟩)
 | _ => .Pass ⟨0, 0, 0, 0⟩
def zak (s : Stmt) : Arguments := match s with
 | .FunctionDef _ a _ _ _ _ _ _ _ _ => a
 | _ => { posonlyargs := [], args := [], vararg := none, kwonlyargs := [], kw_defaults := [], kwarg := none, defaults := [] }
def zaj (s : Stmt) : List Stmt := match s with
 | .FunctionDef _ _ b _ _ _ _ _ _ _ => b
 | _ => []
def zab (s : Stmt) : Scope := match s with
 | .FunctionDef _ _ _ _ _ _ sc _ _ _ => sc
 | _ => { kind := .function, names := [], isGenerator := false, isCoroutine := false }
abbrev CX0 : CXT := fun _ _ _ _ _ _ => False
abbrev E0 : XK := fun _ _ _ => False
theorem zaJ {X : Cx} : zdv CX0 X E0 := fun _ _ _ _ _ _ _ h => h.elim
structure Fun (K : W.Frag) (x qual : Str) (st : Stmt) (f : Addr) (fd : FuncData) : Prop where
 ex : ∃ (oc : Value) (od : Option Addr) (kV doc pm : Value) (an : Option Addr) (cdv ct : Value) (osl : Array (Option Value)),
  fd = W.fnOf x qual (zak st) (zaj st) (zab st) .none kV doc pm an cdv ct /\ K.lookup f = some ⟨oc, od, .func fd, osl⟩ /\ W.codeIn K cdv qual = true
 kp : W.keepIn K (.ref f) = true
section
variable {P : Program} {w : World} {K : W.Frag} {mg : Str -> Option Value} {base : Heap}
theorem Fun.ok {x qual : Str} {st : Stmt} {f : Addr} {fd : FuncData} {N ps : List Str} {k : Nat} {sp : Sp} (F : Fun K x qual st f fd) (S : zap N ps (zab st)) (len : ∀ vs H Q E, sp vs H Q E -> vs.length = ps.length)
  (hbody : ∀ (cdv : Value) (A : Around) (outer : List Env) (s : Shared) (H : Hp) (vs : List V) (Q : VK) (E : XK), Room k (A.deeper (envOfC qual (zab st) s.heap.objs.size f cdv)) -> sp vs H Q E ->
   ∃ t, PSs (cxOf CX0 P w K mg base N qual (zab st) f cdv A outer s H E).nox (zaj st) t /\ t { nx := fun _ H' => Q .non H', rt := Q } (start N vs) H) : FnOk P w K mg base CX0 (k + 1) f fd ps sp := by
 obtain ⟨oc, od, kV, doc, pm, an, cdv, ct, osl, rfl, lk, hcd⟩ := F.ex;refine zm9 lk hcd S len fun A outer s H vs Q E hr hsp => ?_;obtain ⟨t, h, q⟩ := hbody cdv A outer s H vs Q E hr hsp;exact ⟨t, h.nox, q⟩
theorem Fun.binds {x qual : Str} {st : Stmt} {f : Addr} {fd : FuncData} {ps : List Str} (F : Fun K x qual st f fd)
  (h : ∀ (kV doc pm : Value) (an : Option Addr) (cdv ct : Value) (us : List Value), us.length = ps.length -> bindArgs (W.fnOf x qual (zak st) (zaj st) (zab st) .none kV doc pm an cdv ct) ⟨us, []⟩ = pure (ps.zip us)) : Binds K fd ps [] := by
 obtain ⟨oc, od, kV, doc, pm, an, cdv, ct, osl, rfl, lk, hcd⟩ := F.ex;exact .all (h kV doc pm an cdv ct)
theorem za6 {x qual : Str} {st : Stmt} {f : Addr} {oc : Value} {od an : Option Addr} {osl : Array (Option Value)} {kV doc pm cdv ct : Value} (l : K.lookup f = some ⟨oc, od, .func (W.fnOf x qual (zak st) (zaj st) (zab st) .none kV doc pm an cdv ct), osl⟩)
  (c : W.codeIn K cdv qual = true) (k : W.keepIn K (.ref f) = true) : Fun K x qual st f (W.fnOf x qual (zak st) (zaj st) (zab st) .none kV doc pm an cdv ct) := ⟨⟨oc, od, kV, doc, pm, an, cdv, ct, osl, rfl, l, c⟩, k⟩
end
section
variable {X : Cx}
theorem pv (i : Nat) {x : Str} {pos : Pos} (hN : X.N[i]? = some x := by rfl) (hv : Vis X.env.scope x := by first | exact Or.inl rfl | exact Or.inr (Or.inl rfl) | exact Or.inr (Or.inr rfl)) (hd : (x == ("__debug__" : Str)) = false := by decide)
  (hcd : (x == ("__classdict__" : Str)) = false := by decide) : PE X (.Name x pos) (tVar i) := zmu hN hv hd hcd
end
theorem iteF {A B : Prop} (h : B) : if false = true then A else B := by
 rw [if_neg yam];exact h
theorem iteT {A B : Prop} (h : A) : if true = true then A else B := by
 rw [if_pos rfl];exact h
theorem ite2 {c A B : Prop} [Decidable c] (h1 : c -> A) (h2 : ¬ c -> B) : if c then A else B := by
 by_cases h : c
 ·rw [if_pos h];exact h1 h
 ·rw [if_neg h];exact h2 h
def Same (H H' : Hp) : Prop := ∀ b o, H b = some o -> H' b = some o
theorem Same.refl (H : Hp) : Same H H := fun _ _ h => h
theorem Same.trans {H H1 H2 : Hp} (a : Same H H1) (b : Same H1 H2) : Same H H2 := fun c o h => b c o (a c o h)
theorem Same.free {H H' : Hp} (e : Same H H') {l : Addr} (h : H' l = Option.none) : H l = Option.none := by
 cases q : H l with
 | none => rfl
 | some o =>
  rw [e l o q] at h;cases h
theorem Same.seq {K : W.Frag} {H H' : Hp} {a : Addr} {xs : List V} (e : Same H H') (h : SqL K H a xs) : SqL K H' a xs := by
 rcases h with (h | ⟨o, h⟩) | h
 ·exact .inl (.inl (e _ _ h))
 ·exact .inl (.inr ⟨o, e _ _ h⟩)
 ·exact .inr h
theorem zhU {v : Value} {o : Option Int} (p : IsPart v o) : ∃ q : Option (Int × Tok), v = partValue q /\ q.map (·.1) = o := by
 cases p with
 | none => exact ⟨none, rfl, rfl⟩
 | int i t => exact ⟨some (i, t), rfl, rfl⟩
def rSlS : V -> Option Int -> Option Int -> Hp -> VK -> Prop := fun x lo hi H Q => ∃ z, x = .str z /\ z.length <= sizeLine /\ Q (.str (Txt.slice z lo hi)) H
theorem zmI {X : Cx} : SlR X rSlS := by
 intro Qa s σ H x v vl vu lo hi sl Q I rx hs pl pu h;obtain ⟨z, rfl, hz, q⟩ := h;obtain ⟨t, rfl⟩ := rx;obtain ⟨ql, rfl, rfl⟩ := zhU pl;obtain ⟨qu, rfl, rfl⟩ := zhU pu;refine ⟨"str", _, F.slot_str_getitem.lookup, typeIs_str _ _ _, ?_⟩;refine wpAny_getItem_str_slice (l := ql) (u := qu) (st := none) hs rfl ?_;exact post_val_or_str ⟨yat (Txt.slice_le z _ _) hz, fun t' k => ⟨.str _, H, I.tok _, ⟨t', rfl⟩, q⟩⟩
def Its (x : Str) : It := ⟨fun i _ => i < x.cps.size, fun i H v H' => H' = H /\ ∃ c, x.cps[i]? = some c /\ v = .str ⟨#[c]⟩, fun i _ => x.cps.size <= i⟩
theorem zgf {P : Program} {w : World} {K : W.Frag} {tg : Expr} (x : Str) (t : Tok) (it : Addr) (ty : String) (hty : ty = "str_ascii_iterator" \/ ty = "str_iterator") :
  Turn P w K tg (Its x) [it] it (fun i h => h.IsStrIter it ty x t i) where
 mem := by simp
 obj := fun i h st b hb => by
  have e : b = it := by simpa using hb
  subst e;obtain ⟨o, e, c, d⟩ := st;exact ⟨o, e, fun v z => by rw [d] at z; cases z⟩
 keep := fun i h h' st k => by
  obtain ⟨o, e, r⟩ := st;exact ⟨o, k it ς o e, r⟩
 item := by
  intro X hP hw hK hc i Qa s σ H E I hf st hg;subst hP hw hK;obtain ⟨f0, f1, f2, f3, f4, f5⟩ := hf it ς;have hg' : i < x.cps.size := hg;have hx : x.cps[i]? = some x.cps[i] := by simp [hg']
  rcases hty with rfl | rfl
  ·refine wpAny_pyNext_ascii_item st hx fun h' st' sb => ?_;have I1 : Inv X Qa σ H { s with heap := h', toks := s.toks + 1 } := I.turned (fun b o hb e => (sb.2 b hb).trans e) f0 f1 f3 f4 f5;obtain ⟨o, e, c, d⟩ := id st';exact ⟨_, rfl, zgP (s := { s with heap := h', toks := s.toks + 1 }) e c d δ ⟨.str ⟨#[x.cps[i]]⟩, H, I1, ⟨_, rfl⟩, ⟨rfl, _, hx, rfl⟩, st', fun b hb => (hf b hb).1⟩⟩
  ·refine wpAny_pyNext_wide_item st hx fun h' st' sb => ?_;have I1 : Inv X Qa σ H { s with heap := h', toks := s.toks + 1 } := I.turned (fun b o hb e => (sb.2 b hb).trans e) f0 f1 f3 f4 f5;obtain ⟨o, e, c, d⟩ := id st';exact ⟨_, rfl, zgP (s := { s with heap := h', toks := s.toks + 1 }) e c d δ ⟨.str ⟨#[x.cps[i]]⟩, H, I1, ⟨_, rfl⟩, ⟨rfl, _, hx, rfl⟩, st', fun b hb => (hf b hb).1⟩⟩
 done := by
  intro X hP hw hK hc i Qa s σ H E I hf st hg;subst hP hw hK;obtain ⟨f0, f1, f2, f3, f4, f5⟩ := hf it ς;have hx : x.cps[i]? = none := by
   have : x.cps.size <= i := hg;simp [this]
  rcases hty with rfl | rfl
  ·exact wpAny_pyNext_ascii_end (I.ok.hd hc) st hx fun h' eb => ⟨rfl, I.turned (t' := s.toks) (fun b o hb e => eb b o hb e) f0 f1 f3 f4 f5⟩
  ·exact wpAny_pyNext_wide_end (I.ok.hd hc) st hx fun h' eb => ⟨rfl, I.turned (t' := s.toks) (fun b o hb e => eb b o hb e) f0 f1 f3 f4 f5⟩
 self := fun _ _ _ _ _ st h => by
  rcases hty with rfl | rfl
  ·exact wpAny_pyIter_striter_ascii st h
  ·exact wpAny_pyIter_striter_wide st h
theorem zhV {X : Cx} {tg : Expr} {Qa : ZP} {σ : St} {H1 : Hp} {s1 : Shared} {R : It -> Hp -> Prop} {z : Str} {v : Value} {E : ZQ} (I1 : Inv X Qa σ H1 s1) (r1 : RelV (.str z) v) (q : R (Its z) H1) :
  wpAny (model X.prog X.w) X.A (pyIter v) (PIE X Qa σ tg R) E s1 := by
 obtain ⟨t, rfl⟩ := r1;have fp : ∀ (b : Addr), b ∈ [s1.heap.objs.size] -> FpOk X Qa H1 b := fun b hb => by
  have e : b = s1.heap.objs.size := by simpa using hb
  subst e;exact I1.fpOk (yai _) (I1.hok.fresh (yai _))
 cases ha : z.cps.all (· < 128)
 ·refine wpAny_pyIter_wide ha ?_;exact ⟨s1.heap.objs.size, [s1.heap.objs.size], _, _, H1, rfl, I1.kept (t' := s1.toks) fun b o e => yac _ e, zgf z t _ "str_iterator" (.inr rfl), ⟨_, yaj _ rfl, rfl, rfl⟩, fp, q⟩
 ·refine wpAny_pyIter_ascii ha ?_;exact ⟨s1.heap.objs.size, [s1.heap.objs.size], _, _, H1, rfl, I1.kept (t' := s1.toks) fun b o e => yac _ e, zgf z t _ "str_ascii_iterator" (.inl rfl), ⟨_, yaj _ rfl, rfl, rfl⟩, fp, q⟩
theorem zkY {x : Str} {g : TG} {tb : TS} {D : Ends} {σ : St} {H : Hp} (Pv : Nat -> St -> Hp -> Prop) (h0 : Pv 0 σ H)
  (hs : ∀ i c σ H, x.cps.toList[i]? = some c -> Pv i σ H -> g (.str ⟨#[c]⟩) σ H fun σ2 H2 => tb { D with nx := Pv (i + 1), ct := Pv (i + 1), bk := D.nx } σ2 H2) (hd : ∀ σ H, Pv x.cps.toList.length σ H -> D.nx σ H) :
  ∃ W : Nat -> Nat -> St -> Hp -> Prop, (∃ m, W 0 m σ H) /\ ∀ i m σ H, W i m σ H ->
   ((Its x).stop i H /\ D.nx σ H) \/ ((Its x).go i H /\ ∃ N : St -> Hp -> Prop, (∀ σ' H', N σ' H' -> ∃ m', m' < m /\ W (i + 1) m' σ' H') /\ ∀ v H', (Its x).yld i H v H' -> g v σ H' fun σ2 H2 => tb { D with nx := N, ct := N, bk := D.nx } σ2 H2) := by
 have hl : x.cps.toList.length = x.cps.size := by simp
 refine ⟨fun i m σ H => m = x.cps.size - i /\ i <= x.cps.size /\ Pv i σ H, ⟨x.cps.size,ς, yaq _, h0⟩, ?_⟩
 rintro i m σ H ⟨rfl, hi, p⟩
 by_cases hlt : i < x.cps.size
 ·refine .inr ⟨hlt, Pv (i + 1), fun σ' H' p' => ⟨x.cps.size - (i + 1),ω, rfl, hlt, p'⟩, fun v H' y => ?_⟩;obtain ⟨e, c, hc, rfl⟩ := y;subst e;exact hs i c σ _ (by rw [Array.getElem?_toList]; exact hc) p
 ·have e : i = x.cps.size := by omega
  subst e;exact .inl ⟨yai _, hd σ H (by rw [hl]; exact p)⟩
def clos (cells : List (Str × Addr)) : List (Str × NameKind) -> List (Str × Addr) -> List (Str × Addr)
 | [], acc => acc
 | (n, k) :: r, acc => if k == .free then clos cells r ((n, (cells.lookup n).getD 0) :: acc) else clos cells r acc
theorem zcq {scope : Scope} {env : Env} (h : ∀ y ∈ scope.names, y.2 = .free -> ∃ c, env.cells.lookup y.1 = some c) : closureFor scope env = pure (clos env.cells scope.names []) := by
 have go : ∀ (names : List (Str × NameKind)) (acc : List (Str × Addr)), (∀ y ∈ names, y.2 = .free -> ∃ c, env.cells.lookup y.1 = some c) ->
   (forIn names acc fun (x : Str × NameKind) (r : List (Str × Addr)) => (if x.2 == NameKind.free then do let a <- cellOf env x.1; pure (ForInStep.yield ((x.1, a) :: r)) else pure (ForInStep.yield r) : Sem (ForInStep (List (Str × Addr))))) = pure (clos env.cells names acc) := by
  intro names
  induction names with
  | nil => intro acc _; rfl
  | cons x r ih =>
   intro acc hx;obtain ⟨n, k⟩ := x;rw [List.forIn_cons];have hr : ∀ y ∈ r, y.2 = .free -> ∃ c, env.cells.lookup y.1 = some c := fun y hy => hx y (List.mem_cons_of_mem _ hy)
   by_cases hk : k = .free
   ·subst hk;obtain ⟨c, hc⟩ := hx (n, .free) List.mem_cons_self rfl;have hc' : env.cells.lookup n = some c := hc;have e : cellOf env n = pure c := by unfold cellOf; rw [hc']
    simp only [beq_self_eq_true, if_true, e, pure_bind];rw [ih _ hr];simp only [clos, beq_self_eq_true, if_true, hc', Option.getD_some]
   ·have hb : (k == NameKind.free) = false := by simpa using hk
    simp only [hb, Bool.false_eq_true, if_false, pure_bind];rw [ih _ hr];simp only [clos, hb, Bool.false_eq_true, if_false]
 have := go scope.names [] h;unfold closureFor
 first
  | (rw [this]; rfl)
  | (simp only [this, pure_bind]; rfl)
  | simpa using this
theorem zbN {cells : List (Str × Addr)} : ∀ (names : List (Str × NameKind)) (acc : List (Str × Addr)) (y : Str) (c : Addr),
  (∀ z ∈ names, z.2 = .free -> ∃ c, cells.lookup z.1 = some c) -> (∀ d, acc.lookup y = some d -> cells.lookup y = some d) -> (clos cells names acc).lookup y = some c -> cells.lookup y = some c
 | [], acc, y, c, _, ha, h => ha c h
 | (n, k) :: r, acc, y, c, hx, ha, h => by
  have hr : ∀ z ∈ r, z.2 = .free -> ∃ c, cells.lookup z.1 = some c := fun z hz => hx z (List.mem_cons_of_mem _ hz)
  by_cases hk : k = .free
  ·subst hk;simp only [clos, beq_self_eq_true, if_true] at h;refine zbN r _ y c hr (fun d hd => ?_) h
   by_cases hy : y = n
   ·subst hy;obtain ⟨e, he⟩ := hx (y, .free) List.mem_cons_self rfl;have he' : cells.lookup y = some e := he;simp only [List.lookup_cons, beq_self_eq_true, he', Option.getD_some] at hd;rw [he', hd]
   ·have hb : (y == n) = false := by simpa using hy
    simp only [List.lookup_cons, hb] at hd;exact ha d hd
  ·have hb : (k == NameKind.free) = false := by simpa using hk
   simp only [clos, hb, Bool.false_eq_true, if_false] at h;exact zbN r acc y c hr ha h
theorem zd0 {cells : List (Str × Addr)} : ∀ (names : List (Str × NameKind)) (acc : List (Str × Addr)) (y : Str), (∃ c, acc.lookup y = some c) -> ∃ c, (clos cells names acc).lookup y = some c
 | [], _, _, h => h
 | (n, k) :: r, acc, y, h => by
  by_cases hk : k = .free
  ·subst hk;simp only [clos, beq_self_eq_true, if_true];refine zd0 r _ y ?_
   by_cases hy : y = n
   ·subst hy; exact ⟨(cells.lookup y).getD 0, by simp only [List.lookup_cons, beq_self_eq_true]⟩
   ·have hb : (y == n) = false := by simpa using hy
    simp only [List.lookup_cons, hb]; exact h
  ·have hb : (k == NameKind.free) = false := by simpa using hk
   simp only [clos, hb, Bool.false_eq_true, if_false];exact zd0 r acc y h
theorem zet {cells : List (Str × Addr)} : ∀ (names : List (Str × NameKind)) (acc : List (Str × Addr)) (y : Str), (y, NameKind.free) ∈ names -> ∃ c, (clos cells names acc).lookup y = some c
 | [], _, _, h => by simp at h
 | (n, k) :: r, acc, y, h => by
  rcases yau.mp h with e | h
  ·injection e with e1 e2
   subst e1 e2;simp only [clos, beq_self_eq_true, if_true];exact zd0 r _ y ⟨(cells.lookup y).getD 0, by simp only [List.lookup_cons, beq_self_eq_true]⟩
  ·by_cases hk : k = .free
   ·rw [hk];simp only [clos, beq_self_eq_true, if_true];exact zet r _ y h
   ·have hb : (k == NameKind.free) = false := by simpa using hk
    simp only [clos, hb, Bool.false_eq_true, if_false];exact zet r _ y h
theorem relabel_kind {env : Env} : ∀ {names : List (Str × NameKind)} {x : Str} {k : NameKind}, (names.map fun (n, k) => if (k == NameKind.free && env.scope.kind == .function && env.kindOf n == some .cell) then (n, NameKind.cell) else (n, k)).lookup x = some k ->
  names.lookup x = some k \/ (k = .cell /\ names.lookup x = some .free)
 | [], _, _, h => by simp at h
 | (n, j) :: r, x, k, h => by
  have ih := @relabel_kind env r x k;have h' : List.lookup x ((if (j == NameKind.free && env.scope.kind == .function && env.kindOf n == some .cell) = true then (n, NameKind.cell) else (n, j)) ::
   (r.map fun (n, k) => if (k == NameKind.free && env.scope.kind == .function && env.kindOf n == some .cell) then (n, NameKind.cell) else (n, k))) = some k := h
  cases hx : x == n with
  | true =>
   by_cases hc : (j == NameKind.free && env.scope.kind == .function && env.kindOf n == some .cell) = true
   ·rw [if_pos hc] at h';simp only [List.lookup_cons, hx] at h' ⊢;have hj : j = .free := by
     have : (j == NameKind.free) = true := by
      cases q : (j == NameKind.free) with
      | true => rfl
      | false => rw [q] at hc; simp at hc
     simpa using this
    subst hj;exact .inr ⟨(Option.some.inj h').symm, rfl⟩
   ·rw [if_neg hc] at h';simp only [List.lookup_cons, hx] at h' ⊢;exact .inl h'
  | false =>
   have h2 : List.lookup x (r.map fun (n, k) => if (k == NameKind.free && env.scope.kind == .function && env.kindOf n == some .cell) then (n, NameKind.cell) else (n, k)) = some k := by
    by_cases hc : (j == NameKind.free && env.scope.kind == .function && env.kindOf n == some .cell) = true
    ·rw [if_pos hc] at h'; simpa only [List.lookup_cons, hx] using h'
    ·rw [if_neg hc] at h'; simpa only [List.lookup_cons, hx] using h'
   rcases ih h2 with q | ⟨q1, q2⟩
   ·exact .inl (by simpa only [List.lookup_cons, hx] using q)
   ·exact .inr ⟨q1, by simpa only [List.lookup_cons, hx] using q2⟩
abbrev cxC (X : Cx) (NC : List Str) (scope : Scope) (C : Addr) (s : Shared) (H : Hp) (ex : List Addr) : Cx :=
 { X with N := NC, s₀ := s, H₀ := H, env := compEnvC scope (clos X.env.cells scope.names []) C X.env, outer := X.stack, stack := X.stack, ex := ex, fn := fun _ => false, pn := [], xe := fun _ _ => False }
def za8 (nt : Nat) (is : List Nat) (σ : St) : St := List.replicate nt none ++ is.map fun i => (σ[i]?).join
theorem zcO (nt : Nat) (is : List Nat) (σ : St) : (za8 nt is σ).length = nt + is.length := by simp [za8]
def PIf (X : Cx) (ifs : List Expr) (t : TT) : Prop :=
 ∀ (Qa : ZP) (s : Shared) (σ : St) (H : Hp) (Q : Bool -> Hp -> Prop), Inv X Qa σ H s -> t σ H Q ->
  wpAny (model X.prog X.w) X.A (forIn ifs true fun c r => if r = true then do let ok <- isTrue c X.env (eval c X.env); pure (ForInStep.yield ok) else pure (ForInStep.yield r)) (TP X Qa σ Q) X.xe s
def zmJ : TT := fun _ H Q => Q true H
theorem zcr {X : Cx} : PIf X [] zmJ := fun _ _ _ H _ I h => wpAny_tests_nil ⟨H, I, h⟩
theorem zd1 {X : Cx} {c : Expr} {t : TT} (h : PT X c t) : PIf X [c] t := fun Qa s σ H Q I hw => wpAny_tests_one (h Qa s σ H Q I hw)
section
variable {prog : Program} {w : World} {A : Around} {R : Result -> Shared -> Prop} {s : Shared}
theorem zfa {elt target iter : Expr} {ifs : List Expr} {scope : Scope} {pos : Pos} {it acc : Value} {env : Env} (I : Nat -> Shared -> Prop)
  (turn : ∀ n s, I n s -> wpAny (model prog w) A (pyNext it) (fun r s₁ => match r with
   | none => R (.ok .next) s₁
   | some v => wpAny (model prog w) A (letOwnedTupleGo target it v) (fun _ s₁' => wpAny (model prog w) A (assign target env v) (fun _ s₂ =>
     wpAny (model prog w) A (forIn ifs true fun c r => if r = true then do let ok <- isTrue c env (eval c env); pure (ForInStep.yield ok) else pure (ForInStep.yield r)) (fun ok s₃ =>
      if ok = true then wpAny (model prog w) A (eval elt env) (fun x s₄ =>
       wpAny (model prog w) A (call (.builtin "list.append") [acc, x]) (fun _ s₅ => ∃ m, m < n /\ I m s₅) (fun _ _ => False) s₄) (fun _ _ => False) s₃
      else ∃ m, m < n /\ I m s₃) (fun _ _ => False) s₂) (fun _ _ => False) s₁') (fun _ _ => False) s₁) (fun _ _ => False) s)
  (n : Nat) (h : I n s) :
  codeAny (model prog w) A (.compLoop (.ListComp elt [⟨target, iter, ifs, 0⟩] scope pos) 0 it acc env) R s := by
 refine codeAny_loop rfl I (fun n s hI => ?_) n h;show wpAny _ A ((compTurn (.ListComp elt [⟨target, iter, ifs, 0⟩] scope pos) 0 it acc env).onRaise (fun x => do noteFrame x env; theTreesLotGoes x)) _ _ s;refine wpAny_noted ?_;rw [compTurn_list];refine yaa (wpAny_standAt (yaa (wpAny_mono (turn n s hI) (fun r s₁ h₁ => ?_) fun _ _ h' => h'.elim)));cases r with
 | none => exact yab h₁
 | some v =>
  refine yaa (wpAny_mono h₁ (fun _ s₁' h₁' => ?_) fun _ _ h' => h'.elim);refine yaa (wpAny_mono h₁' (fun _ s₂ h₂ => yaa (wpAny_mono h₂ (fun ok s₃ h₃ => ?_) fun _ _ h' => h'.elim)) fun _ _ h' => h'.elim);cases ok with
  | false => exact yab ⟨rfl, h₃⟩
  | true =>
   exact yaa (yaa (wpAny_mono h₃ (fun x s₄ h₄ => yaa (wpAny_mono h₄ (fun _ s₅ h₅ => yab (yab ⟨rfl, h₅⟩)) fun _ _ h' => h'.elim)) fun _ _ h' => h'.elim))
end
def zha (wi : TI) (nt : Nat) (is : List Nat) (g : TG) (tt : TT) (te : TE) : TE := fun σ H Q => wi σ H fun J H1 => ∃ W : Nat -> Nat -> List V -> Hp -> Prop, (∃ m, W 0 m [] H1) /\ ∀ i m acc H, W i m acc H ->
 (J.stop i H /\ ∀ p, H p = none -> Q (.ref p) (upd H p (.lst acc))) \/
 (J.go i H /\ acc.length < sizeLine /\ ∃ N : List V -> Hp -> Prop, (∀ acc' H', N acc' H' -> ∃ m', m' < m /\ W (i + 1) m' acc' H') /\ ∀ x H', J.yld i H x H' -> g x (za8 nt is σ) H' fun σ2 H2 => tt σ2 H2 fun b H3 =>
  if b = true then te σ2 H3 fun y H4 => N (acc ++ [y]) H4 else N acc H3)
structure CompSc (X : Cx) (NC : List Str) (nt : Nat) (is : List Nat) (csc : Scope) : Prop where
 kind : csc.kind = .function
 nocell : (csc.names.all fun y => y.2 != .cell) = true
 locs : (csc.names.all fun y => y.2 != .local || csc.names.lookup y.1 == some .local) = true
 frees : (csc.names.all fun y => y.2 != .free || (X.env.kindOf y.1 == some .cell || X.env.kindOf y.1 == some .free)) = true
 len : NC.length = nt + is.length
 slots : (NC.drop nt).map some = is.map fun i => X.N[i]?
 isfree : ((NC.drop nt).all fun y => csc.names.lookup y == some .free) = true
section
variable {X : Cx} {Qa : ZP} {σ : St} {H : Hp} {s : Shared} {NC : List Str} {nt : Nat} {is : List Nat} {csc : Scope}
theorem CompSc.free_kind (S : CompSc X NC nt is csc) {y : Str} (h : (y, NameKind.free) ∈ csc.names) : X.env.kindOf y = some .cell \/ X.env.kindOf y = some .free := by
 have q := List.all_eq_true.mp S.frees _ h;simpa using q
theorem CompSc.no_cell (S : CompSc X NC nt is csc) {y : Str} (h : (y, NameKind.cell) ∈ csc.names) : False := by
 have q := List.all_eq_true.mp S.nocell _ h;simp at q
theorem CompSc.has_cells (S : CompSc X NC nt is csc) (I : Inv X Qa σ H s) : ∀ y ∈ csc.names, y.2 = .free -> ∃ c, X.env.cells.lookup y.1 = some c := fun y hy e => by
 obtain ⟨n, k⟩ := y;have e' : k = .free := e;subst e';exact I.ok.has n (S.free_kind hy)
theorem zkZ {fp : List Addr} (ho : ∀ b ∈ fp, ∃ o, s.heap.get? b = some o) : ∀ b ∈ fp, b < s.heap.objs.size := fun b hb => let ⟨_, e⟩ := ho b hb; yan e
theorem zfb (S : CompSc X NC nt is csc) (I : Inv X Qa σ H s) {fp : List Addr} (hf : ∀ b ∈ fp, FpOk X Qa H b) (ho : ∀ b ∈ fp, ∃ o, s.heap.get? b = some o) {h' : Heap} {C : Addr} {m : Str -> Option Value} {t' : Nat}
  (hC : s.heap.objs.size <= C) (k : ∀ b o, s.heap.get? b = some o -> h'.get? b = some o) (hn : h'.Ns C m) : Inv (cxC X NC csc C s H fp) [] (za8 nt is σ) H { s with heap := h', toks := t' } := by
 have hcells := S.has_cells I;have hlook : ∀ y c, (clos X.env.cells csc.names []).lookup y = some c -> X.env.cells.lookup y = some c := fun y c h => zbN csc.names [] y c hcells (by intro d hd; simp at hd) h;have hlt := zkZ ho;have hfree : ∀ y, csc.names.lookup y = some .free -> ∃ c, (clos X.env.cells csc.names []).lookup y = some c := fun y h => zet csc.names [] y (PySem.mem_of_lookup h);refine ⟨⟨I.ok.mod, S.kind, I.ok.glob, I.ok.blt, hC, fun x y c h1 h2 => I.ok.inj x y c (hlook x c h1) (hlook y c h2), fun x hx => ?_, fun x c h _ => (yam h).elim, I.ok.hd, I.ok.frames, .inl rfl,
  fun b hb => ⟨Nat.ne_of_lt (Nat.lt_of_lt_of_le (hlt b hb) hC), fun x c h => (hf b hb).2.2.2.2.1 x c (hlook x c h)⟩, I.bs, yat I.ok.bsz I.sz, fun b o e hb => ?_, fun b hb hs => ?_, I.stack, I.stkFree⟩,
  rfl, I.bare, Un.kept k, ⟨m, hn, fun i x v e1 e2 e3 => ?_⟩, fun x c h => ?_, I.hok.fresh hC, fun x c h => I.freeC x c (hlook x c h), fun p hp => absurd (show p ∈ ([] : ZP) from hp) ς, I.hok.kept k, ?_⟩
 ·have hx' : (relabel csc X.env).names.lookup x = some .cell \/ (relabel csc X.env).names.lookup x = some .free := hx;rcases hx' with h | h
  ·rcases relabel_kind h with q | ⟨_, q⟩
   ·exact (S.no_cell (PySem.mem_of_lookup q)).elim
   ·exact hfree x q
  ·rcases relabel_kind h with q | ⟨q, _⟩
   ·exact hfree x q
   ·cases q
 ·rcases (hf b hb).2.2.2.1 with z | z
  ·exact I.ok.noex b o e z
  ·exact absurd (Nat.lt_of_lt_of_le (yan e) (yat I.ok.bsz z)) (Nat.lt_irrefl _)
 ·rcases yau.mp (I.stkSub b hs) with e | e
  ·exact (hf b hb).2.1 e
  ·exact (hf b hb).2.2.1 e
 ·have hi : nt <= i := by
   by_cases hi : nt <= i
   ·exact hi
   ·have : (za8 nt is σ)[i]? = some none := by
     unfold za8;rw [ya5 (by simpa using hi), List.getElem?_replicate, if_pos ω]
    rw [this] at e2; cases e2
  obtain ⟨j, rfl⟩ : ∃ j, i = nt + j := ⟨i - nt,ω⟩
  have e2' : (is.map fun i => (σ[i]?).join)[j]? = some (some v) := by
   unfold za8 at e2;rw [List.getElem?_append_right ς] at e2;simpa using e2
  rw [yav] at e2';cases ej : is[j]? with
  | none => rw [ej] at e2'; cases e2'
  | some i' =>
   rw [ej] at e2';have e3' : (σ[i']?).join = some v := Option.some.inj e2';have e4 : σ[i']? = some (some v) := by
    cases q : σ[i']? with
    | none => rw [q] at e3'; cases e3'
    | some o => rw [q] at e3'; exact congrArg some e3'
   have e5 : X.N[i']? = some x := by
    have q := congrArg (fun l => l[j]?) S.slots;simp only [List.getElem?_map, ej, Option.map_some] at q;have q2 : (NC.drop nt)[j]? = some x := by rw [List.getElem?_drop]; exact e1
    rw [q2] at q;simpa using q.symm
   have hxfree : csc.names.lookup x = some .free := by
    have q2 : (NC.drop nt)[j]? = some x := by rw [List.getElem?_drop]; exact e1
    have q := List.all_eq_true.mp S.isfree x (ya1 q2);simpa using q
   have hk := S.free_kind (PySem.mem_of_lookup hxfree);obtain ⟨m0, _, hl⟩ := I.loc;obtain ⟨u, r, l⟩ := hl i' x v e5 e4 (hk.elim (fun z => .inr (.inl z)) fun z => .inr (.inr z));refine ⟨u, r, ?_⟩;rcases l with ⟨z, _⟩ | ⟨_, c, hc, hcell⟩
   ·rw [z] at hk; rcases hk with q | q <;> cases q
   ·obtain ⟨c', hc'⟩ := hfree x hxfree;have e6 := hlook x c' hc';rw [hc] at e6; cases e6;refine .inr ⟨?_, c, hc', ?_⟩
    ·have e3'' : (relabel csc X.env).names.lookup x = some .local \/ (relabel csc X.env).names.lookup x = some .cell \/ (relabel csc X.env).names.lookup x = some .free := e3;rcases e3'' with z | z | z
     ·rcases relabel_kind z with q | ⟨q, _⟩
      ·rw [hxfree] at q; cases q
      ·cases q
     ·exact .inl z
     ·exact .inr z
    ·obtain ⟨o, ho, hd⟩ := hcell;exact ⟨o, k c o ho, hd⟩
 ·obtain ⟨v, o, ho, hd⟩ := I.cell x c (hlook x c h);exact ⟨v, o, k c o ho, hd⟩
 ·rw [zcO]; exact S.len.symm
theorem zdZ (I : Inv X Qa σ H s) {fp : List Addr} (hf : ∀ b ∈ fp, FpOk X Qa H b) {σ' : St} {H' : Hp} {s' : Shared} {C D : Addr} {pins' : ZP} {acc : List V} {its : List Value} {n : Nat}
  (J : Inv (cxC X NC csc C s H fp) pins' σ' H' s') (hC : s.heap.objs.size <= C) (hD : s.heap.objs.size <= D) (hDo : s'.heap.get? D = some { cls := .type "list", data := .seq its.toArray n }) (hDn : H' D = none) (hv : Vals acc its)
  (hz : acc.length <= sizeLine) : Inv X Qa σ (upd H' D (.lst acc)) s' := by
 have hne : ∀ b o, s.heap.get? b = some o -> b ≠ D := fun b o e z => absurd (Nat.lt_of_lt_of_le (yan e) (z ▸ hD)) (Nat.lt_irrefl _);have hu : Un (frs X.stack) fp H H' s.heap s'.heap := J.base;refine I.call' (ch := fp) J.os ⟨hu.keep, hu.slot, fun b o e n hx => by rw [zaw (hne b o e)]; exact hu.free b o e n hx, hu.there, fun b xs e => ?_, fun b o u e => ?_, fun b ps e => ?_⟩ (fun b u q => ?_) J.bare fun b hb => ?_
 ·have q := hu.tups b xs e;rw [zaw (zas q hDn)]; exact q
 ·have q := hu.frzs b o u e;rw [zaw (zas q hDn)]; exact q
 ·obtain ⟨more, q⟩ := hu.tbls b ps e;exact ⟨more, by rw [zaw (zas q hDn)]; exact q⟩
 ·by_cases hb : b = D
  ·subst hb;rw [zad] at q; cases q;exact ⟨hz, its, n, hv, hDo⟩
  ·rw [zaw hb] at q;exact (J.hok b u q).stay (fun _ _ _ e => e) (fun c r => by rw [zaw (zas r hDn)]; exact r) fun c xs r => by rw [zaw (zas r hDn)]; exact r
 ·obtain ⟨_, f1, f2, f3, f4, f5⟩ := hf b hb;exact ⟨f3, f1, f4, f5⟩
theorem zgg {elt tg iter : Expr} {ifs : List Expr} {pos : Pos} {wi : TI} {g : TG} {tt : TT} {te : TE} {Q : VK} {use : Option (Value -> Sem Unit)} {QQ : ZQ} {epos : Pos}
  (S : CompSc X NC nt is csc) (hc : X.calm = true) (hi : PI X tg iter wi)
  (hg : ∀ C s H ex, PG (cxC X NC csc C s H ex) tg g) (ht : ∀ C s H ex, PIf (cxC X NC csc C s H ex) ifs tt) (he : ∀ C s H ex, PE (cxC X NC csc C s H ex) elt te)
  (hgk : ∀ x (σ : St) H Q, g x σ H Q -> g x σ H fun σ2 H2 => σ2.drop nt = σ.drop nt /\ Q σ2 H2)
  (I : Inv X Qa σ H s) (h : zha wi nt is g tt te σ H Q)
  (fin : ∀ (s' : Shared) (C D : Addr) (H' : Hp) (m : Str -> Option Value), Inv X Qa σ H' s' -> Q (.ref D) H' -> s'.heap.Ns C m -> H' C = none -> C ≠ X.env.locals -> X.s₀.heap.objs.size <= C -> (∀ x c, X.env.cells.lookup x = some c -> c ≠ C) -> (∀ p ∈ X.pn ++ Qa, p.1 ≠ C) ->
   compPost (model X.prog X.w) X.A X.xe use QQ (.ref D) C (.ok .next) s')
  (hs : ∀ x, foldedSetIterable iter X.env x = pure x) :
  wpAny (model X.prog X.w) X.A (comprehension (.ListComp elt [⟨tg, iter, ifs, 0⟩] csc pos) csc X.env epos (newList []) false (eval iter X.env) use) QQ X.xe s := by
 have hcells := S.has_cells I;have hnames : ∀ x ∈ csc.names, x.2 = .local -> csc.names.lookup x.1 = some .local := fun x hx hl => by
  have q := List.all_eq_true.mp S.locs x hx;simpa [hl] using q
 have hcell : ∀ y ∈ csc.names, y.2 ≠ .cell := fun y hy e => by
  obtain ⟨n, k⟩ := y;have e' : k = .cell := e;subst e';exact S.no_cell hy
 refine wpAny_comprehension_free (g := ⟨tg, iter, ifs, 0⟩) (gs := []) (cl := clos X.env.cells csc.names []) rfl hs (zcq hcells) S.kind hnames ?_;refine thn (hi Qa s σ H _ I h) fun v s1 h1 => thn h1 fun itv s2 h2 => ?_;obtain ⟨it, fp, tn, J, H2, rfl, I2, T, st2, f2, W, ⟨m0, w0⟩, turn⟩ := h2;have fo : ∀ b ∈ fp, ∃ o, s2.heap.get? b = some o := fun b hb => let ⟨o, e, _⟩ := T.obj 0 _ st2 b hb; ⟨o, e⟩;have flt := zkZ fo;refine wpAny_newObj_type (wpAny_newFunctionEnv hcell (by intro y hy; simp at hy) (fun h₁ hns₁ hsb₁ => ?_) S.kind);dsimp only at hns₁ hsb₁ ⊢;generalize hH2 : s2.heap.push { cls := .type "list", dict := none, data := .seq ([] : List Value).toArray } = P2 at hns₁ hsb₁ ⊢;have hCs : P2.objs.size = s2.heap.objs.size + 1 := by rw [<- hH2, Heap.size_push]
 generalize hCC : P2.objs.size = C at hns₁ hsb₁ hCs ⊢;generalize hDD : s2.heap.objs.size = D at hCs ⊢;have hD : s2.heap.objs.size <= D := Nat.le_of_eq hDD;have hC : s2.heap.objs.size <= C := by omega
 have hDC : D ≠ C := by omega
 have old : ∀ b o, s2.heap.get? b = some o -> h₁.get? b = some o := fun b o e => hsb₁.extBut b o (Nat.ne_of_lt (Nat.lt_of_lt_of_le (yan e) hC)) (yac _ (hH2 ▸ yac _ e));have accO : h₁.get? D = some { cls := .type "list", data := .seq ([] : List Value).toArray 0 } := by
  refine hsb₁.extBut _ _ hDC (yac _ ?_);rw [<- hH2, <- hDD];exact yaj _ rfl
 have Istart : Inv (cxC X NC csc C s2 H2 fp) [] (za8 nt is σ) H2 { s2 with heap := h₁, toks := s2.toks + ([] : List (Str × Value)).length } := zfb S I2 f2 fo hC old hns₁;have HD0 : H2 D = none := I2.hok.fresh hD;have HC0 : H2 C = none := I2.hok.fresh hC;have fpY : ∀ {H' : Hp} {pl : ZP}, (∀ b ∈ fp, H' b = none) -> (∀ p ∈ pl, p.1 ∉ fp) -> ∀ b ∈ fp, FpOk (cxC X NC csc C s2 H2 fp) pl H' b := fun {H' pl} hn hp b hb => by
  obtain ⟨_, g1, g2, g3, g4, g5⟩ := f2 b hb;refine ⟨hn b hb, Nat.ne_of_lt (Nat.lt_of_lt_of_le (flt b hb) hC), fun z => ?_, .inl hb, fun x c e => g4 x c (zbN csc.names [] x c hcells (by intro d hd; simp at hd) e), fun p hpp z => ?_⟩
  ·rcases yau.mp (I2.stkSub b z) with e | e
   ·exact g1 e
   ·exact g2 e
  ·exact hp p (by simpa using hpp) (z ▸ hb)
 have dne : D ∉ fp := fun hb => absurd (flt D hb) (Nat.not_lt.mpr hD);have cellD : ∀ {σ' : St} {H' : Hp} {s' : Shared} {pl : ZP} {its : List Value} {n : Nat}, Inv (cxC X NC csc C s2 H2 fp) pl σ' H' s' -> s'.heap.get? D = some { cls := .type "list", data := .seq its.toArray n } ->
   ∀ x c, (cxC X NC csc C s2 H2 fp).env.cells.lookup x = some c -> c ≠ D := fun {σ' H' s' pl its n} K e x c hx z => by
  obtain ⟨v, o, ho, hd⟩ := K.cell x c hx;rw [z, e] at ho; cases ho; cases hd
 have loop : ∀ s₃ : Shared, s₃ = { s2 with heap := h₁, toks := s2.toks + ([] : List (Str × Value)).length } ->
   codeAny (model X.prog X.w) X.A (.compLoop (.ListComp elt [⟨tg, iter, ifs, 0⟩] csc pos) 0 (.ref it) (.ref D) (compEnvC csc (clos X.env.cells csc.names []) C X.env)) (compPost (model X.prog X.w) X.A X.xe use QQ (.ref D) C) s₃ := by
  rintro s₃ rfl
  refine zfa (fun n s' => ∃ i H' acc its k, Inv (cxC X NC csc C s2 H2 fp) [] (za8 nt is σ) H' s' /\ tn i s'.heap /\ (∀ b ∈ fp, H' b = none) /\ s'.heap.get? D = some { cls := .type "list", data := .seq its.toArray k } /\ H' D = none /\
   Vals acc its /\ acc.length <= sizeLine /\ W i n acc H') ?_ m0 ⟨0, H2, [], [], 0, Istart, T.keep _ _ _ st2 (fun b hb o e => old b o e), fun b hb => (f2 b hb).1, accO, HD0, .nil, yaq _, w0⟩
  rintro n s3 ⟨i, H3, acc, its, k, I3, st3, fr3, o3, n3, v3, z3, w3⟩
  have pinD : Inv (cxC X NC csc C s2 H2 fp) [(D, { cls := .type "list", data := .seq its.toArray k })] (za8 nt is σ) H3 s3 := I3.pins_of fun p hp => by
   have e : p = (D, { cls := .type "list", data := .seq its.toArray k }) := by simpa using hp
   subst e;refine ⟨o3, n3, hDC, fun z => ?_, fun v z => by cases z⟩;rcases yau.mp (I2.stkSub D z) with e | e
   ·exact absurd I2.lt (Nat.not_lt.mpr (by rw [<- e]; exact hD))
   ·exact I2.nofs hD e
  have fpD : ∀ p ∈ [((D, { cls := .type "list", data := .seq its.toArray k }) : Addr × Obj)], p.1 ∉ fp := fun p hp => by
   have e : p = (D, { cls := .type "list", data := .seq its.toArray k }) := by simpa using hp
   subst e; exact dne
  rcases turn i n acc H3 w3 with ⟨stop, qn⟩ | ⟨go, Qe, N, hN, step⟩
  ·refine thn (T.done (cxC X NC csc C s2 H2 fp) rfl rfl rfl hc i _ s3 _ H3 (fun _ _ => False) pinD (fpY fr3 fpD) st3 stop) fun r s4 ⟨hr, I4⟩ => ?_;subst hr;obtain ⟨e4, n4, _⟩ := I4.pin (D, { cls := .type "list", data := .seq its.toArray k }) (List.mem_append_right _ (yah.mpr rfl));have J := zdZ (NC := NC) (csc := csc) I2 f2 I4 hC hD e4 n4 v3 z3;obtain ⟨m4, hm4, _⟩ := I4.loc;have nC : H3 C = none := I4.free;refine fin s4 C D _ m4 J (qn D n4) hm4 (by rw [zaw (Ne.symm hDC)]; exact nC) (fun z => absurd I2.lt (Nat.not_lt.mpr (by rw [<- z]; exact hC))) (yat I2.sz hC) (fun x c e z => ?_) fun p hp z => ?_
   ·obtain ⟨v, o, ho, _⟩ := I2.cell x c e;exact absurd (yan ho) (Nat.not_lt.mpr (by rw [z]; exact hC))
   ·exact absurd (yan (I2.pin p hp).1) (Nat.not_lt.mpr (by rw [z]; exact hC))
  ·refine thn (T.item (cxC X NC csc C s2 H2 fp) rfl rfl rfl hc i _ s3 _ H3 (fun _ _ => False) pinD (fpY fr3 fpD) st3 go) fun r s4 ⟨u, hr, h4⟩ => ?_;subst hr;refine thn h4 fun _ s5 ⟨x, H5, I5, r5, y5, st5, fr5⟩ => ?_;have I5' := I5.pinned (fpY fr5 fpD) (T.obj _ _ st5);refine thn (hg C s2 H2 fp _ s5 _ H5 x u _ I5' r5 (hgk _ _ _ _ (step x H5 y5))) fun _ s6 ⟨σ6, H6, I6, d6, q6⟩ => ?_;refine thn (ht C s2 H2 fp _ s6 σ6 H6 _ I6 q6) fun ok s7 ⟨H7, I7, q7⟩ => ?_;have tnk : ∀ {σ' : St} {H' : Hp} {s' : Shared}, Inv (cxC X NC csc C s2 H2 fp) ([(D, { cls := .type "list", data := .seq its.toArray k })] ++ zdR fp s5.heap) σ' H' s' ->
     tn (i + 1) s'.heap /\ (∀ b ∈ fp, H' b = none) /\ s'.heap.get? D = some { cls := .type "list", data := .seq its.toArray k } /\ H' D = none := fun {σ' H' s'} K => by
    refine ⟨T.keep _ _ _ st5 fun b hb o e => (K.pin (b, o) (List.mem_append_right _ (List.mem_append_right _ (zbA hb e)))).1, fun b hb => ?_, ?_, ?_⟩
    ·obtain ⟨o, e, d⟩ := T.obj _ _ st5 b hb;exact (K.pin (b, o) (List.mem_append_right _ (List.mem_append_right _ (zbA hb e)))).2.1
    ·exact (K.pin (D, { cls := .type "list", data := .seq its.toArray k }) (List.mem_append_right _ (List.mem_append_left _ (yah.mpr rfl)))).1
    ·exact (K.pin (D, { cls := .type "list", data := .seq its.toArray k }) (List.mem_append_right _ (List.mem_append_left _ (yah.mpr rfl)))).2.1
   have reset : ∀ {σ' : St} {H' : Hp} {s' : Shared} {pl : ZP}, σ'.drop nt = (za8 nt is σ).drop nt -> Inv (cxC X NC csc C s2 H2 fp) pl σ' H' s' -> Inv (cxC X NC csc C s2 H2 fp) [] (za8 nt is σ) H' s' := fun {σ' H' s' pl} hd K => by
    have K0 : Inv (cxC X NC csc C s2 H2 fp) [] σ' H' s' := K.pins_of fun p hp => absurd hp ς;refine K0.weak ?_ fun j v hj => ?_
    ·rw [zcO, K.len]; exact S.len.symm
    ·by_cases hjn : j < nt
     ·exfalso
      unfold za8 at hj;rw [ya5 (by simpa using hjn), List.getElem?_replicate, if_pos hjn] at hj;cases hj
     ·have q := congrArg (fun l => l[j - nt]?) hd;simp only [List.getElem?_drop] at q;rw [show nt + (j - nt) = j by omega] at q;rw [q]; exact hj
   cases ok with
   | false =>
    obtain ⟨m', lt, w7⟩ : ∃ m', m' < n /\ W (i + 1) m' acc H7 := hN _ _ q7;obtain ⟨t7, f7, e7, n7⟩ := tnk I7;exact ⟨m', lt, i + 1, H7, acc, its, k, reset d6 I7, t7, f7, e7, n7, v3, z3, w7⟩
   | true =>
    have q7' : te σ6 H7 fun y H4 => N (acc ++ [y]) H4 := q7;refine thn (he C s2 H2 fp _ s7 σ6 H7 _ I7 q7') fun u8 s8 ⟨y, H8, I8, r8, qN⟩ => ?_;obtain ⟨m', lt, w8⟩ := hN _ _ qN;obtain ⟨t8, f8, e8, n8⟩ := tnk I8;have I8r := reset d6 I8;have hl := v3.length;refine call_meets F.slot_list_append ⟨_, e8, rfl⟩ F.entry_list_append (F.args_list_append_2 _ _) (PySem.list_append D its.toArray k u8 (by rw [yad]; omega)) ⟨e8, ?_⟩;have q := PySem.IsL.update e8 (fun a => a.push u8);have hq : (its.toArray.push u8) = (its ++ [u8]).toArray := by simp
    rw [hq] at q;have kk : ∀ b o, b ≠ D -> s8.heap.get? b = some o -> (s8.heap.update D (Obj.mapSeq fun a => a.push u8)).get? b = some o := fun b o hb e => (Heap.get?_update_other s8.heap _ (Ne.symm hb)).trans e;refine ⟨m', lt, i + 1, H8, acc ++ [y], its ++ [u8], _, I8r.turned (t' := s8.toks) kk n8 hDC (.inr hD) (cellD I8r e8) (fun p hp => absurd (show p ∈ ([] : ZP) from hp) ς), T.keep _ _ _ t8 (fun b hb o e => kk b o (fun z => dne (z ▸ hb)) e), f8, q, n8, v3.append (.cons r8 .nil), ?_, w8⟩;rw [yae, yas];omega
 exact codeAny_compStart_list (loop _ rfl) (T.self X.A 0 _ _ _ (T.keep _ _ _ st2 (fun b hb o e => old b o e)) (loop _ rfl))
theorem zaG {i nt : Nat} (hi : i < nt) : ∀ x (σ : St) (H : Hp) Q, zeo i x σ H Q -> zeo i x σ H fun σ2 H2 => σ2.drop nt = σ.drop nt /\ Q σ2 H2 := fun x σ H Q h => ⟨List.drop_set_of_lt hi, h⟩
theorem zeu {elt tg iter : Expr} {ifs : List Expr} {pos : Pos} {wi : TI} {g : TG} {tt : TT} {te : TE} (nt : Nat) (is : List Nat) (NC : List Str)
  (S : CompSc X NC nt is csc) (hc : X.calm = true) (hi : PI X tg iter wi)
  (hg : ∀ C s H ex, PG (cxC X NC csc C s H ex) tg g) (hgk : ∀ x (σ : St) H Q, g x σ H Q -> g x σ H fun σ2 H2 => σ2.drop nt = σ.drop nt /\ Q σ2 H2)
  (ht : ∀ C s H ex, PIf (cxC X NC csc C s H ex) ifs tt) (he : ∀ C s H ex, PE (cxC X NC csc C s H ex) elt te)
  (hs : ∀ x, foldedSetIterable iter X.env x = pure x := by intro _; rfl) : PE X (.ListComp elt [⟨tg, iter, ifs, 0⟩] csc pos) (zha wi nt is g tt te) := by
 intro Qa s σ H Q I h;rw [eval_ListComp];refine zgg S hc hi hg ht he hgk I h (fun s' C D H' m J q hm hC hL hz hcl hp => ⟨m, hm, fun h' hsb => ?_⟩) hs;exact ⟨.ref D, H', J.turned (t' := s'.toks) (fun b o hb e => hsb.extBut b o hb e) hC hL (.inr hz) hcl hp, rfl, q⟩
theorem zbB {i : Nat} {y : Str} {elt tg iter : Expr} {ifs : List Expr} {pos spos py : Pos} {wi : TI} {g : TG} {tt : TT} {te : TE} (nt : Nat) (is : List Nat) (NC : List Str) (hN : X.N.Nodup) (hy : X.N[i]? = some y) (hyl : X.env.scope.names.lookup y = some .local)
  (S : CompSc X NC nt is csc) (hc : X.calm = true) (hi : PI X tg iter wi)
  (hg : ∀ C s H ex, PG (cxC X NC csc C s H ex) tg g) (hgk : ∀ x (σ : St) H Q, g x σ H Q -> g x σ H fun σ2 H2 => σ2.drop nt = σ.drop nt /\ Q σ2 H2)
  (ht : ∀ C s H ex, PIf (cxC X NC csc C s H ex) ifs tt) (he : ∀ C s H ex, PE (cxC X NC csc C s H ex) elt te)
  (hsw : swapsWith (.ListComp elt [⟨tg, iter, ifs, 0⟩] csc pos) (some (.Name y py)) spos.line X.env = pure true := by rfl)
  (hs : ∀ x, foldedSetIterable iter X.env x = pure x := by intro _; rfl) : PS X (.Assign [.Name y py] (.ListComp elt [⟨tg, iter, ifs, 0⟩] csc pos) spos) (tAsg (zha wi nt is g tt te) (zeo i)) := by
 intro Qa s σ H D I h;rw [exec_Assign_Name_used _ _ _ _ hsw];refine yaa (wpAny_standAt (yaa ?_));show wpAny _ X.A (do let _ <- comprehension (.ListComp elt [⟨tg, iter, ifs, 0⟩] csc pos) csc X.env _ (newList []) false (eval iter X.env) (some (assign (.Name y py) X.env))) _ _ s;refine yaa (thn (zgg (QQ := fun _ s' => SP X Qa D .next s') S hc hi hg ht he hgk I h (fun s' C Da H' m J q hm hC hL hz hcl hp => ?_) hs) fun _ s' hq => yab (yab hq));show wpAny _ X.A (assign (.Name y py) X.env (.ref Da)) _ _ _;refine wpAny_assign_Name (zeN J hN hy (.inl hyl) (v := .ref Da) rfl (fun s'' J' ⟨a, hsb, ha⟩ => ⟨m, hm.sameBut hsb (fun z => ?_), fun h3 hs3 => ?_⟩) (.inr hyl))
 ·rcases ha with e | e
  ·exact hL (z.trans e)
  ·exact hcl y a e z.symm
 ·exact ⟨_, H', J'.turned (t' := s''.toks) (fun b o hb e => hs3.extBut b o hb e) hC hL (.inr hz) hcl hp, q⟩
end
section
variable {K : W.Frag} {nt : Nat} {is : List Nat} {g : TG} {tt : TT} {te : TE} {σ : St} {H : Hp} {Q : VK}
def zhb (J : It) (nt : Nat) (is : List Nat) (g : TG) (tt : TT) (te : TE) (σ : St) (H : Hp) (Q : VK) : Prop := ∃ W : Nat -> Nat -> List V -> Hp -> Prop, (∃ m, W 0 m [] H) /\ ∀ i m acc H, W i m acc H ->
 (J.stop i H /\ ∀ p, H p = none -> Q (.ref p) (upd H p (.lst acc))) \/
 (J.go i H /\ acc.length < sizeLine /\ ∃ N : List V -> Hp -> Prop, (∀ acc' H', N acc' H' -> ∃ m', m' < m /\ W (i + 1) m' acc' H') /\ ∀ x H', J.yld i H x H' -> g x (za8 nt is σ) H' fun σ2 H2 => tt σ2 H2 fun b H3 =>
  if b = true then te σ2 H3 fun y H4 => N (acc ++ [y]) H4 else N acc H3)
theorem zjq {wi : TI} : zha wi nt is g tt te σ H Q = wi σ H fun J H1 => zhb J nt is g tt te σ H1 Q := rfl
theorem zev {J : It} {n : Nat} (Pv : Nat -> List V -> Hp -> Prop) (h0 : Pv 0 [] H)
  (hgo : ∀ i acc H, i < n -> Pv i acc H -> J.go i H /\ acc.length < sizeLine /\ ∀ x H', J.yld i H x H' -> g x (za8 nt is σ) H' fun σ2 H2 => tt σ2 H2 fun b H3 => if b = true then te σ2 H3 fun y H4 => Pv (i + 1) (acc ++ [y]) H4 else Pv (i + 1) acc H3)
  (hst : ∀ acc H, Pv n acc H -> J.stop n H /\ ∀ p, H p = none -> Q (.ref p) (upd H p (.lst acc))) : zhb J nt is g tt te σ H Q := by
 refine ⟨fun i m acc H => m = n - i /\ i <= n /\ Pv i acc H, ⟨n,ς, yaq _, h0⟩, ?_⟩
 rintro i m acc H ⟨rfl, hi, p⟩
 by_cases hlt : i < n
 ·obtain ⟨h1, h2, h3⟩ := hgo i acc H hlt p;exact .inr ⟨h1, h2, Pv (i + 1), fun acc' H' q => ⟨n - (i + 1),ω, rfl, hlt, q⟩, h3⟩
 ·have e : i = n := by omega
  subst e;exact .inl (hst acc H p)
theorem zcP {lo : Int} {n : Nat} (Pv : Nat -> List V -> Hp -> Prop) (h0 : Pv 0 [] H)
  (hs : ∀ i acc H, i < n -> Pv i acc H -> acc.length < sizeLine /\ g (.int (lo + i)) (za8 nt is σ) H fun σ2 H2 => tt σ2 H2 fun b H3 => if b = true then te σ2 H3 fun y H4 => Pv (i + 1) (acc ++ [y]) H4 else Pv (i + 1) acc H3)
  (hd : ∀ acc H, Pv n acc H -> ∀ p, H p = none -> Q (.ref p) (upd H p (.lst acc))) : zhb (Itr lo n) nt is g tt te σ H Q := by
 refine zev (n := n) Pv h0 (fun i acc H hi p => ?_) fun acc H p => ⟨yai _, hd acc H p⟩
 obtain ⟨h1, h2⟩ := hs i acc H hi p;refine ⟨hi, h1, fun x H' y => ?_⟩;obtain ⟨rfl, rfl⟩ := y;exact h2
theorem zgh {z : Str} (Pv : Nat -> List V -> Hp -> Prop) (h0 : Pv 0 [] H)
  (hs : ∀ i c acc H, z.cps.toList[i]? = some c -> Pv i acc H -> acc.length < sizeLine /\ g (.str ⟨#[c]⟩) (za8 nt is σ) H fun σ2 H2 => tt σ2 H2 fun b H3 => if b = true then te σ2 H3 fun y H4 => Pv (i + 1) (acc ++ [y]) H4 else Pv (i + 1) acc H3)
  (hd : ∀ acc H, Pv z.cps.toList.length acc H -> ∀ p, H p = none -> Q (.ref p) (upd H p (.lst acc))) : zhb (Its z) nt is g tt te σ H Q := by
 have hl : z.cps.toList.length = z.cps.size := by simp
 refine zev (n := z.cps.toList.length) Pv h0 (fun i acc H hi p => ?_) fun acc H p => ⟨Nat.le_of_eq hl.symm, hd acc H p⟩
 have hx : z.cps.toList[i]? = some z.cps.toList[i] := by simp [hi]
 obtain ⟨h1, h2⟩ := hs i _ acc H hx p;refine ⟨(by show i < z.cps.size; omega), h1, fun x H' y => ?_⟩;obtain ⟨rfl, c, hc, rfl⟩ := y;rw [<- Array.getElem?_toList, hx] at hc;cases hc;exact h2
theorem zbO {a : Addr} {xs : List V} (Pv : Nat -> List V -> Hp -> Prop) (h0 : Pv 0 [] H) (hl : ∀ i acc H, i <= xs.length -> Pv i acc H -> SqL K H a xs)
  (hs : ∀ i x acc H, xs[i]? = some x -> Pv i acc H -> acc.length < sizeLine /\ g x (za8 nt is σ) H fun σ2 H2 => tt σ2 H2 fun b H3 => if b = true then te σ2 H3 fun y H4 => Pv (i + 1) (acc ++ [y]) H4 else Pv (i + 1) acc H3)
  (hd : ∀ acc H, Pv xs.length acc H -> ∀ p, H p = none -> Q (.ref p) (upd H p (.lst acc))) : zhb (Itl K a) nt is g tt te σ H Q := by
 refine zev (n := xs.length) Pv h0 (fun i acc H hi p => ?_) fun acc H p => ⟨⟨xs, hl _ _ _ (yai _) p, yai _⟩, hd acc H p⟩
 have hx : xs[i]? = some xs[i] := by simp [hi]
 have q := hl i acc H (Nat.le_of_lt hi) p;obtain ⟨h1, h2⟩ := hs i _ acc H hx p;refine ⟨⟨xs, _, q, hx⟩, h1, fun x H' y => ?_⟩;obtain ⟨rfl, y⟩ := y;have e := y xs q;rw [hx] at e;cases e;exact h2
end
section
variable {X : Cx}
theorem call_all (hc : X.calm = true) : zbW X (.builtin "all") (fun xs H Q => ∃ (p : Addr) (bs : List Bool), xs = [.ref p] /\ SqL X.K H p (bs.map V.bl) /\ Q (.bl (bs.all id)) H) := by
 intro Qa s σ H xs us Q I r h;obtain ⟨p, bs, rfl, hq, q⟩ := h;obtain ⟨u, rfl, rx⟩ := zep r;cases rx;obtain ⟨its, rv, pl, hz⟩ := I.list hq;have Qe : bs.length = its.length := by have := rv.length; simpa using this
 refine call_all_walk (wpAny_pyIter_list pl.isList ?_);have hne : p ≠ s.heap.objs.size := by
  obtain ⟨o, _, e, _⟩ := pl;exact Nat.ne_of_lt (yan e)
 refine ⟨s.heap.objs.size, _, _, _, _, _, fun i => bs.getD i false, rfl, Walks.list (A := X.A.in1) (show X.A.in1.handled = none from I.ok.hd hc) _ p hne its.toArray, ⟨⟨_, yaj _ rfl, rfl, rfl⟩, pl.isList.push _⟩, ?_, fun h' tk hk => ?_⟩
 ·intro i v s' Q' E' hP hQ';have hv : its[i]? = some v := by simpa using hP
  have hi : i < bs.length := by rw [Qe]; exact (yag.mp hv).1
  obtain ⟨v', hv', rv'⟩ := rv.get (i := i) (x := V.bl bs[i]) (by simp [hi]);rw [hv] at hv'; cases hv';cases (show v = Value.bool bs[i] from rv');have e : bs.getD i false = bs[i] := by simp [hi]
  have hQ2 : Q' (bs.getD i false) s' := hQ';rw [e] at hQ2;exact wpAny_truthy_bool hQ2
 ·have e : ((List.range its.toArray.size).all fun i => bs.getD i false) = bs.all id := by
   rw [yad, <- Qe];rw [Bool.eq_iff_iff, List.all_eq_true, List.all_eq_true]
   constructor
   ·intro h x hx;obtain ⟨i, hi, rfl⟩ := List.mem_iff_getElem.mp hx;have := h i (List.mem_range.mpr hi);simpa [hi] using this
   ·intro h i hi;have hi' := List.mem_range.mp hi;have := h bs[i] (List.getElem_mem hi');simpa [hi'] using this
  rw [e];refine ⟨.bl (bs.all id), H, ?_, rfl, q⟩;exact I.kept (t' := tk) fun b o e => hk b o (fun z => absurd (yan e) (Nat.not_lt.mpr (Nat.le_of_eq (yah.mp z).symm))) (yac _ e)
theorem zcQ : ∀ {ys : List Str} {us : List Value}, Vals (ys.map V.str) us -> StrsAre us ys
 | [], _, r => by rw [List.map_nil] at r; cases r; exact .nil
 | y :: ys, _, r => by
  rw [List.map_cons] at r;cases r with
  | cons r1 r2 =>
   obtain ⟨t, rfl⟩ := r1;exact .cons y t (zcQ r2)
def zmK (K : W.Frag) : V -> List V -> Hp -> VK -> Prop := fun x vs H Q => ∃ (sep : Str) (p : Addr) (ys : List Str), x = .str sep /\ vs = [.ref p] /\ SqL K H p (ys.map V.str) /\ (ys.map (·.length)).sum + ys.length * sep.length <= 16777216 /\ Q (.str (Txt.join sep ys)) H
theorem zla : MtR X "str.join" (zmK X.K) := by
 intro Qa s σ H x vs v us Q I rx rv h;obtain ⟨sep, p, ys, rfl, rfl, hq, hz, q⟩ := h;obtain ⟨t, rfl⟩ := rx;obtain ⟨u, rfl, ru⟩ := zep rv;cases ru;obtain ⟨its, r', pl, _⟩ := I.list hq;exact join_list pl.isList (by simpa using zcQ r') hz fun t' k => ⟨.str _, H, I.tok _, ⟨t', rfl⟩, q⟩
def zlb (K : W.Frag) (T : String) : List V -> Hp -> VK -> Prop := fun vs H Q => ∃ x t b, vs = [x, .ty T] /\ TyOf K H x t /\ W.kitOne K t (.type T) = some b /\ Q (.bl b) H
theorem zhW {T : String} : zbW X (.builtin "isinstance") (zlb X.K T) := by
 intro Qa s σ H xs us Q I r h;obtain ⟨x, t, b, rfl, ty, e, q⟩ := h;obtain ⟨u, u2, rfl, rx, r2⟩ := zjk r;cases (show u2 = Value.type T from r2);exact zhK I rx ty e fun tk => ⟨.bl b, H, I.tok tk, rfl, q⟩
variable {tg l : Expr} {tl : TE} {a : Expr} {pos : Pos} {tA : TT}
theorem zaz : OpR X (binaryOp .Mod) (rI (fun _ j => 0 < j) fun i j => .int (i % j)) := zm3
theorem zaB : OpR X (binaryOp .FloorDiv) (rI CDiv fun i j => .int (i / j)) := zkN
def zmL : R2 := fun x y H Q => ∃ i j, x = .str i /\ y = .str j /\ i.length + j.length <= sizeLine /\ Q (.str (i ++ j)) H
def zo0 (K : W.Frag) : R2 := fun x y H Q => rI0 (fun i j => .int (i + j)) x y H Q \/ (zmL x y H Q \/ (rCat x y H Q \/ zmC K x y H Q))
def zjr : R2 := fun x y H Q => rI CMul (fun i j => .int (i * j)) x y H Q \/ rRep x y H Q
theorem zbI : OpR X (binaryOp .Mult) zjr := OpR.or zm2 zmH
theorem zmM (hu : X.A.units + 64 < cLine) : OpR X (compareOp .NotEq) rNe := zm5
def rLtS : R2 := fun x y H Q => ∃ i j, x = .str i /\ y = .str j /\ Q (.bl (decide (i.cps.toList < j.cps.toList))) H
def rLtA : R2 := fun x y H Q => rI0 (fun i j => .bl (decide (i < j))) x y H Q \/ rLtS x y H Q
theorem zgi : OpR X (compareOp .Lt) rLtA := OpR.or zoy zhE
def inS (i j : Str) : Bool := !(Builtin.Str.occurrences j i 0 j.length 1).isEmpty
def rInS (neg : Bool) : R2 := fun x y H Q => ∃ i j, x = .str i /\ y = .str j /\ Q (.bl (if neg then !inS i j else inS i j)) H
def rInA (K : W.Frag) (neg : Bool) : R2 := fun x y H Q => rInS neg x y H Q \/ rIn K neg x y H Q
theorem zhX (K : W.Frag) (hK : X.K = K := by rfl) : OpR X (compareOp .In) (rInA K false) := hK ▸ (OpR.or zhF zhP : OpR X (compareOp .In) (rInA X.K false))
theorem zhY (K : W.Frag) (hK : X.K = K := by rfl) : OpR X (compareOp .NotIn) (rInA K true) := hK ▸ (OpR.or zeX zeW : OpR X (compareOp .NotIn) (rInA X.K true))
def rSlA (K : W.Frag) : V -> Option Int -> Option Int -> Hp -> VK -> Prop := fun x lo hi H Q => rSlS x lo hi H Q \/ (rSlL K x lo hi H Q \/ rSlT K x lo hi H Q)
theorem ixA (K : W.Frag) (hK : X.K = K := by rfl) : IxR X (rIx K) := hK ▸ (ix_seq : IxR X (rIx X.K))
def zjs (K : W.Frag) (x : V) (H : Hp) (R : It -> Hp -> Prop) : Prop := (∃ z, x = .str z /\ R (Its z) H) \/ (∃ a, x = .ref a /\ (∃ xs, SqL K H a xs) /\ R (Itl K a) H) \/ (∃ a, x = .ref a /\ (∃ xs, SqT K H a xs) /\ R (Itt K a) H)
def iAny (K : W.Frag) (tl : TE) : TI := fun σ H R => tl σ H fun x H1 => zjs K x H1 R
theorem zbS (K : W.Frag) (hl : PE X l tl) (hK : X.K = K := by rfl) : PI X tg l (iAny K tl) := by
 subst hK;intro Qa s σ H R I h;refine thn (hl Qa s σ H _ I h) fun v s1 ⟨x, H1, I1, r1, q1⟩ => ?_;rcases q1 with ⟨z, rfl, q⟩ | ⟨a, rfl, hq, q⟩ | ⟨a, rfl, hq, q⟩
 ·exact zhV I1 r1 q
 ·obtain ⟨xs, hq⟩ := hq;cases r1;obtain ⟨its, rv, p, hz⟩ := I1.list hq;refine wpAny_pyIter_list p.isList ?_;refine ⟨s1.heap.objs.size, [s1.heap.objs.size], _, _, H1, rfl, I1.kept (t' := s1.toks) fun b o e => yac _ e, zh7 a _, ⟨_, yaj _ rfl, rfl, rfl⟩, fun b hb => ?_, q⟩;have e : b = s1.heap.objs.size := by simpa using hb
  subst e;exact I1.fpOk (yai _) (I1.hok.fresh (yai _))
 ·obtain ⟨xs, hq⟩ := hq;cases r1;obtain ⟨its, rv, p, hz⟩ := I1.tuple hq;refine wpAny_pyIter_tuple (show s1.heap.IsTuple a its.toArray from p) ?_;refine ⟨s1.heap.objs.size, [s1.heap.objs.size], _, _, H1, rfl, I1.kept (t' := s1.toks) fun b o e => yac _ e, zgQ a _, ⟨_, yaj _ rfl, rfl, rfl⟩, fun b hb => ?_, q⟩;have e : b = s1.heap.objs.size := by simpa using hb
  subst e;exact I1.fpOk (yai _) (I1.hok.fresh (yai _))
end
section
variable {X : Cx} {o e : Expr} {es : List Expr} {to : TE} {t : TA} {name : Str} {apos cpos : Pos} {T iid : String} {r : V -> List V -> Hp -> VK -> Prop}
def rLen (K : W.Frag) : List V -> Hp -> VK -> Prop := fun xs H Q => ∃ x n, xs = [x] /\ LenV K x H n /\ Q (.int n) H
theorem za1 (K : W.Frag) (hK : X.K = K := by rfl) : zbW X (.builtin "len") (rLen K) := hK ▸ (call_len : zbW X (.builtin "len") (rLen X.K))
def rAll (K : W.Frag) : List V -> Hp -> VK -> Prop := fun xs H Q => ∃ (p : Addr) (bs : List Bool), xs = [.ref p] /\ SqL K H p (bs.map V.bl) /\ Q (.bl (bs.all id)) H
theorem zfc (K : W.Frag) (hc : X.calm = true) (hK : X.K = K := by rfl) : zbW X (.builtin "all") (rAll K) := hK ▸ (call_all hc : zbW X (.builtin "all") (rAll X.K))
def zew (K : W.Frag) : List V -> Hp -> VK -> Prop := fun xs H Q => ∃ p ys, xs = [.ref p] /\ ((SqL K H p ys /\ ∀ l, H l = none -> Q (.ref l) (upd H l (.tup ys))) \/ (SqT K H p ys /\ Q (.ref p) H))
theorem zbC (K : W.Frag) (hK : X.K = K := by rfl) : zbW X (.type "tuple") (zew K) := hK ▸ (call_tuple_of : zbW X (.type "tuple") (zew X.K))
def zlc (K : W.Frag) : List V -> Hp -> VK -> Prop := fun xs H Q => ∃ p ys, xs = [.ref p] /\ (SqL K H p ys \/ SqT K H p ys) /\ ∀ l, H l = none -> Q (.ref l) (upd H l (.lst ys))
def zgj : List V -> Hp -> VK -> Prop := fun xs H Q => (∃ i, xs = [.int i] /\ Q (.int i) H) \/ ∃ k, xs = [.bl k] /\ Q (.int (if k then 1 else 0)) H
theorem zhZ : zbW X (.type "int") zgj := zhG
theorem zbP (K : W.Frag) (pa : PlainAttrs T) (slot : Slot T name iid) (hty : typeOf (.builtin iid) = pure (.type "method_descriptor")) (hm : MtR X iid r) (ho : PE X o to) (ha : PA X (e :: es) t) (hK : X.K = K := by rfl)
  (hbase : attributeBase o name X.env (eval o X.env) = eval o X.env := by rfl)
  (hfew : ((backTo cpos (starEach (e :: es) X.env)).all (fun x => !x.1) && (backToKw cpos (keywordEach [] X.env)).all (fun x => x.1.isSome)
   && decide ((e :: es).length + ([] : List Keyword).length + (if ([] : List Keyword).isEmpty then 0 else 1) < 30)) = true := by rfl)
  (hline : (apos.endLine == cpos.line) = true := by rfl) (hs : starEach (e :: es) X.env = (false, eval e X.env) :: starEach es X.env := by rfl) (hplain : (backTo cpos (starEach es X.env)).any (·.1) = false := by rfl) :
  PE X (.Call (.Attribute o name apos) (e :: es) [] cpos) (tBM K T r to t) := hK ▸ zoz pa slot hty hm ho ha hbase hfew hline hs hplain
end
section
variable {K : W.Frag} {g : TG} {tb : TS} {D : Ends} {σ : St} {H : Hp}
def ForW (J : It) (g : TG) (tb : TS) (D : Ends) (σ : St) (H : Hp) : Prop := ∃ W : Nat -> Nat -> St -> Hp -> Prop, (∃ m, W 0 m σ H) /\ ∀ i m σ H, W i m σ H ->
 (J.stop i H /\ D.nx σ H) \/ (J.go i H /\ ∃ N : St -> Hp -> Prop, (∀ σ' H', N σ' H' -> ∃ m', m' < m /\ W (i + 1) m' σ' H') /\ ∀ x H', J.yld i H x H' -> g x σ H' fun σ2 H2 => tb { D with nx := N, ct := N, bk := D.nx } σ2 H2)
theorem zld {wi : TI} : tFor wi g tb D σ H = wi σ H fun J H1 => ForW J g tb D σ H1 := rfl
theorem zia {a : Addr} {xs : List V} (Pv : Nat -> St -> Hp -> Prop) (h0 : Pv 0 σ H) (hl : ∀ i σ H, i <= xs.length -> Pv i σ H -> SqL K H a xs)
  (hs : ∀ i x σ H, xs[i]? = some x -> Pv i σ H -> g x σ H fun σ2 H2 => tb { D with nx := Pv (i + 1), ct := Pv (i + 1), bk := D.nx } σ2 H2) (hd : ∀ σ H, Pv xs.length σ H -> D.nx σ H) : ForW (Itl K a) g tb D σ H := zjh Pv h0 hl hs hd
theorem zea {lo : Int} {n : Nat} (Pv : Nat -> St -> Hp -> Prop) (h0 : Pv 0 σ H)
  (hs : ∀ i σ H, i < n -> Pv i σ H -> g (.int (lo + i)) σ H fun σ2 H2 => tb { D with nx := Pv (i + 1), ct := Pv (i + 1), bk := D.nx } σ2 H2) (hd : ∀ σ H, Pv n σ H -> D.nx σ H) : ForW (Itr lo n) g tb D σ H := zh9 Pv h0 hs hd
theorem zex {x : Str} (Pv : Nat -> St -> Hp -> Prop) (h0 : Pv 0 σ H)
  (hs : ∀ i c σ H, x.cps.toList[i]? = some c -> Pv i σ H -> g (.str ⟨#[c]⟩) σ H fun σ2 H2 => tb { D with nx := Pv (i + 1), ct := Pv (i + 1), bk := D.nx } σ2 H2) (hd : ∀ σ H, Pv x.cps.toList.length σ H -> D.nx σ H) : ForW (Its x) g tb D σ H := zkY Pv h0 hs hd
end
theorem zaq {n : Nat} (h : n <= 100000) : n <= sizeLine := yat h (by rw [sizeLine_eq]; decide)
theorem zcb {n : Nat} (h : n <= 100000) : n < sizeLine := Nat.lt_of_le_of_lt h (by rw [sizeLine_eq]; decide)
theorem zaf {H : Hp} {p : Addr} (h : H p = none) (o : HO) : Same H (upd H p o) := fun b u q => by rw [zaw (zas q h)]; exact q
theorem Same.seqT {K : W.Frag} {H H' : Hp} {a : Addr} {xs : List V} (e : Same H H') (h : SqT K H a xs) : SqT K H' a xs := by
 rcases h with (h | ⟨o, h⟩) | h
 ·exact .inl (.inl (e _ _ h))
 ·exact .inl (.inr ⟨o, e _ _ h⟩)
 ·exact .inr h
theorem zov {α : Type} {xs : List α} {i : Int} (h0 : 0 <= i) (h1 : i < xs.length) : ∃ v, v ∈ xs /\ atI xs i = some v := by
 have hk : i.toNat < xs.length := by omega
 have e : i = ((i.toNat : Nat) : Int) := by omega
 refine ⟨xs[i.toNat], List.getElem_mem hk, ?_⟩;have q : atI xs ((i.toNat : Nat) : Int) = some xs[i.toNat] := zaI (by simp [hk]);rw [<- e] at q;exact q
theorem zey {α : Type} {xs : List α} {i : Int} {d : α} (h0 : 0 <= i) (h1 : i < xs.length) : atI xs i = some (xs.getD i.toNat d) := by
 have hk : i.toNat < xs.length := by omega
 have e : i = ((i.toNat : Nat) : Int) := by omega
 have q : atI xs ((i.toNat : Nat) : Int) = some xs[i.toNat] := zaI (by simp [hk]);rw [<- e] at q;rw [q]; simp [hk]
def zib (K : W.Frag) : Sp := fun vs H Q _ => ∃ (a : Addr) (ns : List Int), vs = [.ref a] /\ SqL K H a (ns.map V.int) /\ ns.length <= 63 /\ ∀ H', Q (.bl true) H'
section
variable {K : W.Frag} {H : Hp} {Q : VK} {σ : St} {D : Ends} {ta tb tc te : TE} {tt tA tB' : TT} {t u : TS} {g : TG} {r : R2} {tl : TA} {v0 v1 v2 v3 v4 v5 v6 v7 v8 v9 v10 v11 : V}
 {o0 o1 o2 o3 o4 o5 o6 o7 o8 o9 o10 o11 : Option V} {rr : St}
theorem w_v0 : tVar 0 (some v0 :: rr) H Q = Q v0 H := by simp [tVar]
theorem w_v1 : tVar 1 (o0 :: some v1 :: rr) H Q = Q v1 H := by simp [tVar]
theorem w_v2 : tVar 2 (o0 :: o1 :: some v2 :: rr) H Q = Q v2 H := by simp [tVar]
theorem w_v3 : tVar 3 (o0 :: o1 :: o2 :: some v3 :: rr) H Q = Q v3 H := by simp [tVar]
theorem w_v4 : tVar 4 (o0 :: o1 :: o2 :: o3 :: some v4 :: rr) H Q = Q v4 H := by simp [tVar]
theorem w_v5 : tVar 5 (o0 :: o1 :: o2 :: o3 :: o4 :: some v5 :: rr) H Q = Q v5 H := by simp [tVar]
theorem w_v6 : tVar 6 (o0 :: o1 :: o2 :: o3 :: o4 :: o5 :: some v6 :: rr) H Q = Q v6 H := by simp [tVar]
theorem w_v7 : tVar 7 (o0 :: o1 :: o2 :: o3 :: o4 :: o5 :: o6 :: some v7 :: rr) H Q = Q v7 H := by simp [tVar]
theorem w_v8 : tVar 8 (o0 :: o1 :: o2 :: o3 :: o4 :: o5 :: o6 :: o7 :: some v8 :: rr) H Q = Q v8 H := by simp [tVar]
theorem w_v9 : tVar 9 (o0 :: o1 :: o2 :: o3 :: o4 :: o5 :: o6 :: o7 :: o8 :: some v9 :: rr) H Q = Q v9 H := by simp [tVar]
theorem zo1 : tVar 10 (o0 :: o1 :: o2 :: o3 :: o4 :: o5 :: o6 :: o7 :: o8 :: o9 :: some v10 :: rr) H Q = Q v10 H := by simp [tVar]
theorem zo2 : tVar 11 (o0 :: o1 :: o2 :: o3 :: o4 :: o5 :: o6 :: o7 :: o8 :: o9 :: o10 :: some v11 :: rr) H Q = Q v11 H := by simp [tVar]
theorem w_c {v : V} : tC v σ H Q = Q v H := rfl
theorem zo3 : tSeq t u D σ H = t { D with nx := u D } σ H := rfl
theorem zo4 : tIfS tt t u D σ H = tt σ H fun b H1 => if b = true then t D σ H1 else u D σ H1 := rfl
theorem zmN : zmy D σ H = D.nx σ H := rfl
theorem zo5 : tRet te D σ H = te σ H D.rt := rfl
theorem zmO : zmz te D σ H = te σ H fun _ H1 => D.nx σ H1 := rfl
theorem zo6 : tAsg te g D σ H = te σ H fun x H1 => g x σ H1 D.nx := rfl
theorem zcR {i : Nat} {x : V} {Qs : St -> Hp -> Prop} : zeo i x σ H Qs = Qs (σ.set i (some x)) H := rfl
theorem w_op : tOp r ta tb σ H Q = ta σ H fun x H1 => tb σ H1 fun y H2 => r x y H2 Q := rfl
theorem w_un {f : V -> Hp -> VK -> Prop} : tUn f ta σ H Q = ta σ H fun x H1 => f x H1 Q := rfl
variable {Qb : Bool -> Hp -> Prop} {Qs : List V -> Hp -> Prop}
theorem zmP : zji te σ H Qb = te σ H fun x H' => ∃ k, x = .bl k /\ Qb k H' := rfl
theorem w_B : tB te σ H Qb = te σ H fun x H' => ∃ k, x = .bl k /\ Qb k H' := rfl
theorem w_bl {b : Bool} {P : Bool -> Prop} : (∃ k, V.bl b = .bl k /\ P k) = P b := by
 refine propext ⟨fun ⟨k, e, h⟩ => ?_, fun h => ⟨b, rfl, h⟩⟩;cases e; exact h
theorem zp2 {b : Bool} {P : Bool -> Prop} {P2 : Bool -> Prop} : (∃ k, V.bl b = .bl k /\ if k = true then P k else P2 k) = if b = true then P b else P2 b := w_bl
theorem zo7 : tAnd tA tB' σ H Qb = tA σ H fun c H1 => if c = true then tB' σ H1 Qb else Qb false H1 := rfl
theorem w_or : tOr tA tB' σ H Qb = tA σ H fun c H1 => if c = true then Qb true H1 else tB' σ H1 Qb := rfl
theorem w_not : tNot tA σ H Qb = tA σ H fun c H1 => Qb (!c) H1 := rfl
theorem zmQ : zmx ta tb σ H Q = ta σ H fun x H1 => ∃ c, x = .bl c /\ if c = true then tb σ H1 Q else Q (.bl false) H1 := rfl
theorem zmR : zmJ σ H Qb = Qb true H := rfl
theorem zo8 : tNil σ H Qs = Qs [] H := rfl
theorem zmS : zkT ta tl σ H Qs = ta σ H fun x H1 => tl σ H1 fun xs H2 => Qs (x :: xs) H2 := rfl
theorem zo9 : tTup tl σ H Q = tl σ H fun xs H1 => xs.length <= sizeLine /\ ∀ p, H1 p = none -> Q (.ref p) (upd H1 p (.tup xs)) := rfl
theorem zoA : tLst tl σ H Q = tl σ H fun xs H1 => xs.length <= sizeLine /\ ∀ p, H1 p = none -> Q (.ref p) (upd H1 p (.lst xs)) := rfl
theorem zmT {sp : Sp} {dvs : List V} {E : XK} : zkU sp dvs E tl σ H Q = tl σ H fun vs H1 => sp (vs ++ dvs) H1 Q E := rfl
theorem w_CB {f : List V -> Hp -> VK -> Prop} : tCB f tl σ H Q = tl σ H fun vs H1 => f vs H1 Q := rfl
theorem w_BM {T : String} {f : V -> List V -> Hp -> VK -> Prop} : tBM K T f te tl σ H Q = te σ H fun x H1 => tyV K T x H1 /\ tl σ H1 fun xs H2 => f x xs H2 Q := rfl
theorem zjt {T : String} {x : Str} : tyV K T (.str x) H = (T = "str") := rfl
theorem zic {T : String} {p : Addr} (h : T = "list") : tyV K T (.ref p) H = ∃ xs, SqL K H p xs := by
 subst h;refine propext ⟨fun h => ?_, fun h => .inl ⟨rfl, h⟩⟩;rcases h with ⟨_, h⟩ | ⟨h, _⟩ | ⟨h, _⟩ | ⟨h, _⟩
 ·exact h
 ·exact absurd h δ
 ·exact absurd h δ
 ·exact absurd h δ
variable {tlo thi : TO} {Qo : Option Int -> Hp -> Prop}
theorem w_sl {f : V -> Option Int -> Option Int -> Hp -> VK -> Prop} : tSl f te tlo thi σ H Q = te σ H fun x H1 => tlo σ H1 fun l H2 => thi σ H2 fun u H3 => f x l u H3 Q := rfl
theorem zju : zhL σ H Qo = Qo none H := rfl
theorem zmU : zmA te σ H Qo = te σ H fun x H1 => ∃ i, x = .int i /\ Qo (some i) H1 := rfl
theorem zoB {i : Int} {P : Int -> Prop} : (∃ k, V.int i = .int k /\ P k) = P i := by
 refine propext ⟨fun ⟨k, e, h⟩ => ?_, fun h => ⟨i, rfl, h⟩⟩;cases e; exact h
variable {i j : Int} {x y : Str} {b c : Bool} {p q : Addr} {gi : Int -> Int -> V} {C : Int -> Int -> Prop}
theorem zmV : rI0 gi (.int i) (.int j) H Q = Q (gi i j) H := by
 refine propext ⟨fun ⟨_, _, e1, e2, h⟩ => ?_, fun h => ⟨i, j, rfl, rfl, h⟩⟩;cases e1; cases e2; exact h
theorem w_rI : rI C gi (.int i) (.int j) H Q = (C i j /\ Q (gi i j) H) := by
 refine propext ⟨fun ⟨_, _, e1, e2, h⟩ => ?_, fun h => ⟨i, j, rfl, rfl, h⟩⟩;cases e1; cases e2; exact h
theorem zmW : zjr (.int i) (.int j) H Q = (CMul i j /\ Q (.int (i * j)) H) := by
 unfold zjr;rw [w_rI];refine propext ⟨fun h => ?_, .inl⟩;rcases h with h | ⟨_, _, _, e, _⟩
 ·exact h
 ·cases e
theorem zoC : rNe (.int i) (.int j) H Q = Q (.bl (!decide (i = j))) H := by
 refine propext ⟨fun ⟨_, h⟩ => by simpa using h, fun h => ⟨rfl, by simpa using h⟩⟩
theorem zoD : rNe (.str x) (.str y) H Q = Q (.bl (!decide (x = y))) H := by
 refine propext ⟨fun ⟨_, h⟩ => by simpa using h, fun h => ⟨rfl, by simpa using h⟩⟩
theorem zoE : rLtA (.int i) (.int j) H Q = Q (.bl (decide (i < j))) H := by
 unfold rLtA;rw [zmV];refine propext ⟨fun h => ?_, .inl⟩;rcases h with h | ⟨_, _, e, _⟩
 ·exact h
 ·cases e
theorem zoF : rInA K false (.str x) (.str y) H Q = Q (.bl (inS x y)) H := by
 refine propext ⟨fun h => ?_, fun h => .inl ⟨x, y, rfl, rfl, h⟩⟩;rcases h with ⟨_, _, e1, e2, h⟩ | ⟨_, _, e, _⟩
 ·cases e1; cases e2; exact h
 ·cases e
theorem zjv : rInA K true (.str x) (.str y) H Q = Q (.bl (!inS x y)) H := by
 refine propext ⟨fun h => ?_, fun h => .inl ⟨x, y, rfl, rfl, h⟩⟩;rcases h with ⟨_, _, e1, e2, h⟩ | ⟨_, _, e, _⟩
 ·cases e1; cases e2; exact h
 ·cases e
theorem zoG {v : V} : rInA K false v (.ref p) H Q = ∃ xs, (SqL K H p xs \/ SqT K H p xs) /\ zbH v = true /\ xs.all zbH = true /\ Q (.bl (inV v xs)) H := by
 refine propext ⟨fun h => ?_, fun ⟨xs, h⟩ => .inr ⟨p, xs, rfl, h⟩⟩;rcases h with ⟨_, _, _, e2, _⟩ | ⟨_, xs, e, h⟩
 ·cases e2
 ·cases e; exact ⟨xs, h⟩
theorem zjw {v : V} : rInA K true v (.ref p) H Q = ∃ xs, (SqL K H p xs \/ SqT K H p xs) /\ zbH v = true /\ xs.all zbH = true /\ Q (.bl (!inV v xs)) H := by
 refine propext ⟨fun h => ?_, fun ⟨xs, h⟩ => .inr ⟨p, xs, rfl, h⟩⟩;rcases h with ⟨_, _, _, e2, _⟩ | ⟨_, xs, e, h⟩
 ·cases e2
 ·cases e; exact ⟨xs, h⟩
theorem zoH : rIx K (.str x) (.int i) H Q = (x.length <= sizeLine /\ ∃ c, atI x.cps.toList i = some c /\ Q (.str ⟨#[c]⟩) H) := by
 refine propext ⟨fun h => ?_, fun ⟨h1, c, h2, h3⟩ => .inr (.inr ⟨x, i, c, rfl, rfl, h1, h2, h3⟩)⟩;rcases h with ⟨_, _, _, _, e, _⟩ | ⟨_, _, _, _, e, _⟩ | ⟨_, _, c, e1, e2, h1, h2, h3⟩
 ·cases e
 ·cases e
 ·cases e1; cases e2; exact ⟨h1, c, h2, h3⟩
theorem zoI : rIx K (.ref p) (.int i) H Q = ∃ xs, (SqL K H p xs \/ SqT K H p xs) /\ ∃ v, atI xs i = some v /\ Q v H := by
 refine propext ⟨fun h => ?_, fun ⟨xs, h, v, e, q⟩ => ?_⟩
 ·rcases h with ⟨_, xs, _, v, e1, e2, h1, h2, h3⟩ | ⟨_, xs, _, v, e1, e2, h1, h2, h3⟩ | ⟨_, _, _, e, _⟩
  ·cases e1; cases e2; exact ⟨xs, .inl h1, v, h2, h3⟩
  ·cases e1; cases e2; exact ⟨xs, .inr h1, v, h2, h3⟩
  ·cases e
 ·rcases h with h | h
  ·exact .inl ⟨p, xs, i, v, rfl, rfl, h, e, q⟩
  ·exact .inr (.inl ⟨p, xs, i, v, rfl, rfl, h, e, q⟩)
theorem zmX : rLen K [.str x] H Q = (x.length <= sizeLine /\ Q (.int x.length) H) := by
 refine propext ⟨fun ⟨_, n, e, h, q⟩ => ?_, fun ⟨h, q⟩ => ⟨_, _, rfl, ⟨h, rfl⟩, q⟩⟩;cases e;obtain ⟨h1, rfl⟩ := h;exact ⟨h1, q⟩
theorem zmY : rLen K [.ref p] H Q = ∃ xs, (SqL K H p xs \/ SqT K H p xs) /\ Q (.int (xs.length : Nat)) H := by
 refine propext ⟨fun ⟨_, n, e, h, q⟩ => ?_, fun ⟨xs, h, q⟩ => ?_⟩
 ·cases e;rcases h with ⟨xs, h, rfl⟩ | ⟨xs, h, rfl⟩
  ·exact ⟨xs, .inl h, q⟩
  ·exact ⟨xs, .inr h, q⟩
 ·rcases h with h | h
  ·exact ⟨_, _, rfl, .inl ⟨xs, h, rfl⟩, q⟩
  ·exact ⟨_, _, rfl, .inr ⟨xs, h, rfl⟩, q⟩
theorem zoJ : rAll K [.ref p] H Q = ∃ bs : List Bool, SqL K H p (bs.map V.bl) /\ Q (.bl (bs.all id)) H := by
 refine propext ⟨fun ⟨_, bs, e, h⟩ => ?_, fun ⟨bs, h⟩ => ⟨p, bs, rfl, h⟩⟩;cases e; exact ⟨bs, h⟩
theorem zmZ {sep : Str} : zmK K (.str sep) [.ref p] H Q = ∃ ys : List Str, SqL K H p (ys.map V.str) /\ (ys.map (·.length)).sum + ys.length * sep.length <= 16777216 /\ Q (.str (Txt.join sep ys)) H := by
 refine propext ⟨fun ⟨_, _, ys, e1, e2, h⟩ => ?_, fun ⟨ys, h⟩ => ⟨sep, p, ys, rfl, rfl, h⟩⟩;cases e1; cases e2; exact ⟨ys, h⟩
theorem zid {b : Bool} : zgj [.bl b] H Q = Q (.int (if b then 1 else 0)) H := by
 refine propext ⟨fun h => ?_, fun h => .inr ⟨b, rfl, h⟩⟩;rcases h with ⟨_, e, _⟩ | ⟨_, e, h⟩
 ·cases e
 ·cases e; exact h
theorem zie : zgj [.int i] H Q = Q (.int i) H := by
 refine propext ⟨fun h => ?_, fun h => .inl ⟨i, rfl, h⟩⟩;rcases h with ⟨_, e, h⟩ | ⟨_, e, _⟩
 ·cases e; exact h
 ·cases e
variable {R : It -> Hp -> Prop}
theorem zoK : zjs K (.str x) H R = R (Its x) H := by
 refine propext ⟨fun h => ?_, fun h => .inl ⟨x, rfl, h⟩⟩;rcases h with ⟨_, e, h⟩ | ⟨_, e, _⟩ | ⟨_, e, _⟩
 ·cases e; exact h
 ·cases e
 ·cases e
theorem zoL : zjs K (.ref p) H R = (((∃ xs, SqL K H p xs) /\ R (Itl K p) H) \/ ((∃ xs, SqT K H p xs) /\ R (Itt K p) H)) := by
 refine propext ⟨fun h => ?_, fun h => ?_⟩
 ·rcases h with ⟨_, e, _⟩ | ⟨_, e, h⟩ | ⟨_, e, h⟩
  ·cases e
  ·cases e; exact .inl h
  ·cases e; exact .inr h
 ·rcases h with h | h
  ·exact .inr (.inl ⟨p, rfl, h⟩)
  ·exact .inr (.inr ⟨p, rfl, h⟩)
theorem zna : iAny K te σ H R = te σ H fun x H1 => zjs K x H1 R := rfl
theorem znb : zm0 tl σ H R = tl σ H fun vs H1 => ∃ j : Int, vs = [.int j] /\ -(2 ^ 62) <= j /\ j < 2 ^ 62 /\ R (Itr 0 j.toNat) H1 := rfl
theorem znc {P : Int -> Prop} : (∃ j : Int, [V.int i] = [.int j] /\ P j) = P i := by
 refine propext ⟨fun ⟨_, e, h⟩ => ?_, fun h => ⟨i, rfl, h⟩⟩;cases e; exact h
end
section
variable {K : W.Frag} {H : Hp} {Q : VK} {σ : St} {D : Ends} {ta tb tc te ti to : TE} {i j : Int} {x y : Str} {p q : Addr} {v : V} {T : String} {lo hi : Option Int}
theorem zle {P : Int -> Int -> Prop} : (∃ i' j', [V.int i, V.int j] = [V.int i', V.int j'] /\ P i' j') = P i j := by
 refine propext ⟨fun ⟨_, _, e, h⟩ => ?_, fun h => ⟨i, j, rfl, h⟩⟩;cases e; exact h
theorem zif : zew K [.ref p] H Q = ∃ ys, (SqL K H p ys /\ ∀ l, H l = none -> Q (.ref l) (upd H l (.tup ys))) \/ (SqT K H p ys /\ Q (.ref p) H) := by
 refine propext ⟨fun ⟨_, ys, e, h⟩ => ?_, fun ⟨ys, h⟩ => ⟨p, ys, rfl, h⟩⟩;cases e; exact ⟨ys, h⟩
theorem zjx : zlc K [.ref p] H Q = ∃ ys, (SqL K H p ys \/ SqT K H p ys) /\ ∀ l, H l = none -> Q (.ref l) (upd H l (.lst ys)) := by
 refine propext ⟨fun ⟨_, ys, e, h⟩ => ?_, fun ⟨ys, h⟩ => ⟨p, ys, rfl, h⟩⟩;cases e; exact ⟨ys, h⟩
theorem zjy : zfC (.ref p) [v] H Q = ∃ xs, H p = some (.lst xs) /\ xs.length < sizeLine /\ Q .non (upd H p (.lst (xs ++ [v]))) := by
 refine propext ⟨fun ⟨_, xs, _, e1, e2, h⟩ => ?_, fun ⟨xs, h⟩ => ⟨p, xs, v, rfl, rfl, h⟩⟩;cases e1; cases e2; exact ⟨xs, h⟩
theorem zjz : zhR (.ref p) [.ref q] H Q = ∃ xs zs, H p = some (.lst xs) /\ H q = some (.lst zs) /\ xs.length + zs.length <= sizeLine /\ Q .non (upd H p (.lst (xs ++ zs))) := by
 refine propext ⟨fun ⟨_, _, xs, zs, e1, e2, h⟩ => ?_, fun ⟨xs, zs, h⟩ => ⟨p, q, xs, zs, rfl, rfl, h⟩⟩;cases e1; cases e2; exact ⟨xs, zs, h⟩
theorem znd {Qh : Hp -> Prop} : zmE (.ref p) (.int i) v H Qh = ∃ xs j, H p = some (.lst xs) /\ ixN xs.length i = some j /\ Qh (upd H p (.lst (xs.set j v))) := by
 refine propext ⟨fun ⟨_, xs, _, j, e1, e2, h⟩ => ?_, fun ⟨xs, j, h⟩ => ⟨p, xs, i, j, rfl, rfl, h⟩⟩;cases e1; cases e2; exact ⟨xs, j, h⟩
theorem zne {t : TSet} {Qs : St -> Hp -> Prop} : gSub to ti t v σ H Qs = to σ H fun o H1 => ti σ H1 fun i H2 => t o i v H2 fun H3 => Qs σ H3 := rfl
theorem zig : zlb K T [.int i, .ty T] H Q = ∃ b, W.kitOne K (.type "int") (.type T) = some b /\ Q (.bl b) H := by
 refine propext ⟨fun ⟨_, _, b, e, t, h⟩ => ?_, fun ⟨b, h⟩ => ⟨_, _, b, rfl, .int i, h⟩⟩;cases e; cases t; exact ⟨b, h⟩
theorem zih : zlb K T [.str x, .ty T] H Q = ∃ b, W.kitOne K (.type "str") (.type T) = some b /\ Q (.bl b) H := by
 refine propext ⟨fun ⟨_, _, b, e, t, h⟩ => ?_, fun ⟨b, h⟩ => ⟨_, _, b, rfl, .str x, h⟩⟩;cases e; cases t; exact ⟨b, h⟩
theorem zp3 : rSlA K (.ref p) lo hi H Q = ∃ xs, (SqL K H p xs /\ ∀ q, H q = none -> Q (.ref q) (upd H q (.lst (cutV xs lo hi)))) \/
  (SqT K H p xs /\ ¬ (HT.sIx xs.length 0 lo = 0 /\ HT.sIx xs.length xs.length hi = xs.length) /\ ∀ q, H q = none -> Q (.ref q) (upd H q (.tup (cutV xs lo hi)))) := by
 refine propext ⟨fun h => ?_, fun ⟨xs, h⟩ => ?_⟩
 ·rcases h with ⟨_, e, _⟩ | ⟨_, xs, e, h⟩ | ⟨_, xs, e, h⟩
  ·cases e
  ·cases e; exact ⟨xs, .inl h⟩
  ·cases e; exact ⟨xs, .inr h⟩
 ·rcases h with h | h
  ·exact .inr (.inl ⟨p, xs, rfl, h⟩)
  ·exact .inr (.inr ⟨p, xs, rfl, h⟩)
theorem zpy : zo0 K (.ref p) (.ref q) H Q = ∃ xs zs, (H p = some (.lst xs) /\ H q = some (.lst zs) /\ xs.length + zs.length <= sizeLine /\ ∀ r, H r = none -> Q (.ref r) (upd H r (.lst (xs ++ zs)))) \/
  (SqT K H p xs /\ SqT K H q zs /\ xs ≠ [] /\ xs.length + zs.length <= sizeLine /\ (zs = [] -> Q (.ref p) H) /\ (zs ≠ [] -> ∀ r, H r = none -> Q (.ref r) (upd H r (.tup (xs ++ zs))))) := by
 refine propext ⟨fun h => ?_, fun ⟨xs, zs, h⟩ => ?_⟩
 ·rcases h with ⟨_, _, e, _⟩ | ⟨_, _, e, _⟩ | ⟨_, _, xs, zs, e1, e2, h⟩ | ⟨_, _, xs, zs, e1, e2, h⟩
  ·cases e
  ·cases e
  ·cases e1; cases e2; exact ⟨xs, zs, .inl h⟩
  ·cases e1; cases e2; exact ⟨xs, zs, .inr h⟩
 ·rcases h with h | h
  ·exact .inr (.inr (.inl ⟨p, q, xs, zs, rfl, rfl, h⟩))
  ·exact .inr (.inr (.inr ⟨p, q, xs, zs, rfl, rfl, h⟩))
end
theorem zhc {X : Cx} : MtR X "list.append" zfC := zhQ
theorem Same.upd {H0 H : Hp} {p : Addr} {o : HO} (s : Same H0 H) (h : H0 p = none) : Same H0 (upd H p o) := fun b u q => by rw [zaw (zas q h)]; exact s b u q
theorem zez {H : Hp} {p a : Addr} {o u : HO} (hn : H p = none) (h : H a = some u) : upd H p o a = some u := by rw [zaw (zas h hn)]; exact h
inductive Bi where | and | or | thn
 deriving DecidableEq
def Bi.txt : Bi -> Str | .and => "and" | .or => "or" | .thn => "then"
def qtx : Bool -> Str | true => "all" | false => "some"
inductive Stm where
 | is (w : Str) (ts : List Str) | fls | neg (A : Stm) | bi (o : Bi) (A B : Stm) | qu (q : Bool) (X : Str) (A : Stm)
 deriving DecidableEq
namespace Stm
def deep : Stm -> Nat
 | .is _ _ => 1 | .fls => 1 | .neg A => A.deep + 1 | .bi _ A B => max A.deep B.deep + 1 | .qu _ _ A => A.deep + 1
def parts : Stm -> List Stm
 | .is _ _ => [] | .fls => [] | .neg A => [A] | .bi _ A B => [A, B] | .qu _ _ A => [A]
end Stm
def smallS : Str := "abcdefghijklmnopqrstuvwxyz"
def greatS : Str := "ABCDEFGHIJKLMNOPQRSTUVWXYZ"
def sofS : Str := "abcdefghijklmnopqrstuvwxyz0123456789"
def keptW : List Str := ["not", "and", "or", "then", "all", "some", "false"]
def Nm (f x : Str) : Prop := ∃ c r, x.cps.toList = c :: r /\ c ∈ f.cps.toList /\ (∀ d ∈ r, d ∈ sofS.cps.toList) /\ r.length <= 7 /\ x ∉ keptW
theorem Nm.len {f x : Str} (h : Nm f x) : x.length <= 8 /\ 1 <= x.length := by
 obtain ⟨c, r, e, _, _, h, _⟩ := h;have : x.length = x.cps.toList.length := by simp [Str.length]
 rw [this, e, List.length_cons];omega
def RepS (K : W.Frag) (H : Hp) : Stm -> V -> Prop
 | .is w ts, v => ∃ a b, v = .ref a /\ SqT K H a [.str "is", .str w, .ref b] /\ SqT K H b (ts.map V.str)
 | .fls, v => ∃ a, v = .ref a /\ SqT K H a [.str "false"]
 | .neg A, v => ∃ a u, v = .ref a /\ SqT K H a [.str "not", u] /\ RepS K H A u
 | .bi o A B, v => ∃ a u u', v = .ref a /\ SqT K H a [.str o.txt, u, u'] /\ RepS K H A u /\ RepS K H B u'
 | .qu q X A, v => ∃ a u, v = .ref a /\ SqT K H a [.str (qtx q), .str X, u] /\ RepS K H A u
theorem RepS.same {K : W.Frag} {H H' : Hp} (e : Same H H') : ∀ {S : Stm} {v : V}, RepS K H S v -> RepS K H' S v
 | .is _ _, _, ⟨a, b, h1, h2, h3⟩ => ⟨a, b, h1, e.seqT h2, e.seqT h3⟩
 | .fls, _, ⟨a, h1, h2⟩ => ⟨a, h1, e.seqT h2⟩
 | .neg _, _, ⟨a, u, h1, h2, h3⟩ => ⟨a, u, h1, e.seqT h2, RepS.same e h3⟩
 | .bi _ _ _, _, ⟨a, u, u', h1, h2, h3, h4⟩ => ⟨a, u, u', h1, e.seqT h2, RepS.same e h3, RepS.same e h4⟩
 | .qu _ _ _, _, ⟨a, u, h1, h2, h3⟩ => ⟨a, u, h1, e.seqT h2, RepS.same e h3⟩
def zfd (ns : List Int) (k : Int) : Int := if k < (ns.length : Int) then ns.getD k.toNat 0 else 0
def znf (K : W.Frag) : Sp := fun vs H Q _ => ∃ (a : Addr) (ns : List Int) (k : Int), vs = [.ref a, .int k] /\ SqL K H a (ns.map V.int) /\ 0 <= k /\ Q (.int (zfd ns k)) H
def zj0 : Sp := fun vs H Q _ => ∃ n f t, vs = [.int n, .str f, .int t] /\ (f = smallS \/ f = greatS) /\ ∀ x H', Same H H' -> Nm f x -> Q (.str x) H'
theorem zc7 (x y : Str) : (x ++ y).cps.toList = x.cps.toList ++ y.cps.toList := by
 rw [Str.cps_append]; simp
theorem zaA (x : Str) : x.cps.toList.length = x.length := by simp [Str.length]
theorem zcS : ∀ cs : List Nat, (Txt.join "" (cs.map fun c => (⟨#[c]⟩ : Str))).cps.toList = cs := by
 intro cs;show (Builtin.Str.glued "" _).cps.toList = cs;rw [StrLaws.glued_eq_join]
 induction cs with
 | nil => rfl
 | cons c r ih =>
  cases r with
  | nil => rfl
  | cons d r =>
   show ((⟨#[c]⟩ : Str) ++ "" ++ Str.join "" _).cps.toList = _;rw [zc7, zc7, ih]
   rfl
theorem zj1 (p q : Int) (a b : Nat) (hp : p = a) (hq : q = b) : sliceRange p q 1 = (List.range (b - a)).map fun k => a + k := by
 subst hp hq;unfold sliceRange;simp only [show (1 : Int) > 0 by decide, if_true]
 by_cases hab : a < b
 ·rw [if_pos ω];have e : (((b : Int) - a + 1 - 1) / 1).toNat = b - a := by omega
  rw [e];refine List.map_congr_left fun k _ => ?_;omega
 ·rw [if_neg ω, show b - a = 0 by omega]
  rfl
theorem zj2 (lo hi : Option Int) (n : Nat) : Builtin.Str.strSliceIndices lo hi 1 n = (List.range (HT.sIx n n hi - HT.sIx n 0 lo)).map fun k => HT.sIx n 0 lo + k := by
 have cl : ∀ (v : Int) (d : Nat), max 0 (min (if v < 0 then v + (n : Int) else v) (n : Int)) = ((HT.sIx n d (some v) : Nat) : Int) := fun v d => by
  rw [<- HT.clip_eq]; split <;> omega
 refine zj1 _ _ _ _ ?_ ?_
 ·cases lo with
  | none => rfl
  | some v => exact cl v 0
 ·cases hi with
  | none => rfl
  | some v => exact cl v n
theorem zfe (x : Str) (lo hi : Option Int) : (Txt.slice x lo hi).cps.toList = (x.cps.toList.drop (HT.sIx x.length 0 lo)).take (HT.sIx x.length x.length hi - HT.sIx x.length 0 lo) := by
 have hl := zaA x;have ha : HT.sIx x.length 0 lo <= x.length := HT.sIx_le _ 0 (yaq _) lo;have hb : HT.sIx x.length x.length hi <= x.length := HT.sIx_le _ _ (yai _) hi;unfold Txt.slice;rw [zj2];generalize HT.sIx x.length 0 lo = a at *;generalize HT.sIx x.length x.length hi = b at *
 split
 ·rename_i h
  simp at h;have : a = 0 /\ b = x.length \/ x.length = 0 := by omega
  rcases this with ⟨rfl, rfl⟩ | h0
  ·rw [List.drop_zero, Nat.sub_zero, List.take_of_length_le ω]
  ·have : x.cps.toList = [] := List.eq_nil_of_length_eq_zero ω;rw [this]; simp
 ·by_cases hab : a <= b
  ·have h := StrLaws.picks x.cps.toList (b - a) a (by rw [hl]; omega);rw [<- h];simp only [List.toList_toArray]
   congr 1
   funext k
   simp
  ·rw [show b - a = 0 by omega]; simp
theorem zgk (x : Str) (n : Nat) : (Txt.slice x none (some (n : Int))).cps.toList = x.cps.toList.take n := by
 have hl := zaA x;rw [zfe, HT.sIx_nat, HT.sIx_none, List.drop_zero, Nat.sub_zero, <- hl, List.take_eq_take_iff];simp
theorem zcy (x : Str) (n : Nat) : (Txt.slice x (some (n : Int)) none).cps.toList = x.cps.toList.drop n := by
 have hl := zaA x;rw [zfe, HT.sIx_nat, HT.sIx_none];rw [List.take_of_length_le (by rw [List.length_drop]; omega)]
 by_cases h : n <= x.length
 ·rw [Nat.min_eq_left h]
 ·rw [List.drop_eq_nil_of_le ω, List.drop_eq_nil_of_le ω]
theorem cdiv {i j : Int} (h : 0 < j := by decide) (h2 : j < 1073741824 := by decide) : CDiv i j := ⟨h, h2⟩
theorem zii {i j : Int} (h : -(2 ^ 64) < i /\ i < 2 ^ 64 := by decide) : CMul i j := .inl h
theorem zhd {i j : Int} (h : -(2 ^ 64) < j /\ j < 2 ^ 64 := by decide) : CMul i j := .inr h
theorem zgl {ns : List Int} {i : Int} (h0 : 0 <= i) (h1 : i < (ns.length : Int)) : atI (ns.map V.int) i = some (.int (ns.getD i.toNat 0)) := by
 have hk : i.toNat < ns.length := by omega
 rw [zey (d := .int 0) h0 (by simpa using h1)];simp [hk]
theorem zj3 {ts : List Str} {i : Int} (h0 : 0 <= i) (h1 : i < (ts.length : Int)) : ∃ z, z ∈ ts /\ atI (ts.map V.str) i = some (.str z) := by
 have hk : i.toNat < ts.length := by omega
 refine ⟨ts[i.toNat], List.getElem_mem hk, ?_⟩;rw [zey (d := .non) h0 (by simpa using h1)];simp [hk]
theorem zng {ts : List Int} {i : Int} (h0 : 0 <= i) (h1 : i < (ts.length : Int)) : ∃ z, z ∈ ts /\ atI (ts.map V.int) i = some (.int z) := by
 have hk : i.toNat < ts.length := by omega
 refine ⟨ts[i.toNat], List.getElem_mem hk, ?_⟩;rw [zey (d := .non) h0 (by simpa using h1)];simp [hk]
theorem zgm {n : Nat} {i : Int} (h0 : 0 <= i) (h1 : i < n) : ixN n i = some i.toNat := by
 unfold ixN; rw [if_pos h0, if_pos h1]
theorem zcB : ∀ cs : List Nat, ((cs.map fun c => (⟨#[c]⟩ : Str)).map (·.length)).sum = cs.length
 | [] => rfl
 | c :: r => by rw [List.map_cons, List.map_cons, List.sum_cons, zcB r, List.length_cons]; show 1 + _ = _; omega
theorem zd2 (c : Nat) (x : Str) : inS ⟨#[c]⟩ x = decide (c ∈ x.cps.toList) := StrLaws.found_one x c
theorem zdl (x : Str) : ∀ ts : List Str, inV (.str x) (ts.map V.str) = decide (x ∈ ts)
 | [] => by simp [inV]
 | t :: ts => by
  have ih := zdl x ts;unfold inV at ih ⊢;rw [List.map_cons, List.any_cons, ih];have e : eqV (V.str t) (V.str x) = decide (x = t) := by
   show (t == x) = decide (x = t)
   by_cases h : x = t
   ·subst h; simp
   ·have h' : ¬ t = x := fun e => h e.symm;simp [h, h']
  rw [e];simp
theorem zff (ts : List Str) : (ts.map V.str).all zbH = true := by
 rw [List.all_map, List.all_eq_true]; intro t _; rfl
def zj4 (f : Str) (cs : List Nat) : Prop := ∃ c r, cs = c :: r /\ c ∈ f.cps.toList /\ (∀ d ∈ r, d ∈ sofS.cps.toList) /\ r.length <= 7
theorem znh {f : Str} {cs : List Nat} {c0 c1 : Nat} (hl : 1 <= cs.length) (hl' : cs.length <= 8) (hcs : ∀ c ∈ cs, c ∈ sofS.cps.toList) (h1 : c1 ∈ f.cps.toList) : zj4 f ((cs.set 0 c0).set 0 c1) := by
 cases cs with
 | nil => simp at hl
 | cons d r => exact ⟨c1, r, rfl, h1, fun e he => hcs e (List.mem_cons_of_mem _ he), by simpa using hl'⟩
theorem zni {f : Str} {cs : List Nat} {c0 c1 j : Nat} (hj : j ≠ 0) (hl : 1 <= cs.length) (hl' : cs.length <= 8) (hcs : ∀ c ∈ cs, c ∈ sofS.cps.toList) (h0 : c0 ∈ f.cps.toList) (h1 : c1 ∈ sofS.cps.toList) : zj4 f ((cs.set 0 c0).set j c1) := by
 cases cs with
 | nil => simp at hl
 | cons d r =>
  cases j with
  | zero => exact absurd rfl hj
  | succ j =>
   refine ⟨c0, r.set j c1, rfl, h0, fun e he => ?_, by simpa using hl'⟩;rcases List.mem_or_eq_of_mem_set he with he | rfl
   ·exact hcs e (List.mem_cons_of_mem _ he)
   ·exact h1
theorem zhe : ∀ z ∈ keptW, 1 <= z.length /\ z.length <= 5 /\ ∀ c ∈ z.cps.toList, c ∈ smallS.cps.toList := by decide +kernel
theorem zij : ∀ y ∈ keptW, y.cps.toList.getLast? ≠ some 48 := by decide +kernel
theorem zgn {f x : Str} {cs : List Nat} (g : zj4 f cs) (e : x.cps.toList = cs) (h : x ∉ keptW) : Nm f x := by
 obtain ⟨c, r, rfl, h1, h2, h3⟩ := g;exact ⟨c, r, e, h1, h2, h3, h⟩
theorem zfg {f x y : Str} {cs : List Nat} (g : zj4 f cs) (e : x.cps.toList = cs) (h : x ∈ keptW) (ey : y = x ++ "0") : Nm f y := by
 obtain ⟨c, r, rfl, h1, h2, h3⟩ := g;have hl := (zhe x h).2.1;rw [<- zaA, e, List.length_cons] at hl;have e2 : y.cps.toList = c :: (r ++ [48]) := by
  rw [ey, zc7, e]; rfl
 refine ⟨c, r ++ [48], e2, h1, fun d hd => ?_, by rw [yae, yas]; omega, fun hy => ?_⟩
 ·rcases yay.mp hd with q | q
  ·exact h2 d q
  ·rw [yah.mp q]; decide +kernel
 ·refine zij y hy ?_;rw [e2, <- List.cons_append, List.getLast?_concat]
section
variable {X : Cx} {K : W.Frag} {H : Hp} {Q : VK} {p q : Addr}
def zgo (K : W.Frag) : V -> List V -> Hp -> VK -> Prop := fun x vs H Q => ∃ (sep : Str) (p : Addr) (ys : List Str), x = .str sep /\ vs = [.ref p] /\ (SqL K H p (ys.map V.str) \/ SqT K H p (ys.map V.str)) /\ (ys.map (·.length)).sum + ys.length * sep.length <= 16777216 /\ Q (.str (Txt.join sep ys)) H
theorem mt_joinA : MtR X "str.join" (zgo X.K) := by
 intro Qa s σ H x vs v us Q I rx rv h;obtain ⟨sep, p, ys, rfl, rfl, hq, hz, q⟩ := h;rcases hq with hq | hq
 ·exact zla Qa s σ H _ _ v us Q I rx rv ⟨sep, p, ys, rfl, rfl, hq, hz, q⟩
 ·obtain ⟨t, rfl⟩ := rx;obtain ⟨u, rfl, ru⟩ := zep rv;cases ru;obtain ⟨its, r', pl, _⟩ := I.tuple hq;exact join_tuple pl (by simpa using zcQ r') hz fun t' k => ⟨.str _, H, I.tok _, ⟨t', rfl⟩, q⟩
theorem ze0 (K : W.Frag) (hK : X.K = K := by rfl) : MtR X "str.join" (zgo K) := hK ▸ (mt_joinA : MtR X "str.join" (zgo X.K))
theorem zlf {sep : Str} : zgo K (.str sep) [.ref p] H Q = ∃ ys : List Str, (SqL K H p (ys.map V.str) \/ SqT K H p (ys.map V.str)) /\ (ys.map (·.length)).sum + ys.length * sep.length <= 16777216 /\ Q (.str (Txt.join sep ys)) H := by
 refine propext ⟨fun ⟨_, _, ys, e1, e2, h⟩ => ?_, fun ⟨ys, h⟩ => ⟨sep, p, ys, rfl, rfl, h⟩⟩;cases e1; cases e2; exact ⟨ys, h⟩
end
inductive EqD (K : W.Frag) (H : Hp) : Nat -> V -> V -> Bool -> Prop
 | flat {n : Nat} {x y : V} (hx : zbH x = true) (hy : zbH y = true) : EqD K H n x y (eqV x y)
 | tups {n : Nat} {a b : Addr} {xs ys : List V} (e : Nat -> Bool) (ha : SqT K H a xs) (hb : SqT K H b ys) (he : ∀ (j : Nat) x y, xs[j]? = some x -> ys[j]? = some y -> EqD K H n x y (e j)) :
   EqD K H (n + 1) (.ref a) (.ref b) ((List.range (min xs.length ys.length)).all e && xs.length == ys.length)
 | lsts {n : Nat} {a b : Addr} {xs ys : List V} (e : Nat -> Bool) (ha : SqL K H a xs) (hb : SqL K H b ys) (hl : xs.length = ys.length) (he : ∀ (j : Nat) x y, xs[j]? = some x -> ys[j]? = some y -> EqD K H n x y (e j)) :
   EqD K H (n + 1) (.ref a) (.ref b) ((List.range xs.length).all e)
 | lstsN {n : Nat} {a b : Addr} {xs ys : List V} (ha : SqL K H a xs) (hb : SqL K H b ys) (hl : xs.length ≠ ys.length) : EqD K H (n + 1) (.ref a) (.ref b) false
 | strTup {n : Nat} {a : Addr} {x : Str} {xs : List V} (ha : SqT K H a xs) : EqD K H (n + 1) (.str x) (.ref a) false
 | tupStr {n : Nat} {a : Addr} {x : Str} {xs : List V} (ha : SqT K H a xs) : EqD K H (n + 1) (.ref a) (.str x) false
 | nonTup {n : Nat} {a : Addr} {xs : List V} (ha : SqT K H a xs) : EqD K H (n + 1) .non (.ref a) false
 | tupNon {n : Nat} {a : Addr} {xs : List V} (ha : SqT K H a xs) : EqD K H (n + 1) (.ref a) .non false
section
variable {X : Cx} {Qa : ZP} {σ : St} {H : Hp} {s : Shared}
theorem zj5 {x : V} (h : zbH x = true) : eqV x x = true := by
 cases x <;> simp_all [zbH, eqV]
theorem EqD.self (I : Inv X Qa σ H s) {n : Nat} {x y : V} {b : Bool} (h : EqD X.K H n x y b) : x = y -> b = true := by
 induction h with
 | flat hx hy => rintro rfl; exact zj5 hx
 | @tups n a b xs ys e ha hb he ih =>
  intro q;cases q;have := I.tuple_inj ha hb;subst this;rw [Bool.and_eq_true];refine ⟨List.all_eq_true.mpr fun j hj => ?_,ς⟩;have hj' : j < xs.length := by simpa using hj
  exact ih j xs[j] xs[j] (by simp [hj']) (by simp [hj']) rfl
 | @lsts n a b xs ys e ha hb hl he ih =>
  intro q;cases q;have := I.list_inj ha hb;subst this;refine List.all_eq_true.mpr fun j hj => ?_;have hj' : j < xs.length := by simpa using hj
  exact ih j xs[j] xs[j] (by simp [hj']) (by simp [hj']) rfl
 | lstsN ha hb hl =>
  intro q;cases q;exact absurd (congrArg List.length (I.list_inj ha hb)) hl
 | strTup => intro q; cases q
 | tupStr => intro q; cases q
 | nonTup => intro q; cases q
 | tupNon => intro q; cases q
theorem getD_some {xs : List V} {its : List Value} (r : Vals xs its) {j : Nat} (h : j < its.toArray.size) : ∃ x, xs[j]? = some x /\ RelV x its.toArray[j] := by
 have h' : j < its.length := by simpa using h
 have hx : j < xs.length := by rw [r.length]; exact h'
 obtain ⟨u, e, ru⟩ := r.get (i := j) (x := xs[j]) (by simp [hx]);have : its[j]? = some its[j] := by simp [h']
 rw [this] at e;cases e;exact ⟨xs[j], by simp [hx], by simpa using ru⟩
theorem EqD.at (I : Inv X Qa σ H s) {n : Nat} {x y : V} {b : Bool} (h : EqD X.K H n x y b) : ∀ {A : Around} {u v : Value}, A.units + n < cLine -> RelV x u -> RelV y v ->
  SeqAt.EqAt A s u v b /\ ((zbH x = false \/ zbH y = false) -> SeqAt.RcAt A s u v b) := by
 induction h with
 | flat hx hy =>
  intro A u v _ ru rv;exact ⟨zhO ru rv hx hy, fun e => by rw [hx, hy] at e; simp at e⟩
 | @tups n a b xs ys e ha hb he ih =>
  intro A u v hu ru rv;cases ru; cases rv;obtain ⟨its, r1, p1, _⟩ := I.tuple ha;obtain ⟨its2, r2, p2, _⟩ := I.tuple hb;have l1 : its.toArray.size = xs.length := by rw [yad]; exact r1.length.symm
  have l2 : its2.toArray.size = ys.length := by rw [yad]; exact r2.length.symm
  have rc : SeqAt.RcAt A s (.ref a) (.ref b) ((List.range (min xs.length ys.length)).all e && xs.length == ys.length) := by
   have := SeqAt.RcAt.tuples (A := A) (e := e) p1 p2 ω (fun j h1 h2 => by
    obtain ⟨x, ex, rx⟩ := getD_some r1 h1;obtain ⟨y, ey, ry⟩ := getD_some r2 h2;exact (ih j x y ex ey (A := A.in1) (by show A.units + 1 + n < cLine; omega) rx ry).1)
   rw [l1, l2] at this;exact this
  refine ⟨?_, fun _ => rc⟩
  by_cases hab : a = b
  ·subst hab;have := EqD.self I (.tups e ha hb he) rfl;rw [this];exact SeqAt.EqAt.same _
  ·exact SeqAt.EqAt.of_refs hab rc
 | @lsts n a b xs ys e ha hb hl he ih =>
  intro A u v hu ru rv;cases ru; cases rv;obtain ⟨its, r1, p1, _⟩ := I.list ha;obtain ⟨its2, r2, p2, _⟩ := I.list hb;have l1 : its.toArray.size = xs.length := by rw [yad]; exact r1.length.symm
  have l2 : its2.toArray.size = ys.length := by rw [yad]; exact r2.length.symm
  have rc : SeqAt.RcAt A s (.ref a) (.ref b) ((List.range xs.length).all e) := by
   have := SeqAt.RcAt.lists (A := A) (e := e) p1.isList p2.isList ω ω (fun j h1 h2 => by
    obtain ⟨x, ex, rx⟩ := getD_some r1 h1;obtain ⟨y, ey, ry⟩ := getD_some r2 h2;exact (ih j x y ex ey (A := A.in1) (by show A.units + 1 + n < cLine; omega) rx ry).1)
   rw [l1] at this;exact this
  refine ⟨?_, fun _ => rc⟩
  by_cases hab : a = b
  ·subst hab;have := EqD.self I (.lsts e ha hb hl he) rfl;rw [this];exact SeqAt.EqAt.same _
  ·exact SeqAt.EqAt.of_refs hab rc
 | @lstsN n a b xs ys ha hb hl =>
  intro A u v hu ru rv;cases ru; cases rv;obtain ⟨its, r1, p1, _⟩ := I.list ha;obtain ⟨its2, r2, p2, _⟩ := I.list hb;have l1 : its.toArray.size = xs.length := by rw [yad]; exact r1.length.symm
  have l2 : its2.toArray.size = ys.length := by rw [yad]; exact r2.length.symm
  have rc := SeqAt.RcAt.lists_lengths (A := A) p1.isList p2.isList (by rw [l1, l2]; simpa using hl) ω;refine ⟨?_, fun _ => rc⟩
  by_cases hab : a = b
  ·subst hab;exact absurd (congrArg List.length (I.list_inj ha hb)) hl
  ·exact SeqAt.EqAt.of_refs hab rc
 | strTup ha =>
  intro A u v hu ru rv;cases rv; obtain ⟨t, rfl⟩ := ru;obtain ⟨its, r1, p1, _⟩ := I.tuple ha;exact ⟨SeqAt.EqAt.str_tuple _ _ p1 ω, fun _ => SeqAt.RcAt.str_tuple _ _ p1 ω⟩
 | tupStr ha =>
  intro A u v hu ru rv;cases ru; obtain ⟨t, rfl⟩ := rv;obtain ⟨its, r1, p1, _⟩ := I.tuple ha;exact ⟨SeqAt.EqAt.tuple_str _ _ p1 ω, fun _ => SeqAt.RcAt.tuple_str _ _ p1 ω⟩
 | nonTup ha =>
  intro A u v hu ru rv;cases rv; cases ru;obtain ⟨its, r1, p1, _⟩ := I.tuple ha;exact ⟨SeqAt.EqAt.none_tuple p1 ω, fun _ => SeqAt.RcAt.none_tuple p1 ω⟩
 | tupNon ha =>
  intro A u v hu ru rv;cases ru; cases rv;obtain ⟨its, r1, p1, _⟩ := I.tuple ha;exact ⟨SeqAt.EqAt.tuple_none p1 ω, fun _ => SeqAt.RcAt.tuple_none p1 ω⟩
end
section
variable {X : Cx} {K : W.Frag} {H : Hp} {Q : VK} {p q : Addr} {i j : Int} {x y : Str}
def rEqD (K : W.Frag) : R2 := fun x y H Q => ∃ d b, d <= 60 /\ (zbH x = false \/ zbH y = false) /\ EqD K H d x y b /\ Q (.bl b) H
theorem znj (hu : X.A.units + 64 < cLine) : OpR X (compareOp .Eq) (rEqD X.K) := by
 intro Qa s σ H x y v u Q I rx ry h;obtain ⟨d, b, hd, e, h, k⟩ := h;exact (h.at I (A := X.A) ω rx ry).2 e X.prog X.w X.xe _ ⟨.bl b, H, I, rfl, k⟩
def rEqB (K : W.Frag) : R2 := fun x y H Q => rEq x y H Q \/ rEqD K x y H Q
theorem zc4 (K : W.Frag) (hu : X.A.units + 64 < cLine) (hK : X.K = K := by rfl) : OpR X (compareOp .Eq) (rEqB K) := hK ▸ (OpR.or zm4 (znj hu) : OpR X (compareOp .Eq) (rEqB X.K))
theorem znk : rEqB K (.int i) (.int j) H Q = Q (.bl (decide (i = j))) H := by
 refine propext ⟨fun h => ?_, fun h => .inl ⟨rfl, by simpa using h⟩⟩;rcases h with ⟨_, h⟩ | ⟨_, _, _, e, _⟩
 ·simpa using h
 ·rcases e with e | e <;> cases e
theorem znl : rEqB K (.str x) (.str y) H Q = Q (.bl (decide (x = y))) H := by
 refine propext ⟨fun h => ?_, fun h => .inl ⟨rfl, by simpa using h⟩⟩;rcases h with ⟨_, h⟩ | ⟨_, _, _, e, _⟩
 ·simpa using h
 ·rcases e with e | e <;> cases e
theorem znm {u : V} : rEqB K (.ref p) u H Q = ∃ d b, d <= 60 /\ EqD K H d (.ref p) u b /\ Q (.bl b) H := by
 refine propext ⟨fun h => ?_, fun ⟨d, b, hd, h, k⟩ => .inr ⟨d, b, hd, .inl rfl, h, k⟩⟩;rcases h with ⟨e, _⟩ | ⟨d, b, hd, _, h, k⟩
 ·cases u <;> cases e
 ·exact ⟨d, b, hd, h, k⟩
theorem znn {u : V} : rEqB K u (.ref p) H Q = ∃ d b, d <= 60 /\ EqD K H d u (.ref p) b /\ Q (.bl b) H := by
 refine propext ⟨fun h => ?_, fun ⟨d, b, hd, h, k⟩ => .inr ⟨d, b, hd, .inr rfl, h, k⟩⟩;rcases h with ⟨e, _⟩ | ⟨d, b, hd, _, h, k⟩
 ·cases u <;> cases e
 ·exact ⟨d, b, hd, h, k⟩
inductive TyB (K : W.Frag) (H : Hp) : V -> Value -> Prop where
 | of {x : V} {t : Value} (h : TyOf K H x t) : TyB K H x t
 | tup {a : Addr} {xs : List V} (h : SqT K H a xs) : TyB K H (.ref a) (.type "tuple")
 | lst {a : Addr} {xs : List V} (h : SqL K H a xs) : TyB K H (.ref a) (.type "list")
def zd3 (K : W.Frag) (T : String) : List V -> Hp -> VK -> Prop := fun vs H Q => ∃ x t b, vs = [x, .ty T] /\ TyB K H x t /\ W.kitOne K t (.type T) = some b /\ Q (.bl b) H
theorem call_instB {T : String} : zbW X (.builtin "isinstance") (zd3 X.K T) := by
 intro Qa s σ H xs us Q I r h;obtain ⟨x, t, b, rfl, ty, e, q⟩ := h;cases ty with
 | of ty => exact zhW Qa s σ H _ us Q I r ⟨x, t, b, rfl, ty, e, q⟩
 | tup hq =>
  obtain ⟨u, u2, rfl, rx, r2⟩ := zjk r;cases (show u2 = Value.type T from r2);cases rx;obtain ⟨its, _, ⟨o, h1, h2, _⟩, _⟩ := I.tuple hq;exact W.kia_one W.kitx_tuple I.kIn ⟨o, h1, h2⟩ e (fun z => nomatch z) fun tk => ⟨.bl b, H, I.tok tk, rfl, q⟩
 | lst hq =>
  obtain ⟨u, u2, rfl, rx, r2⟩ := zjk r;cases (show u2 = Value.type T from r2);cases rx;obtain ⟨its, _, pl, _⟩ := I.list hq;obtain ⟨o, h1, h2, _⟩ := pl.isList;exact W.kia_one W.kitx_list I.kIn ⟨o, h1, h2⟩ e (fun z => nomatch z) fun tk => ⟨.bl b, H, I.tok tk, rfl, q⟩
theorem zhf (K : W.Frag) (T : String) (hK : X.K = K := by rfl) : zbW X (.builtin "isinstance") (zd3 K T) := hK ▸ (call_instB : zbW X (.builtin "isinstance") (zd3 X.K T))
theorem zhg {T : String} : zd3 K T [.int i, .ty T] H Q = ∃ b, W.kitOne K (.type "int") (.type T) = some b /\ Q (.bl b) H := by
 refine propext ⟨fun ⟨_, _, b, e, t, h⟩ => ?_, fun ⟨b, h⟩ => ⟨_, _, b, rfl, .of (.int i), h⟩⟩;cases e;rcases t with t | t | t
 cases t; exact ⟨b, h⟩
theorem zhh {T : String} : zd3 K T [.str x, .ty T] H Q = ∃ b, W.kitOne K (.type "str") (.type T) = some b /\ Q (.bl b) H := by
 refine propext ⟨fun ⟨_, _, b, e, t, h⟩ => ?_, fun ⟨b, h⟩ => ⟨_, _, b, rfl, .of (.str x), h⟩⟩;cases e;rcases t with t | t | t
 cases t; exact ⟨b, h⟩
theorem zj6 {T : String} : zd3 K T [.ref p, .ty T] H Q = ∃ t b, TyB K H (.ref p) t /\ W.kitOne K t (.type T) = some b /\ Q (.bl b) H := by
 refine propext ⟨fun ⟨_, t, b, e, ty, h⟩ => ?_, fun ⟨t, b, ty, h⟩ => ⟨_, t, b, rfl, ty, h⟩⟩;cases e; exact ⟨t, b, ty, h⟩
end
open PySem.Builtin PySem.Builtin.Str
section
variable {X : Cx}
def rIs (f : Str -> Bool) : V -> List V -> Hp -> VK -> Prop := fun x vs H Q => ∃ z, x = .str z /\ vs = [] /\ Q (.bl (f z)) H
def rIs2 (f : Str -> Str -> Bool) : V -> List V -> Hp -> VK -> Prop := fun x vs H Q => ∃ z y, x = .str z /\ vs = [.str y] /\ Q (.bl (f z y)) H
def zno : V -> List V -> Hp -> VK -> Prop := fun x vs H Q => ∃ z, x = .str z /\ vs = [] /\ z.length <= sizeLine /\ Q (.str (Txt.strip z)) H
theorem zk4 : ∀ (l : List (Str × Tok)), Vals ((l.map (·.1)).map V.str) (strValues l)
 | [] => .nil
 | (x, t) :: r => .cons ⟨t, rfl⟩ (zk4 r)
theorem zlg {prog : Program} {w : World} {A : Around} {E : ZQ} {s : Shared} {x y : Str} {t u : Tok} {Q : ZQ} (hy : (y.length == 0) = false)
  (hq : ∀ (its : List Value) tk, Vals ((Txt.split x y).map V.str) its -> Q (.ref s.heap.objs.size) { s with heap := s.heap.push { cls := .type "list", data := .seq its.toArray }, toks := tk })
  (hsz : x.length <= sizeLine) (hsz2 : (partsBetween x (occurrences x y 0 x.length (x.length + 1)) y.length).length <= sizeLine) :
  wpAny (model prog w) A (call (.builtin "str.split") [.str x t, .str y u]) Q E s := by
 cases h1 : (decide (x.length < y.length) || decide (strKind x < strKind y))
 ·cases hf : (occurrences x y 0 x.length (x.length + 1)).isEmpty
  ·refine call_meets F.slot_str_split (typeIs_str _ _ _) F.entry_str_split (F.args_str_split_2 _ _) (meets_str_split_sep x y t u h1 hy hf hsz hsz2) ?_;show wants Q E _ { s with toks := _, heap := s.heap.push { cls := .type "list", data := .seq (strsFrom s.toks (partsBetween x (occurrences x y 0 x.length (x.length + 1)) y.length)).toArray } };rw [strsFrom_eq];refine hq _ _ ?_;have e : (numbered s.toks (partsBetween x (occurrences x y 0 x.length (x.length + 1)) y.length)).map (·.1) = Txt.split x y := (numbered_texts _ _).trans ((if_neg (ne_true_of_eq_false h1)).trans (if_neg (ne_true_of_eq_false hf))).symm;rw [<- e];exact zk4 _
  ·refine call_meets F.slot_str_split (typeIs_str _ _ _) F.entry_str_split (F.args_str_split_2 _ _) (meets_str_split_not_found x y t u h1 hy hf) ?_;have e : [x] = Txt.split x y := ((if_neg (ne_true_of_eq_false h1)).trans (if_pos hf)).symm;refine hq [.str x t] s.toks ?_;rw [<- e];exact .cons ⟨t, rfl⟩ .nil
 ·refine call_meets F.slot_str_split (typeIs_str _ _ _) F.entry_str_split (F.args_str_split_2 _ _) (meets_str_split_cannot_occur x y t u h1) ?_;have e : [x] = Txt.split x y := (if_pos h1).symm;refine hq [.str x t] s.toks ?_;rw [<- e];exact .cons ⟨t, rfl⟩ .nil
def zk5 : V -> List V -> Hp -> VK -> Prop := fun x vs H Q => ∃ z y, x = .str z /\ vs = [.str y] /\ y ≠ Str.empty /\ z.length <= 1000000 /\ ∀ p, H p = none -> Q (.ref p) (upd H p (.lst ((Txt.split z y).map V.str)))
theorem zbq (x y : Str) : (Txt.split x y).length <= x.length + 2 := by
 unfold Txt.split
 split
 ·simp
 ·split
  ·simp
  ·rw [length_partsBetween];have := StrLaws.occ_length_le x y 0 x.length (x.length + 1);omega
theorem zcc : MtR X "str.split" zk5 := by
 intro Qa s σ H x vs v us Q I rx rv ⟨z, y, e1, e2, hy, hz, q⟩;subst e1 e2;obtain ⟨t, rfl⟩ := (show ∃ t, v = Value.str z t from rx)
 obtain ⟨u, rfl, ru⟩ := zep rv;obtain ⟨t', rfl⟩ := (show ∃ t, u = Value.str y t from ru)
 have hy' : (y.length == 0) = false := by
  cases e : (y.length == 0) with
  | false => rfl
  | true =>
   have h0 : y.length = 0 := by simpa using e
   have : y.cps.size = 0 := h0;have : y.cps = #[] := Array.eq_empty_of_size_eq_zero this;obtain ⟨c⟩ := y;simp only at this;subst this;exact absurd rfl hy
 refine zlg hy' (fun its tk hv => ⟨.ref _, _, I.lnew hv (by rw [yaf]; have := zbq z y; rw [sizeLine_eq]; omega), rfl, q _ I.fresh⟩) (by rw [sizeLine_eq]; omega) ?_;rw [length_partsBetween];have := StrLaws.occ_length_le z y 0 z.length (z.length + 1);rw [sizeLine_eq];omega
def zbQ (z : Str) (n : Nat) : Str := ⟨(List.replicate n z.cps).foldl (· ++ ·) #[]⟩
theorem zj7 (z : Str) : zbQ z 0 = Str.empty := rfl
theorem zj8 (z : Str) : zbQ z 1 = z := by
 unfold zbQ;simp
theorem zhi (n : Nat) : (List.replicate n (#[] : Array Nat)).foldl (· ++ ·) #[] = #[] := by
 induction n with
 | zero => rfl
 | succ n ih => rw [List.replicate_succ, List.foldl_cons]; simpa using ih
theorem zeb : ∀ (l : List (Array Nat)) (acc : Array Nat), (l.foldl (· ++ ·) acc).size = acc.size + (l.map Array.size).sum
 | [], acc => by simp
 | a :: l, acc => by rw [List.foldl_cons, zeb l]; simp; omega
theorem zec (z : Str) (n : Nat) : (zbQ z n).length = n * z.length := by
 show ((List.replicate n z.cps).foldl (· ++ ·) #[]).size = n * z.cps.size;rw [zeb];simp
def znp : R2 := fun x y H Q => ∃ z n, x = .str z /\ y = .int n /\ n < 1000 /\ -1000 < n /\ z.length <= 1000 /\ Q (.str (zbQ z n.toNat)) H
theorem zlh : OpR X (binaryOp .Mult) znp := by
 intro Qa s σ H x y v u Q I rx ry ⟨z, n, e1, e2, h1, h2, hz, q⟩;subst e1 e2;obtain ⟨t, rfl⟩ := (show ∃ t, v = Value.str z t from rx)
 obtain ⟨t', rfl⟩ := (show ∃ t, u = Value.int n t from ry)
 have hm : z.length * n.toNat <= 1000000 := yat (Nat.mul_le_mul hz (show n.toNat <= 1000 by omega)) δ;refine PySem.P.mul_str (by rw [ya8 ω, ya8 ω]; rfl) (fun hn _ => ?_) (fun _ _ => ?_) ?_
 ·intro hgt;have : (1000 : Int) <= (2 ^ 63 - 1) / n := Int.le_ediv_of_mul_le ω ω;omega
 ·unfold tooLong sizeLine;exact ya8 ω
 ·by_cases hn : n < 1
  ·rw [if_pos hn];have e : n.toNat = 0 := by omega
   rw [e, zj7] at q;exact ⟨δ, .str _, H, I.tok _, ⟨_, rfl⟩, q⟩
  ·rw [if_neg hn]
   by_cases h3 : (n == 1 || z.length == 0) = true
   ·rw [if_pos h3];have e : zbQ z n.toNat = z := by
     rcases Bool.or_eq_true_iff.mp h3 with e | e
     ·have : n = 1 := by simpa using e
      subst this;exact zj8 z
     ·have h0 : z.length = 0 := by simpa using e
      have : z.cps = #[] := Array.eq_empty_of_size_eq_zero h0;obtain ⟨c⟩ := z;simp only at this;subst this;unfold zbQ;rw [zhi]
    rw [e] at q;exact ⟨.str _, H, I, ⟨_, rfl⟩, q⟩
   ·rw [if_neg h3];refine ⟨?_, .str _, H, I.tok _, ⟨_, rfl⟩, q⟩;have := zec z n.toNat;show (zbQ z n.toNat).length <= sizeLine;rw [this, sizeLine_eq, Nat.mul_comm];omega
end
section
variable {K : W.Frag} {H : Hp} {Q : VK} {x y : Str} {f : Str -> Bool} {g : Str -> Str -> Bool}
theorem znq {n : Int} : znp (.str x) (.int n) H Q = (n < 1000 /\ -1000 < n /\ x.length <= 1000 /\ Q (.str (zbQ x n.toNat)) H) := propext ⟨fun ⟨_, _, e, e', h⟩ => by cases e; cases e'; exact h, fun h => ⟨x, n, rfl, rfl, h⟩⟩
theorem w_is : rIs f (.str x) [] H Q = Q (.bl (f x)) H := propext ⟨fun ⟨_, e, _, h⟩ => by cases e; exact h, fun h => ⟨x, rfl, rfl, h⟩⟩
theorem zoM : rIs2 g (.str x) [.str y] H Q = Q (.bl (g x y)) H := propext ⟨fun ⟨_, _, e, e', h⟩ => by cases e; cases e'; exact h, fun h => ⟨x, y, rfl, rfl, h⟩⟩
theorem zli : zno (.str x) [] H Q = (x.length <= sizeLine /\ Q (.str (Txt.strip x)) H) := propext ⟨fun ⟨_, e, _, h⟩ => by cases e; exact h, fun h => ⟨x, rfl, rfl, h⟩⟩
theorem zlj : zk5 (.str x) [.str y] H Q = (y ≠ Str.empty /\ x.length <= 1000000 /\ ∀ p, H p = none -> Q (.ref p) (upd H p (.lst ((Txt.split x y).map V.str)))) := propext ⟨fun ⟨_, _, e, e', h⟩ => by cases e; cases e'; exact h, fun h => ⟨x, y, rfl, rfl, h⟩⟩
end
def zj9 (X : Cx) (h : Heap) (x : Str) (u : Value) : Prop := ∃ m, h.Ns X.env.locals m /\ m x = some u
section
variable {X : Cx} {Qa : ZP} {σ : St} {H : Hp} {s : Shared}
theorem zfD {M : Model} {A : Around} {E : ZQ} {i : Nat} {x : Str} {v : V} {u : Value} {Q : Unit -> Shared -> Prop} (I : Inv X Qa σ H s) (hN : X.N.Nodup) (hi : X.N[i]? = some x) (hk : X.env.scope.names.lookup x = some .local) (r : RelV v u)
  (h : ∀ h' tk, s.toks <= tk -> Inv X Qa (σ.set i (some v)) H { s with heap := h', toks := tk } -> zj9 X h' x u -> Heap.SameBut X.env.locals s.heap h' -> Q () { s with heap := h', toks := tk }) : wpAny M A (storeName X.env x u) Q E s := by
 obtain ⟨m, hn, hl⟩ := id I.loc;have hcls : (X.env.scope.kind == .class || (X.env.scope.kind == .module && X.env.locals != X.env.globals)) = false := by rw [I.ok.kind]; rfl
 have hiσ : i < σ.length := by rw [I.len]; exact (yag.mp hi).1
 have cne := I.cne;have sL : ∀ b o, X.s₀.heap.get? b = some o -> b ≠ X.env.locals := fun b o q => Nat.ne_of_lt (Nat.lt_of_lt_of_le (yan q) I.ok.above);refine wpAny_storeName_local hk hn (fun h' hn' hs => ?_) hcls;refine h h' (s.toks + 1) (Nat.le_succ _) ⟨I.ok, I.os, I.bare, ⟨fun b o q n hb hx => ?_, fun b o q n hb hx => ?_, I.base.free, fun b o q hx => ?_, I.base.tups, I.base.frzs, I.base.tbls⟩, ⟨_, hn', fun j y v' e1 e2 e3 => ?_⟩, fun y c e => ?_, I.free, I.freeC, fun p hp => ?_, ?_, by simpa using I.len⟩ ⟨_, hn',ς⟩ hs
 ·exact (hs.2 b (sL b o q)).trans (I.base.keep b o q n hb hx)
 ·obtain ⟨sl, e1⟩ := I.base.slot b o q n hb hx;exact ⟨sl, (hs.2 b (sL b o q)).trans e1⟩
 ·obtain ⟨o', e1⟩ := I.base.there b o q hx;exact ⟨o', (hs.2 b (sL b o q)).trans e1⟩
 ·by_cases hj : j = i
  ·subst hj;rw [hi] at e1; cases e1;rw [List.getElem?_set_self hiσ] at e2;cases e2;exact ⟨u, r, .inl ⟨hk,ς⟩⟩
  ·rw [List.getElem?_set_ne (Ne.symm hj)] at e2;obtain ⟨u', r', q⟩ := hl j y v' e1 e2 e3;refine ⟨u', r', ?_⟩;rcases q with ⟨k, e⟩ | ⟨k, c, e, z⟩
   ·refine .inl ⟨k, ?_⟩;have : y ≠ x := fun e => hj (zdj hN e1 (e ▸ hi));simp [this, e]
   ·exact .inr ⟨k, c, e, z.sameBut hs (cne y c e)⟩
 ·obtain ⟨w', z⟩ := I.cell y c e;exact ⟨w', z.sameBut hs (cne y c e)⟩
 ·obtain ⟨e, n, ne, nf, d⟩ := I.pin p hp;exact ⟨(hs.2 p.1 ne).trans e, n, ne, nf, d⟩
 ·intro b ob q;refine (I.hok b ob q).stay (fun c w' hc k => (hs.2 c ?_).trans k) (fun _ q => q) fun _ _ q => q
  rintro rfl
  rcases hc with rfl | hc
  ·rw [I.free] at q; cases q
  ·rw [I.free] at hc; cases hc
theorem zlk {j : Nat} {x : Str} {z : Str} (I : Inv X Qa σ H s) (hj : X.N[j]? = some x) (hk : X.env.scope.names.lookup x = some .local) (e : σ[j]? = some (some (.str z))) : ∃ t, zj9 X s.heap x (.str z t) := by
 obtain ⟨m, hn, hl⟩ := I.loc;obtain ⟨u, r, l⟩ := hl j x _ hj e (.inl hk);obtain ⟨t, rfl⟩ := (show ∃ t, u = Value.str z t from r)
 rcases l with ⟨_, hm⟩ | ⟨k, _⟩
 ·exact ⟨t, m, hn, hm⟩
 ·rcases k with k | k
  ·exact absurd (hk.symm.trans k) δ
  ·exact absurd (hk.symm.trans k) δ
theorem zik {s' : Shared} {M : Model} {A : Around} {E : ZQ} {x : Str} {u : Value} {pos : Pos} {Q : ZQ} (I : Inv X Qa σ H s) (hk : X.env.scope.names.lookup x = some .local) (l : zj9 X s'.heap x u) (h : Q u s') (hd : (x == ("__debug__" : Str)) = false) :
  wpAny M A (eval (.Name x pos) X.env) Q E s' := by
 obtain ⟨m, hn, hm⟩ := l;exact wpAny_Name (wpAny_loadName_local I.ok.kind hk hn hm h) hd
theorem zfh {prog : Program} {w : World} {A : Around} {E : ZQ} {s : Shared} {x y : Str} {t u : Tok} {Q : ZQ} (hx : x.length ≠ 0) (hy : y.length ≠ 0) (hl : (x ++ y).length <= sizeLine) (h : Q (.str (x ++ y) s.toks) { s with toks := s.toks + 1 }) :
  wpAny (model prog w) A (binaryOp .Add (.str x t) (.str y u)) Q E s := by
 refine PySem.P.add_str ?_;rw [if_neg (by simpa using hx), if_neg (by simpa using hy)];exact ⟨hl, h⟩
theorem zil {jn : Nat} {sp sg a b c x : Str} {t : Tok} {D : Ends} {p1 p2 p3 p4 p5 p6 p7 p8 p9 p10 p11 : Pos} {k1 k2 : Nat} (I : Inv X Qa σ H s) (hN : X.N.Nodup) (hj : X.N[jn]? = some sp) (hks : X.env.scope.names.lookup sp = some .local) (hkg : X.env.scope.names.lookup sg = some .local)
  (lg : zj9 X s.heap sg (.str c t)) (ht : 1 <= t) (ht2 : t < s.toks) (e : σ[jn]? = some (some (.str x))) (ha : a.length ≠ 0) (hc : c.length ≠ 0) (hb : b.length ≠ 0) (hx : x.length <= 1000000) (hz : (a ++ c ++ b).length <= 10) (ne : (c == a ++ c ++ b) = false)
  (q : D.nx (σ.set jn (some (.str (Txt.replace x c (a ++ c ++ b))))) H) (hd1 : (sp == ("__debug__" : Str)) = false) (hd2 : (sg == ("__debug__" : Str)) = false)
  (hsw : swapsWith (.Call (.Attribute (.Name sp p3) "replace" p4) [.Name sg p5, .BinOp (.BinOp (.Constant (.str a) k1 p6) .Add (.Name sg p7) p8) .Add (.Constant (.str b) k2 p9) p10] [] p11) (some (.Name sp p2)) p1.line X.env = pure false)
  (hbase : attributeBase (.Name sp p3) "replace" X.env (eval (.Name sp p3) X.env) = eval (.Name sp p3) X.env)
  (hfew : ((backTo p11 (starEach [.Name sg p5, .BinOp (.BinOp (.Constant (.str a) k1 p6) .Add (.Name sg p7) p8) .Add (.Constant (.str b) k2 p9) p10] X.env)).all (fun x => !x.1) && (backToKw p11 (keywordEach [] X.env)).all (fun x => x.1.isSome)
   && decide (([.Name sg p5, .BinOp (.BinOp (.Constant (.str a) k1 p6) .Add (.Name sg p7) p8) .Add (.Constant (.str b) k2 p9) p10] : List Expr).length + ([] : List Keyword).length + (if ([] : List Keyword).isEmpty then 0 else 1) < 30)) = true)
  (hline : (p4.endLine == p11.line) = true)
  (hs1 : starEach [.Name sg p5, .BinOp (.BinOp (.Constant (.str a) k1 p6) .Add (.Name sg p7) p8) .Add (.Constant (.str b) k2 p9) p10] X.env = [(false, eval (.Name sg p5) X.env), (false, eval (.BinOp (.BinOp (.Constant (.str a) k1 p6) .Add (.Name sg p7) p8) .Add (.Constant (.str b) k2 p9) p10) X.env)]) :
  wpAny (model X.prog X.w) X.A (exec (.Assign [.Name sp p2] (.Call (.Attribute (.Name sp p3) "replace" p4) [.Name sg p5, .BinOp (.BinOp (.Constant (.str a) k1 p6) .Add (.Name sg p7) p8) .Add (.Constant (.str b) k2 p9) p10] [] p11) p1) X.env) (SP X Qa D) X.xe s := by
 obtain ⟨tx, lx⟩ := zlk I hj hks e;have l1 : (a ++ c).length <= sizeLine := by
  have := strLen_append (a ++ c) b;rw [sizeLine_eq]; omega
 have n1 : (a ++ c).length ≠ 0 := by rw [strLen_append]; omega
 refine wpAny_Assign_Name ?_ hsw;refine wpAny_Call_method_late hbase hfew hline rfl (zik I hks lx ?_ hd1);refine ⟨"str", "str.replace", F.plainAttrs_str, F.slot_str_replace, F.type_str_replace, typeIs_str _ _ _, (fun _ z => nomatch z), ?_⟩;rw [hs1];refine Calls.callWith_builtin rfl (Calls.evalArgs_plain ?_);refine Calls.spliced_cons (zik I hkg lg ?_ hd2);refine Calls.spliced_cons (wpAny_BinOp (wpAny_BinOp (Calls.Constant_str ?_)));refine zik (s' := { s with toks := s.toks + 1 }) I hkg lg ?_ hd2;refine zfh ha hc l1 ?_;refine Calls.Constant_str ?_;refine zfh n1 hb (by rw [sizeLine_eq]; omega) ?_;refine Calls.spliced_nil ?_;refine SC.replace (Nat.ne_of_gt ht) (Nat.succ_ne_zero _) (Nat.ne_of_lt (Nat.lt_of_lt_of_le ht2 (Nat.le_add_right _ 3))) ne ?_ fun t' k => ?_
 ·have : (x.length + 1) * (a ++ c ++ b).length <= 1000001 * 10 := Nat.mul_le_mul ω hz;omega
 ·exact zbZ (v := .str (Txt.replace x c (a ++ c ++ b))) (I.tok k) hN hj (.inl hks) ⟨t', rfl⟩ (fun s2 I2 => ⟨_, H, I2, q⟩) (.inr hks)
end
def PS1 (X : Cx) (st : Stmt) (t : TS) : Prop :=
 ∀ (Qa : ZP) (s : Shared) (σ : St) (H : Hp) (D : Ends), 1 <= s.toks -> Inv X Qa σ H s -> t D σ H -> wpAny (model X.prog X.w) X.A (exec st X.env) (SP X Qa D) X.xe s
def zbR (a b : Str) (x : Str) (c : Nat) : Str := Txt.replace x ⟨#[c]⟩ (a ++ ⟨#[c]⟩ ++ b)
def znr (jn gn : Nat) (a b : Str) (ti : TE) : TS := fun D σ H => ti σ H fun v H1 => ∃ z x, v = .str z /\ σ[jn]? = some (some (.str x)) /\ (z.cps.all (· < 128)) = true /\
 (∀ k, k <= z.cps.size -> ((z.cps.toList.take k).foldl (zbR a b) x).length <= 1000000) /\ (∀ c ∈ z.cps.toList, ((⟨#[c]⟩ : Str) == a ++ ⟨#[c]⟩ ++ b) = false) /\
 ∀ σ' : St, σ'[jn]? = some (some (.str (z.cps.toList.foldl (zbR a b) x))) -> (∀ m, m ≠ jn -> m ≠ gn -> σ'[m]? = σ[m]?) -> σ'.length = σ.length -> D.nx σ' H1
section
variable {X : Cx}
theorem zll {jn gn : Nat} {sp sg a b : Str} {p0 p1 p2 p3 p4 p5 p6 p7 p8 p9 p10 p11 pos : Pos} {k1 k2 : Nat} {iter : Expr} {ti : TE} (hp : PassesOwn (model X.prog X.w) X.A X.env X.xe) (hcalm : X.calm = true) (hN : X.N.Nodup) (hj : X.N[jn]? = some sp) (hg : X.N[gn]? = some sg) (hjg : jn ≠ gn)
  (hks : X.env.scope.names.lookup sp = some .local) (hkg : X.env.scope.names.lookup sg = some .local) (hi : PE X iter ti) (ha : a.length ≠ 0) (hb : b.length ≠ 0) (ha2 : a.length <= 4) (hb2 : b.length <= 4) (hd1 : (sp == ("__debug__" : Str)) = false := by decide) (hd2 : (sg == ("__debug__" : Str)) = false := by decide)
  (hsw : swapsWith (.Call (.Attribute (.Name sp p3) "replace" p4) [.Name sg p5, .BinOp (.BinOp (.Constant (.str a) k1 p6) .Add (.Name sg p7) p8) .Add (.Constant (.str b) k2 p9) p10] [] p11) (some (.Name sp p2)) p1.line X.env = pure false := by rfl)
  (hbase : attributeBase (.Name sp p3) "replace" X.env (eval (.Name sp p3) X.env) = eval (.Name sp p3) X.env := by rfl)
  (hfew : ((backTo p11 (starEach [.Name sg p5, .BinOp (.BinOp (.Constant (.str a) k1 p6) .Add (.Name sg p7) p8) .Add (.Constant (.str b) k2 p9) p10] X.env)).all (fun x => !x.1) && (backToKw p11 (keywordEach [] X.env)).all (fun x => x.1.isSome)
   && decide (([.Name sg p5, .BinOp (.BinOp (.Constant (.str a) k1 p6) .Add (.Name sg p7) p8) .Add (.Constant (.str b) k2 p9) p10] : List Expr).length + ([] : List Keyword).length + (if ([] : List Keyword).isEmpty then 0 else 1) < 30)) = true := by rfl)
  (hline : (p4.endLine == p11.line) = true := by rfl)
  (hs1 : starEach [.Name sg p5, .BinOp (.BinOp (.Constant (.str a) k1 p6) .Add (.Name sg p7) p8) .Add (.Constant (.str b) k2 p9) p10] X.env = [(false, eval (.Name sg p5) X.env), (false, eval (.BinOp (.BinOp (.Constant (.str a) k1 p6) .Add (.Name sg p7) p8) .Add (.Constant (.str b) k2 p9) p10) X.env)] := by rfl)
  (hs : ∀ x, foldedSetIterable iter X.env x = pure x := by intro _; rfl) :
  PS1 X (.For (.Name sg p0) iter [.Assign [.Name sp p2] (.Call (.Attribute (.Name sp p3) "replace" p4) [.Name sg p5, .BinOp (.BinOp (.Constant (.str a) k1 p6) .Add (.Name sg p7) p8) .Add (.Constant (.str b) k2 p9) p10] [] p11) p1] [] pos) (znr jn gn a b ti) := by
 intro Qa s σ H D ht I h;refine wpAny_For (wpAny_with_toks ht (wpAny_mono (hi Qa s σ H _ I h) (fun v s1 ⟨xv, H1, I1, r1, z, x, hz, hx, hasc, Qe, hne, q⟩ ht1 => ?_) (fun _ _ y _ => y))) hs;subst hz;obtain ⟨tz, rfl⟩ := (show ∃ t, v = Value.str z t from r1)
 refine wpAny_pyIter_ascii hasc ?_;have hf0 : FpOk X Qa H1 s1.heap.objs.size := I1.fpOk (yai _) (I1.hok.fresh (yai _));have hjl : jn < σ.length := by rw [I.len]; exact (yag.mp hj).1
 have hgl : gn < σ.length := by rw [I.len]; exact (yag.mp hg).1
 refine codeAny_forLoop_any (fun n s' => ∃ i σ', Inv X Qa σ' H1 s' /\ s'.heap.IsStrIter s1.heap.objs.size "str_ascii_iterator" z tz i /\ i <= z.cps.size /\ n = z.cps.size - i /\ 1 <= s'.toks /\
   σ'[jn]? = some (some (.str ((z.cps.toList.take i).foldl (zbR a b) x))) /\ (∀ m, m ≠ jn -> m ≠ gn -> σ'[m]? = σ[m]?) /\ σ'.length = σ.length) ?_ z.cps.size
  ⟨0, σ, I1.kept (t' := s1.toks) (fun b o e => yac _ e), ⟨_, yaj _ rfl, rfl, rfl⟩, yaq _, rfl, ht1, by simpa using hx, fun _ _ _ => rfl, rfl⟩
 rintro n s3 ⟨i, σ3, I3, st3, hi3, hn3, ht3, ej, em, el⟩
 obtain ⟨f0, f1, f2, f3, f4, f5⟩ := hf0
 by_cases hlt : i < z.cps.size
 ·have hc : z.cps[i]? = some z.cps[i] := by simp [hlt]
  refine wpAny_passesOwn hp (wpAny_pyNext_ascii_item st3 hc fun h4 st4 sb4 => ?_);have I4 : Inv X Qa σ3 H1 { s3 with heap := h4, toks := s3.toks + 1 } := I3.turned (fun b o hb e => (sb4.2 b hb).trans e) f0 f1 f3 f4 f5;obtain ⟨o4, e4, c4, d4⟩ := id st4;refine wpAny_passesOwn hp (zgP (s := { s3 with heap := h4, toks := s3.toks + 1 }) e4 c4 d4 δ ?_);refine wpAny_passesOwn hp (wpAny_assign_Name ?_);have hf : ∀ b ∈ [s1.heap.objs.size], FpOk X Qa H1 b := fun b hb => by
   have e : b = s1.heap.objs.size := by simpa using hb
   subst e;exact ⟨f0, f1, f2, f3, f4, f5⟩
  have I4' := I4.pinned hf (fun b hb => by
   have e : b = s1.heap.objs.size := by simpa using hb
   subst e;exact ⟨o4, e4, fun v z => by rw [d4] at z; cases z⟩)
  refine zfD (v := .str ⟨#[z.cps[i]]⟩) I4' hN hg hkg ⟨_, rfl⟩ fun h5 tk5 ht5 I5 l5 sb5 => ?_;have ht5' : s3.toks + 1 <= tk5 := ht5;have ej5 : (σ3.set gn (some (V.str ⟨#[z.cps[i]]⟩)))[jn]? = some (some (.str ((z.cps.toList.take i).foldl (zbR a b) x))) := by
   rw [List.getElem?_set_ne (Ne.symm hjg)]; exact ej
  have hct : z.cps.toList[i]? = some z.cps[i] := by simp [hlt]
  have hl1 : (a ++ (⟨#[z.cps[i]]⟩ : Str) ++ b).length <= 10 := by
   rw [strLen_append, strLen_append];have : (⟨#[z.cps[i]]⟩ : Str).length = 1 := rfl;omega
  have body := zil (s := { s3 with heap := h5, toks := tk5 }) (D := { nx := fun σ' H' => H' = H1 /\ σ' = (σ3.set gn (some (V.str ⟨#[z.cps[i]]⟩))).set jn (some (.str (zbR a b ((z.cps.toList.take i).foldl (zbR a b) x) z.cps[i]))), rt := fun _ _ => False })
   (p1 := p1) (p2 := p2) (p3 := p3) (p4 := p4) (p5 := p5) (p6 := p6) (p7 := p7) (p8 := p8) (p9 := p9) (p10 := p10) (p11 := p11) (k1 := k1) (k2 := k2) (a := a) (b := b)
   I5 hN hj hks hkg l5 ht3 (show s3.toks < tk5 from ht5') ej5 ha (by show (1 : Nat) ≠ 0; decide) hb (Qe i hi3) hl1 (hne _ (ya1 hct)) ⟨rfl, rfl⟩ hd1 hd2 hsw hbase hfew hline hs1
  refine wpAny_passesOwn hp (wpAny_with_toks (n := 1) (by show 1 <= tk5; omega) (wpAny_execs_cons (wpAny_mono body (fun f s6 q6 => ?_) fun _ _ y _ => y)));cases f with
  | next =>
   obtain ⟨σ6, H6, I6, e6, e6'⟩ := q6;subst e6 e6';refine wpAny_execs_nil fun ht6 => ?_;have hpin := (I6.pin (s1.heap.objs.size, o4) (List.mem_append_right _ (List.mem_append_right _ (zbA (h := h4) (yah.mpr rfl) e4)))).1;refine ⟨z.cps.size - (i + 1),ω, i + 1, _, I6.unpinned, ⟨o4, hpin, c4, d4⟩, hlt, rfl, ht6, ?_, fun m h1 h2 => ?_, by simp [el]⟩
   ·rw [List.getElem?_set_self (by simp [el, hjl])];have e : List.take (i + 1) z.cps.toList = List.take i z.cps.toList ++ [z.cps[i]] := by rw [List.take_succ, hct]; rfl
    rw [e, List.foldl_append]
    rfl
   ·rw [List.getElem?_set_ne (Ne.symm h1), List.getElem?_set_ne (Ne.symm h2)];exact em m h1 h2
  | ret v => obtain ⟨_, _, _, _, _, z⟩ := q6; exact z.elim
  | brk => obtain ⟨_, _, _, z⟩ := q6; exact z.elim
  | cont => obtain ⟨_, _, _, z⟩ := q6; exact z.elim
 ·have e : i = z.cps.size := by omega
  subst e;refine wpAny_passesOwn hp (wpAny_pyNext_ascii_end (I3.ok.hd hcalm) st3 ς fun h4 eb => ?_);have I4 : Inv X Qa σ3 H1 { s3 with heap := h4 } := I3.turned (t' := s3.toks) (fun b o hb e => eb b o hb e) f0 f1 f3 f4 f5;have ee : List.take z.cps.size z.cps.toList = z.cps.toList := List.take_of_length_le ς;rw [ee] at ej;exact wpAny_execs_nil ⟨σ3, H1, I4, q σ3 ej em el⟩
end
def Phi (mg : Str -> Option Value) (C : Addr) (cls : Value) (vs : Array Value) : Prop := cls = .ref C /\ ∃ a0, vs[0]? = some a0 /\ ∃ c, vs[2]? = some c /\ (mg (Str.ofString "NoLines") ≠ some (.ref C) -> c = .none)
theorem Phi.set {mg : Str -> Option Value} {C : Addr} {cls x : Value} {vs : Array Value} (p : Phi mg C cls vs) : Phi mg C cls (vs.setIfInBounds 1 x) := by
 obtain ⟨rfl, a0, h0, c, h2, hc⟩ := p;exact ⟨rfl, a0, by rw [Array.getElem?_setIfInBounds_ne δ]; exact h0, c, by rw [Array.getElem?_setIfInBounds_ne δ]; exact h2, hc⟩
def TrP (h base : Heap) (e : Addr) (φ : Value -> Array Value -> Prop) (fl : Value) : Prop :=
 ∃ oe vs T oT ts, h.get? e = some oe /\ φ oe.cls vs /\ oe.data = .fields vs /\ vs[1]? = some (.ref T) /\ base.get? T = none /\ T ≠ e /\ h.get? T = some oT /\ oT.data = .fields ts /\ ts[3]? = some fl
section
variable {M : Model} {A : Around} {E : ZQ} {s : Shared} {base : Heap} {env : Env} {outer l : List Env} {L e : Addr} {φ : Value -> Array Value -> Prop} {Q : Unit -> Shared -> Prop}
theorem zk6 {oe : Obj} {vs : Array Value} {head : Value} {hadNext : Bool} (hφ : ∀ c vs x, φ c vs -> φ c (vs.setIfInBounds 1 x)) (hfr : A.frames = some (env :: outer)) (hl : s.heap.FunFrames base (env :: outer)) (hf : env.frame = some L) (he : s.heap.get? e = some oe) (hkb : base.StaysIn s.heap) (hen : base.get? e = none)
  (hd : oe.data = .fields vs) (hsz : 1 < vs.size) (h0 : φ oe.cls vs) (h : ∀ h', base.StaysIn h' -> h'.FunFrames base (env :: outer) -> TrP h' base e φ (rawInt L) -> s.heap.UpToSlots h' -> Q () { s with heap := h' }) :
  wpAny M A (do let a <- frameOf env; let pl <- entryPlaceOf L hadNext; let b <- EntryCells.newEntry head a .none (rawInt L) .none pl; setField (.ref e) 1 b) Q E s := by
 have hene : e ∉ (env :: outer).filterMap (·.frame) := fun hm => by obtain ⟨_, o, ho, hnf⟩ := hl.mem hm; rw [he] at ho; cases ho; exact hnf vs hd
 refine yaa (wpAny_frameOf_fun hfr hl hf fun h₁ hs₁ => yaa (wpAny_entryPlaceOf fun pl hpl => ?_)); unfold EntryCells.newEntry newFields;refine yaa (wpAny_newObj_type ?_ (hpl.sizeOk5 _ _ _ _ _)); have he₁ : h₁.get? e = some oe := (hs₁.2.1 e hene).trans he;have kb₁ : base.StaysIn h₁ := fun b o hbo => (hs₁.2.1 b fun hm => by rw [(hl.mem hm).1] at hbo; cases hbo).trans (hkb b o hbo); have hTe : h₁.objs.size ≠ e := Nat.ne_of_gt (yan he₁);generalize hN : ({ cls := .type "traceback", dict := none, data := .fields ([head, .ref L, .none, rawInt L, .none] ++ (if pl.isEmpty then List.replicate 6 Value.none else pl)).toArray } : Obj) = NT;have hNd : ∃ ts, NT.data = .fields ts /\ ts[3]? = some (rawInt L) := ⟨_, by rw [<- hN], by first | (simp; done) | (rcases hpl with rfl | ⟨_, _, _, _, _, _, _, rfl⟩ <;> simp)⟩
 obtain ⟨ts, hNd, h3⟩ := hNd; have hNf : NT.isFreed = false := Obj.isFreed_of_fields hNd;have he₂ := yac (h := h₁) NT he₁; refine wpAny_setField he₂ hd hsz ?_; have hd₃ := Obj.data_mapFields hd (·.setIfInBounds 1 (Value.ref h₁.objs.size));have he₃ := Heap.get?_update_self (Obj.mapFields (·.setIfInBounds 1 (Value.ref h₁.objs.size))) he₂ (Obj.isFreed_of_fields hd₃);have keep : ∀ b o, b ≠ e -> h₁.get? b = some o -> ((h₁.push NT).update e (Obj.mapFields (·.setIfInBounds 1 (Value.ref h₁.objs.size)))).get? b = some o := fun b o hbe hb => by rw [Heap.get?_update_other _ _ (Ne.symm hbe)]; exact yac _ hb
 have noR : ∀ b o, s.heap.get? b = some o -> (∀ vs, o.data ≠ .fields vs) -> b ≠ e := fun b o hb hnf q => by rw [q, he] at hb; cases hb; exact hnf vs hd
 refine h _ (fun b o hbo => keep b o (fun q => by rw [q, hen] at hbo; cases hbo) (kb₁ b o hbo)) (hl.of_keeps fun b o hb hnf => ?_) ⟨_, _, h₁.objs.size, _, ts, he₃, ?_, hd₃, by simp [hsz], kb₁.fresh, hTe, (Heap.get?_update_other _ _ (Ne.symm hTe)).trans (yaj h₁ hNf), hNd, h3⟩ fun b o hb hnf => ?_
 ·obtain ⟨sl, hs⟩ := hs₁.2.2 b o hb; exact ⟨_, keep b _ (noR b o hb hnf) hs, rfl⟩
 ·rw [Obj.cls_mapFields]; exact hφ _ _ _ h0
 ·obtain ⟨sl, hs⟩ := hs₁.2.2 b o hb; exact ⟨sl, keep b _ (noR b o hb hnf) hs⟩
theorem zoN (hφ : ∀ c vs x, φ c vs -> φ c (vs.setIfInBounds 1 x)) (hfr : A.frames = some (env :: outer)) (hl : s.heap.FunFrames base (env :: outer)) (hf : env.frame = some L) (ht : TrP s.heap base e φ .none) (hkb : base.StaysIn s.heap) (hen : base.get? e = none)
  (h : ∀ h', base.StaysIn h' -> h'.FunFrames base (env :: outer) -> TrP h' base e φ (rawInt L) -> s.heap.UpToSlots h' -> Q () { s with heap := h' }) : wpAny M A (noteFrame (.ref e) env) Q E s := by
 obtain ⟨oe, vs, T, oT, ts, he, h0, hd, h1, hnT, hTe, hT, hdT, h3⟩ := ht;unfold noteFrame; simp only [hf]; refine yaa (wpAny_field he hd h1 ?_); rw [if_pos (show (Value.ref T != Value.none) = true from by simp)];refine yaa (wpAny_field hT hdT h3 ?_); rw [if_neg (show ¬ ((Value.none == rawInt L) = true) from by simp [rawInt])]; refine yaa (wpAny_setField hT hdT (Array.getElem?_eq_some_iff.mp h3).1 ?_);have other : ∀ b, b ≠ T -> (s.heap.update T (Obj.mapFields (·.setIfInBounds 3 Value.none))).get? b = s.heap.get? b := fun b hb => Heap.get?_update_other _ _ (Ne.symm hb);have noR : ∀ b o, s.heap.get? b = some o -> (∀ vs, o.data ≠ .fields vs) -> b ≠ T := fun b o hb hnf q => by rw [q, hT] at hb; cases hb; exact hnf ts hdT
 refine zk6 hφ hfr (hl.of_keeps fun b o hb hnf => ⟨o, (other b (noR b o hb hnf)).trans hb, rfl⟩) hf ((other e (Ne.symm hTe)).trans he) (fun b o hbo => (other b fun q => by rw [q, hnT] at hbo; cases hbo).trans (hkb b o hbo)) hen hd (Array.getElem?_eq_some_iff.mp h1).1 h0
  fun h' x1 x2 x3 x4 => h h' x1 x2 x3 fun b o hb hnf => x4 b o ((other b (noR b o hb hnf)).trans hb) hnf
theorem zlm {fl : Value} (hkb : base.StaysIn s.heap) (hl : s.heap.FunFrames base l) (ht : TrP s.heap base e φ fl)
  (h : ∀ h', base.StaysIn h' -> h'.FunFrames base l -> TrP h' base e φ .none -> (∀ b o, s.heap.get? b = some o -> (∀ vs, o.data ≠ .fields vs) -> h'.get? b = some o) -> Q () { s with heap := h' }) : wpAny M A (setFlight (.ref e) none) Q E s := by
 obtain ⟨oe, vs, T, oT, ts, he, h0, hd, h1, hnT, hTe, hT, hdT, h3⟩ := ht;have hsz3 : 3 < ts.size := (Array.getElem?_eq_some_iff.mp h3).1;have other : ∀ b, b ≠ T -> (s.heap.update T (Obj.mapFields (·.setIfInBounds 3 ((none : Option Addr).elim Value.none fun f => rawInt f)))).get? b = s.heap.get? b := fun b hb => Heap.get?_update_other _ _ (Ne.symm hb);have noR : ∀ b o, s.heap.get? b = some o -> (∀ vs, o.data ≠ .fields vs) -> b ≠ T := fun b o hb hnf q => by rw [q, hT] at hb; cases hb; exact hnf ts hdT
 unfold setFlight; refine yaa (wpAny_field he hd h1 ?_); rw [if_pos (show (Value.ref T != Value.none) = true from by simp)];refine wpAny_setField hT hdT hsz3 (h _ (fun b o hbo => (other b fun q => by rw [q, hnT] at hbo; cases hbo).trans (hkb b o hbo)) (hl.of_keeps fun b o hb hnf => ⟨o, (other b (noR b o hb hnf)).trans hb, rfl⟩) ?_ fun b o hb hnf => (other b (noR b o hb hnf)).trans hb);exact ⟨oe, vs, T, _, _, (other e (Ne.symm hTe)).trans he, h0, hd, h1, hnT, hTe, Heap.get?_update_self _ hT (Obj.isFreed_of_fields (Obj.data_mapFields hdT _)), Obj.data_mapFields hdT _, by simp [hsz3]⟩
theorem zk7 (hf : env.frame = some L) (ht : TrP s.heap base e φ (rawInt L)) (h : Q () s) : wpAny M A (noteFrame (.ref e) env) Q E s := by
 obtain ⟨oe, vs, T, oT, ts, he, h0, hd, h1, hnT, hTe, hT, hdT, h3⟩ := ht;unfold noteFrame; simp only [hf]; refine yaa (wpAny_field he hd h1 ?_); rw [if_pos (show (Value.ref T != Value.none) = true from by simp)];refine yaa (wpAny_field hT hdT h3 ?_); rw [if_pos (show (rawInt L == rawInt L) = true from by simp)]; exact yab h
end
def Air (mg : Str -> Option Value) (h : Heap) (e C : Addr) (fl : Option Value) (l : List Addr) : Prop :=
 ∃ oe vs a0, h.get? e = some oe /\ oe.cls = .ref C /\ oe.data = .fields vs /\ (vs[0]? = some a0 /\ ∃ c, vs[2]? = some c /\ (mg (Str.ofString "NoLines") ≠ some (.ref C) -> c = .none)) /\
  match fl with
  | none => l = [e] /\ vs[1]? = some .none
  | some f => ∃ T oT ts, l = [e, T] /\ vs[1]? = some (.ref T) /\ T ≠ e /\ h.get? T = some oT /\ oT.data = .fields ts /\ ts[3]? = some f
theorem Air.flds {mg : Str -> Option Value} {h : Heap} {e C : Addr} {fl : Option Value} {l : List Addr} (a : Air mg h e C fl l) : ∀ b ∈ l, ∃ o vs, h.get? b = some o /\ o.data = .fields vs := by
 intro b hb;obtain ⟨oe, vs, a0, h1, h2, h3, h4, h5⟩ := a;cases fl with
 | none =>
  obtain ⟨rfl, _⟩ := h5;obtain rfl := yah.mp hb;exact ⟨oe, vs, h1, h3⟩
 | some f =>
  obtain ⟨T, oT, ts, rfl, q1, q2, q3, q4, q5⟩ := h5;rcases yau.mp hb with rfl | hb
  ·exact ⟨oe, vs, h1, h3⟩
  ·obtain rfl := yah.mp hb;exact ⟨oT, ts, q3, q4⟩
theorem Air.first {mg : Str -> Option Value} {h : Heap} {e C : Addr} {fl : Option Value} {l : List Addr} (a : Air mg h e C fl l) : e ∈ l := by
 obtain ⟨oe, vs, a0, h1, h2, h3, h4, h5⟩ := a;cases fl with
 | none => obtain ⟨rfl, _⟩ := h5; exact yah.mpr rfl
 | some f => obtain ⟨T, oT, ts, rfl, _⟩ := h5; exact List.mem_cons_self ..
theorem ObjOk.there {P : Program} {w : World} {H : Hp} {h : Heap} {a : Addr} {o : HO} (x : ObjOk P w H h a o) : ∃ ob, h.get? a = some ob := by
 cases o with
 | lst xs => obtain ⟨_, _, _, _, e⟩ := x; exact ⟨_, e⟩
 | tup xs => obtain ⟨_, _, _, p⟩ := x; obtain ⟨o, e, _⟩ := p; exact ⟨_, e⟩
 | dK kvs => obtain ⟨_, _, _, _, o, _, _, e, _⟩ := x; exact ⟨_, e⟩
 | dT kvs => obtain ⟨_, _, _, _, o, _, _, e, _⟩ := x; exact ⟨_, e⟩
 | set S n => obtain ⟨o, _, _, _, e, _⟩ := x; exact ⟨_, e⟩
 | ins C dx fs => obtain ⟨_, _, _, e, _⟩ := x; exact ⟨_, e⟩
 | own y => obtain ⟨_, e⟩ := x; exact ⟨_, e⟩
 | xd fs => obtain ⟨_, ⟨_, _, _, e, _⟩, _⟩ := x; exact ⟨_, e⟩
 | rng lo hi => obtain ⟨_, _, _, e⟩ := x; exact ⟨_, e⟩
 | frz ob u => obtain ⟨e, _⟩ := x; exact ⟨_, e⟩
 | tbl ps => exact ⟨_, (show h.get? a = some _ from x)⟩
 | met f y => exact ⟨_, (show h.get? a = some _ from x)⟩
 | ext φ => obtain ⟨_, ⟨_, e⟩, _⟩ := x; exact ⟨_, e⟩
structure Fnc (X : Cx) : Prop where
 stk : X.stack = X.env :: X.outer
 fr : X.env.frame = some X.env.locals
 ex : X.ex = []
theorem za7 {CX : CXT} {P : Program} {w : World} {K : W.Frag} {mg : Str -> Option Value} {base : Heap} {N : List Str} {qual : Str} {scope : Scope} {f : Addr} {cd : Value} {A : Around} {outer : List Env} {s : Shared} {H : Hp} {E : XK} :
  Fnc (cxOf CX P w K mg base N qual scope f cd A outer s H E) := ⟨rfl, rfl, rfl⟩
theorem Fnc.wish {X : Cx} (F : Fnc X) (E : ZQ) : Fnc (X.wish E) := ⟨F.stk, F.fr, F.ex⟩
theorem zns {h b b' : Heap} {l : List Env} (x : h.FunFrames b l) (n : ∀ a ∈ frs l, b'.get? a = none) : h.FunFrames b' l := by
 induction l with
 | nil => trivial
 | cons env rest ih =>
  obtain ⟨hk, ⟨L, o, hf, hn, ho, hd⟩, hr⟩ := x;refine ⟨hk, ⟨L, o, hf, n L (by unfold frs; rw [List.filterMap_cons, hf]; exact List.mem_cons_self ..), ho, hd⟩, ih hr fun a ha => n a ?_⟩;unfold frs at ha ⊢;rw [List.filterMap_cons, hf];exact List.mem_cons_of_mem _ ha
def bsOf (X : Cx) (h : Heap) (l : List Addr) : Heap := W.hideAll h (l ++ frs X.stack)
section
variable {X : Cx} {σ : St} {H : Hp} {s : Shared} {l : List Addr} {e C : Addr} {fl : Option Value}
theorem ze1 : (bsOf X s.heap l).StaysIn s.heap := fun b o e => W.of_hideAll _ e
theorem zcT {b : Addr} (h : b ∈ l) : (bsOf X s.heap l).get? b = none := W.hideAll_none _ (List.mem_append_left _ h)
theorem zk8 {b : Addr} {o : Obj} (h : s.heap.get? b = some o) (n : b ∉ l) (n' : b ∉ frs X.stack) : (bsOf X s.heap l).get? b = some o :=
 W.hideAll_get _ h fun z => (yay.mp z).elim n n'
theorem zim (I : Inv X [] σ H s) : s.heap.FunFrames (bsOf X s.heap l) X.stack := zns I.stack fun a ha => W.hideAll_none _ (List.mem_append_right _ ha)
theorem land (F : Fnc X) (I : Inv X [] σ H s) (hl : ∀ b ∈ l, X.s₀.heap.get? b = none /\ H b = none /\ ∀ p ∈ X.pn, p.1 ≠ b) (hf : ∀ b ∈ l, ∃ o vs, s.heap.get? b = some o /\ o.data = .fields vs) {h' : Heap}
  (st : (bsOf X s.heap l).StaysIn h') (up : s.heap.UpToSlots h') : Inv X [] σ H { s with heap := h' } := by
 have frD : ∀ b ∈ frs X.stack, ∃ o, s.heap.get? b = some o /\ ∀ vs, o.data ≠ .fields vs := fun b hb => (I.stack.mem hb).2;have nin : ∀ b ∈ l, b ∉ frs X.stack := fun b hb hz => by
  obtain ⟨o, vs, h1, h2⟩ := hf b hb;obtain ⟨o', h1', h2'⟩ := frD b hz;rw [h1] at h1'; cases h1';exact h2' vs h2
 have keep : ∀ b o, s.heap.get? b = some o -> b ∉ l -> b ∉ frs X.stack -> h'.get? b = some o := fun b o q n n' => st b o (zk8 q n n');have any : ∀ b o, s.heap.get? b = some o -> b ∉ l -> ∃ sl, h'.get? b = some { o with slots := sl } := fun b o q n => by
  by_cases hb : b ∈ frs X.stack
  ·obtain ⟨o', h1, h2⟩ := frD b hb;rw [q] at h1; cases h1;exact up b o q h2
  ·exact ⟨o.slots, keep b o q n hb⟩
 have s0l : ∀ b o, X.s₀.heap.get? b = some o -> b ∉ l := fun b o q z => by rw [(hl b z).1] at q; cases q
 have nex : ∀ b, b ∉ X.ex := fun b => by rw [F.ex]; simp
 have subf : ∀ b o, X.s₀.heap.get? b = some o -> b ∉ X.fs -> b ∉ frs X.stack := fun b o q n z => by
  rcases yau.mp (I.stkSub b z) with e | e
  ·exact absurd (Nat.lt_of_lt_of_le (yan q) I.ok.above) (by rw [<- e]; exact Nat.lt_irrefl _)
  ·exact n e
 have nL : X.env.locals ∉ l := fun z => by
  obtain ⟨o, vs, h1, h2⟩ := hf _ z;obtain ⟨m, ⟨o', es, ep, h1', h2', _⟩, _⟩ := I.loc;rw [h1] at h1'; cases h1';rw [h2] at h2'; cases h2'
 have nC : ∀ x c, X.env.cells.lookup x = some c -> c ∉ l := fun x c q z => by
  obtain ⟨o, vs, h1, h2⟩ := hf _ z;obtain ⟨v, o', h1', h2'⟩ := I.cell x c q;rw [h1] at h1'; cases h1';rw [h2] at h2'; cases h2'
 have cellK : ∀ x c, X.env.cells.lookup x = some c -> ∀ v, s.heap.IsCell c v -> h'.IsCell c v := fun x c q v ⟨o, ho, hd⟩ => by
  obtain ⟨sl, k⟩ := any c o ho (nC x c q);exact ⟨_, k, hd⟩
 refine ⟨I.ok, I.os, I.bare, ⟨fun b o q n hb hx => ?_, fun b o q n hb hx => ?_, fun b o q n hx => I.base.free b o q n hx, fun b o q hx => ?_, I.base.tups, I.base.frzs, I.base.tbls⟩, ?_, fun x c q => ?_, I.free, I.freeC, fun p hp => ?_, ?_, I.len⟩
 ·exact keep b o (I.base.keep b o q n hb hx) (s0l b o q) (subf b o q hb)
 ·obtain ⟨sl, k⟩ := I.base.slot b o q n hb hx;obtain ⟨sl', k'⟩ := any b _ k (s0l b o q);exact ⟨sl', k'⟩
 ·obtain ⟨o', k⟩ := I.base.there b o q hx;obtain ⟨sl', k'⟩ := any b _ k (s0l b o q);exact ⟨_, k'⟩
 ·obtain ⟨m, ⟨o, es, ep, ho, hd, r⟩, hlk⟩ := I.loc;obtain ⟨sl, k⟩ := any _ o ho nL;refine ⟨m, ⟨_, es, ep, k, hd, r⟩, fun i x v e1 e2 e3 => ?_⟩;obtain ⟨u, r, lk⟩ := hlk i x v e1 e2 e3;refine ⟨u, r, ?_⟩;rcases lk with lk | ⟨k, c, e, z⟩
  ·exact .inl lk
  ·exact .inr ⟨k, c, e, cellK x c e _ z⟩
 ·obtain ⟨v, z⟩ := I.cell x c q;exact ⟨v, cellK x c q v z⟩
 ·obtain ⟨e1, n, ne, nf, d⟩ := I.pin p hp;refine ⟨keep p.1 p.2 e1 (fun z => (hl p.1 z).2.2 p (by simpa using hp) rfl) fun z => ?_, n, ne, nf, d⟩;rcases yau.mp (I.stkSub p.1 z) with q | q
  ·exact ne q
  ·exact nf q
 ·refine fun a o q => (I.hok a o q).stay (fun b u hb k => ?_) (fun _ q => q) fun _ _ q => q;have hb' : H b ≠ none := by
   rcases hb with z | z
   ·rw [z, q]; simp
   ·rw [z]; simp
  exact keep b u k (fun z => hb' (hl b z).2.1) fun z => hb' (I.stkFree b z)
theorem zfE (F : Fnc X) (I : Inv X [] σ H s) (hl : ∀ b ∈ l, X.s₀.heap.get? b = none /\ H b = none /\ ∀ p ∈ X.pn, p.1 ≠ b) (hel : e ∈ l) {h' : Heap} {f : Value}
  (fn : h'.FunFrames (bsOf X s.heap l) X.stack) (ht : TrP h' (bsOf X s.heap l) e (Phi X.mg C) f) :
  ∃ l', Air X.mg h' e C (some f) l' /\ ∀ b ∈ l', X.s₀.heap.get? b = none /\ H b = none /\ ∀ p ∈ X.pn, p.1 ≠ b := by
 obtain ⟨oe, vs, T, oT, ts, he, hφ, hd, h1, hnT, hTe, hT, hdT, h3⟩ := ht;have nfr : T ∉ frs X.stack := fun z => by
  obtain ⟨_, o, q1, q2⟩ := fn.mem z;rw [hT] at q1; cases q1;exact q2 ts hdT
 have tfree : ∀ o, s.heap.get? T = some o -> T ∈ l := fun o q => by
  refine yax fun n => ?_;rw [zk8 q n nfr] at hnT; cases hnT
 refine ⟨[e, T], ⟨oe, vs, _, he, hφ.1, hd, ⟨hφ.2.choose_spec.1, hφ.2.choose_spec.2⟩, T, oT, ts, rfl, h1, hTe, hT, hdT, h3⟩, fun b hb => ?_⟩;rcases yau.mp hb with rfl | hb
 ·exact hl _ hel
 ·obtain rfl := yah.mp hb;refine ⟨?_, ?_, fun p hp z => ?_⟩
  ·cases q : X.s₀.heap.get? b with
   | none => rfl
   | some o =>
    obtain ⟨o', k⟩ := I.base.there b o q (by rw [F.ex]; simp);have := (hl b (tfree o' k)).1;rw [q] at this; cases this
  ·cases q : H b with
   | none => rfl
   | some o =>
    obtain ⟨o', k⟩ := (I.hok b o q).there;have := (hl b (tfree o' k)).2.1;rw [q] at this; cases this
  ·obtain ⟨e1, _⟩ := I.pin p (by simpa using hp);rw [z] at e1;exact (hl b (tfree _ e1)).2.2 p hp z
end
def XG (X : Cx) (G : Addr -> St -> Hp -> Prop) (fl : Option Value) (u : Value) (s : Shared) : Prop :=
 ∃ e C l σ H, u = .ref e /\ Inv X [] σ H s /\ Air X.mg s.heap e C fl l /\ (∀ b ∈ l, X.s₀.heap.get? b = none /\ H b = none /\ ∀ p ∈ X.pn, p.1 ≠ b) /\ G C σ H
def XF (X : Cx) (G : Addr -> St -> Hp -> Prop) (u : Value) (s : Shared) : Prop :=
 ∃ fl, (fl = none \/ fl = some .none \/ fl = some (rawInt X.env.locals)) /\ XG X G fl u s
def CXX (P : Program) (w : World) (mg : Str -> Option Value) : CXT := fun outer H s E u s' =>
 ∃ e C l H', u = .ref e /\ E (.ref C) none H' /\ s'.os = s.os /\ AllBare s'.gens /\ Un (frs outer) [] H H' s.heap s'.heap /\ HOk P w H' s'.heap /\ Air mg s'.heap e C (some .none) l /\ ∀ b ∈ l, s.heap.get? b = none /\ H' b = none
section
variable {X : Cx} {G : Addr -> St -> Hp -> Prop} {u : Value} {s : Shared}
theorem zin (F : Fnc X) {σ : St} {H : Hp} {Qa : ZP} (I : Inv X Qa σ H s) : X.A.frames = some (X.env :: X.outer) := by rw [<- F.stk]; exact I.ok.frames
theorem XF.note (F : Fnc X) {M : Model} {E : ZQ} {Q : Unit -> Shared -> Prop} (x : XF X G u s) (h : ∀ s', XG X G (some (rawInt X.env.locals)) u s' -> Q () s') : wpAny M X.A (noteFrame u X.env) Q E s := by
 obtain ⟨fl, hfl, e, C, l, σ, H, rfl, I, a, hl, g⟩ := x;have a' := a;obtain ⟨oe, vs, a0, h1, h2, h3, h4, h5⟩ := a;have fr := zin F I;have fn : s.heap.FunFrames (bsOf X s.heap l) (X.env :: X.outer) := by rw [<- F.stk]; exact zim I
 have hen : (bsOf X s.heap l).get? e = none := zcT a'.first;have ph : Phi X.mg C oe.cls vs := ⟨h2, a0, h4.1, h4.2⟩
 have fin : ∀ h', (bsOf X s.heap l).StaysIn h' -> h'.FunFrames (bsOf X s.heap l) (X.env :: X.outer) -> TrP h' (bsOf X s.heap l) e (Phi X.mg C) (rawInt X.env.locals) -> s.heap.UpToSlots h' -> Q () { s with heap := h' } := fun h' k1 k2 k3 k4 => by
  rw [<- F.stk] at k2;obtain ⟨l', b1, b2⟩ := zfE F I hl a'.first k2 k3;exact h _ ⟨e, C, l', σ, H, rfl, land F I hl a'.flds k1 k4, b1, b2, g⟩
 rcases hfl with rfl | rfl | rfl
 ·obtain ⟨rfl, h5⟩ := h5;unfold noteFrame;simp only [F.fr];refine yaa (wpAny_field h1 h3 h5 ?_);rw [if_neg δ];exact zk6 (fun _ _ _ p => p.set) fr fn F.fr h1 ze1 hen h3 (Array.getElem?_eq_some_iff.mp h5).1 ph fin
 ·obtain ⟨T, oT, ts, rfl, q1, q2, q3, q4, q5⟩ := h5;exact zoN (fun _ _ _ p => p.set) fr fn F.fr ⟨oe, vs, T, oT, ts, h1, ph, h3, q1, zcT ς, q2, q3, q4, q5⟩ ze1 hen fin
 ·obtain ⟨T, oT, ts, rfl, q1, q2, q3, q4, q5⟩ := h5;refine zk7 (base := bsOf X s.heap [e, T]) (φ := Phi X.mg C) F.fr ⟨oe, vs, T, oT, ts, h1, ph, h3, q1, zcT ς, q2, q3, q4, q5⟩ ?_;exact h _ ⟨e, C, _, σ, H, rfl, I, a', hl, g⟩
theorem XG.off (F : Fnc X) {M : Model} {A : Around} {E : ZQ} {Q : Unit -> Shared -> Prop} {f : Value} (x : XG X G (some f) u s) (h : ∀ s', XG X G (some .none) u s' -> Q () s') : wpAny M A (setFlight u none) Q E s := by
 obtain ⟨e, C, l, σ, H, rfl, I, a, hl, g⟩ := x;have a' := a;obtain ⟨oe, vs, a0, h1, h2, h3, h4, h5⟩ := a;obtain ⟨T, oT, ts, rfl, q1, q2, q3, q4, q5⟩ := h5;have fn : s.heap.FunFrames (bsOf X s.heap [e, T]) X.stack := zim I;refine zlm (base := bsOf X s.heap [e, T]) (l := X.stack) (φ := Phi X.mg C) (fl := f) ze1 fn ⟨oe, vs, T, oT, ts, h1, ⟨h2, a0, h4.1, h4.2⟩, h3, q1, zcT ς, q2, q3, q4, q5⟩ fun h' k1 k2 k3 k4 => ?_;obtain ⟨l', b1, b2⟩ := zfE F I hl a'.first k2 k3;exact h _ ⟨e, C, l', σ, H, rfl, land F I hl a'.flds k1 (fun b o q n => ⟨o.slots, k4 b o q n⟩), b1, b2, g⟩
theorem XF.leaves (F : Fnc X) {E : XK} {EE : ZQ} (x : XF X G u s) (hG : ∀ C σ H, G C σ H -> E (.ref C) none H) :
  wpAny (model X.prog X.w) X.A (leaving X.env u) (fun _ s'' => CXX X.prog X.w X.mg X.outer X.H₀ X.s₀ E u s'') EE s := by
 unfold leaving;refine yaa (x.note F fun s1 x1 => x1.off F fun s2 x2 => ?_);obtain ⟨e, C, l, σ, H, rfl, I, a, hl, g⟩ := x2;refine ⟨e, C, l, H, rfl, hG C σ H g, I.os, I.bare, ?_, I.hok, a, fun b hb => ⟨(hl b hb).1, (hl b hb).2.1⟩⟩;have b := I.base;rw [F.ex] at b;exact b
theorem XF.comes (F : Fnc X) {Qa : ZP} {σ : St} {H : Hp} {s' : Shared} (I : Inv X Qa σ H s) (h : CXX X.prog X.w X.mg X.stack H s (fun c _ H' => ∃ C, c = .ref C /\ G C σ H') u s') : XF X G u s' := by
 obtain ⟨e, C, l, H', rfl, ⟨C', hc, g⟩, ho, hb, un, hok, a, hl⟩ := h;cases hc;have J : Inv X Qa σ H' s' := I.call' (ch := []) ho un hok hb (fun b z => absurd z ς);refine ⟨_, .inr (.inl rfl), e, C, l, σ, H', rfl, J.pins_of fun p hp => (nomatch hp), a, fun b hb => ⟨?_, (hl b hb).2, fun p hp z => ?_⟩, g⟩
 rotate_left
 ·obtain ⟨e1, _⟩ := I.pin p (List.mem_append_left _ hp);rw [z, (hl b hb).1] at e1; cases e1
 ·cases q : X.s₀.heap.get? b with
  | none => rfl
  | some o =>
   obtain ⟨o', k⟩ := I.base.there b o q (by rw [F.ex]; simp);rw [(hl b hb).1] at k; cases k
end
def Out (X : Cx) (G : Addr -> St -> Hp -> Prop) : Prop := ∀ u s, XF X G u s -> X.xe u s
theorem zaE {P : Program} {w : World} {K : W.Frag} {mg : Str -> Option Value} {base : Heap} {N : List Str} {qual : Str} {scope : Scope} {f : Addr} {cd : Value} {A : Around} {outer : List Env} {s : Shared} {H : Hp} {E : XK} :
  Out (cxOf (CXX P w mg) P w K mg base N qual scope f cd A outer s H E) (fun C _ H' => E (.ref C) none H') := fun u s' x =>
 x.leaves za7 (E := E) fun _ _ _ g => g
theorem zd4 {P : Program} {w : World} {K : W.Frag} {mg : Str -> Option Value} {base : Heap} {N : List Str} {qual : Str} {scope : Scope} {f : Addr} {cd : Value} {A : Around} {outer : List Env} {s : Shared} {H : Hp} {E : XK} {CX : CXT} :
  let X := cxOf CX P w K mg base N qual scope f cd A outer s H E
  PassesOwn (model X.prog X.w) X.A X.env X.xe := by
 intro X u s' h;exact PassesOwn.leaving (Q₁ := fun u s'' => CX outer H s E u s'') u s' h
def xnames : List Str := ["__init__", "__getattribute__", "__getattr__", "__class__"]
inductive TailX (h : Heap) (bmB : List Value) : List Value -> Prop
 | base : TailX h bmB bmB
 | own {A : Addr} {c0 : Value} {dd : Option Addr} {cd : ClassData} {sl : Array (Option Value)} {mA : Str -> Option Value} {tl : List Value} :
   h.get? A = some { cls := c0, dict := dd, data := .cls cd, slots := sl } -> h.Ns cd.ns mA -> (∀ n ∈ xnames, mA n = none) -> TailX h bmB tl -> TailX h bmB (.ref A :: tl)
theorem TailX.tail {h : Heap} {bmB tl : List Value} (T : TailX h bmB tl) : OwnTail h bmB tl := by
 induction T with
 | base => exact .base
 | own hA hN hq _ ih => exact .own hA hN (hq _ (.head _)) ih
def XCls (K : W.Frag) (mg : Str -> Option Value) (x : Str) (C : Addr) (ch : List Addr) (bm : List Value) (newId : String) : Prop := mg x = some (.ref C) /\ ∀ h : Heap, K.In h ->
 ∃ N nm q bs hdct sn sub ab col dd k0 k1 k2 k3 k5 mN, h.get? C = some (excClassObj nm q C N bs (ch.map Value.ref ++ bm) hdct sn sub ab col dd k0 k1 k2 k3 k5 newId) /\ h.Ns N mN /\ (∀ n ∈ xnames, mN n = none) /\ TailX h bm (ch.map Value.ref ++ bm)
section
variable {X : Cx} {G : Addr -> St -> Hp -> Prop}
theorem XF.made (F : Fnc X) {Qa : ZP} {σ : St} {H : Hp} {s : Shared} {h' : Heap} {e C : Addr} {vs : List Value} (I : Inv X Qa σ H s) (m : Heap.MadeExcOf s.heap h' e (.ref C) vs) (g : G C σ H) : XF X G (.ref e) { s with heap := h' } := by
 obtain ⟨t, he, htn, ht⟩ := m.there;have J : Inv X Qa σ H { s with heap := h', toks := s.toks } := I.kept m.keeps;refine ⟨none, .inl rfl, e, C, [e], σ, H, rfl, J.pins_of fun p hp => ?_, ⟨_, _, _, he, rfl, rfl, ⟨rfl, _, rfl, fun _ => rfl⟩, rfl, rfl⟩, fun b hb => ?_, g⟩
 ·exact nomatch hp
 ·obtain rfl := yah.mp hb;refine ⟨?_, ?_, fun p hp z => ?_⟩
  ·cases q : X.s₀.heap.get? b with
   | none => rfl
   | some o =>
    obtain ⟨o', k⟩ := I.base.there b o q (by rw [F.ex]; simp);rw [m.new] at k; cases k
  ·cases q : H b with
   | none => rfl
   | some o =>
    obtain ⟨o', k⟩ := (I.hok b o q).there;rw [m.new] at k; cases k
  ·obtain ⟨e1, _⟩ := I.pin p (List.mem_append_left _ hp);rw [z, m.new] at e1; cases e1
theorem zbs {x : Str} {C : Addr} {ch : List Addr} {B newId initId : String} {bm : List Value} {e₀ : Expr} {rest : List Expr} {t : TA} {np cpos pos : Pos} (F : Fnc X) (hc : X.calm = true) (ho : Out X G) (O : XCls X.K X.mg x C ch bm newId) (FB : ExcBaseFacts B newId initId bm)
  (hg : Gl X x) (ha : PA X (e₀ :: rest) t) (he : starEach (e₀ :: rest) X.env = (false, eval e₀ X.env) :: starEach rest X.env := by rfl)
  (hpl : (backTo cpos (starEach rest X.env)).any (·.1) = false := by rfl) (hd : (x == ("__debug__" : Str)) = false := by decide) :
  PS X (.Raise (some (.Call (.Name x np) (e₀ :: rest) [] cpos)) none pos) (fun D σ H => t σ H fun vs H1 => vs.length <= sizeLine /\ G C σ H1) := by
 intro Qa s σ H D I h;obtain ⟨N, nm, q, bs, hdct, sn, sub, ab, col, dd, k0, k1, k2, k3, k5, mN, hC, hN, hni', T'⟩ := O.2 _ I.mod.kin;have hni : mN "__init__" = none := hni' _ (.head _);have T := T'.tail;refine wpAny_Raise_call_subT (C := C) (nm := nm) (q := q) (N := N) (bs := bs) (bm := ch.map Value.ref ++ bm) (hdct := hdct) (sn := sn) (sub := sub) (ab := ab) (col := col) (dd := dd) (k0 := k0) (k1 := k1) (k2 := k2) (k3 := k3) (k5 := k5)
  FB (mN := mN) (T.hasType FB.hasBase) (I.ok.hd hc) (by rw [he]; show (false || (backTo cpos (starEach rest X.env)).any (·.1)) = false; rw [hpl]; rfl) hni (zbV I hg O.1 ⟨rfl, ?_⟩ hd)
 have ha' := ha cpos Qa s σ H _ I h;rw [he] at ha' ⊢;refine Calls.evalArgs_plain (wpAny_mono ha' (fun vs s₂ ⟨xs, H1, I1, r1, z, g⟩ => ⟨rfl, ?_, I1.bk _ _ hC, hN.keeps I1.bk, T.keeps I1.bk, fun h' e m => ho _ _ (XF.made F I1 m g)⟩) fun _ _ y => y);show vs.length <= sizeLine;rw [<- r1.length]; exact z
end
def zgp (sp : Sp) (dvs : List V) (G : Addr -> St -> Hp -> Prop) (t : TA) : TE := fun σ H Q => t σ H fun vs H1 => sp (vs ++ dvs) H1 Q (fun c _ H' => ∃ C, c = .ref C /\ G C σ H')
section
variable {X : Cx} {G : Addr -> St -> Hp -> Prop} {k : Nat} {f : Addr} {fd : FuncData} {ps : List Str} {sp : Sp} {dvs : List V} {ds : List Value} {x : Str} {p pos : Pos} {e : Expr} {es : List Expr} {t : TA}
theorem zbt (Fn : Fnc X) (ho : Out X G) (F : FnOk X.prog X.w X.K X.mg X.base (CXX X.prog X.w X.mg) k f fd ps sp) (hr : Room k X.A) (hg : Gl X x) (hm : X.mg x = some (.ref f)) (hk : W.keepIn X.K (.ref f) = true) (hb : Binds X.K fd ps ds) (hd : Vals dvs ds)
  (ha : PA X (e :: es) t) (hdb : (x == ("__debug__" : Str)) = false := by decide) (he : starEach (e :: es) X.env = (false, eval e X.env) :: starEach es X.env := by rfl) (hpl : (backTo pos (starEach es X.env)).any (·.1) = false := by rfl) :
  PE X (.Call (.Name x p) (e :: es) [] pos) (zgp sp dvs G t) := by
 intro Qa s σ H Q I h;refine wpAny_Call_Name_kw (zbV I hg hm ?_ hdb);refine W.callWith_K (h₀ := X.base) I.ok.mod.kin hk (thn (ha pos Qa s σ H _ I h) fun us s1 ⟨vs, H1, I1, r, q⟩ => ⟨I1.kIn, ?_⟩) he hpl;have r2 : Vals (vs ++ dvs) (us ++ ds) := r.append hd;have hl : (us ++ ds).length = ps.length := by rw [<- r2.length]; exact F.len _ _ _ _ q
 refine wpAny_call (codeAny_mono (F.run X.A X.stack s1 H1 ⟨us, []⟩ (us ++ ds) (vs ++ dvs) Q _ hr I1.env0 (hb s1 us I1.kIn hl) r2 q) fun r s' hq => ?_);cases r with
 | error e => exact ho _ _ (XF.comes Fn I1 hq)
 | ok fl =>
  cases fl with
  | ret u => exact I1.after hq
  | next => exact False.elim hq
  | brk => exact False.elim hq
  | cont => exact False.elim hq
end
abbrev Cx.at (X : Cx) (Qa : ZP) (E : ZQ) : Cx := { X with pn := X.pn ++ Qa, xe := E }
abbrev Cx.sui (X : Cx) (Qa : ZP) (e : Addr) : Cx := { X with pn := X.pn ++ Qa, A := X.A.mark (some (.ref e)), calm := false, xe := fun _ _ => False }
section
variable {X : Cx} {Qa : ZP} {σ : St} {H : Hp} {s : Shared} {E : ZQ} {e : Addr}
theorem Cx.Ok.at (ok : X.Ok) : (X.at Qa E).Ok :=
 ⟨ok.mod, ok.kind, ok.glob, ok.blt, ok.above, ok.inj, ok.has, ok.cab, ok.hd, ok.frames, ok.stk, ok.exf, ok.bs, ok.bsz, ok.noex, ok.exfs, ok.funs, ok.frf⟩
theorem Cx.Ok.unat (ok : (X.at Qa E).Ok) : X.Ok :=
 ⟨ok.mod, ok.kind, ok.glob, ok.blt, ok.above, ok.inj, ok.has, ok.cab, ok.hd, ok.frames, ok.stk, ok.exf, ok.bs, ok.bsz, ok.noex, ok.exfs, ok.funs, ok.frf⟩
theorem Cx.Ok.sui (ok : X.Ok) : (X.sui Qa e).Ok :=
 ⟨ok.mod, ok.kind, ok.glob, ok.blt, ok.above, ok.inj, ok.has, ok.cab, (fun z => nomatch z), ok.frames, ok.stk, ok.exf, ok.bs, ok.bsz, ok.noex, ok.exfs, ok.funs, ok.frf⟩
theorem Inv.at (I : Inv X Qa σ H s) (E : ZQ) : Inv (X.at Qa E) [] σ H s := ⟨I.ok.at, I.os, I.bare, I.base, I.loc, I.cell, I.free, I.freeC, fun p hp => I.pin p (by simpa using hp), I.hok, I.len⟩
theorem Inv.unat (I : Inv (X.at Qa E) [] σ H s) : Inv X Qa σ H s := ⟨I.ok.unat, I.os, I.bare, I.base, I.loc, I.cell, I.free, I.freeC, fun p hp => I.pin p (by simpa using hp), I.hok, I.len⟩
theorem Inv.sui (I : Inv X Qa σ H s) (e : Addr) : Inv (X.sui Qa e) [] σ H s := ⟨I.ok.sui, I.os, I.bare, I.base, I.loc, I.cell, I.free, I.freeC, fun p hp => I.pin p (by simpa using hp), I.hok, I.len⟩
theorem Inv.unsui (ok : X.Ok) (I : Inv (X.sui Qa e) [] σ H s) : Inv X Qa σ H s := ⟨ok, I.os, I.bare, I.base, I.loc, I.cell, I.free, I.freeC, fun p hp => I.pin p (by simpa using hp), I.hok, I.len⟩
theorem SP.unat {D : Ends} {f : Flow} {s' : Shared} (h : SP (X.at Qa E) [] D f s') : SP X Qa D f s' := by
 cases f with
 | next => obtain ⟨σ', H', I, q⟩ := h; exact ⟨σ', H', I.unat, q⟩
 | brk => obtain ⟨σ', H', I, q⟩ := h; exact ⟨σ', H', I.unat, q⟩
 | cont => obtain ⟨σ', H', I, q⟩ := h; exact ⟨σ', H', I.unat, q⟩
 | ret u => obtain ⟨v, σ', H', I, r, q⟩ := h; exact ⟨v, σ', H', I.unat, r, q⟩
theorem SP.unsui (ok : X.Ok) {D : Ends} {f : Flow} {s' : Shared} (h : SP (X.sui Qa e) [] D f s') : SP X Qa D f s' := by
 cases f with
 | next => obtain ⟨σ', H', I, q⟩ := h; exact ⟨σ', H', I.unsui ok, q⟩
 | brk => obtain ⟨σ', H', I, q⟩ := h; exact ⟨σ', H', I.unsui ok, q⟩
 | cont => obtain ⟨σ', H', I, q⟩ := h; exact ⟨σ', H', I.unsui ok, q⟩
 | ret u => obtain ⟨v, σ', H', I, r, q⟩ := h; exact ⟨v, σ', H', I.unsui ok, r, q⟩
end
def zoO (X : Cx) (Qa : ZP) (H : Hp) (l : List Addr) : Prop := ∀ b ∈ l, X.s₀.heap.get? b = none /\ H b = none /\ ∀ p ∈ X.pn ++ Qa, p.1 ≠ b
def PH (X : Cx) (hs : List ExceptHandler) (th : Addr -> TS) : Prop :=
 ∀ (Qa : ZP) (s : Shared) (σ : St) (H : Hp) (D : Ends) (e C : Addr) (l : List Addr), Inv X Qa σ H s -> Air X.mg s.heap e C (some .none) l -> zoO X Qa H l -> th C D σ H ->
  wpAny (model X.prog X.w) X.A (handleBy (.ref e) X.env hs) (SP X Qa D) X.xe s
def tTry (tb : (Addr -> St -> Hp -> Prop) -> TS) (th : Addr -> TS) (te : TS) : TS := fun D σ H => ∃ G : Addr -> St -> Hp -> Prop, tb G { D with nx := te D } σ H /\ ∀ C σ' H', G C σ' H' -> th C D σ' H'
theorem zk9 {X : Cx} {body orelse : List Stmt} {h₀ : ExceptHandler} {hs : List ExceptHandler} {pos : Pos} {tb : (Addr -> St -> Hp -> Prop) -> TS} {th : Addr -> TS} {te : TS} (F : Fnc X)
  (hb : ∀ G Qa E, Fnc (X.at Qa E) -> Out (X.at Qa E) G -> PassesOwn (model X.prog X.w) X.A X.env E -> PSs (X.at Qa E) body (tb G)) (hh : PH X (h₀ :: hs) th) (he : PSs X orelse te) :
  PS X (.Try body (h₀ :: hs) orelse [] pos) (tTry tb th te) := by
 intro Qa s σ H D I ⟨G, h1, h2⟩;refine wpAny_Try_except ?_;have F' : ∀ E, Fnc (X.at Qa E) := fun E => ⟨F.stk, F.fr, F.ex⟩
 refine wpAny_mono (hb G Qa (fun u s₁ => wpAny (model X.prog X.w) X.A (noteFrame u X.env) (fun _ s₂ => wpAny (model X.prog X.w) X.A (setFlight u none) (fun _ s₃ => wpAny (model X.prog X.w) X.A (handleBy u X.env (h₀ :: hs)) (SP X Qa D) X.xe s₃) X.xe s₂) X.xe s₁) (F' _) ?_ ?_ [] s σ H { D with nx := te D } (I.at _) h1) (fun f s₁ hs => ?_) fun _ _ y => y
 ·intro u s₁ x;refine XF.note (X := X.at Qa _) (F' _) x fun s2 x2 => ?_;refine XG.off (X := X.at Qa _) (F' _) x2 fun s3 x3 => ?_;obtain ⟨e, C, l, σ', H', rfl, J, a, hl, g⟩ := x3;exact hh Qa s3 σ' H' D e C l J.unat a (fun b hb => hl b hb) (h2 C σ' H' g)
 ·exact PassesOwn.looking (K := fun u s₂ => wpAny (model X.prog X.w) X.A (setFlight u none) (fun _ s₃ => wpAny (model X.prog X.w) X.A (handleBy u X.env (h₀ :: hs)) (SP X Qa D) X.xe s₃) X.xe s₂)
 ·cases f with
  | next =>
   obtain ⟨σ', H', J, q⟩ := hs;exact he Qa s₁ σ' H' D J.unat q
  | brk => exact SP.unat hs
  | cont => exact SP.unat hs
  | ret u => exact SP.unat hs
def SubX (K : W.Frag) (C D : Addr) (b : Bool) : Prop := ∀ h : Heap, K.In h ->
 (∃ nm q N bs bm hdct sn sub ab col dd k0 k1 k2 k3 k5 newId, h.get? C = some (excClassObj nm q C N bs bm hdct sn sub ab col dd k0 k1 k2 k3 k5 newId) /\ (Value.ref C :: bm).contains (.ref D) = b) /\
 (∃ nm q N bs bm hdct sn sub ab col dd k0 k1 k2 k3 k5 newId, h.get? D = some (excClassObj nm q D N bs bm hdct sn sub ab col dd k0 k1 k2 k3 k5 newId) /\ (Value.ref D :: bm).contains (.type "BaseException") = true)
theorem zc8 {M : Model} {A : Around} {E : ZQ} {s : Shared} {K : W.Frag} {C D e : Addr} {b : Bool} {oe : Obj} {Q : Bool -> Shared -> Prop} (S : SubX K C D b) (X : K.In s.heap) (he : s.heap.get? e = some oe) (hcls : oe.cls = .ref C) (hq : Q b s) :
  wpAny M A (excMatches (.ref e) (.ref D)) Q E s := by
 obtain ⟨⟨nm, q, N, bs, bm, hdct, sn, sub, ab, col, dd, k0, k1, k2, k3, k5, newId, hC, hc⟩, ⟨nm', q', N', bs', bm', hdct', sn', sub', ab', col', dd', k0', k1', k2', k3', k5', newId', hD, hd⟩⟩ := S _ X;obtain ⟨h, g, d, t, os⟩ := s;have f := tc_notTuple;unfold excMatches
 repeat (first | (with_reducible refine wpAny_loadPart_at he ?_; rw [hcls]) | with_reducible refine wpAny_loadPart_at hD ?_ | (with_reducible refine wpAny_isSubtype_exc hD ?_; rw [hd]) | (with_reducible refine wpAny_isSubtype_exc hC ?_; rw [hc]) | wp_step)
 cases b <;> (first | exact hq | (wp_walk; exact hq))
section
variable {X : Cx}
theorem ze2 {Qa : ZP} {σ : St} {H : Hp} {s : Shared} {x : Str} {D e : Addr} {np : Pos} {E : ZQ} {Q : ZQ} (I : Inv X Qa σ H s) (hg : Gl X x) (hm : X.mg x = some (.ref D)) (h : Q (.ref D) s)
  (hd : (x == ("__debug__" : Str)) = false) : wpAny (model X.prog X.w) (X.A.mark (some (.ref e))) (eval (.Name x np) X.env) Q E s :=
 zbV (X := X.sui Qa e) (I.sui e) hg hm h hd
theorem znt {x : Str} {D : Addr} {np pos : Pos} {b₀ : Stmt} {suite : List Stmt} {rest : List ExceptHandler} {ts : TS} {tr : Addr -> TS} (F : Fnc X) (hg : Gl X x) (hm : X.mg x = some (.ref D)) (hs : ∀ Qa e, PSs (X.sui Qa e) (b₀ :: suite) ts) (hr : PH X rest tr)
  (hd : (x == ("__debug__" : Str)) = false := by decide) :
  PH X (.ExceptHandler (some (.Name x np)) none (b₀ :: suite) pos :: rest) (fun C W σ H => ∃ b, SubX X.K C D b /\ if b = true then ts W σ H else tr C W σ H) := by
 intro Qa s σ H W e C l I a hl ⟨b, S, h⟩;have a' := a;obtain ⟨oe, vs, a0, h1, h2, h3, h4, h5⟩ := a;refine wpAny_handleBy_cons (codeAny_handlers_test (ze2 I hg hm ?_ hd)) (by intro q; cases q);refine zc8 S I.kIn h1 h2 ?_;cases b with
 | false => exact hr Qa s σ H W e C l I a' hl (by simpa using h)
 | true =>
  have F' : Fnc (X.sui Qa e) := ⟨F.stk, F.fr, F.ex⟩
  refine codeAny_handlers_suite ?_;refine XG.off (X := X.sui Qa e) (G := fun C' σ' H' => σ' = σ /\ H' = H) F' ⟨e, C, l, σ, H, rfl, I.sui e, a', fun b hb => hl b hb, rfl, rfl⟩ fun s2 x2 => ?_;obtain ⟨e2, C2, l2, σ2, H2, he, J, _, _, rfl, rfl⟩ := x2;refine wpAny_mono (hs Qa e [] s2 σ2 H2 W J (by simpa using h)) (fun f s3 q => SP.unsui I.ok q) fun _ _ z => z.elim
theorem zcs {Qa : ZP} {σ : St} {H : Hp} {s : Shared} {A : Around} {M : Model} {i : Nat} {n : Str} {pos : Pos} {E : ZQ} {Q : Unit -> Shared -> Prop} (I : Inv X Qa σ H s) (hN : X.N.Nodup) (hi : X.N[i]? = some n) (hk : X.env.scope.names.lookup n = some .local)
  (h : ∀ s', Heap.SameBut X.env.locals s.heap s'.heap -> Inv X Qa (σ.set i none) H s' -> Q () s') : wpAny M A (do bindName X.env n .none; unbindBehindTheSuite X.env n pos) Q E s := by
 obtain ⟨m, hn, hl⟩ := id I.loc;have hcls : (X.env.scope.kind == .class || (X.env.scope.kind == .module && X.env.locals != X.env.globals)) = false := by rw [I.ok.kind]; rfl
 refine wpAny_nameGoes_keeps hk hn hcls fun h' v hn' hs => ?_;have cne := I.cne;have sL : ∀ b o, X.s₀.heap.get? b = some o -> b ≠ X.env.locals := fun b o q => Nat.ne_of_lt (Nat.lt_of_lt_of_le (yan q) I.ok.above);have hiσ : i < σ.length := by rw [I.len]; exact (yag.mp hi).1
 refine h _ hs ⟨I.ok, I.os, I.bare, ⟨fun b o q n hb hx => ?_, fun b o q n hb hx => ?_, I.base.free, fun b o q hx => ?_, I.base.tups, I.base.frzs, I.base.tbls⟩, ⟨_, hn', fun j y v' e1 e2 e3 => ?_⟩, fun y c e => ?_, I.free, I.freeC, fun p hp => ?_, ?_, by simpa using I.len⟩
 ·exact (hs.2 b (sL b o q)).trans (I.base.keep b o q n hb hx)
 ·obtain ⟨sl, e1⟩ := I.base.slot b o q n hb hx;exact ⟨sl, (hs.2 b (sL b o q)).trans e1⟩
 ·obtain ⟨o', e1⟩ := I.base.there b o q hx;exact ⟨o', (hs.2 b (sL b o q)).trans e1⟩
 ·by_cases hj : j = i
  ·subst hj;rw [List.getElem?_set_self hiσ] at e2;cases e2
  ·rw [List.getElem?_set_ne (Ne.symm hj)] at e2;obtain ⟨u', r', q⟩ := hl j y v' e1 e2 e3;refine ⟨u', r', ?_⟩;rcases q with ⟨k, e⟩ | ⟨k, c, e, z⟩
   ·refine .inl ⟨k, ?_⟩;have : y ≠ n := fun e => hj (zdj hN e1 (e ▸ hi));simp [this, e]
   ·exact .inr ⟨k, c, e, z.sameBut hs (cne y c e)⟩
 ·obtain ⟨w', z⟩ := I.cell y c e;exact ⟨w', z.sameBut hs (cne y c e)⟩
 ·obtain ⟨e, n, ne, nf, d⟩ := I.pin p hp;exact ⟨(hs.2 p.1 ne).trans e, n, ne, nf, d⟩
 ·intro b ob q;refine (I.hok b ob q).stay (fun c w' hc k => (hs.2 c ?_).trans k) (fun _ q => q) fun _ _ q => q
  rintro rfl
  rcases hc with rfl | hc
  ·rw [I.free] at q; cases q
  ·rw [I.free] at hc; cases hc
def ExcO (e C : Addr) : HO := .ext fun h => ∃ o vs, h.get? e = some o /\ o.cls = .ref C /\ o.data = .fields vs
theorem Inv.adopt {Qa : ZP} {σ : St} {H : Hp} {s : Shared} {e C : Addr} {o : Obj} {vs : Array Value} (I : Inv X Qa σ H s) (he : s.heap.get? e = some o) (hc : o.cls = .ref C) (hd : o.data = .fields vs)
  (h0 : X.s₀.heap.get? e = none) (hH : H e = none) (hp : ∀ p ∈ X.pn ++ Qa, p.1 ≠ e) : Inv X Qa σ (upd H e (ExcO e C)) s := by
 have ne : ∀ b, b ≠ e -> upd H e (ExcO e C) b = H b := fun b n => zaw n;have s0 : ∀ b o, X.s₀.heap.get? b = some o -> b ≠ e := fun b o q z => by rw [z, h0] at q; cases q
 have hin : ∀ b u, H b = some u -> b ≠ e := fun b u q z => by rw [z, hH] at q; cases q
 refine ⟨I.ok, I.os, I.bare, ⟨I.base.keep, I.base.slot, fun b o q n hx => ?_, I.base.there, fun b xs q => ?_, fun b o u q => ?_, fun b ps q => ?_⟩, I.loc, I.cell, ?_, fun x c q => ?_, fun p hp' => ?_, fun b u q => ?_, I.len⟩
 ·rw [ne b (s0 b o q)]; exact I.base.free b o q n hx
 ·have k := I.base.tups b xs q; rw [ne b (hin b _ k)]; exact k
 ·have k := I.base.frzs b o u q; rw [ne b (hin b _ k)]; exact k
 ·obtain ⟨m, k⟩ := I.base.tbls b ps q; exact ⟨m, by rw [ne b (hin b _ k)]; exact k⟩
 ·rw [ne]
  ·exact I.free
  ·intro z;obtain ⟨m, ⟨o', es, ep, h1', h2', _⟩, _⟩ := I.loc;rw [z, he] at h1'; cases h1';rw [hd] at h2'; cases h2'
 ·rw [ne]
  ·exact I.freeC x c q
  ·intro z;obtain ⟨v, o', h1', h2'⟩ := I.cell x c q;rw [z, he] at h1'; cases h1';rw [hd] at h2'; cases h2'
 ·obtain ⟨e1, n, nl, nf, d⟩ := I.pin p hp';exact ⟨e1, by rw [ne _ (hp p hp')]; exact n, nl, nf, d⟩
 ·by_cases z : b = e
  ·subst z;rw [zad] at q; cases q;exact ⟨⟨o, vs, he, hc, hd⟩, ⟨o, he⟩, fun h1 h2 ⟨o', vs', q1, q2, q3⟩ k => ⟨o', vs', k _ q1, q2, q3⟩⟩
  ·rw [ne b z] at q;refine (I.hok b u q).stay (fun _ _ _ k => k) (fun c k => ?_) fun c xs k => ?_
   ·rw [ne c (hin c _ k)]; exact k
   ·rw [ne c (hin c _ k)]; exact k
theorem zoP {x n : Str} {i : Nat} {D : Addr} {np pos : Pos} {b₀ : Stmt} {suite : List Stmt} {rest : List ExceptHandler} {ts : TS} {tr : Addr -> TS} (F : Fnc X) (hN : X.N.Nodup) (hi : X.N[i]? = some n) (hk : X.env.scope.names.lookup n = some .local) (hg : Gl X x) (hm : X.mg x = some (.ref D)) (hs : ∀ Qa e, PSs (X.sui Qa e) (b₀ :: suite) ts) (hr : PH X rest tr)
  (hd : (x == ("__debug__" : Str)) = false := by decide) :
  PH X (.ExceptHandler (some (.Name x np)) (some n) (b₀ :: suite) pos :: rest) (fun C W σ H => ∃ b, SubX X.K C D b /\ if b = true then ∀ e, H e = none ->
   ts { nx := fun σ' H' => W.nx (σ'.set i none) H', rt := W.rt, bk := fun σ' H' => W.bk (σ'.set i none) H', ct := fun σ' H' => W.ct (σ'.set i none) H' } (σ.set i (some (.ref e))) (upd H e (ExcO e C)) else tr C W σ H) := by
 intro Qa s σ H W e C l I a hl ⟨b, S, h⟩;have a' := a;obtain ⟨oe, vs, a0, h1, h2, h3, h4, h5⟩ := a;refine wpAny_handleBy_cons (codeAny_handlers_test (ze2 I hg hm ?_ hd)) (by intro q; cases q);refine zc8 S I.kIn h1 h2 ?_;cases b with
 | false => exact hr Qa s σ H W e C l I a' hl (by simpa using h)
 | true =>
  have F' : Fnc (X.sui Qa e) := ⟨F.stk, F.fr, F.ex⟩
  have h := (show ∀ e, H e = none -> _ from by simpa using h)
  refine codeAny_handlers_suite_as ?_;refine XG.off (X := X.sui Qa e) (G := fun C' σ' H' => C' = C /\ σ' = σ /\ H' = H) F' ⟨e, C, l, σ, H, rfl, I.sui e, a', fun b hb => hl b hb, rfl, rfl, rfl⟩ fun s2 x2 => ?_;obtain ⟨e2, C2, l2, σ2, H2, he, J, a2, hl2, rfl, rfl, rfl⟩ := x2;cases he;obtain ⟨q1, q2, q3⟩ := hl2 e a2.first;obtain ⟨oe2, vs2, a02, r1, r2, r3, _⟩ := a2;have J2 := J.adopt r1 r2 r3 q1 q2 (by simpa using q3);refine zbZ (X := X.sui Qa e) (v := .ref e) J2 hN hi (.inl hk) rfl (fun s3 J3 => ?_) (.inr hk);refine wpAny_mono (hs Qa e [] s3 _ _ _ J3 (h e q2)) (fun f s4 q => ?_) fun _ _ z => z.elim;cases f with
  | next => obtain ⟨σ', H', J4, q⟩ := q; exact zcs (J4.unsui I.ok) hN hi hk fun s5 _ J5 => ⟨_, _, J5, q⟩
  | brk => obtain ⟨σ', H', J4, q⟩ := q; exact zcs (J4.unsui I.ok) hN hi hk fun s5 _ J5 => ⟨_, _, J5, q⟩
  | cont => obtain ⟨σ', H', J4, q⟩ := q; exact zcs (J4.unsui I.ok) hN hi hk fun s5 _ J5 => ⟨_, _, J5, q⟩
  | ret u => obtain ⟨v, σ', H', J4, r, q⟩ := q; exact zcs (J4.unsui I.ok) hN hi hk fun s5 _ J5 => ⟨v, _, _, J5, r, q⟩
theorem zio : PH X [] (fun _ _ _ _ => False) := fun _ _ _ _ _ _ _ _ _ _ _ h => h.elim
end
theorem zoQ {M : Model} {A : Around} {E : ZQ} {h : Heap} {g : Array GenState} {d : Drawn} {t : Nat} {os : OsState} {bmB tl : List Value} {n : Str} {y : Option Value} {Q : Option Value -> Shared -> Prop} (hn : n ∈ xnames) (T : TailX h bmB tl) (hrest : lookupAlong bmB n = pure y) (hq : Q y ⟨h, g, d, t, os⟩) :
  wpAny M A (lookupAlong tl n) Q E ⟨h, g, d, t, os⟩ := by
 induction T with
 | base => rw [hrest]; exact yab hq
 | own hA hN hni _ ih =>
  rw [lookupAlong_cons];refine yaa (wpAny_classOwn_cls hA hN ?_);rw [hni n hn];exact ih
section
variable {prog : Program} {w : World} {A : Around} {E : ZQ} {h : Heap} {g : Array GenState} {d : Drawn} {t : Nat} {os : OsState} {a : Addr} {o : Obj} {vs : Array Value}
 {nm q : Str} {C N : Addr} {bs bm bmB : List Value} {hdct : Bool} {sn : List Str} {sub : List Value} {ab : Bool} {col : Option Bool} {dd : Option Addr} {k0 k1 k2 k3 k5 : Option Value} {B newId : String} {mN : Str -> Option Value}
theorem zd5 {M : Model} {n : Str} {y : Option Value} {Q : Option Value -> Shared -> Prop} (hn : n ∈ xnames)
  (hC : h.get? C = some (excClassObj nm q C N bs bm hdct sn sub ab col dd k0 k1 k2 k3 k5 newId)) (hN : h.Ns N mN) (hmN : ∀ n ∈ xnames, mN n = none) (T : TailX h bmB bm) (hbm : mroOf (.type B) = pure bmB)
  (hB : typeLookup (.type B) n = pure y) (hq : Q y ⟨h, g, d, t, os⟩) : wpAny M A (typeLookup (.ref C) n) Q E ⟨h, g, d, t, os⟩ := by
 have hrest : lookupAlong bmB n = pure y := by rw [typeLookup_eq, hbm] at hB; exact hB
 rw [typeLookup_eq];refine yaa (wpAny_mroOf_exc hC ?_);rw [lookupAlong_cons];refine yaa (wpAny_classOwn_exc hC hN ?_);rw [hmN n hn];exact zoQ hn T hrest hq
structure ze3 (B : String) (bmB : List Value) : Prop extends ExcAttrBase B bmB where
 lkC : typeLookup (.type B) "__class__" = pure (some (.builtin "object.__class__"))
 hasObj : bmB.contains (.type "object") = true
theorem zhj {R : Result -> Shared -> Prop} (FB : ze3 B bmB) (hC : h.get? C = some (excClassObj nm q C N bs bm hdct sn sub ab col dd k0 k1 k2 k3 k5 newId)) (T : TailX h bmB bm)
  (hx : h.get? a = some o) (hc : o.cls = .ref C) (hd : o.data = .fields vs) (hq : R (.ok (.ret (.ref C))) ⟨h, g, d, t, os⟩) :
  codeAny (model prog w) A (.call (.builtin "getset_descriptor.__get__") ⟨[.builtin "object.__class__", .ref a, .ref C], []⟩) R ⟨h, g, d, t, os⟩ := by
 have hT5 : (⟨h, g, d, t, os⟩ : Shared).TypeIs (.builtin "object.__class__") "getset_descriptor" := F.typeOf_object_class;have hcB : (Value.ref C :: bm).contains (.type (".".intercalate ("object.__class__".cutAt '.').dropLast)) = true := by
  rw [F.owner_object_class, List.contains_cons, T.tail.hasType FB.hasObj]; rfl
 refine codeAny_call_builtin F.slot_gs_get.plain F.entry_gs_get (F.slot_gs_get.check _ _ _ _ _ _ _ _ hT5 (F.args_gs_get _ _ _) ?_)
 repeat (any_goals (first | assumption | (with_reducible refine wpAny_loadPart_at hx ?_; rw [hc]) | (with_reducible refine wpAny_isSubtype_exc hC ?_; rw [hcB]) | wp_step))
 refine ⟨Code.quiet_builtin _ (by decide +kernel), codeAny_builtin F.entry_object_class ?_⟩
 repeat (any_goals (first | assumption | (with_reducible refine wpAny_loadPart_at hx ?_; rw [hc]) | wp_step))
theorem zfi {M : Model} {nameV : Value} {Q : Unit -> Shared -> Prop} (FB : ze3 B bmB) (hC : h.get? C = some (excClassObj nm q C N bs bm hdct sn sub ab col dd k0 k1 k2 k3 k5 newId)) (T : TailX h bmB bm)
  (hx : h.get? a = some o) (hc : o.cls = .ref C) (hq : Q () ⟨h, g, d, t, os⟩) : wpAny M A (checkBuiltinCall "BaseException.__getattribute__" ⟨[.ref a, nameV], []⟩) Q E ⟨h, g, d, t, os⟩ := by
 have hk : builtinKind "BaseException.__getattribute__" = some .slot := by decide +kernel
 have hsplit : splitId "BaseException.__getattribute__" = some ("BaseException", "__getattribute__") := by decide +kernel
 have hcB : (Value.ref C :: bm).contains (.type "BaseException") = true := by rw [List.contains_cons, T.tail.hasType FB.hasBase]; rfl
 have ha := F.args_bexc_ga (.ref a) nameV;simp only [checkBuiltinCall, hk, hsplit];refine yaa ?_
 ·unfold isInstance
  repeat (first | (with_reducible refine wpAny_loadPart_at hx ?_; rw [hc]) | (with_reducible refine wpAny_isSubtype_exc hC ?_; rw [hcB]) | wp_step)
  exact hq
theorem zfj {tk : Tok} {Q : Fin -> Shared -> Prop} (FB : ze3 B bmB) (hC : h.get? C = some (excClassObj nm q C N bs bm hdct sn sub ab col dd k0 k1 k2 k3 k5 newId)) (hN : h.Ns N mN)
  (hmN : ∀ n ∈ xnames, mN n = none) (T : TailX h bmB bm) (hx : h.get? a = some o) (hc : o.cls = .ref C) (hd : o.data = .fields vs) (hq : Q (.done (.ret (.ref C))) ⟨h, g, d, t, os⟩) :
  wpAny (model prog w) A (Builtin.«object.__getattribute__» ⟨[.ref a, .str "__class__" tk], []⟩) Q E ⟨h, g, d, t, os⟩ := by
 have hT5 : (⟨h, g, d, t, os⟩ : Shared).TypeIs (.builtin "object.__class__") "getset_descriptor" := F.typeOf_object_class;have f5 := F.typeOf_object_class;have f6 := F.slot_gs_get.lookup;have f7 := F.slot_gs_set.lookup;have hmA : ("__class__" : Str) ∈ xnames := .tail _ (.tail _ (.tail _ (.head _)))
 repeat (any_goals (first | assumption | (with_reducible refine wpAny_loadPart_at hx ?_; rw [hc]) | with_reducible refine zd5 hmA hC hN hmN T FB.mro FB.lkC ?_ | wp_step))
 refine zhj FB hC T hx hc hd ?_
 repeat (any_goals (first | assumption | wp_step))
theorem zfF {tk : Tok} {R : Result -> Shared -> Prop} (FB : ze3 B bmB) (hC : h.get? C = some (excClassObj nm q C N bs bm hdct sn sub ab col dd k0 k1 k2 k3 k5 newId)) (hN : h.Ns N mN)
  (hmN : ∀ n ∈ xnames, mN n = none) (T : TailX h bmB bm) (hx : h.get? a = some o) (hc : o.cls = .ref C) (hd : o.data = .fields vs) (hq : R (.ok (.ret (.ref C))) ⟨h, g, d, t, os⟩) :
  codeAny (model prog w) A (.call (.builtin "BaseException.__getattribute__") ⟨[.ref a, .str "__class__" tk], []⟩) R ⟨h, g, d, t, os⟩ :=
 codeAny_call_builtin FB.ga.plain F.entry_bexc_ga (zfi FB hC T hx hc (zfj FB hC hN hmN T hx hc hd hq))
theorem ziq {tk : Tok} {Q : ZQ} (FB : ze3 B bmB) (hC : h.get? C = some (excClassObj nm q C N bs bm hdct sn sub ab col dd k0 k1 k2 k3 k5 newId)) (hN : h.Ns N mN)
  (hmN : ∀ n ∈ xnames, mN n = none) (T : TailX h bmB bm) (hx : h.get? a = some o) (hc : o.cls = .ref C) (hd : o.data = .fields vs) (hq : Q (.ref C) ⟨h, g, d, t, os⟩) :
  wpAny (model prog w) A (getAttrBy (.ref a) (.str "__class__" tk) false) Q E ⟨h, g, d, t, os⟩ := by
 have f3 := FB.ga.bind (.ref a);have hx2 : (Value.builtin "BaseException.__getattribute__" == Value.builtin "object.__getattribute__") = false := by decide +kernel
 have hx1 : (onTheHeap (Value.ref C) && Value.builtin "BaseException.__getattribute__" == Value.builtin "object.__getattribute__") = false := by rw [hx2]; rfl
 have hm1 : ("__getattribute__" : Str) ∈ xnames := .tail _ (.head _);have hm2 : ("__getattr__" : Str) ∈ xnames := .tail _ (.tail _ (.head _))
 repeat (any_goals (first | assumption | (with_reducible refine wpAny_loadPart_at hx ?_; rw [hc]) | with_reducible refine zd5 hm1 hC hN hmN T FB.mro FB.ga.lookup ?_ | with_reducible refine zd5 hm2 hC hN hmN T FB.mro FB.noGetattr ?_ | wp_step))
 refine zfF FB hC hN hmN T hx hc hd ?_
 repeat (any_goals (first | assumption | wp_step))
theorem zfG {Q : Option Value -> Shared -> Prop} (FB : ze3 B bmB) (hC : h.get? C = some (excClassObj nm q C N bs bm hdct sn sub ab col dd k0 k1 k2 k3 k5 newId)) (hN : h.Ns N mN)
  (hmN : ∀ n ∈ xnames, mN n = none) (T : TailX h bmB bm) (hx : h.get? a = some o) (hc : o.cls = .ref C) (hd : o.data = .fields vs) (hq : Q (some (.ref C)) ⟨h, g, d, t + 1, os⟩) :
  wpAny (model prog w) A (getAttr? (.ref a) "__class__") Q E ⟨h, g, d, t, os⟩ := by
 unfold getAttr? getAttrBy?
 repeat (any_goals (first | assumption | with_reducible apply ziq FB hC hN hmN T hx hc hd | wp_step))
end
theorem zdh : ze3 "ValueError" [.type "ValueError", .type "Exception", .type "BaseException", .type "object"] :=
 { PySem.F.attrBase_ValueError with lkC := by rw [typeLookup_type, builtinLookup_eq_fast]; kernel_rfl, hasObj := by decide }
theorem zgq {K : W.Frag} {mg : Str -> Option Value} {x : Str} {C e : Addr} {ch : List Addr} {B newId : String} {bm : List Value} (FB : ze3 B bm) (O : XCls K mg x C ch bm newId) :
  W.KitX K (.ref e) (.ref C) (fun h => ∃ o vs, h.get? e = some o /\ o.cls = .ref C /\ o.data = .fields vs) where
 ty := fun M h X ⟨o, vs, h1, h2, h3⟩ => h2 ▸ (W.Looks.ld h1).andThen .now
 it := fun M h X _ => by
  obtain ⟨N, nm, q, bs, hdct, sn, sub, ab, col, dd, k0, k1, k2, k3, k5, mN, hC, hN, hni', T'⟩ := O.2 _ X;intro A' Q' E' s' k q;unfold isType loadHead;exact yaa (wpAny_loadPart (k _ _ hC) (yab q))
 ne := fun h tp dd' its n sl X htp => by
  obtain ⟨N, nm, q, bs, hdct, sn, sub, ab, col, dd, k0, k1, k2, k3, k5, mN, hC, hN, hni', T'⟩ := O.2 _ X;refine Bool.eq_false_iff.mpr fun q => ?_;have e : C = tp := Value.ref.inj (beq_iff_eq.mp q);subst e;have z := congrArg Obj.cls (Option.some.inj (hC.symm.trans htp));exact absurd (Value.type.inj z) δ
 ca := fun {prog w A E Q s} X ⟨o, vs, h1, h2, h3⟩ hq => by
  obtain ⟨N, nm, q, bs, hdct, sn, sub, ab, col, dd, k0, k1, k2, k3, k5, mN, hC, hN, hni', T'⟩ := O.2 _ X;obtain ⟨hh, g, d, t, os⟩ := s;exact zfG FB hC hN hni' T' h1 h2 h3 hq
def zgr (K : W.Frag) (C : Addr) : Prop := ∃ mg x ch bm newId B, ze3 B bm /\ XCls K mg x C ch bm newId
def zkA (K : W.Frag) : List V -> Hp -> VK -> Prop := fun vs H Q => ∃ e c C b, vs = [.ref e, c] /\ H e = some (ExcO e C) /\ zgr K C /\ ((∃ D, c = .ref D /\ W.kitOne K (.ref C) (.ref D) = some b) \/ ∃ T, c = .ty T /\ W.kitOne K (.ref C) (.type T) = some b) /\ Q (.bl b) H
theorem zhk {X : Cx} : zbW X (.builtin "isinstance") (zkA X.K) := by
 intro Qa s σ H xs us Q I r ⟨e, c, C, b, hv, he, ⟨mg, x, ch, bm, newId, B, FB, O⟩, hk, q⟩;subst hv;obtain ⟨u, u', rfl, ru, ru'⟩ := zjk r;cases (show u = Value.ref e from ru);have p : ∃ o vs, s.heap.get? e = some o /\ o.cls = .ref C /\ o.data = .fields vs := (I.hok e _ he).1;rcases hk with ⟨D, rfl, k⟩ | ⟨T, rfl, k⟩
 ·cases (show u' = Value.ref D from ru');exact W.kia_one (zgq FB O) I.kIn p k (fun z => nomatch z) fun tk => ⟨.bl b, H, I.tok tk, rfl, q⟩
 ·cases (show u' = Value.type T from ru');exact W.kia_one (zgq FB O) I.kIn p k (fun z => nomatch z) fun tk => ⟨.bl b, H, I.tok tk, rfl, q⟩
theorem zbD {X : Cx} (K : W.Frag) (hK : X.K = K := by rfl) : zbW X (.builtin "isinstance") (zkA K) := hK ▸ zhk
structure RoomH (k : Nat) (A : Around) : Prop where
 dp : A.depth + 3 * k + 5 < recursionLimit
 un : A.units + 16 * k + 200 < cLine
theorem Room.h {k : Nat} {A : Around} (r : Room k A) : RoomH k A := ⟨r.dp, r.un⟩
theorem RoomH.mark {k : Nat} {A : Around} (r : RoomH k A) (v : Option Value) : RoomH k (A.mark v) := ⟨r.dp, r.un⟩
theorem RoomH.deeper {k : Nat} {A : Around} (r : RoomH (k + 1) A) (env : Env) : RoomH k (A.deeper env) :=
 ⟨by have := r.dp; show A.depth + 1 + 3 * k + 5 < _; omega, by have := r.un; show A.units + 3 + 16 * k + 200 < _; omega⟩
structure zjA (P : Program) (w : World) (K : W.Frag) (mg : Str -> Option Value) (base : Heap) (k : Nat) (f : Addr) (fd : FuncData) (ps : List Str) (sp : Sp) : Prop where
 len : ∀ vs H Q E, sp vs H Q E -> vs.length = ps.length
 run : ∀ (A : Around) (outer : List Env) (s : Shared) (H : Hp) (args : Args) (us : List Value) (vs : List V) (Q : VK), RoomH k A -> Env0 P w K mg base A outer s H -> BindsTo s fd args (ps.zip us) -> Vals vs us -> sp vs H Q E0 ->
  codeAny (model P w) A (.call (.ref f) args) (CR CX0 outer P w H s Q E0) s
abbrev zjB (P : Program) (w : World) (K : W.Frag) (mg : Str -> Option Value) (base : Heap) (N : List Str) (qual : Str) (scope : Scope) (f : Addr) (cd : Value) (A : Around) (outer : List Env) (s : Shared) (H : Hp) : Cx :=
 { cxOf CX0 P w K mg base N qual scope f cd A outer s H E0 with calm := false }
theorem znu {P : Program} {w : World} {K : W.Frag} {mg : Str -> Option Value} {base : Heap} {k : Nat} {f : Addr} {name qual : Str} {params : Arguments} {body : List Stmt} {scope : Scope} {dV kV doc pm cdv ct oc : Value} {an od : Option Addr}
  {osl : Array (Option Value)} {N ps : List Str} {sp : Sp} (lk : K.lookup f = some ⟨oc, od, .func (W.fnOf name qual params body scope dV kV doc pm an cdv ct), osl⟩) (hcd : W.codeIn K cdv qual = true) (S : zap N ps scope)
  (len : ∀ vs H Q E, sp vs H Q E -> vs.length = ps.length)
  (hbody : ∀ (A : Around) (outer : List Env) (s : Shared) (H : Hp) (vs : List V) (Q : VK), RoomH k (A.deeper (envOfC qual scope s.heap.objs.size f cdv)) -> sp vs H Q E0 ->
   ∃ t, PSs (zjB P w K mg base N qual scope f cdv A outer s H) body t /\ t { nx := fun _ H' => Q .non H', rt := Q } (start N vs) H) :
  zjA P w K mg base (k + 1) f (W.fnOf name qual params body scope dV kV doc pm an cdv ct) ps sp := by
 refine ⟨len, fun A outer s H args us vs Q hr e0 hb r hsp => ?_⟩;have hl := len _ _ _ _ hsp;have KX : K.In s.heap := e0.mod.kin.keeps fun b o e => (e0.bs b o e).1;have lim : s.heap.NoLimit := e0.mod.nolimit.keeps fun b o e => (e0.bs b o e).1;have hkind : ∀ y ∈ ps.zip us, scope.names.lookup y.1 = some .local \/ (scope.names.lookup y.1 = some .cell /\ ((cellsFrom (s.heap.objs.size + 1) scope.names []).lookup y.1).isSome = true) := fun ⟨n, v⟩ hy => by
  rcases S.par n (List.of_mem_zip hy).1 with q | q
  ·exact .inl q
  ·exact .inr ⟨q, W.cellsFrom_some _ _ _ (.inl q)⟩
 refine codeAny_call_function (by have := hr.dp; omega) (KX _ _ lk) rfl S.co S.gen rfl (W.codeRec_of KX hcd) (hb _ _ _ _ ?_);refine wpAny_newFunctionEnv_cells S.kind hkind fun env he s1 x => ?_;subst he;refine ⟨lim.keeps x.toInCall.keep, codeAny_func ?_⟩;obtain ⟨t, ht, hq⟩ := hbody A outer s H vs Q (hr.deeper _) hsp;have I0 : Inv (cxOf CX0 P w K mg base N qual scope f cdv { A with handled := none } outer s H E0) [] (start N vs) H s1 := zdw S rfl ⟨e0.frames, e0.mod, e0.bs, e0.bsz, e0.funs, e0.frf, e0.hok, e0.bare⟩ hl r x;have ok := I0.ok;have I : Inv (zjB P w K mg base N qual scope f cdv A outer s H) [] (start N vs) H s1 :=
  ⟨⟨ok.mod, ok.kind, ok.glob, ok.blt, ok.above, ok.inj, ok.has, ok.cab, (fun z => nomatch z), Around.frames_deeper e0.frames, ok.stk, ok.exf, ok.bs, ok.bsz, ok.noex, ok.exfs, ok.funs, ok.frf⟩, I0.os, I0.bare, I0.base, I0.loc, I0.cell, I0.free, I0.freeC, I0.pin, I0.hok, I0.len⟩
 refine wpAny_mono (ht [] s1 (start N vs) H _ I hq) (fun fl s' hs => ?_) fun e s' hs => hs;have fin : ∀ {σ' : St} {H' : Hp} {v : V} {u : Value}, Inv (zjB P w K mg base N qual scope f cdv A outer s H) [] σ' H' s' -> RelV v u -> Q v H' -> CE outer P w H s Q u s' :=
  fun {σ' H' v u} J rv q => ⟨v, H', J.os, J.bare, J.base, J.hok, rv, q⟩
 cases fl with
 | ret u =>
  obtain ⟨v, σ', H', J, rv, q⟩ := hs;exact fin J rv q
 | next =>
  obtain ⟨σ', H', J, q⟩ := hs;exact fin (v := V.non) (u := Value.none) J rfl q
 | brk =>
  obtain ⟨_, _, _, q⟩ := hs;exact False.elim q
 | cont =>
  obtain ⟨_, _, _, q⟩ := hs;exact False.elim q
theorem Fun.okH {P : Program} {w : World} {K : W.Frag} {mg : Str -> Option Value} {base : Heap} {x qual : Str} {st : Stmt} {f : Addr} {fd : FuncData} {N ps : List Str} {k : Nat} {sp : Sp} (F : Fun K x qual st f fd) (S : zap N ps (zab st)) (len : ∀ vs H Q E, sp vs H Q E -> vs.length = ps.length)
  (hbody : ∀ (cd : Value) (A : Around) (outer : List Env) (s : Shared) (H : Hp) (vs : List V) (Q : VK), RoomH k (A.deeper (envOfC qual (zab st) s.heap.objs.size f cd)) -> sp vs H Q E0 ->
   ∃ t, PSs (zjB P w K mg base N qual (zab st) f cd A outer s H).nox (zaj st) t /\ t { nx := fun _ H' => Q .non H', rt := Q } (start N vs) H) : zjA P w K mg base (k + 1) f fd ps sp := by
 obtain ⟨oc, od, kV, doc, pm, an, cdv, ct, osl, rfl, lk, hcd⟩ := F.ex;refine znu lk hcd S len fun A outer s H vs Q hr hsp => ?_;obtain ⟨t, h, q⟩ := hbody cdv A outer s H vs Q hr hsp;exact ⟨t, h.nox, q⟩
theorem Fun.okX {P : Program} {w : World} {K : W.Frag} {mg : Str -> Option Value} {base : Heap} {x qual : Str} {st : Stmt} {f : Addr} {fd : FuncData} {N ps : List Str} {k : Nat} {sp : Sp} (F : Fun K x qual st f fd) (S : zap N ps (zab st)) (len : ∀ vs H Q E, sp vs H Q E -> vs.length = ps.length)
  (hbody : ∀ (cdv : Value) (A : Around) (outer : List Env) (s : Shared) (H : Hp) (vs : List V) (Q : VK) (E : XK), Room k (A.deeper (envOfC qual (zab st) s.heap.objs.size f cdv)) -> sp vs H Q E ->
   ∃ t, PSs (cxOf (CXX P w mg) P w K mg base N qual (zab st) f cdv A outer s H E) (zaj st) t /\ t { nx := fun _ H' => Q .non H', rt := Q } (start N vs) H) : FnOk P w K mg base (CXX P w mg) (k + 1) f fd ps sp := by
 obtain ⟨oc, od, kV, doc, pm, an, cdv, ct, osl, rfl, lk, hcd⟩ := F.ex;exact zm9 lk hcd S len fun A outer s H vs Q E hr hsp => hbody cdv A outer s H vs Q E hr hsp
section
variable {X : Cx} {k : Nat} {f : Addr} {fd : FuncData} {ps : List Str} {sp : Sp} {dvs : List V} {ds : List Value} {x : Str} {p pos : Pos} {e : Expr} {es : List Expr} {t : TA}
theorem zjC (F : zjA X.prog X.w X.K X.mg X.base k f fd ps sp) (hr : RoomH k X.A) (hg : Gl X x) (hm : X.mg x = some (.ref f)) (hk : W.keepIn X.K (.ref f) = true) (hb : Binds X.K fd ps ds) (hd : Vals dvs ds)
  (ha : PA X (e :: es) t) (hdb : (x == ("__debug__" : Str)) = false := by decide) (he : starEach (e :: es) X.env = (false, eval e X.env) :: starEach es X.env := by rfl) (hpl : (backTo pos (starEach es X.env)).any (·.1) = false := by rfl) :
  PE X (.Call (.Name x p) (e :: es) [] pos) (zkU sp dvs E0 t) := by
 intro Qa s σ H Q I h;refine wpAny_Call_Name_kw (zbV I hg hm ?_ hdb);refine W.callWith_K (h₀ := X.base) I.ok.mod.kin hk (thn (ha pos Qa s σ H _ I h) fun us s1 ⟨vs, H1, I1, r, q⟩ => ⟨I1.kIn, ?_⟩) he hpl;have r2 : Vals (vs ++ dvs) (us ++ ds) := r.append hd;have hl : (us ++ ds).length = ps.length := by rw [<- r2.length]; exact F.len _ _ _ _ q
 refine wpAny_call (codeAny_mono (F.run X.A X.stack s1 H1 ⟨us, []⟩ (us ++ ds) (vs ++ dvs) Q hr I1.env0 (hb s1 us I1.kIn hl) r2 q) fun r s' hq => ?_);cases r with
 | error e => exact False.elim hq
 | ok fl =>
  cases fl with
  | ret u => exact I1.after hq
  | next => exact False.elim hq
  | brk => exact False.elim hq
  | cont => exact False.elim hq
end
structure CNs (K : W.Frag) (N : Addr) : Prop where
 ok : ∃ oc od es ep sl, K.lookup N = some ⟨oc, od, .dict (List.toArray es) ep, sl⟩ /\ (es.all fun e => match e.key with | .str _ _ => true | _ => false) = true
 n1 : W.nsIn K N "__init__" = some none
 n2 : W.nsIn K N "__getattribute__" = some none
 n3 : W.nsIn K N "__getattr__" = some none
 n4 : W.nsIn K N "__class__" = some none
theorem CNs.quiet {K : W.Frag} {h : Heap} {N : Addr} (c : CNs K N) (X : K.In h) : h.Ns N (h.nsMap N) /\ ∀ n ∈ xnames, h.nsMap N n = none := by
 have ok : W.nsOkIn K N = true := by
  obtain ⟨oc, od, es, ep, sl, e, q⟩ := c.ok;unfold W.nsOkIn;rw [e];exact (List.all_toArray (l := es)).trans q
 refine ⟨.of_isNs (W.isNs_of_in X ok), fun n hn => W.nsMap_none_of_in X ok ?_⟩;simp only [xnames, List.mem_cons, List.not_mem_nil, or_false] at hn;rcases hn with rfl | rfl | rfl | rfl
 ·exact c.n1
 ·exact c.n2
 ·exact c.n3
 ·exact c.n4
section
variable {K : W.Frag} {mg : Str -> Option Value} {x nm q nm' q' : Str} {C D N N' : Addr} {bm bs bs' bm' : List Value} {hdct hdct' : Bool} {sn sn' : List Str} {sub sub' : List Value} {ab ab' : Bool} {col col' : Option Bool} {dd dd' : Option Addr} {k0 k1 k2 k3 k5 k0' k1' k2' k3' k5' : Option Value} {newId newId' : String} {b : Bool}
theorem zoR (m : mg x = some (.ref C)) (l : K.lookup C = some (excClassObj nm q C N bs bm hdct sn sub ab col dd k0 k1 k2 k3 k5 newId)) (c : CNs K N) : XCls K mg x C [] bm newId :=
 ⟨m, fun h X => ⟨N, nm, q, bs, hdct, sn, sub, ab, col, dd, k0, k1, k2, k3, k5, _, X _ _ l, (c.quiet X).1, (c.quiet X).2, .base⟩⟩
theorem zhl (m : mg x = some (.ref C)) (l : K.lookup C = some (excClassObj nm q C N bs (.ref D :: bm) hdct sn sub ab col dd k0 k1 k2 k3 k5 newId)) (c : CNs K N)
  (l' : K.lookup D = some (excClassObj nm' q' D N' bs' bm hdct' sn' sub' ab' col' dd' k0' k1' k2' k3' k5' newId')) (c' : CNs K N') : XCls K mg x C [D] bm newId :=
 ⟨m, fun h X => ⟨N, nm, q, bs, hdct, sn, sub, ab, col, dd, k0, k1, k2, k3, k5, _, X _ _ l, (c.quiet X).1, (c.quiet X).2, .own (X _ _ l') (c'.quiet X).1 (c'.quiet X).2 .base⟩⟩
theorem zb0 (l : K.lookup C = some (excClassObj nm q C N bs bm hdct sn sub ab col dd k0 k1 k2 k3 k5 newId)) (l' : K.lookup D = some (excClassObj nm' q' D N' bs' bm' hdct' sn' sub' ab' col' dd' k0' k1' k2' k3' k5' newId'))
  (hb : bm'.contains (.type "BaseException") = true) (e : W.mroIn K C (.ref D) = some b) : SubX K C D b := by
 intro h X;refine ⟨⟨nm, q, N, bs, bm, hdct, sn, sub, ab, col, dd, k0, k1, k2, k3, k5, newId, X _ _ l, ?_⟩, ⟨nm', q', N', bs', bm', hdct', sn', sub', ab', col', dd', k0', k1', k2', k3', k5', newId', X _ _ l', ?_⟩⟩
 ·unfold W.mroIn W.clsIn at e;rw [l] at e;exact Option.some.inj e
 ·rw [List.contains_cons, hb, Bool.or_true]
theorem zbT {ch : List Addr} (O : XCls K mg x C ch [.type "ValueError", .type "Exception", .type "BaseException", .type "object"] newId) : zgr K C := ⟨mg, x, ch, _, newId, _, zdh, O⟩
end
abbrev TJ := Str -> St -> Hp -> (Str -> Hp -> Prop) -> Prop
def PJ (X : Cx) (es : List Expr) (t : TJ) : Prop :=
 ∀ (Qa : ZP) (s : Shared) (σ : St) (H : Hp) (acc : Str) (Q : Str -> Hp -> Prop), Inv X Qa σ H s -> t acc σ H Q -> Joins (model X.prog X.w) X.A X.xe (evalEach es X.env) acc (fun out s₁ => ∃ H', Inv X Qa σ H' s₁ /\ Q out H') s
section
variable {X : Cx} {e v : Expr} {es : List Expr} {te : TE} {tr : TJ} {pos : Pos}
def tFs (tj : TJ) : TE := fun σ H Q => tj Str.empty σ H fun out H1 => out.length <= sizeLine /\ Q (.str out) H1
theorem zoS {v1 v2 : Expr} {rest : List Expr} {tj : TJ} (h : PJ X (v1 :: v2 :: rest) tj) : PE X (.JoinedStr (v1 :: v2 :: rest) pos) (tFs tj) := by
 intro Qa s σ H Q I hq;refine wpAny_JoinedStr ?_;have k := h Qa s σ H Str.empty _ I hq;have mono : ∀ (l : List (Sem Value)) (acc : Str) (Q1 Q2 : Str -> Shared -> Prop) (s : Shared), (∀ o s, Q1 o s -> Q2 o s) -> Joins (model X.prog X.w) X.A X.xe l acc Q1 s -> Joins (model X.prog X.w) X.A X.xe l acc Q2 s := by
  intro l
  induction l with
  | nil => intro acc Q1 Q2 s hm h; exact hm _ _ h
  | cons x r ih => intro acc Q1 Q2 s hm h; exact thn h fun v s1 ⟨y, t, e, hl, q⟩ => ⟨y, t, e, hl, ih _ _ _ _ hm q⟩
 exact mono _ _ _ _ _ (fun o s1 ⟨H', I', hl, q⟩ => ⟨hl, .str o, H', I'.tok _, ⟨_, rfl⟩, q⟩) k
end
theorem zir {y : Str} (h : ∀ c ∈ y.cps.toList, c < 1114112) {n : Nat} (hn : 10 * y.length + 2 <= n) : (PySem.reprText y).length <= n :=
 yat (PySem.StrLaws.reprText_len y fun c hc => Nat.lt_trans (h c hc) δ) hn
section
variable {σ : St} {H : Hp} {Q : VK} {D : Ends} {te : TE} {tr : TJ} {acc y : Str} {i : Int} {R : Str -> Hp -> Prop} {G : Addr -> St -> Hp -> Prop} {sp : Sp} {dvs : List V} {t : TA}
theorem zln {p : Str -> Prop} : (∃ y', V.str y = V.str y' /\ p y') = p y := propext ⟨fun ⟨_, e, h⟩ => by cases e; exact h, fun h => ⟨y, rfl, h⟩⟩
theorem zlo {p : Str -> Prop} {q : Int -> Prop} : ((∃ y', V.str y = V.str y' /\ p y') \/ ∃ i, V.str y = V.int i /\ q i) = p y := propext ⟨fun h => by rcases h with ⟨_, e, h⟩ | ⟨_, e, _⟩ <;> cases e; exact h, fun h => .inl ⟨y, rfl, h⟩⟩
theorem zlp {p : Str -> Prop} {q : Int -> Prop} : ((∃ y', V.int i = V.str y' /\ p y') \/ ∃ j, V.int i = V.int j /\ q j) = q i := propext ⟨fun h => by rcases h with ⟨_, e, _⟩ | ⟨_, e, h⟩ <;> cases e; exact h, fun h => .inr ⟨i, rfl, h⟩⟩
theorem zlq : zgp sp dvs G t σ H Q = t σ H fun vs H1 => sp (vs ++ dvs) H1 Q (fun c _ H' => ∃ C, c = .ref C /\ G C σ H') := rfl
theorem zoT {tb : (Addr -> St -> Hp -> Prop) -> TS} {th : Addr -> TS} {te : TS} : tTry tb th te D σ H = ∃ G : Addr -> St -> Hp -> Prop, tb G { D with nx := te D } σ H /\ ∀ C σ' H', G C σ' H' -> th C D σ' H' := rfl
end
abbrev TM := St -> Hp -> (Hp -> Prop) -> Prop
def PMp (X : Cx) (e : Expr) (t : TM) : Prop :=
 ∀ (Qa : ZP) (s : Shared) (σ : St) (H : Hp) (R : Hp -> Prop), Inv X Qa σ H s -> t σ H R -> wpAny (model X.prog X.w) X.A (eval e X.env) (fun u s' => ∃ y t H', u = .str y t /\ y.length <= 1000000 /\ Inv X Qa σ H' s' /\ R H') X.xe s
def PM (X : Cx) (es : List Expr) (t : TM) : Prop :=
 ∀ (Qa : ZP) (s : Shared) (σ : St) (H : Hp) (acc : Str) (m : Nat) (R : Hp -> Prop), Inv X Qa σ H s -> acc.length <= m -> m + 1000000 * es.length <= 10000000 -> t σ H R ->
  Joins (model X.prog X.w) X.A X.xe (evalEach es X.env) acc (fun out s₁ => ∃ H', Inv X Qa σ H' s₁ /\ out.length <= 10000000 /\ R H') s
section
variable {X : Cx} {e v : Expr} {es : List Expr} {te : TE} {tp tr : TM} {pos : Pos}
def tM0 : TM := fun _ H R => R H
def tMc (tp tr : TM) : TM := fun σ H R => tp σ H fun H1 => tr σ H1 R
theorem zc5 : PM X [] tM0 := fun Qa s σ H acc m R I ha hm h => ⟨H, I, by simp at hm; omega, h⟩
theorem zaH (he : PMp X e tp) (hr : PM X es tr) (hs : evalEach (e :: es) X.env = eval e X.env :: evalEach es X.env := by rfl) : PM X (e :: es) (tMc tp tr) := by
 intro Qa s σ H acc m R I ha hm h;rw [hs];simp only [List.length_cons] at hm;refine thn (he Qa s σ H _ I h) fun u s1 ⟨y, t, H1, hu, hy, I1, q⟩ => ?_;subst hu;have hl : (acc ++ y).length <= m + 1000000 := by rw [strLen_append]; omega
 have hz : (acc ++ y).length <= sizeLine := by have e := sizeLine_eq; omega
 exact ⟨y, t, rfl, hz, hr Qa s1 σ H1 (acc ++ y) (m + 1000000) R I1 hl ω q⟩
theorem zck {x : Str} {j : Nat} (h : x.length <= 1000000 := by decide) : PMp X (.Constant (.str x) j pos) tM0 := fun Qa s σ H R I q => Calls.Constant_str ⟨x, _, H, rfl, h, I.tok _, q⟩
def tMr (te : TE) : TM := fun σ H R => te σ H fun x H1 => ((∃ y, x = .str y /\ y.length <= 99000 /\ (∀ c ∈ y.cps.toList, c < 1114112)) \/ ∃ i : Int, x = .int i /\ i.natAbs.log2 < 900) /\ R H1
theorem pm_r (h : PE X v te) : PMp X (.FormattedValue v 114 none pos) (tMr te) := by
 intro Qa s σ H R I hq;refine wpAny_FormattedValue_repr (thn (h Qa s σ H _ I hq) fun u s1 ⟨x, H1, I1, r, q, k⟩ => ?_);rcases q with ⟨y, rfl, hl, hc⟩ | ⟨i, rfl, hi⟩
 ·obtain ⟨t, rfl⟩ := (show ∃ t, u = Value.str y t from r)
  have hl : (PySem.reprText y).length <= 1000000 := zir hc ω;refine pyReprObj_str ?_ (yat hl (by rw [sizeLine_eq]; decide));exact wpAny_formatField_str ⟨_, _, H1, rfl, hl, I1.tok _, k⟩ ⟨_, _, H1, rfl, hl, I1.tok _, k⟩ (yat hl (by rw [sizeLine_eq]; decide))
 ·obtain ⟨t, rfl⟩ := (show ∃ t, u = Value.int i t from r)
  have hl : (Str.ofString (toString i)).length <= 1000000 := by
   have e := int_text_length_le (k := 900) δ hi;rw [PySem.ofString_length]; omega
  refine pyReprObj_int ω ?_;exact wpAny_formatField_str ⟨_, _, H1, rfl, hl, I1.tok _, k⟩ ⟨_, _, H1, rfl, hl, I1.tok _, k⟩ (yat hl (by rw [sizeLine_eq]; decide))
def tMv (te : TE) : TM := fun σ H R => te σ H fun x H1 => ((∃ y, x = .str y /\ y.length <= 1000000) \/ ∃ i : Int, x = .int i /\ i.natAbs.log2 < 900) /\ R H1
theorem pm_v (h : PE X v te) : PMp X (.FormattedValue v (-1) none pos) (tMv te) := by
 intro Qa s σ H R I hq;refine wpAny_FormattedValue_plain (thn (h Qa s σ H _ I hq) fun u s1 ⟨x, H1, I1, r, q, k⟩ => ?_);rcases q with ⟨y, rfl, hl⟩ | ⟨i, rfl, hi⟩
 ·obtain ⟨t, rfl⟩ := (show ∃ t, u = Value.str y t from r)
  exact wpAny_formatField_str ⟨_, _, H1, rfl, hl, I1, k⟩ ⟨_, _, H1, rfl, hl, I1.tok _, k⟩ (yat hl (by rw [sizeLine_eq]; decide))
 ·obtain ⟨t, rfl⟩ := (show ∃ t, u = Value.int i t from r)
  have hl : (Str.ofString (toString i)).length <= 1000000 := by
   have e := int_text_length_le (k := 900) δ hi;rw [PySem.ofString_length]; omega
  exact wpAny_formatField_int ω ⟨_, _, H1, rfl, hl, I1.tok _, k⟩
def tMsg (tm : TM) : TE := fun σ H Q => tm σ H fun H1 => ∀ out : Str, out.length <= 10000000 -> Q (.str out) H1
theorem zc6 {v1 v2 : Expr} {rest : List Expr} {tm : TM} (h : PM X (v1 :: v2 :: rest) tm) (hn : (v1 :: v2 :: rest).length <= 10 := by decide) : PE X (.JoinedStr (v1 :: v2 :: rest) pos) (tMsg tm) := by
 intro Qa s σ H Q I hq;refine wpAny_JoinedStr ?_;have k := h Qa s σ H Str.empty 0 _ I (yai _) ω hq;have mono : ∀ (l : List (Sem Value)) (acc : Str) (Q1 Q2 : Str -> Shared -> Prop) (s : Shared), (∀ o s, Q1 o s -> Q2 o s) -> Joins (model X.prog X.w) X.A X.xe l acc Q1 s -> Joins (model X.prog X.w) X.A X.xe l acc Q2 s := by
  intro l
  induction l with
  | nil => intro acc Q1 Q2 s hm h; exact hm _ _ h
  | cons x r ih => intro acc Q1 Q2 s hm h; exact thn h fun v s1 ⟨y, t, e, hl, q⟩ => ⟨y, t, e, hl, ih _ _ _ _ hm q⟩
 exact mono _ _ _ _ _ (fun o s1 ⟨H', I', hl, q⟩ => ⟨yat hl (by rw [sizeLine_eq]; decide), .str o, H', I'.tok _, ⟨_, rfl⟩, q o hl⟩) k
end
section
variable {σ : St} {H : Hp} {Q : VK} {te : TE} {tp tr tm : TM} {R : Hp -> Prop} {y : Str} {i : Int}
theorem zoU : tMsg tm σ H Q = tm σ H fun H1 => ∀ out : Str, out.length <= 10000000 -> Q (.str out) H1 := rfl
theorem w_m0 : tM0 σ H R = R H := rfl
theorem w_mc : tMc tp tr σ H R = tp σ H fun H1 => tr σ H1 R := rfl
theorem w_mr : tMr te σ H R = te σ H fun x H1 => ((∃ y, x = .str y /\ y.length <= 99000 /\ (∀ c ∈ y.cps.toList, c < 1114112)) \/ ∃ i : Int, x = .int i /\ i.natAbs.log2 < 900) /\ R H1 := rfl
theorem w_mv : tMv te σ H R = te σ H fun x H1 => ((∃ y, x = .str y /\ y.length <= 1000000) \/ ∃ i : Int, x = .int i /\ i.natAbs.log2 < 900) /\ R H1 := rfl
end
section
variable {X : Cx} {G : Addr -> St -> Hp -> Prop} {k : Nat} {f C : Addr} {fd : FuncData} {ps : List Str} {sp : Sp} {dvs : List V} {ds : List Value} {x m : Str} {p pos apos : Pos} {e o : Expr} {es : List Expr} {ta : TE} {t : TA}
theorem zlr (Fn : Fnc X) (ho : Out X G) {Qa : ZP} {σ : St} {H : Hp} {s : Shared} {Q : VK} {us : List Value} {vs : List V} (F : FnOk X.prog X.w X.K X.mg X.base (CXX X.prog X.w X.mg) k f fd ps sp) (hr : Room k X.A) (hb : Binds X.K fd ps ds) (hd : Vals dvs ds)
  (I : Inv X Qa σ H s) (r : Vals vs us) (h : sp (vs ++ dvs) H Q (fun c _ H' => ∃ C, c = .ref C /\ G C σ H')) : wpAny (model X.prog X.w) X.A (call (.ref f) us) (EP X Qa σ Q) X.xe s := by
 have r2 : Vals (vs ++ dvs) (us ++ ds) := r.append hd;have hl : (us ++ ds).length = ps.length := by rw [<- r2.length]; exact F.len _ _ _ _ h
 refine wpAny_call (codeAny_mono (F.run X.A X.stack s H ⟨us, []⟩ (us ++ ds) (vs ++ dvs) Q _ hr I.env0 (hb s us I.kIn hl) r2 h) fun r s' hq => ?_);cases r with
 | error e => exact ho _ _ (XF.comes Fn I hq)
 | ok fl =>
  cases fl with
  | ret u => exact I.after hq
  | next => exact False.elim hq
  | brk => exact False.elim hq
  | cont => exact False.elim hq
def zkB (C : Addr) (m : Str) (sp : Sp) (dvs : List V) (G : Addr -> St -> Hp -> Prop) (ta : TE) (t : TA) : TE := fun σ H Q => ta σ H fun x H1 => ∃ a dx fs, x = .ref a /\ H1 a = some (.ins C dx fs) /\ fs.lookup m = none /\
 t σ H1 fun vs H2 => sp (x :: (vs ++ dvs)) H2 Q (fun c _ H' => ∃ C, c = .ref C /\ G C σ H')
theorem zcC {pl : Sem Bool} (Fn : Fnc X) (ho : Out X G) (he : PE X o ta) (c : Cls X.K C) (hm : Meth X.K C m f) (F : FnOk X.prog X.w X.K X.mg X.base (CXX X.prog X.w X.mg) k f fd ps sp) (hr : Room k X.A) (hb : Binds X.K fd ps ds) (hd : Vals dvs ds) (ha : PA X (e :: es) t)
  (hst : starEach (e :: es) X.env = (false, eval e X.env) :: starEach es X.env := by rfl) (hpl : (backTo pos (starEach es X.env)).any (·.1) = false := by rfl)
  (ht : eval (.Call (.Attribute o m apos) (e :: es) [] pos) X.env = (do
   let ov <- eval o X.env
   standAt apos.atName
   let (f, first) <- holding [ov] (getMethod ov m pl)
   callWith pos f first (backTo pos (starEach (e :: es) X.env)) (backToKw pos (keywordEach [] X.env))) := by rfl) :
  PE X (.Call (.Attribute o m apos) (e :: es) [] pos) (zkB C m sp dvs G ta t) := by
 intro Qa s σ H Q I h;refine W.methodCall_KW (pl := pl) (thn (he Qa s σ H _ I h) fun u s1 ⟨x, H1, I1, rx, a, dx, fs, ex, ea, l, q⟩ => ?_) ht;subst ex;obtain rfl : u = Value.ref a := rx;refine zcN I1 ea c hm l ?_;refine W.callWith_K (first := [.ref a]) (h₀ := X.base) I.ok.mod.kin hm.kp (thn (ha pos Qa s1 σ H1 _ I1 q) fun us s2 ⟨vs, H2, I2, r, q2⟩ => ⟨I2.kIn, ?_⟩) hst hpl;exact zlr Fn ho (us := .ref a :: us) (vs := .ref a :: vs) F hr hb hd I2 (.cons rfl r) q2
end
section
variable {K : W.Frag} {σ : St} {H : Hp} {Q : VK} {D : Ends} {ta tv : TE} {t : TA} {f m : Str} {p C : Addr} {sp : Sp} {dvs : List V} {E : XK} {G : Addr -> St -> Hp -> Prop} {rd : V -> V -> Hp -> VK -> Prop}
theorem zoV : tFld K ta f σ H Q = ta σ H fun x H1 => ∃ a C dx fs v, x = .ref a /\ H1 a = some (.ins C dx fs) /\ Cls K C /\ NoAttr K C f /\ fs.lookup f = some v /\ Q v H1 := rfl
theorem znv : sFld K ta tv f D σ H = tv σ H fun y H1 => ta σ H1 fun x H2 => ∃ a C dx fs, x = .ref a /\ H2 a = some (.ins C dx fs) /\ Cls K C /\ NoAttr K C f /\ fs.length < 1000 /\ D.nx σ (upd H2 a (.ins C dx (putF f y fs))) := rfl
theorem znw : zm7 C m sp dvs E ta t σ H Q = ta σ H fun x H1 => ∃ a dx fs, x = .ref a /\ H1 a = some (.ins C dx fs) /\ fs.lookup m = none /\ t σ H1 fun vs H2 => sp (x :: (vs ++ dvs)) H2 Q E := rfl
theorem zls : zkB C m sp dvs G ta t σ H Q = ta σ H fun x H1 => ∃ a dx fs, x = .ref a /\ H1 a = some (.ins C dx fs) /\ fs.lookup m = none /\ t σ H1 fun vs H2 => sp (x :: (vs ++ dvs)) H2 Q (fun c _ H' => ∃ C, c = .ref C /\ G C σ H') := rfl
theorem znx : zm8 C sp dvs E t σ H Q = t σ H fun vs H1 => ∀ x dx, H1 x = none -> H1 dx = none -> dx ≠ x -> sp (.ref x :: (vs ++ dvs)) (upd (upd H1 dx (.own x)) x (.ins C dx [])) (fun v H2 => v = .non /\ Q (.ref x) H2) E := rfl
end
def PE1 (X : Cx) (e : Expr) (t : TE) : Prop :=
 ∀ (Qa : ZP) (s : Shared) (σ : St) (H : Hp) (Q : VK), 1 <= s.toks -> Inv X Qa σ H s -> t σ H Q -> wpAny (model X.prog X.w) X.A (eval e X.env) (EP X Qa σ Q) X.xe s
def PA1 (X : Cx) (es : List Expr) (t : TA) : Prop :=
 ∀ (pos : Pos) (Qa : ZP) (s : Shared) (σ : St) (H : Hp) (Q : List V -> Hp -> Prop), 1 <= s.toks -> Inv X Qa σ H s -> t σ H Q -> wpAny (model X.prog X.w) X.A (spliced (backTo pos (starEach es X.env))) (AP X Qa σ Q) X.xe s
def PSs1 (X : Cx) (st : List Stmt) (t : TS) : Prop :=
 ∀ (Qa : ZP) (s : Shared) (σ : St) (H : Hp) (D : Ends), 1 <= s.toks -> Inv X Qa σ H s -> t D σ H -> wpAny (model X.prog X.w) X.A (execs st X.env) (SP X Qa D) X.xe s
section
variable {X : Cx} {e : Expr} {es : List Expr} {st : Stmt} {rest : List Stmt} {te : TE} {ta : TA} {t u : TS} {pos : Pos}
theorem PE.up (h : PE X e te) : PE1 X e te := fun Qa s σ H Q _ => h Qa s σ H Q
theorem PA.up (h : PA X es ta) : PA1 X es ta := fun pos Qa s σ H Q _ => h pos Qa s σ H Q
theorem PS.up (h : PS X st t) : PS1 X st t := fun Qa s σ H D _ => h Qa s σ H D
theorem thn1 {α : Type} {x : Sem α} {Q Q' : α -> Shared -> Prop} {M : Model} {A : Around} {E : ZQ} {s : Shared} (ht : 1 <= s.toks) (h : wpAny M A x Q E s) (hQ : ∀ a s', 1 <= s'.toks -> Q a s' -> Q' a s') : wpAny M A x Q' E s :=
 wpAny_with_toks ht (wpAny_mono h (fun a s' q h1 => hQ a s' h1 q) fun _ _ y _ => y)
theorem zbj (h1 : PS1 X st t) (h2 : PSs1 X rest u) : PSs1 X (st :: rest) (tSeq t u) := by
 intro Qa s σ H D ht I h;refine wpAny_execs_cons (thn1 ht (h1 Qa s σ H { D with nx := u D } ht I h) fun f s1 ht1 q => ?_);cases f with
 | next =>
  obtain ⟨σ', H', I', q⟩ := q;exact h2 Qa s1 σ' H' D ht1 I' q
 | ret v => exact q
 | brk => exact q
 | cont => exact q
theorem zcD (h1 : PS1 X st t) : PSs1 X [st] t := by
 intro Qa s σ H D ht I h;refine wpAny_execs_cons (thn (h1 Qa s σ H D ht I h) fun f s1 q => ?_);cases f with
 | next => obtain ⟨σ', H', I', q⟩ := q; exact wpAny_execs_nil ⟨σ', H', I', q⟩
 | ret v => exact q
 | brk => exact q
 | cont => exact q
theorem zlt {i : Nat} {x : Str} {pos' : Pos} (hN : X.N.Nodup) (hi : X.N[i]? = some x) (hx : Loc X.env.scope x) (he : PE1 X e te) (hs : swapsWith e (some (.Name x pos')) pos.line X.env = pure false := by rfl) (hf : X.fn x = true \/ X.env.scope.names.lookup x = some .local := by first | exact .inl rfl | exact .inr rfl | assumption) :
  PS1 X (.Assign [.Name x pos'] e pos) (tAsg te (zeo i)) := by
 intro Qa s σ H D ht I h;refine wpAny_Assign_Name (thn (he Qa s σ H _ ht I h) fun v s1 ⟨y, H1, I1, r1, q1⟩ => ?_) hs;exact zbZ I1 hN hi hx r1 (fun s2 I2 => ⟨_, H1, I2, q1⟩) hf
theorem zbJ (he : PE1 X e te) (hr : PA1 X es ta) (hs : starEach (e :: es) X.env = (false, eval e X.env) :: starEach es X.env := by rfl) : PA1 X (e :: es) (zkT te ta) := by
 intro pos Qa s σ H Q ht I h;rw [hs];show wpAny _ _ (spliced ((false, eval e X.env) :: backTo pos (starEach es X.env))) _ _ s;refine Calls.spliced_cons (thn1 ht (he Qa s σ H _ ht I h) fun u s1 ht1 ⟨x, H1, I1, r1, q1⟩ => ?_);exact thn (hr pos Qa s1 σ H1 _ ht1 I1 q1) fun us s2 ⟨xs, H2, I2, r2, q2⟩ => ⟨x :: xs, H2, I2, .cons r1 r2, q2⟩
end
structure zhm (P : Program) (w : World) (K : W.Frag) (mg : Str -> Option Value) (base : Heap) (CX : CXT) (k : Nat) (f : Addr) (fd : FuncData) (ps : List Str) (sp : Sp) : Prop where
 len : ∀ vs H Q E, sp vs H Q E -> vs.length = ps.length
 run : ∀ (A : Around) (outer : List Env) (s : Shared) (H : Hp) (args : Args) (us : List Value) (vs : List V) (Q : VK) (E : XK), 1 <= s.toks -> Room k A -> Env0 P w K mg base A outer s H -> BindsTo s fd args (ps.zip us) -> Vals vs us -> sp vs H Q E ->
  codeAny (model P w) A (.call (.ref f) args) (CR CX outer P w H s Q E) s
theorem zny {CX : CXT} {P : Program} {w : World} {K : W.Frag} {mg : Str -> Option Value} {base : Heap} {k : Nat} {f : Addr} {name qual : Str} {params : Arguments} {body : List Stmt} {scope : Scope} {dV kV doc pm cdv ct oc : Value} {an od : Option Addr}
  {osl : Array (Option Value)} {N ps : List Str} {sp : Sp} (lk : K.lookup f = some ⟨oc, od, .func (W.fnOf name qual params body scope dV kV doc pm an cdv ct), osl⟩) (hcd : W.codeIn K cdv qual = true) (S : zap N ps scope)
  (len : ∀ vs H Q E, sp vs H Q E -> vs.length = ps.length)
  (hbody : ∀ (A : Around) (outer : List Env) (s : Shared) (H : Hp) (vs : List V) (Q : VK) (E : XK), Room k (A.deeper (envOfC qual scope s.heap.objs.size f cdv)) -> sp vs H Q E ->
   ∃ t, PSs1 (cxOf CX P w K mg base N qual scope f cdv A outer s H E) body t /\ t { nx := fun _ H' => Q .non H', rt := Q } (start N vs) H) :
  zhm P w K mg base CX (k + 1) f (W.fnOf name qual params body scope dV kV doc pm an cdv ct) ps sp := by
 refine ⟨len, fun A outer s H args us vs Q E ht hr e0 hb r hsp => ?_⟩;have hl := len _ _ _ _ hsp;have KX : K.In s.heap := e0.mod.kin.keeps fun b o e => (e0.bs b o e).1;have lim : s.heap.NoLimit := e0.mod.nolimit.keeps fun b o e => (e0.bs b o e).1;have hkind : ∀ y ∈ ps.zip us, scope.names.lookup y.1 = some .local \/ (scope.names.lookup y.1 = some .cell /\ ((cellsFrom (s.heap.objs.size + 1) scope.names []).lookup y.1).isSome = true) := fun ⟨n, v⟩ hy => by
  rcases S.par n (List.of_mem_zip hy).1 with q | q
  ·exact .inl q
  ·exact .inr ⟨q, W.cellsFrom_some _ _ _ (.inl q)⟩
 refine codeAny_call_function hr.depth (KX _ _ lk) rfl S.co S.gen rfl (W.codeRec_of KX hcd) (hb _ _ _ _ ?_);refine wpAny_with_toks ht (wpAny_newFunctionEnv_cells S.kind hkind fun env he s1 x ht1 => ?_);subst he;refine ⟨lim.keeps x.toInCall.keep, codeAny_func ?_⟩;obtain ⟨t, htm, hq⟩ := hbody A outer s H vs Q E (hr.deeper _) hsp;have I : Inv (cxOf CX P w K mg base N qual scope f cdv A outer s H E) [] (start N vs) H s1 := zdw S hr.hd e0 hl r x;refine wpAny_mono (htm [] s1 (start N vs) H _ ht1 I hq) (fun fl s' hs => ?_) fun e s' hs => hs;have fin : ∀ {σ' : St} {H' : Hp} {v : V} {u : Value}, Inv (cxOf CX P w K mg base N qual scope f cdv A outer s H E) [] σ' H' s' -> RelV v u -> Q v H' -> CE outer P w H s Q u s' :=
  fun {σ' H' v u} J rv q => ⟨v, H', J.os, J.bare, J.base, J.hok, rv, q⟩
 cases fl with
 | ret u =>
  obtain ⟨v, σ', H', J, rv, q⟩ := hs;exact fin J rv q
 | next =>
  obtain ⟨σ', H', J, q⟩ := hs;exact fin (v := V.non) (u := Value.none) J rfl q
 | brk =>
  obtain ⟨_, _, _, q⟩ := hs;exact False.elim q
 | cont =>
  obtain ⟨_, _, _, q⟩ := hs;exact False.elim q
section
variable {X : Cx} {CX : CXT} {k : Nat} {f C : Addr} {fd : FuncData} {ps : List Str} {sp : Sp} {dvs : List V} {ds : List Value} {E : XK} {x : Str} {p pos : Pos} {e : Expr} {es : List Expr} {te : TE} {t : TA} {tt u : TS} {st : Stmt} {rest : List Stmt}
theorem zjD (M : Mk X.K C f) (F : FnOk X.prog X.w X.K X.mg X.base CX k f fd ps sp) (hr : Room (k + 1) X.A) (hg : Gl X x) (hm : X.mg x = some (.ref C)) (hb : Binds X.K fd ps ds) (hd : Vals dvs ds) (hx : zdv CX X E)
  (ha : PA1 X (e :: es) t) (hdb : (x == ("__debug__" : Str)) = false := by decide) (he : starEach (e :: es) X.env = (false, eval e X.env) :: starEach es X.env := by rfl) (hpl : (backTo pos (starEach es X.env)).any (·.1) = false := by rfl) :
  PE1 X (.Call (.Name x p) (e :: es) [] pos) (zm8 C sp dvs E t) := by
 intro Qa s σ H Q ht I h;refine wpAny_Call_Name_kw (zbV I hg hm ?_ hdb);refine W.callWith_K (h₀ := X.base) I.ok.mod.kin M.kp (thn (ha pos Qa s σ H _ ht I h) fun us s1 ⟨vs, H1, I1, r, q⟩ => ⟨I1.kIn, ?_⟩) he hpl;exact zjn M F hr hb hd hx I1 r q
theorem zlu {body orelse : List Stmt} {h₀ : ExceptHandler} {hs : List ExceptHandler} {tb : (Addr -> St -> Hp -> Prop) -> TS} {th : Addr -> TS} {te : TS} (F : Fnc X)
  (hb : ∀ G Qa E, Fnc (X.at Qa E) -> Out (X.at Qa E) G -> PassesOwn (model X.prog X.w) X.A X.env E -> PSs1 (X.at Qa E) body (tb G)) (hh : PH X (h₀ :: hs) th) (he : PSs X orelse te) :
  PS1 X (.Try body (h₀ :: hs) orelse [] pos) (tTry tb th te) := by
 intro Qa s σ H D ht I ⟨G, h1, h2⟩;refine wpAny_Try_except ?_;have F' : ∀ E, Fnc (X.at Qa E) := fun E => ⟨F.stk, F.fr, F.ex⟩
 refine wpAny_mono (hb G Qa (fun u s₁ => wpAny (model X.prog X.w) X.A (noteFrame u X.env) (fun _ s₂ => wpAny (model X.prog X.w) X.A (setFlight u none) (fun _ s₃ => wpAny (model X.prog X.w) X.A (handleBy u X.env (h₀ :: hs)) (SP X Qa D) X.xe s₃) X.xe s₂) X.xe s₁) (F' _) ?_ ?_ [] s σ H { D with nx := te D } ht (I.at _) h1) (fun f s₁ hs => ?_) fun _ _ y => y
 ·intro u s₁ x;refine XF.note (X := X.at Qa _) (F' _) x fun s2 x2 => ?_;refine XG.off (X := X.at Qa _) (F' _) x2 fun s3 x3 => ?_;obtain ⟨e, C, l, σ', H', rfl, J, a, hl, g⟩ := x3;exact hh Qa s3 σ' H' D e C l J.unat a (fun b hb => hl b hb) (h2 C σ' H' g)
 ·exact PassesOwn.looking (K := fun u s₂ => wpAny (model X.prog X.w) X.A (setFlight u none) (fun _ s₃ => wpAny (model X.prog X.w) X.A (handleBy u X.env (h₀ :: hs)) (SP X Qa D) X.xe s₃) X.xe s₂)
 ·cases f with
  | next =>
   obtain ⟨σ', H', J, q⟩ := hs;exact he Qa s₁ σ' H' D J.unat q
  | brk => exact SP.unat hs
  | cont => exact SP.unat hs
  | ret u => exact SP.unat hs
def PSb (X : Cx) (st : Stmt) (t : TS) : Prop :=
 ∀ (Qa : ZP) (s : Shared) (σ : St) (H : Hp) (D : Ends), Inv X Qa σ H s -> t D σ H -> wpAny (model X.prog X.w) X.A (exec st X.env) (fun f s' => 1 <= s'.toks /\ SP X Qa D f s') X.xe s
def PEb (X : Cx) (e : Expr) (t : TE) : Prop :=
 ∀ (Qa : ZP) (s : Shared) (σ : St) (H : Hp) (Q : VK), Inv X Qa σ H s -> t σ H Q -> wpAny (model X.prog X.w) X.A (eval e X.env) (fun u s' => 1 <= s'.toks /\ EP X Qa σ Q u s') X.xe s
theorem znz {α : Type} {x : Sem α} {Q : α -> Shared -> Prop} {M : Model} {A : Around} {E : ZQ} {s : Shared} (ht : 1 <= s.toks) (h : wpAny M A x Q E s) : wpAny M A x (fun a s' => 1 <= s'.toks /\ Q a s') E s := thn1 ht h fun _ _ h1 q => ⟨h1, q⟩
theorem zjE {i : Nat} {pos' : Pos} (hN : X.N.Nodup) (hi : X.N[i]? = some x) (hx : Loc X.env.scope x) (he : PEb X e te) (hs : swapsWith e (some (.Name x pos')) pos.line X.env = pure false := by rfl) (hf : X.fn x = true \/ X.env.scope.names.lookup x = some .local := by first | exact .inl rfl | exact .inr rfl | assumption) :
  PSb X (.Assign [.Name x pos'] e pos) (tAsg te (zeo i)) := by
 intro Qa s σ H D I h;refine wpAny_Assign_Name (thn (he Qa s σ H _ I h) fun v s1 ⟨h1, y, H1, I1, r1, q1⟩ => ?_) hs;exact znz h1 (zbZ I1 hN hi hx r1 (fun s2 I2 => ⟨_, H1, I2, q1⟩) hf)
theorem zhn (h1 : PSb X st tt) (h2 : PSs1 X rest u) : PSs X (st :: rest) (tSeq tt u) := by
 intro Qa s σ H D I h;refine wpAny_execs_cons (thn (h1 Qa s σ H { D with nx := u D } I h) fun f s1 ⟨ht1, q⟩ => ?_);cases f with
 | next =>
  obtain ⟨σ', H', I', q⟩ := q;exact h2 Qa s1 σ' H' D ht1 I' q
 | ret v => exact q
 | brk => exact q
 | cont => exact q
end
def putC (c : Nat) (z l : List Nat) : List Nat := l.flatMap fun d => if d = c then z else [d]
theorem zcd (c : Nat) (z a b : List Nat) : putC c z (a ++ b) = putC c z a ++ putC c z b := by unfold putC; rw [List.flatMap_append]
theorem zd6 (c : Nat) (z : List Nat) : ∀ l : List Nat, c ∉ l -> putC c z l = l
 | [], _ => rfl
 | k :: r, h => by
  have h1 : ¬ k = c := fun e => h (e ▸ List.mem_cons_self ..);have h2 : c ∉ r := fun m => h (List.mem_cons_of_mem _ m);have ih := zd6 c z r h2;unfold putC at ih ⊢;rw [List.flatMap_cons, if_neg h1, ih]
  rfl
theorem zjF (c : Nat) (z : List Nat) : putC c z [c] = z := by simp [putC]
theorem zfk (c : Nat) (z : Str) : ∀ parts : List Str, (∀ p ∈ parts, c ∉ p.cps.toList) -> putC c z.cps.toList (Str.join ⟨#[c]⟩ parts).cps.toList = (Str.join z parts).cps.toList
 | [], _ => rfl
 | [p], h => zd6 c _ _ (h p (yah.mpr rfl))
 | p :: q :: r, h => by
  have ih := zfk c z (q :: r) fun a ha => h a (List.mem_cons_of_mem _ ha);show putC c z.cps.toList (p ++ ⟨#[c]⟩ ++ Str.join ⟨#[c]⟩ (q :: r)).cps.toList = (p ++ z ++ Str.join z (q :: r)).cps.toList;simp only [Str.cps_append, Array.toList_append];rw [zcd, zcd, ih, zd6 c _ _ (h p (List.mem_cons_self ..))];show p.cps.toList ++ putC c z.cps.toList [c] ++ _ = _;rw [zjF]
theorem zd7 (x z : Str) (c : Nat) : (Txt.replace x ⟨#[c]⟩ z).cps.toList = putC c z.cps.toList x.cps.toList := by
 rw [StrLaws.replace_one, <- zfk c z _ (StrLaws.split_free x c), StrLaws.join_split]
theorem zgs (c : Nat) (z : List Nat) (n : Nat) (hz : z.length <= n) (hn : 1 <= n) : ∀ l : List Nat, (putC c z l).length <= n * l.length
 | [] => by simp [putC]
 | k :: r => by
  have ih := zgs c z n hz hn r;unfold putC at ih ⊢;rw [List.flatMap_cons, yae, List.length_cons, Nat.mul_add, Nat.mul_one];have : (if k = c then z else [k]).length <= n := by
   split
   ·exact hz
   ·exact hn
  omega
theorem zbU (x : Str) : x.length = x.cps.toList.length := by simp [Str.length]
theorem zbv (a b x : Str) (c : Nat) : (zbR a b x c).cps.toList = putC c (a.cps.toList ++ [c] ++ b.cps.toList) x.cps.toList := by
 unfold zbR;rw [zd7];simp [Str.cps_append]
theorem zis (x : Str) (c : Nat) : (zbR " " " " x c).length <= 3 * x.length := by
 rw [zbU, zbv, zbU x];exact zgs c _ 3 (by simp [show (Str.ofString " ").cps.toList = [32] from rfl]) δ _
theorem zbr (c : Nat) (p : Str) : ∀ {r : List Str}, r ≠ [] -> (Str.join ⟨#[c]⟩ (p :: r)).cps.toList = p.cps.toList ++ c :: (Str.join ⟨#[c]⟩ r).cps.toList
 | [], h => absurd rfl h
 | q :: r, _ => by
  show (p ++ ⟨#[c]⟩ ++ Str.join ⟨#[c]⟩ (q :: r)).cps.toList = _;simp [Str.cps_append]
theorem zbp {a b : Str} (h : a.cps.toList = b.cps.toList) : a = b := by
 obtain ⟨⟨a⟩⟩ := a;obtain ⟨⟨b⟩⟩ := b;simp at h;rw [h]
theorem zgt {c : Nat} : ∀ {a b x y : List Nat}, c ∉ a -> c ∉ b -> a ++ c :: x = b ++ c :: y -> a = b /\ x = y
 | [], [], _, _, _, _, h => by simp at h; exact ⟨rfl, h⟩
 | [], k :: r, _, _, _, hb, h => by simp at h; exact absurd (h.1 ▸ List.mem_cons_self ..) hb
 | k :: r, [], _, _, ha, _, h => by simp at h; exact absurd (h.1 ▸ List.mem_cons_self ..) ha
 | k :: r, k' :: r', x, y, ha, hb, h => by
  simp only [List.cons_append, List.cons.injEq] at h;obtain ⟨h1, h2⟩ := zgt (fun m => ha (List.mem_cons_of_mem _ m)) (fun m => hb (List.mem_cons_of_mem _ m)) h.2;exact ⟨by rw [h.1, h1], h2⟩
theorem zgu (c : Nat) : ∀ {l m : List Str}, l ≠ [] -> m ≠ [] -> (∀ p ∈ l, c ∉ p.cps.toList) -> (∀ p ∈ m, c ∉ p.cps.toList) -> Str.join ⟨#[c]⟩ l = Str.join ⟨#[c]⟩ m -> l = m
 | [], _, h, _, _, _, _ => absurd rfl h
 | _, [], _, h, _, _, _ => absurd rfl h
 | [p], [q], _, _, _, _, h => by
  have : p = q := h;rw [this]
 | [p], q :: q2 :: r, _, _, hl, _, h => by
  exfalso
  have e : (Str.join ⟨#[c]⟩ _).cps.toList = (Str.join ⟨#[c]⟩ _).cps.toList := congrArg (fun s : Str => s.cps.toList) h;rw [zbr c q ς] at e;have : p.cps.toList = q.cps.toList ++ c :: (Str.join ⟨#[c]⟩ (q2 :: r)).cps.toList := e;exact hl p (yah.mpr rfl) (by rw [this]; simp)
 | p :: p2 :: l, [q], _, _, _, hm, h => by
  exfalso
  have e : (Str.join ⟨#[c]⟩ _).cps.toList = (Str.join ⟨#[c]⟩ _).cps.toList := congrArg (fun s : Str => s.cps.toList) h;rw [zbr c p ς] at e;have : p.cps.toList ++ c :: (Str.join ⟨#[c]⟩ (p2 :: l)).cps.toList = q.cps.toList := e;exact hm q (yah.mpr rfl) (by rw [<- this]; simp)
 | p :: p2 :: l, q :: q2 :: m, _, _, hl, hm, h => by
  have e : (Str.join ⟨#[c]⟩ _).cps.toList = (Str.join ⟨#[c]⟩ _).cps.toList := congrArg (fun s : Str => s.cps.toList) h;rw [zbr c p ς, zbr c q ς] at e;obtain ⟨e1, e2⟩ := zgt (hl p (List.mem_cons_self ..)) (hm q (List.mem_cons_self ..)) e;rw [zbp e1, zgu c ς ς (fun a ha => hl a (List.mem_cons_of_mem _ ha)) (fun a ha => hm a (List.mem_cons_of_mem _ ha)) (zbp e2)]
theorem ze4 (x y : Str) : Txt.split x y ≠ [] := by
 unfold Txt.split
 split
 ·simp
 ·split
  ·simp
  ·intro h;have := congrArg List.length h;rw [length_partsBetween] at this;simp at this
theorem zjG (c : Nat) {l : List Str} (h0 : l ≠ []) (hf : ∀ p ∈ l, c ∉ p.cps.toList) : Txt.split (Str.join ⟨#[c]⟩ l) ⟨#[c]⟩ = l :=
 zgu c (ze4 _ _) h0 (StrLaws.split_free _ c) hf (StrLaws.join_split _ _)
def flushW (acc : List Nat) : List (List Nat) := if acc = [] then [] else [acc]
def wd (acc : List Nat) : List Nat -> List (List Nat)
 | [] => flushW acc
 | c :: r => if c = 32 then flushW acc ++ wd [] r else wd (acc ++ [c]) r
theorem ze5 : ∀ (p acc r : List Nat), 32 ∉ p -> wd acc (p ++ r) = wd (acc ++ p) r
 | [], acc, r, _ => by simp
 | c :: p, acc, r, h => by
  have h1 : c ≠ 32 := fun e => h (e ▸ List.mem_cons_self ..);have h2 : 32 ∉ p := fun m => h (List.mem_cons_of_mem _ m);show (if c = 32 then _ else wd (acc ++ [c]) (p ++ r)) = _;rw [if_neg h1, ze5 p (acc ++ [c]) r h2];simp
theorem zit : ∀ {parts : List Str}, parts ≠ [] -> (∀ p ∈ parts, 32 ∉ p.cps.toList) -> wd [] (Str.join " " parts).cps.toList = (parts.filter fun r : Str => !decide (r = "")).map fun r => r.cps.toList
 | [], h, _ => absurd rfl h
 | [p], _, h => by
  have e := ze5 p.cps.toList [] [] (h p (yah.mpr rfl));rw [List.append_nil, List.nil_append] at e;show wd [] p.cps.toList = _;rw [e]
  by_cases hz : p = ""
  ·subst hz; rfl
  ·have : p.cps.toList ≠ [] := fun e => hz (zbp e);simp [wd, flushW, this, hz]
 | p :: q :: r, _, h => by
  have ih := zit (parts := q :: r) ς fun a ha => h a (List.mem_cons_of_mem _ ha);have e : (Str.join " " (p :: q :: r)).cps.toList = p.cps.toList ++ 32 :: (Str.join " " (q :: r)).cps.toList := zbr 32 p ς;rw [e, ze5 _ _ _ (h p (List.mem_cons_self ..)), List.nil_append];show (if (32 : Nat) = 32 then flushW p.cps.toList ++ wd [] _ else _) = _;rw [if_pos rfl, ih]
  by_cases hz : p = ""
  ·subst hz; rfl
  ·have : p.cps.toList ≠ [] := fun e => hz (zbp e);rw [List.filter_cons_of_pos (a := p) (l := q :: r) (by simp [hz]), List.map_cons];unfold flushW;rw [if_neg this]
   rfl
theorem zc9 (x : Str) : ((Txt.split x " ").filter fun r : Str => !decide (r = "")).map (fun r => r.cps.toList) = wd [] x.cps.toList := by
 have h := zit (ze4 x " ") (fun p hp => StrLaws.split_free x 32 p hp);have e : Str.join " " (Txt.split x " ") = x := StrLaws.join_split x " ";rw [e] at h;exact h.symm
def sgn (c : Nat) : Prop := c = 40 \/ c = 41 \/ c = 44
instance (c : Nat) : Decidable (sgn c) := by unfold sgn; infer_instance
def padL (l : List Nat) : List Nat := l.flatMap fun c => if sgn c then [32, c, 32] else [c]
theorem ziu (l : List Nat) : putC 44 [32, 44, 32] (putC 41 [32, 41, 32] (putC 40 [32, 40, 32] l)) = padL l := by
 induction l with
 | nil => rfl
 | cons c r ih =>
  have e : ∀ (k : Nat) (z a b : List Nat), putC k z (a ++ b) = putC k z a ++ putC k z b := zcd;show putC 44 _ (putC 41 _ (putC 40 _ ([c] ++ r))) = (if sgn c then [32, c, 32] else [c]) ++ padL r;rw [e, e, e, ih]
  congr 1
  by_cases h0 : c = 40
  ·subst h0; rfl
  ·by_cases h1 : c = 41
   ·subst h1; rfl
   ·by_cases h2 : c = 44
    ·subst h2; rfl
    ·have : ¬ sgn c := by unfold sgn; omega
     rw [if_neg this];simp [putC, h0, h1, h2]
def wG (acc l : List Nat) : List (List Nat) := wd acc (padL l)
theorem zn0 (acc : List Nat) : wG acc [] = flushW acc := rfl
theorem zjH (acc r : List Nat) : wG acc (32 :: r) = flushW acc ++ wG [] r := by
 show wd acc ((if sgn 32 then _ else [32]) ++ padL r) = _;rw [if_neg δ];show (if (32 : Nat) = 32 then flushW acc ++ wd [] (padL r) else _) = _;rw [if_pos rfl]; rfl
theorem zlv {c : Nat} (h : sgn c) (acc r : List Nat) : wG acc (c :: r) = flushW acc ++ [c] :: wG [] r := by
 show wd acc ((if sgn c then [32, c, 32] else [c]) ++ padL r) = _;rw [if_pos h];have hc : c ≠ 32 := by rcases h with rfl | rfl | rfl <;> decide
 show (if (32 : Nat) = 32 then flushW acc ++ wd [] (c :: 32 :: padL r) else _) = _;rw [if_pos rfl];show flushW acc ++ (if c = 32 then _ else wd [c] (32 :: padL r)) = _;rw [if_neg hc];show flushW acc ++ (if (32 : Nat) = 32 then flushW [c] ++ wd [] (padL r) else _) = _;rw [if_pos rfl]
 rfl
theorem zn1 {c : Nat} (h : ¬ sgn c) (h2 : c ≠ 32) (acc r : List Nat) : wG acc (c :: r) = wG (acc ++ [c]) r := by
 show wd acc ((if sgn c then _ else [c]) ++ padL r) = _;rw [if_neg h];show (if c = 32 then _ else wd (acc ++ [c]) (padL r)) = _;rw [if_neg h2]; rfl
inductive Dt where
 | int (i : Int) | str (x : Str) | non | tup (l : List Dt) | lst (l : List Dt)
mutual
def Dt.beq : Dt -> Dt -> Bool
 | .int i, .int j => i == j
 | .str x, .str y => decide (x = y)
 | .non, .non => true
 | .tup l, .tup m => Dt.beqs l m
 | .lst l, .lst m => Dt.beqs l m
 | _, _ => false
def Dt.beqs : List Dt -> List Dt -> Bool
 | [], [] => true
 | a :: l, b :: m => Dt.beq a b && Dt.beqs l m
 | _, _ => false
end
mutual
theorem Dt.beq_iff : ∀ a b : Dt, Dt.beq a b = true ↔ a = b
 | .int i, b => by cases b <;> simp [Dt.beq]
 | .str x, b => by cases b <;> simp [Dt.beq]
 | .non, b => by cases b <;> simp [Dt.beq]
 | .tup l, b => by cases b with
  | tup m => simp only [Dt.beq, Dt.tup.injEq]; exact Dt.beqs_iff l m
  | _ => simp [Dt.beq]
 | .lst l, b => by cases b with
  | lst m => simp only [Dt.beq, Dt.lst.injEq]; exact Dt.beqs_iff l m
  | _ => simp [Dt.beq]
theorem Dt.beqs_iff : ∀ l m : List Dt, Dt.beqs l m = true ↔ l = m
 | [], m => by cases m <;> simp [Dt.beqs]
 | a :: l, m => by cases m with
  | nil => simp [Dt.beqs]
  | cons b m => simp only [Dt.beqs, Bool.and_eq_true, List.cons.injEq]; rw [Dt.beq_iff a b, Dt.beqs_iff l m]
end
instance : DecidableEq Dt := fun a b => if h : Dt.beq a b = true then isTrue ((Dt.beq_iff a b).mp h) else isFalse fun e => h ((Dt.beq_iff a b).mpr e)
theorem Dt.beq_dec (a b : Dt) : Dt.beq a b = decide (a = b) := by
 by_cases h : a = b
 ·rw [ya9 h]; exact (Dt.beq_iff a b).mpr h
 ·rw [ya8 h]; exact Bool.eq_false_iff.mpr fun e => h ((Dt.beq_iff a b).mp e)
theorem Dt.beqs_all : ∀ (l m : List Dt) (e : Nat -> Bool), (∀ (j : Nat) a b, l[j]? = some a -> m[j]? = some b -> e j = Dt.beq a b) -> ((List.range (min l.length m.length)).all e && l.length == m.length) = Dt.beqs l m
 | [], [], e, _ => by simp [Dt.beqs]
 | [], b :: m, e, _ => by simp [Dt.beqs]
 | a :: l, [], e, _ => by simp [Dt.beqs]
 | a :: l, b :: m, e, h => by
  have ih := Dt.beqs_all l m (fun j => e (j + 1)) fun j x y h1 h2 => h (j + 1) x y (by simpa using h1) (by simpa using h2);have h0 := h 0 a b rfl rfl;simp only [Dt.beqs];rw [<- ih, <- h0];simp only [List.length_cons];rw [show min (l.length + 1) (m.length + 1) = min l.length m.length + 1 by omega, List.range_succ_eq_map];simp only [List.all_cons, List.all_map];have : ((l.length + 1 == m.length + 1) : Bool) = (l.length == m.length) := by simp
  rw [this, Bool.and_assoc]
  rfl
mutual
def Dt.dep : Dt -> Nat
 | .tup l => Dt.deps l + 1
 | .lst l => Dt.deps l + 1
 | _ => 0
def Dt.deps : List Dt -> Nat
 | [] => 0
 | a :: l => max (Dt.dep a) (Dt.deps l)
end
theorem Dt.dep_mem : ∀ {l : List Dt} {j : Nat} {a : Dt}, l[j]? = some a -> Dt.dep a <= Dt.deps l
 | [], j, a, h => by simp at h
 | b :: l, 0, a, h => by simp at h; subst h; simp only [Dt.deps]; omega
 | b :: l, j + 1, a, h => by have := Dt.dep_mem (l := l) (j := j) (a := a) (by simpa using h); simp only [Dt.deps]; omega
inductive RepD (K : W.Frag) (H : Hp) : Dt -> V -> Prop
 | int (i : Int) : RepD K H (.int i) (.int i)
 | str (x : Str) : RepD K H (.str x) (.str x)
 | non : RepD K H .non .non
 | tup {a : Addr} {xs : List V} {l : List Dt} (h : SqT K H a xs) (hl : l.length = xs.length) (hr : ∀ (j : Nat) d x, l[j]? = some d -> xs[j]? = some x -> RepD K H d x) : RepD K H (.tup l) (.ref a)
 | lst {a : Addr} {xs : List V} {l : List Dt} (h : SqL K H a xs) (hl : l.length = xs.length) (hr : ∀ (j : Nat) d x, l[j]? = some d -> xs[j]? = some x -> RepD K H d x) : RepD K H (.lst l) (.ref a)
theorem isL {X : Cx} {Qa : ZP} {σ : St} {H : Hp} {s : Shared} {a : Addr} {xs : List V} (I : Inv X Qa σ H s) (h : SqL X.K H a xs) : ∃ its : List Value, Vals xs its /\ s.heap.IsList a its.toArray := by
 obtain ⟨its, r, p, _⟩ := I.list h;exact ⟨its, r, p.isList⟩
theorem isT {X : Cx} {Qa : ZP} {σ : St} {H : Hp} {s : Shared} {a : Addr} {xs : List V} (I : Inv X Qa σ H s) (h : SqT X.K H a xs) : ∃ its : List Value, Vals xs its /\ s.heap.IsTuple a its.toArray := by
 obtain ⟨its, r, p, _⟩ := I.tuple h;exact ⟨its, r, p⟩
section
variable {X : Cx} {Qa : ZP} {σ : St} {H : Hp} {s : Shared}
theorem RepD.inj (I : Inv X Qa σ H s) {d : Dt} {x : V} (h : RepD X.K H d x) : ∀ {d' : Dt}, RepD X.K H d' x -> d = d' := by
 induction h with
 | int i => intro d' h; cases h; rfl
 | str x => intro d' h; cases h; rfl
 | non => intro d' h; cases h; rfl
 | @tup a xs l h hl hr ih =>
  intro d' h';cases h' with
  | @tup _ xs' l' h' hl' hr' =>
   obtain rfl := I.tuple_inj h h'
   congr 1
   apply List.ext_getElem?;intro j
   by_cases hj : j < l.length
   ·have e1 : l[j]? = some l[j] := by simp [hj]
    have e2 : xs[j]? = some xs[j] := by simp
    have hj' : j < l'.length := by omega
    have e3 : l'[j]? = some l'[j] := by simp [hj']
    rw [e1, e3, ih j _ _ e1 e2 (hr' j _ _ e3 e2)]
   ·rw [List.getElem?_eq_none ω, List.getElem?_eq_none ω]
  | @lst _ xs' l' h' hl' hr' =>
   obtain ⟨_, _, p⟩ := isT I h;obtain ⟨_, _, q⟩ := isL I h';exact absurd rfl (SeqAt.ne_of_list_tuple q p)
 | @lst a xs l h hl hr ih =>
  intro d' h';cases h' with
  | @lst _ xs' l' h' hl' hr' =>
   obtain rfl := I.list_inj h h'
   congr 1
   apply List.ext_getElem?;intro j
   by_cases hj : j < l.length
   ·have e1 : l[j]? = some l[j] := by simp [hj]
    have e2 : xs[j]? = some xs[j] := by simp
    have hj' : j < l'.length := by omega
    have e3 : l'[j]? = some l'[j] := by simp [hj']
    rw [e1, e3, ih j _ _ e1 e2 (hr' j _ _ e3 e2)]
   ·rw [List.getElem?_eq_none ω, List.getElem?_eq_none ω]
  | @tup _ xs' l' h' hl' hr' =>
   obtain ⟨_, _, p⟩ := isL I h;obtain ⟨_, _, q⟩ := isT I h';exact absurd rfl (SeqAt.ne_of_list_tuple p q)
theorem RepD.at (I : Inv X Qa σ H s) {d : Dt} {x : V} (h : RepD X.K H d x) : ∀ {d' : Dt} {y : V}, RepD X.K H d' y -> ∀ {A : Around} {u v : Value}, A.units + Dt.dep d < cLine -> RelV x u -> RelV y v ->
  SeqAt.RcAt A s u v (Dt.beq d d') /\ SeqAt.EqAt A s u v (Dt.beq d d') := by
 induction h with
 | int i =>
  intro d' y h' A u v hu ru rv;obtain ⟨t, rfl⟩ := ru;cases h' with
  | int j => obtain ⟨t', rfl⟩ := rv; exact ⟨SeqAt.RcAt.int_int _ _ _ _, SeqAt.EqAt.int_int _ _ _ _⟩
  | str z => obtain ⟨t', rfl⟩ := rv; exact ⟨SeqAt.RcAt.int_str _ _ _ _, SeqAt.EqAt.int_str _ _ _ _⟩
  | non => cases rv; exact ⟨SeqAt.RcAt.int_none _ _, SeqAt.EqAt.int_none _ _⟩
  | tup h => cases rv; obtain ⟨_, _, p⟩ := isT I h; exact ⟨SeqAt.RcAt.int_tuple _ _ p ω, SeqAt.EqAt.int_tuple _ _ p ω⟩
  | lst h => cases rv; obtain ⟨_, _, p⟩ := isL I h; exact ⟨SeqAt.RcAt.int_list _ _ p ω, SeqAt.EqAt.int_list _ _ p ω⟩
 | str z =>
  intro d' y h' A u v hu ru rv;obtain ⟨t, rfl⟩ := ru;cases h' with
  | int j => obtain ⟨t', rfl⟩ := rv; exact ⟨SeqAt.RcAt.str_int _ _ _ _, SeqAt.EqAt.str_int _ _ _ _⟩
  | str z' =>
   obtain ⟨t', rfl⟩ := rv;have e : (z == z') = Dt.beq (.str z) (.str z') := by simp only [Dt.beq]; rw [Bool.beq_eq_decide_eq]
   rw [<- e]; exact ⟨SeqAt.RcAt.str_str _ _ _ _, SeqAt.EqAt.str_str _ _ _ _⟩
  | non => cases rv; exact ⟨SeqAt.RcAt.str_none _ _, SeqAt.EqAt.str_none _ _⟩
  | tup h => cases rv; obtain ⟨_, _, p⟩ := isT I h; exact ⟨SeqAt.RcAt.str_tuple _ _ p ω, SeqAt.EqAt.str_tuple _ _ p ω⟩
  | lst h => cases rv; obtain ⟨_, _, p⟩ := isL I h; exact ⟨SeqAt.RcAt.str_list _ _ p ω, SeqAt.EqAt.str_list _ _ p ω⟩
 | non =>
  intro d' y h' A u v hu ru rv;cases ru;cases h' with
  | int j => obtain ⟨t', rfl⟩ := rv; exact ⟨SeqAt.RcAt.none_int _ _, SeqAt.EqAt.none_int _ _⟩
  | str z' => obtain ⟨t', rfl⟩ := rv; exact ⟨SeqAt.RcAt.none_str _ _, SeqAt.EqAt.none_str _ _⟩
  | non => cases rv; exact ⟨SeqAt.RcAt.none_none, SeqAt.EqAt.same _⟩
  | tup h => cases rv; obtain ⟨_, _, p⟩ := isT I h; exact ⟨SeqAt.RcAt.none_tuple p ω, SeqAt.EqAt.none_tuple p ω⟩
  | lst h => cases rv; obtain ⟨_, _, p⟩ := isL I h; exact ⟨SeqAt.RcAt.none_list p ω, SeqAt.EqAt.none_list p ω⟩
 | @tup a xs l h hl hr ih =>
  intro d' y h' A u v hu ru rv;have h0 := h';cases ru;obtain ⟨its, r1, p1⟩ := isT I h;cases h' with
  | int j => obtain ⟨t', rfl⟩ := rv; exact ⟨SeqAt.RcAt.tuple_int _ _ p1 ω, SeqAt.EqAt.tuple_int _ _ p1 ω⟩
  | str z' => obtain ⟨t', rfl⟩ := rv; exact ⟨SeqAt.RcAt.tuple_str _ _ p1 ω, SeqAt.EqAt.tuple_str _ _ p1 ω⟩
  | non => cases rv; exact ⟨SeqAt.RcAt.tuple_none p1 ω, SeqAt.EqAt.tuple_none p1 ω⟩
  | lst h2 => cases rv; obtain ⟨_, _, p2⟩ := isL I h2; exact ⟨SeqAt.RcAt.tuple_list p1 p2 ω, SeqAt.EqAt.tuple_list p1 p2 ω⟩
  | @tup b ys m h2 hl2 hr2 =>
   cases rv;obtain ⟨its2, r2, p2⟩ := isT I h2;have l1 : its.toArray.size = xs.length := by rw [yad]; exact r1.length.symm
   have l2 : its2.toArray.size = ys.length := by rw [yad]; exact r2.length.symm
   have rc : SeqAt.RcAt A s (.ref a) (.ref b) (Dt.beq (.tup l) (.tup m)) := by
    have hd : Dt.dep (.tup l) = Dt.deps l + 1 := by simp only [Dt.dep]
    rw [hd] at hu;have := SeqAt.RcAt.tuples (A := A) (e := fun j => match l[j]?, m[j]? with | some x, some y => Dt.beq x y | _, _ => true) p1 p2 ω (fun j h1 h2 => by
     obtain ⟨x, ex, rx⟩ := getD_some r1 h1;obtain ⟨y, ey, ry⟩ := getD_some r2 h2;have j1 : j < l.length := by omega
     have j2 : j < m.length := by omega
     have e1 : l[j]? = some l[j] := by simp [j1]
     have e2 : m[j]? = some m[j] := by simp [j2]
     rw [e1, e2];exact (ih j _ _ e1 ex (hr2 j _ _ e2 ey) (A := A.in1) (by show A.units + 1 + _ < cLine; have := Dt.dep_mem e1; omega) rx ry).2)
    rw [l1, l2, <- hl, <- hl2, Dt.beqs_all l m _ (fun j x y h1 h2 => by simp only [h1, h2])] at this;simp only [Dt.beq];exact this
   refine ⟨rc, ?_⟩
   by_cases hab : a = b
   ·subst hab;rw [(Dt.beq_iff _ _).mpr ((RepD.tup h hl hr).inj I h0)];exact SeqAt.EqAt.same _
   ·exact SeqAt.EqAt.of_refs hab rc
 | @lst a xs l h hl hr ih =>
  intro d' y h' A u v hu ru rv;have h0 := h';cases ru;obtain ⟨its, r1, p1⟩ := isL I h;cases h' with
  | int j => obtain ⟨t', rfl⟩ := rv; exact ⟨SeqAt.RcAt.list_int _ _ p1 ω, SeqAt.EqAt.list_int _ _ p1 ω⟩
  | str z' => obtain ⟨t', rfl⟩ := rv; exact ⟨SeqAt.RcAt.list_str _ _ p1 ω, SeqAt.EqAt.list_str _ _ p1 ω⟩
  | non => cases rv; exact ⟨SeqAt.RcAt.list_none p1 ω, SeqAt.EqAt.list_none p1 ω⟩
  | tup h2 => cases rv; obtain ⟨_, _, p2⟩ := isT I h2; exact ⟨SeqAt.RcAt.list_tuple p1 p2 ω, SeqAt.EqAt.list_tuple p1 p2 ω⟩
  | @lst b ys m h2 hl2 hr2 =>
   cases rv;obtain ⟨its2, r2, p2⟩ := isL I h2;have l1 : its.toArray.size = xs.length := by rw [yad]; exact r1.length.symm
   have l2 : its2.toArray.size = ys.length := by rw [yad]; exact r2.length.symm
   have rc : SeqAt.RcAt A s (.ref a) (.ref b) (Dt.beq (.lst l) (.lst m)) := by
    have hd : Dt.dep (.lst l) = Dt.deps l + 1 := by simp only [Dt.dep]
    rw [hd] at hu;simp only [Dt.beq]
    by_cases Qe : l.length = m.length
    ·have := SeqAt.RcAt.lists (A := A) (e := fun j => match l[j]?, m[j]? with | some x, some y => Dt.beq x y | _, _ => true) p1 p2 ω ω (fun j h1 h2 => by
      obtain ⟨x, ex, rx⟩ := getD_some r1 h1;obtain ⟨y, ey, ry⟩ := getD_some r2 h2;have j1 : j < l.length := by omega
      have j2 : j < m.length := by omega
      have e1 : l[j]? = some l[j] := by simp [j1]
      have e2 : m[j]? = some m[j] := by simp [j2]
      rw [e1, e2];exact (ih j _ _ e1 ex (hr2 j _ _ e2 ey) (A := A.in1) (by show A.units + 1 + _ < cLine; have := Dt.dep_mem e1; omega) rx ry).2)
     have q := Dt.beqs_all l m (fun j => match l[j]?, m[j]? with | some x, some y => Dt.beq x y | _, _ => true) (fun j x y h1 h2 => by simp only [h1, h2]);rw [<- q];have q1 : (l.length == m.length) = true := by simpa using Qe
     have q2 : min l.length m.length = its.toArray.size := by omega
     rw [q1, Bool.and_true, q2];exact this
    ·have q : Dt.beqs l m = false := Bool.eq_false_iff.mpr fun e => Qe (congrArg List.length ((Dt.beqs_iff l m).mp e));rw [q];exact SeqAt.RcAt.lists_lengths p1 p2 (by rw [l1, l2]; simp; omega) ω
   refine ⟨rc, ?_⟩
   by_cases hab : a = b
   ·subst hab;rw [(Dt.beq_iff _ _).mpr ((RepD.lst h hl hr).inj I h0)];exact SeqAt.EqAt.same _
   ·exact SeqAt.EqAt.of_refs hab rc
theorem RepD.ne (I : Inv X Qa σ H s) {d d' : Dt} {x y : V} (h : RepD X.K H d x) (h' : RepD X.K H d' y) {A : Around} {u v : Value} (hu : A.units + Dt.dep d < cLine) (ru : RelV x u) (rv : RelV y v) :
  SeqAt.RcNeAt A s u v (!Dt.beq d d') := by
 cases h with
 | int i =>
  obtain ⟨t, rfl⟩ := ru;cases h' with
  | int j => obtain ⟨t', rfl⟩ := rv; exact SeqAt.RcNeAt.int_int _ _ _ _
  | str z => obtain ⟨t', rfl⟩ := rv; exact SeqAt.RcNeAt.int_str _ _ _ _
  | non => cases rv; exact SeqAt.RcNeAt.int_none _ _
  | tup h => cases rv; obtain ⟨_, _, p⟩ := isT I h; exact SeqAt.RcNeAt.int_tuple _ _ p ω
  | lst h => cases rv; obtain ⟨_, _, p⟩ := isL I h; exact SeqAt.RcNeAt.int_list _ _ p ω
 | str z =>
  obtain ⟨t, rfl⟩ := ru;cases h' with
  | int j => obtain ⟨t', rfl⟩ := rv; exact SeqAt.RcNeAt.str_int _ _ _ _
  | str z' =>
   obtain ⟨t', rfl⟩ := rv;have e : (z == z') = Dt.beq (.str z) (.str z') := by simp only [Dt.beq]; rw [Bool.beq_eq_decide_eq]
   rw [<- e]; exact SeqAt.RcNeAt.str_str _ _ _ _
  | non => cases rv; exact SeqAt.RcNeAt.str_none _ _
  | tup h => cases rv; obtain ⟨_, _, p⟩ := isT I h; exact SeqAt.RcNeAt.str_tuple _ _ p ω
  | lst h => cases rv; obtain ⟨_, _, p⟩ := isL I h; exact SeqAt.RcNeAt.str_list _ _ p ω
 | non =>
  cases ru;cases h' with
  | int j => obtain ⟨t', rfl⟩ := rv; exact SeqAt.RcNeAt.none_int _ _
  | str z' => obtain ⟨t', rfl⟩ := rv; exact SeqAt.RcNeAt.none_str _ _
  | non => cases rv; exact SeqAt.RcNeAt.none_none
  | tup h => cases rv; obtain ⟨_, _, p⟩ := isT I h; exact SeqAt.RcNeAt.none_tuple p ω
  | lst h => cases rv; obtain ⟨_, _, p⟩ := isL I h; exact SeqAt.RcNeAt.none_list p ω
 | @tup a xs l h hl hr =>
  cases ru;obtain ⟨its, r1, p1⟩ := isT I h;cases h' with
  | int j => obtain ⟨t', rfl⟩ := rv; exact SeqAt.RcNeAt.tuple_int _ _ p1 ω
  | str z' => obtain ⟨t', rfl⟩ := rv; exact SeqAt.RcNeAt.tuple_str _ _ p1 ω
  | non => cases rv; exact SeqAt.RcNeAt.tuple_none p1 ω
  | lst h2 => cases rv; obtain ⟨_, _, p2⟩ := isL I h2; exact SeqAt.RcNeAt.tuple_list p1 p2 ω
  | @tup b ys m h2 hl2 hr2 =>
   cases rv;obtain ⟨its2, r2, p2⟩ := isT I h2;have l1 : its.toArray.size = xs.length := by rw [yad]; exact r1.length.symm
   have l2 : its2.toArray.size = ys.length := by rw [yad]; exact r2.length.symm
   have hd : Dt.dep (.tup l) = Dt.deps l + 1 := by simp only [Dt.dep]
   rw [hd] at hu;have := SeqAt.RcNeAt.tuples (A := A) (e := fun j => match l[j]?, m[j]? with | some x, some y => Dt.beq x y | _, _ => true) p1 p2 ω (fun j h1 h2 => by
    obtain ⟨x, ex, rx⟩ := getD_some r1 h1;obtain ⟨y, ey, ry⟩ := getD_some r2 h2;have j1 : j < l.length := by omega
    have j2 : j < m.length := by omega
    have e1 : l[j]? = some l[j] := by simp [j1]
    have e2 : m[j]? = some m[j] := by simp [j2]
    rw [e1, e2];exact (RepD.at I (hr j _ _ e1 ex) (hr2 j _ _ e2 ey) (A := A.in1) (by show A.units + 1 + _ < cLine; have := Dt.dep_mem e1; omega) rx ry).2)
   rw [l1, l2, <- hl, <- hl2, Dt.beqs_all l m _ (fun j x y h1 h2 => by simp only [h1, h2])] at this;simp only [Dt.beq];exact this
 | @lst a xs l h hl hr =>
  cases ru;obtain ⟨its, r1, p1⟩ := isL I h;cases h' with
  | int j => obtain ⟨t', rfl⟩ := rv; exact SeqAt.RcNeAt.list_int _ _ p1 ω
  | str z' => obtain ⟨t', rfl⟩ := rv; exact SeqAt.RcNeAt.list_str _ _ p1 ω
  | non => cases rv; exact SeqAt.RcNeAt.list_none p1 ω
  | tup h2 => cases rv; obtain ⟨_, _, p2⟩ := isT I h2; exact SeqAt.RcNeAt.list_tuple p1 p2 ω
  | @lst b ys m h2 hl2 hr2 =>
   cases rv;obtain ⟨its2, r2, p2⟩ := isL I h2;have l1 : its.toArray.size = xs.length := by rw [yad]; exact r1.length.symm
   have l2 : its2.toArray.size = ys.length := by rw [yad]; exact r2.length.symm
   have hd : Dt.dep (.lst l) = Dt.deps l + 1 := by simp only [Dt.dep]
   rw [hd] at hu;simp only [Dt.beq]
   by_cases Qe : l.length = m.length
   ·have := SeqAt.RcNeAt.lists (A := A) (e := fun j => match l[j]?, m[j]? with | some x, some y => Dt.beq x y | _, _ => true) p1 p2 ω ω (fun j h1 h2 => by
     obtain ⟨x, ex, rx⟩ := getD_some r1 h1;obtain ⟨y, ey, ry⟩ := getD_some r2 h2;have j1 : j < l.length := by omega
     have j2 : j < m.length := by omega
     have e1 : l[j]? = some l[j] := by simp [j1]
     have e2 : m[j]? = some m[j] := by simp [j2]
     rw [e1, e2];exact (RepD.at I (hr j _ _ e1 ex) (hr2 j _ _ e2 ey) (A := A.in1) (by show A.units + 1 + _ < cLine; have := Dt.dep_mem e1; omega) rx ry).2)
    have q := Dt.beqs_all l m (fun j => match l[j]?, m[j]? with | some x, some y => Dt.beq x y | _, _ => true) (fun j x y h1 h2 => by simp only [h1, h2]);rw [<- q];have q1 : (l.length == m.length) = true := by simpa using Qe
    have q2 : min l.length m.length = its.toArray.size := by omega
    rw [q1, Bool.and_true, q2];exact this
   ·have q : Dt.beqs l m = false := Bool.eq_false_iff.mpr fun e => Qe (congrArg List.length ((Dt.beqs_iff l m).mp e));rw [q];exact SeqAt.RcNeAt.lists_lengths p1 p2 (by rw [l1, l2]; simp; omega) ω
theorem RepD.mem (I : Inv X Qa σ H s) {d : Dt} {x : V} {l : List Dt} {xs : List V} {its : List Value} (hx : RepD X.K H d x) (hl : l.length = xs.length) (hr : ∀ (j : Nat) d x, l[j]? = some d -> xs[j]? = some x -> RepD X.K H d x)
  (r : Vals xs its) {A : Around} {v : Value} (hu : ∀ a ∈ l, A.units + Dt.dep a < cLine) (rv : RelV x v) :
  ∃ e : Value -> Bool, (∀ u ∈ its, SeqAt.EqAt A s u v (e u)) /\ its.any e = decide (d ∈ l) := by
 classical
 have item : ∀ u ∈ its, ∃ (j : Nat) (y : V) (a : Dt), its[j]? = some u /\ xs[j]? = some y /\ l[j]? = some a /\ RelV y u := fun u hm => by
  obtain ⟨j, hj, e⟩ := List.getElem_of_mem hm;have hx' : j < xs.length := by rw [r.length]; exact hj
  have hl' : j < l.length := by omega
  obtain ⟨u', e', ru⟩ := r.get (i := j) (x := xs[j]) (by simp [hx']);have : its[j]? = some u := by simp [hj, e]
  rw [this] at e'; cases e';exact ⟨j, xs[j], l[j], this, by simp [hx'], by simp [hl'], ru⟩
 refine ⟨fun u => decide (∃ y, RelV y u /\ RepD X.K H d y), fun u hm => ?_, ?_⟩
 ·obtain ⟨j, y, a, _, hy, ha, ru⟩ := item u hm;have ry := hr j a y ha hy;have e : decide (∃ y, RelV y u /\ RepD X.K H d y) = Dt.beq a d := by
   rw [Dt.beq_dec]
   congr 1
   refine propext ⟨fun ⟨y', r1, r2⟩ => ?_, fun z => ⟨y, ru, z ▸ ry⟩⟩;obtain rfl := ru.inj r1;exact ry.inj I r2
  show SeqAt.EqAt A s u v (decide (∃ y, RelV y u /\ RepD X.K H d y));rw [e];exact (ry.at I hx (hu a (ya1 ha)) ru rv).2
 ·apply Bool.eq_iff_iff.mpr;simp only [List.any_eq_true, decide_eq_true_eq]
  constructor
  ·rintro ⟨u, hm, y', r1, r2⟩
   obtain ⟨j, y, a, _, hy, ha, ru⟩ := item u hm;obtain rfl := ru.inj r1;have := (hr j a y ha hy).inj I r2;subst this;exact ya1 ha
  ·intro hm;obtain ⟨j, hj, e⟩ := List.getElem_of_mem hm;have hx' : j < xs.length := by omega
   obtain ⟨u, hu', ru⟩ := r.get (i := j) (x := xs[j]) (by simp [hx']);exact ⟨u, ya1 hu', xs[j], ru, e ▸ hr j l[j] xs[j] (by simp [hj]) (by simp [hx'])⟩
end
section
variable {X : Cx} {K : W.Frag} {H : Hp} {Q : VK}
def rEqT (K : W.Frag) : R2 := fun x y H Q => ∃ d d', RepD K H d x /\ RepD K H d' y /\ Dt.dep d <= 60 /\ Q (.bl (decide (d = d'))) H
def rNeT (K : W.Frag) : R2 := fun x y H Q => ∃ d d', RepD K H d x /\ RepD K H d' y /\ Dt.dep d <= 60 /\ Q (.bl (!decide (d = d'))) H
theorem zn2 (hu : X.A.units + 64 < cLine) : OpR X (compareOp .Eq) (rEqT X.K) := by
 intro Qa s σ H x y v u Q I rx ry ⟨d, d', h, h', hd, q⟩;exact (h.at I h' (A := X.A) ω rx ry).1 X.prog X.w X.xe _ ⟨.bl _, H, I, rfl, by rw [Dt.beq_dec]; exact q⟩
theorem zn3 (hu : X.A.units + 64 < cLine) : OpR X (compareOp .NotEq) (rNeT X.K) := by
 intro Qa s σ H x y v u Q I rx ry ⟨d, d', h, h', hd, q⟩;exact (h.ne I h' (A := X.A) ω rx ry) X.prog X.w X.xe _ ⟨.bl _, H, I, rfl, by rw [Dt.beq_dec]; exact q⟩
def rInT (K : W.Frag) (neg : Bool) : R2 := fun x y H Q => ∃ d l, RepD K H d x /\ (RepD K H (.tup l) y \/ RepD K H (.lst l) y) /\ Dt.deps l <= 60 /\ Q (.bl (if neg then !decide (d ∈ l) else decide (d ∈ l))) H
theorem Dt.deps_mem {l : List Dt} {a : Dt} (h : a ∈ l) : Dt.dep a <= Dt.deps l := by
 obtain ⟨j, hj, e⟩ := List.getElem_of_mem h;exact Dt.dep_mem (j := j) (by simp [hj, e])
theorem zn4 (hu : X.A.units + 64 < cLine) : OpR X (compareOp .In) (rInT X.K false) := by
 intro Qa s σ H x y v u Q I rx ry ⟨d, l, h, h', hd, q⟩;rcases h' with h' | h'
 ·cases h' with
  | @tup a xs _ hq hl hr =>
   cases ry;obtain ⟨its, r, p⟩ := isT I hq;obtain ⟨e, he, ha⟩ := RepD.mem I h hl hr r (A := X.A.in1) (fun a hm => by show X.A.units + 1 + _ < cLine; have := Dt.deps_mem hm; omega) rx;refine SeqAt.in_tupleAt e p (fun w hw => he w (by simpa using hw)) ⟨.bl _, H, I, rfl, ?_⟩;rw [show its.toArray.any e = its.any e by simp, ha];exact q
 ·cases h' with
  | @lst a xs _ hq hl hr =>
   cases ry;obtain ⟨its, r, p⟩ := isL I hq;obtain ⟨e, he, ha⟩ := RepD.mem I h hl hr r (A := X.A.in1) (fun a hm => by show X.A.units + 1 + _ < cLine; have := Dt.deps_mem hm; omega) rx;refine SeqAt.in_listAt e p (fun w hw => he w (by simpa using hw)) ⟨.bl _, H, I, rfl, ?_⟩;rw [show its.toArray.any e = its.any e by simp, ha];exact q
theorem ziv (hu : X.A.units + 64 < cLine) : OpR X (compareOp .NotIn) (rInT X.K true) := by
 intro Qa s σ H x y v u Q I rx ry ⟨d, l, h, h', hd, q⟩;rcases h' with h' | h'
 ·cases h' with
  | @tup a xs _ hq hl hr =>
   cases ry;obtain ⟨its, r, p⟩ := isT I hq;obtain ⟨e, he, ha⟩ := RepD.mem I h hl hr r (A := X.A.in1) (fun a hm => by show X.A.units + 1 + _ < cLine; have := Dt.deps_mem hm; omega) rx;refine SeqAt.notIn_tupleAt e p (fun w hw => he w (by simpa using hw)) ⟨.bl _, H, I, rfl, ?_⟩;rw [show its.toArray.any e = its.any e by simp, ha];exact q
 ·cases h' with
  | @lst a xs _ hq hl hr =>
   cases ry;obtain ⟨its, r, p⟩ := isL I hq;obtain ⟨e, he, ha⟩ := RepD.mem I h hl hr r (A := X.A.in1) (fun a hm => by show X.A.units + 1 + _ < cLine; have := Dt.deps_mem hm; omega) rx;refine SeqAt.notIn_listAt e p (fun w hw => he w (by simpa using hw)) ⟨.bl _, H, I, rfl, ?_⟩;rw [show its.toArray.any e = its.any e by simp, ha];exact q
end
theorem RepD.same {K : W.Frag} {H H' : Hp} (e : Same H H') {d : Dt} {x : V} (h : RepD K H d x) : RepD K H' d x := by
 induction h with
 | int i => exact .int i
 | str x => exact .str x
 | non => exact .non
 | tup h hl hr ih => exact .tup (e.seqT h) hl ih
 | lst h hl hr ih => exact .lst (e.seq h) hl ih
theorem RepD.strs {K : W.Frag} {H : Hp} {a : Addr} {ts : List Str} (h : SqT K H a (ts.map V.str)) : RepD K H (.tup (ts.map Dt.str)) (.ref a) :=
 .tup h ς fun j d x h1 h2 => by
  rw [yav] at h1 h2;cases e : ts[j]? with
  | none => rw [e] at h1; cases h1
  | some t => rw [e] at h1 h2; cases h1; cases h2; exact .str t
theorem RepD.t1 {K : W.Frag} {H : Hp} {a : Addr} {x : V} {d : Dt} (h : SqT K H a [x]) (h1 : RepD K H d x) : RepD K H (.tup [d]) (.ref a) :=
 .tup h rfl fun j d' x' e1 e2 => match j, e1, e2 with | 0, e1, e2 => by cases e1; cases e2; exact h1
theorem RepD.t2 {K : W.Frag} {H : Hp} {a : Addr} {x y : V} {d d2 : Dt} (h : SqT K H a [x, y]) (h1 : RepD K H d x) (h2 : RepD K H d2 y) : RepD K H (.tup [d, d2]) (.ref a) :=
 .tup h rfl fun j d' x' e1 e2 => match j, e1, e2 with
  | 0, e1, e2 => by cases e1; cases e2; exact h1
  | 1, e1, e2 => by cases e1; cases e2; exact h2
theorem RepD.t3 {K : W.Frag} {H : Hp} {a : Addr} {x y z : V} {d d2 d3 : Dt} (h : SqT K H a [x, y, z]) (h1 : RepD K H d x) (h2 : RepD K H d2 y) (h3 : RepD K H d3 z) : RepD K H (.tup [d, d2, d3]) (.ref a) :=
 .tup h rfl fun j d' x' e1 e2 => match j, e1, e2 with
  | 0, e1, e2 => by cases e1; cases e2; exact h1
  | 1, e1, e2 => by cases e1; cases e2; exact h2
  | 2, e1, e2 => by cases e1; cases e2; exact h3
theorem RepD.t4 {K : W.Frag} {H : Hp} {a : Addr} {x y z w : V} {d d2 d3 d4 : Dt} (h : SqT K H a [x, y, z, w]) (h1 : RepD K H d x) (h2 : RepD K H d2 y) (h3 : RepD K H d3 z) (h4 : RepD K H d4 w) : RepD K H (.tup [d, d2, d3, d4]) (.ref a) :=
 .tup h rfl fun j d' x' e1 e2 => match j, e1, e2 with
  | 0, e1, e2 => by cases e1; cases e2; exact h1
  | 1, e1, e2 => by cases e1; cases e2; exact h2
  | 2, e1, e2 => by cases e1; cases e2; exact h3
  | 3, e1, e2 => by cases e1; cases e2; exact h4
namespace Stm
def dt : Stm -> Dt
 | .is w ts => .tup [.str "is", .str w, .tup (ts.map .str)]
 | .fls => .tup [.str "false"]
 | .neg A => .tup [.str "not", A.dt]
 | .bi o A B => .tup [.str o.txt, A.dt, B.dt]
 | .qu q X A => .tup [.str (qtx q), .str X, A.dt]
theorem zfl : ∀ ts : List Str, Dt.deps (ts.map Dt.str) = 0
 | [] => rfl
 | t :: r => by simp [Dt.deps, Dt.dep, zfl r]
theorem dep_dt : ∀ S : Stm, Dt.dep S.dt <= S.deep + 1
 | .is w ts => by simp [dt, Dt.dep, Dt.deps, zfl, deep]
 | .fls => by simp [dt, Dt.dep, Dt.deps, deep]
 | .neg A => by have := dep_dt A; simp [dt, Dt.dep, Dt.deps, deep]; omega
 | .bi o A B => by have := dep_dt A; have := dep_dt B; simp [dt, Dt.dep, Dt.deps, deep]; omega
 | .qu q X A => by have := dep_dt A; simp [dt, Dt.dep, Dt.deps, deep]; omega
end Stm
theorem RepS.repD {K : W.Frag} {H : Hp} : ∀ {S : Stm} {v : V}, RepS K H S v -> RepD K H S.dt v
 | .is _ _, _, ⟨a, b, h1, h2, h3⟩ => by subst h1; exact .t3 h2 (.str _) (.str _) (.strs h3)
 | .fls, _, ⟨a, h1, h2⟩ => by subst h1; exact .t1 h2 (.str _)
 | .neg _, _, ⟨a, u, h1, h2, h3⟩ => by subst h1; exact .t2 h2 (.str _) (RepS.repD h3)
 | .bi _ _ _, _, ⟨a, u, u', h1, h2, h3, h4⟩ => by subst h1; exact .t3 h2 (.str _) (RepS.repD h3) (RepS.repD h4)
 | .qu _ _ _, _, ⟨a, u, h1, h2, h3⟩ => by subst h1; exact .t3 h2 (.str _) (.str _) (RepS.repD h3)
section
variable {X : Cx}
def rEqC (K : W.Frag) : R2 := fun x y H Q => rEq x y H Q \/ rEqT K x y H Q
def rNeC (K : W.Frag) : R2 := fun x y H Q => rNe x y H Q \/ rNeT K x y H Q
def rInC (K : W.Frag) (neg : Bool) : R2 := fun x y H Q => rInA K neg x y H Q \/ rInT K neg x y H Q
theorem zb9 (K : W.Frag) (hu : X.A.units + 64 < cLine) (hK : X.K = K := by rfl) : OpR X (compareOp .Eq) (rEqC K) := hK ▸ (OpR.or zm4 (zn2 hu) : OpR X (compareOp .Eq) (rEqC X.K))
theorem zcl (K : W.Frag) (hu : X.A.units + 64 < cLine) (hK : X.K = K := by rfl) : OpR X (compareOp .NotEq) (rNeC K) := hK ▸ (OpR.or zm5 (zn3 hu) : OpR X (compareOp .NotEq) (rNeC X.K))
theorem zgv (K : W.Frag) (hu : X.A.units + 64 < cLine) (hK : X.K = K := by rfl) : OpR X (compareOp .In) (rInC K false) := hK ▸ (OpR.or (zhX X.K) (zn4 hu) : OpR X (compareOp .In) (rInC X.K false))
theorem zb1 (K : W.Frag) (hu : X.A.units + 64 < cLine) (hK : X.K = K := by rfl) : OpR X (compareOp .NotIn) (rInC K true) := hK ▸ (OpR.or (zhY X.K) (ziv hu) : OpR X (compareOp .NotIn) (rInC X.K true))
end
section
variable {K : W.Frag} {H : Hp} {Q : VK} {i j : Int} {x y : Str} {p q : Addr} {u : V} {neg : Bool}
theorem RepD.of_int {d : Dt} (h : RepD K H d (.int i)) : d = .int i := by cases h; rfl
theorem RepD.of_str {d : Dt} (h : RepD K H d (.str x)) : d = .str x := by cases h; rfl
theorem zn5 : rEqC K (.int i) (.int j) H Q = Q (.bl (decide (i = j))) H := by
 refine propext ⟨fun h => ?_, fun h => .inl ⟨rfl, by simpa using h⟩⟩;rcases h with ⟨_, h⟩ | ⟨d, d', h1, h2, _, h⟩
 ·simpa using h
 ·rw [h1.of_int, h2.of_int] at h; simpa using h
theorem zn6 : rEqC K (.str x) (.str y) H Q = Q (.bl (decide (x = y))) H := by
 refine propext ⟨fun h => ?_, fun h => .inl ⟨rfl, by simpa using h⟩⟩;rcases h with ⟨_, h⟩ | ⟨d, d', h1, h2, _, h⟩
 ·simpa using h
 ·rw [h1.of_str, h2.of_str] at h; simpa using h
theorem zn7 : rNeC K (.int i) (.int j) H Q = Q (.bl (!decide (i = j))) H := by
 refine propext ⟨fun h => ?_, fun h => .inl ⟨rfl, by simpa using h⟩⟩;rcases h with ⟨_, h⟩ | ⟨d, d', h1, h2, _, h⟩
 ·simpa using h
 ·rw [h1.of_int, h2.of_int] at h; simpa using h
theorem zn8 : rNeC K (.str x) (.str y) H Q = Q (.bl (!decide (x = y))) H := by
 refine propext ⟨fun h => ?_, fun h => .inl ⟨rfl, by simpa using h⟩⟩;rcases h with ⟨_, h⟩ | ⟨d, d', h1, h2, _, h⟩
 ·simpa using h
 ·rw [h1.of_str, h2.of_str] at h; simpa using h
theorem zn9 : rEqC K (.ref p) u H Q = ∃ d d', RepD K H d (.ref p) /\ RepD K H d' u /\ Dt.dep d <= 60 /\ Q (.bl (decide (d = d'))) H := by
 refine propext ⟨fun h => ?_, fun h => .inr h⟩;rcases h with ⟨e, _⟩ | h
 ·cases u <;> cases e
 ·exact h
theorem znA : rEqC K u (.ref p) H Q = ∃ d d', RepD K H d u /\ RepD K H d' (.ref p) /\ Dt.dep d <= 60 /\ Q (.bl (decide (d = d'))) H := by
 refine propext ⟨fun h => ?_, fun h => .inr h⟩;rcases h with ⟨e, _⟩ | h
 ·cases u <;> cases e
 ·exact h
theorem znB : rNeC K (.ref p) u H Q = ∃ d d', RepD K H d (.ref p) /\ RepD K H d' u /\ Dt.dep d <= 60 /\ Q (.bl (!decide (d = d'))) H := by
 refine propext ⟨fun h => ?_, fun h => .inr h⟩;rcases h with ⟨e, _⟩ | h
 ·cases u <;> cases e
 ·exact h
theorem znC : rNeC K u (.ref p) H Q = ∃ d d', RepD K H d u /\ RepD K H d' (.ref p) /\ Dt.dep d <= 60 /\ Q (.bl (!decide (d = d'))) H := by
 refine propext ⟨fun h => ?_, fun h => .inr h⟩;rcases h with ⟨e, _⟩ | h
 ·cases u <;> cases e
 ·exact h
theorem znD : rInC K false (.str x) (.str y) H Q = Q (.bl (inS x y)) H := by
 refine propext ⟨fun h => ?_, fun h => .inl (.inl ⟨x, y, rfl, rfl, h⟩)⟩;rcases h with (⟨_, _, e1, e2, h⟩ | ⟨_, _, e, _⟩) | ⟨_, _, _, h, _⟩
 ·cases e1; cases e2; exact h
 ·cases e
 ·rcases h with h | h <;> cases h
theorem ziw : rInC K true (.str x) (.str y) H Q = Q (.bl (!inS x y)) H := by
 refine propext ⟨fun h => ?_, fun h => .inl (.inl ⟨x, y, rfl, rfl, h⟩)⟩;rcases h with (⟨_, _, e1, e2, h⟩ | ⟨_, _, e, _⟩) | ⟨_, _, _, h, _⟩
 ·cases e1; cases e2; exact h
 ·cases e
 ·rcases h with h | h <;> cases h
theorem znE : rInC K neg u (.ref p) H Q = (rIn K neg u (.ref p) H Q \/ rInT K neg u (.ref p) H Q) := by
 refine propext ⟨fun h => ?_, fun h => ?_⟩
 ·rcases h with (⟨_, _, _, e2, _⟩ | h) | h
  ·cases e2
  ·exact .inl h
  ·exact .inr h
 ·rcases h with h | h
  ·exact .inl (.inr h)
  ·exact .inr h
end
section
variable {X : Cx}
def rAny (K : W.Frag) : List V -> Hp -> VK -> Prop := fun xs H Q => ∃ (p : Addr) (bs : List Bool), xs = [.ref p] /\ SqL K H p (bs.map V.bl) /\ Q (.bl (bs.any id)) H
theorem zoW {K : W.Frag} {p : Addr} {H : Hp} {Q : VK} : rAny K [.ref p] H Q = ∃ bs : List Bool, SqL K H p (bs.map V.bl) /\ Q (.bl (bs.any id)) H := by
 refine propext ⟨fun ⟨_, bs, e, h⟩ => ?_, fun ⟨bs, h⟩ => ⟨p, bs, rfl, h⟩⟩;cases e; exact ⟨bs, h⟩
def rSum (K : W.Frag) : List V -> Hp -> VK -> Prop := fun xs H Q => ∃ (p : Addr) (ns : List Int), xs = [.ref p] /\ SqL K H p (ns.map V.int) /\ Q (.int ns.sum) H
theorem zoX {K : W.Frag} {p : Addr} {H : Hp} {Q : VK} : rSum K [.ref p] H Q = ∃ ns : List Int, SqL K H p (ns.map V.int) /\ Q (.int ns.sum) H := by
 refine propext ⟨fun ⟨_, bs, e, h⟩ => ?_, fun ⟨bs, h⟩ => ⟨p, bs, rfl, h⟩⟩;cases e; exact ⟨bs, h⟩
end
section
variable {K : W.Frag} {σ : St} {H : Hp} {Q : VK} {D : Ends} {ta tb tc te : TE} {r r' : R2} {i n : Nat} {ti : TIp} {g : TG} {gs : TGs} {v : V} {vs : List V} {R : St -> Hp -> Prop} {f : Int -> Int -> Int} {a b : Int}
theorem zlw : zkz r r' ta tb tc σ H Q = ta σ H fun x H1 => tb σ H1 fun y H2 => r x y H2 fun z H3 => ∃ k, z = .bl k /\ (if k = true then tc σ H3 fun w' H4 => r' y w' H4 Q else Q (.bl false) H3) := rfl
theorem zoY : ipI f (.int a) (.int b) H Q = Q (.int (f a b)) H := propext ⟨fun ⟨_, _, e, e', h⟩ => by cases e; cases e'; exact h, fun h => ⟨a, b, rfl, rfl, h⟩⟩
theorem znF {p : Addr} : gTup K n gs (.ref p) σ H R = ∃ xs, SqT K H p xs /\ xs.length = n /\ gs xs σ H R := propext ⟨fun ⟨_, xs, e, h⟩ => by cases e; exact ⟨xs, h⟩, fun ⟨xs, h⟩ => ⟨p, xs, rfl, h⟩⟩
theorem zlx : zox g gs (v :: vs) σ H R = g v σ H fun σ' H' => gs vs σ' H' R := propext ⟨fun ⟨_, _, e, h⟩ => by cases e; exact h, fun h => ⟨v, vs, rfl, h⟩⟩
end
end L2
namespace HT
open PySem PyProof.Rows
section
variable {prog : Program} {w : World} {A : Around} {E : ZQ} {s : Shared}
theorem getItem_tuple_whole {t sl : Addr} {items : Array Value} {vl vu : Value} {lo hi : Option Int} {Q : ZQ} (ht : IsTup s.heap t items) (hs : s.heap.IsSliceOf sl vl vu .none) (pl : IsPart vl lo) (pu : IsPart vu hi)
  (hw : sIx items.size 0 lo = 0 /\ sIx items.size items.size hi = items.size) (h : Q (.ref t) s) : wpAny (model prog w) A (getItem (.ref t) (.ref sl)) Q E s := by
 obtain ⟨os, hos, hcs, hds⟩ := id hs;have hTs : s.TypeIs (.ref sl) "slice" := ⟨os, hos, hcs⟩
 unfold getItem
 try with_reducible refine wpAny_holding ?_
 first | refine yaa (yab ?_) | skip
 refine yaa (wpAny_sequenceKey ht.typeIs δ ?_);refine yaa (wpAny_callSpecial?_slot (name := Str.ofString "__getitem__") ht.typeIs PyProof.Rows.slot_tuple_getitem
  (wpAny_call_entry PyProof.Rows.slot_tuple_getitem ht.typeIs entry_tuple_getitem ?_ (args_tuple_getitem _ _)))
 show wpAny _ _ (Builtin.Tuple.tupleItemsOf (.ref t) >>= _) _ _ s;refine yaa (tupleItemsOf_ ht ?_);refine yaa (wpAny_typeOf hTs ?_);rw [if_pos δ];refine yaa (zcj hs pl pu ?_);show wpAny _ _ (if (((sIx items.size 0 lo : Nat) : Int) == 0 && (1 : Int) == 1 && (sIx items.size items.size hi - sIx items.size 0 lo) == items.size) = true then _ else _) _ _ s;rw [hw.1, hw.2, if_pos ς];refine yaa (m := Builtin.Tuple.tupleIsExact _) (yaa (wpAny_typeOf ht.typeIs (yab ?_)));rw [if_pos δ];exact yaa (wpAny_rule (yab ⟨_, rfl, yab h⟩))
theorem cat_tup0 {t b : Addr} {vs ws : List Value} {Q : ZQ} (ht : IsTup s.heap t vs.toArray) (hb : IsTup s.heap b ws.toArray) (hv : vs = [])
  (h1 : Q (.ref b) s) : wpAny (model prog w) A (binaryOp .Add (.ref t) (.ref b)) Q E s := by
 obtain ⟨⟨cls, dd, data, sl⟩, ho, hc, n, hd⟩ := id ht;obtain ⟨⟨cls2, dd2, data2, sl2⟩, ho2, hc2, n2, hd2⟩ := id hb;simp only at hc hd hc2 hd2;subst hc hd hc2 hd2;exact concat_meets ⟨_, ho, rfl⟩ ⟨_, ho2, rfl⟩ noFill_tuple_add seq_tuple_add PySem.F.slot_tuple_add PySem.F.entry_tuple_add (PySem.F.args_tuple_add_2 _ _)
   (tuple_addW0 t b vs.toArray ws.toArray n n2 dd dd2 sl sl2 (by simp [hv])) ⟨ho, ho2, h1⟩
end
end HT
namespace L2
open PySem PySem.Spec PyProof.Rows
section
variable {X : Cx}
def znG (K : W.Frag) : V -> Option Int -> Option Int -> Hp -> VK -> Prop := fun x lo hi H Q => ∃ a xs, x = .ref a /\ SqT K H a xs /\ ∀ q H', Same H H' -> SqT K H' q (cutV xs lo hi) -> Q (.ref q) H'
theorem zly : SlR X (znG X.K) := by
 intro Qa s σ H x v vl vu lo hi sl Q I rx hs pl pu h;obtain ⟨a, xs, rfl, hx, q⟩ := h
 by_cases hw : HT.sIx xs.length 0 lo = 0 /\ HT.sIx xs.length xs.length hi = xs.length
 ·cases rx;obtain ⟨its, r, ht, hz⟩ := I.tuple hx;have Qe : its.toArray.size = xs.length := by rw [yad]; exact r.length.symm
  refine ⟨"tuple", _, PyProof.Rows.slot_tuple_getitem.lookup, ht.typeIs, ?_⟩;refine HT.getItem_tuple_whole ht hs pl pu (by rw [Qe]; exact hw) ⟨.ref a, H, I, rfl, q a H (Same.refl H) ?_⟩;have e : cutV xs lo hi = xs := by unfold cutV; rw [hw.1, hw.2]; simp
  rw [e]; exact hx
 ·exact zmB Qa s σ H _ v vl vu lo hi sl Q I rx hs pl pu ⟨a, xs, rfl, hx, hw, fun p hp => q p _ (zaf hp _) (SqT.of zad)⟩
def rSlB (K : W.Frag) : V -> Option Int -> Option Int -> Hp -> VK -> Prop := fun x lo hi H Q => rSlS x lo hi H Q \/ (rSlL K x lo hi H Q \/ znG K x lo hi H Q)
theorem slB (K : W.Frag) (hK : X.K = K := by rfl) : SlR X (rSlB K) := hK ▸ (SlR.or zmI (SlR.or zkW zly) : SlR X (rSlB X.K))
def zkC (K : W.Frag) : R2 := fun x y H Q => ∃ a b xs ys, x = .ref a /\ y = .ref b /\ SqT K H a xs /\ SqT K H b ys /\ xs.length + ys.length <= sizeLine /\ ∀ q H', Same H H' -> SqT K H' q (xs ++ ys) -> Q (.ref q) H'
theorem zjI : OpR X (binaryOp .Add) (zkC X.K) := by
 intro Qa s σ H x y v u Q I rx ry h;obtain ⟨a, b, xs, ys, rfl, rfl, ha, hb, hz, q⟩ := h
 by_cases hx : xs = []
 ·subst hx;cases rx; cases ry;obtain ⟨its, r1, p1, _⟩ := I.tuple ha;obtain ⟨its2, r2, p2, _⟩ := I.tuple hb;exact HT.cat_tup0 p1 p2 (r1.nil_iff.mpr rfl) ⟨.ref b, H, I, rfl, q b H (Same.refl H) hb⟩
 ·exact zkV Qa s σ H _ _ v u Q I rx ry ⟨a, b, xs, ys, rfl, rfl, ha, hb, hx, hz, fun e => q a H (Same.refl H) (by subst e; rw [List.append_nil]; exact ha), fun _ p hp => q p _ (zaf hp _) (SqT.of zad)⟩
def zix (K : W.Frag) : R2 := fun x y H Q => rI0 (fun i j => .int (i + j)) x y H Q \/ (zmL x y H Q \/ (rCat x y H Q \/ zkC K x y H Q))
theorem zax (K : W.Frag) (hK : X.K = K := by rfl) : OpR X (binaryOp .Add) (zix K) := hK ▸ (OpR.or zm1 (OpR.or zgU (OpR.or zmG zjI)) : OpR X (binaryOp .Add) (zix X.K))
end
section
variable {K : W.Frag} {σ : St} {H : Hp} {Q : VK} {D : Ends} {p q : Addr} {x y : Str} {i j : Int} {lo hi : Option Int} {a b : Bool} {tc : TT} {tb : TS} {ta : TA} {te : TE} {R : It -> Hp -> Prop}
theorem znH : rSlB K (.str x) lo hi H Q = (x.length <= sizeLine /\ Q (.str (Txt.slice x lo hi)) H) := by
 refine propext ⟨fun h => ?_, fun ⟨h, k⟩ => .inl ⟨x, rfl, h, k⟩⟩;rcases h with ⟨_, e, h⟩ | ⟨_, _, e, _⟩ | ⟨_, _, e, _⟩
 ·cases e; exact h
 ·cases e
 ·cases e
theorem znI : rSlB K (.ref p) lo hi H Q = ∃ xs, (SqL K H p xs /\ ∀ q, H q = none -> Q (.ref q) (upd H q (.lst (cutV xs lo hi)))) \/
  (SqT K H p xs /\ ∀ q H', Same H H' -> SqT K H' q (cutV xs lo hi) -> Q (.ref q) H') := by
 refine propext ⟨fun h => ?_, fun ⟨xs, h⟩ => ?_⟩
 ·rcases h with ⟨_, e, _⟩ | ⟨_, xs, e, h⟩ | ⟨_, xs, e, h⟩
  ·cases e
  ·cases e; exact ⟨xs, .inl h⟩
  ·cases e; exact ⟨xs, .inr h⟩
 ·rcases h with h | h
  ·exact .inr (.inl ⟨p, xs, rfl, h⟩)
  ·exact .inr (.inr ⟨p, xs, rfl, h⟩)
theorem zlz : zix K (.int i) (.int j) H Q = Q (.int (i + j)) H := by
 refine propext ⟨fun h => ?_, fun h => .inl ⟨i, j, rfl, rfl, h⟩⟩;rcases h with ⟨_, _, e1, e2, h⟩ | ⟨_, _, e, _⟩ | ⟨_, _, _, _, e, _⟩ | ⟨_, _, _, _, e, _⟩
 ·cases e1; cases e2; exact h
 ·cases e
 ·cases e
 ·cases e
theorem zl0 : zix K (.str x) (.str y) H Q = (x.length + y.length <= sizeLine /\ Q (.str (x ++ y)) H) := by
 refine propext ⟨fun h => ?_, fun ⟨h, k⟩ => .inr (.inl ⟨x, y, rfl, rfl, h, k⟩)⟩;rcases h with ⟨_, _, e, _⟩ | ⟨_, _, e1, e2, h⟩ | ⟨_, _, _, _, e, _⟩ | ⟨_, _, _, _, e, _⟩
 ·cases e
 ·cases e1; cases e2; exact h
 ·cases e
 ·cases e
theorem zl1 : zix K (.ref p) (.ref q) H Q = ∃ xs zs, (H p = some (.lst xs) /\ H q = some (.lst zs) /\ xs.length + zs.length <= sizeLine /\ ∀ r, H r = none -> Q (.ref r) (upd H r (.lst (xs ++ zs)))) \/
  (SqT K H p xs /\ SqT K H q zs /\ xs.length + zs.length <= sizeLine /\ ∀ r H', Same H H' -> SqT K H' r (xs ++ zs) -> Q (.ref r) H') := by
 refine propext ⟨fun h => ?_, fun ⟨xs, zs, h⟩ => ?_⟩
 ·rcases h with ⟨_, _, e, _⟩ | ⟨_, _, e, _⟩ | ⟨_, _, xs, zs, e1, e2, h⟩ | ⟨_, _, xs, zs, e1, e2, h⟩
  ·cases e
  ·cases e
  ·cases e1; cases e2; exact ⟨xs, zs, .inl h⟩
  ·cases e1; cases e2; exact ⟨xs, zs, .inr h⟩
 ·rcases h with h | h
  ·exact .inr (.inr (.inl ⟨p, q, xs, zs, rfl, rfl, h⟩))
  ·exact .inr (.inr (.inr ⟨p, q, xs, zs, rfl, rfl, h⟩))
theorem ziy {T : String} : zd3 K T [.bl a, .ty T] H Q = ∃ c, W.kitOne K (.type "bool") (.type T) = some c /\ Q (.bl c) H := by
 refine propext ⟨fun ⟨_, _, b, e, t, h⟩ => ?_, fun ⟨b, h⟩ => ⟨_, _, b, rfl, .of (.bl a), h⟩⟩;cases e;rcases t with t | t | t
 cases t; exact ⟨b, h⟩
theorem zgw : rEq (.bl a) (.bl b) H Q = Q (.bl (decide (a = b))) H := by
 refine propext ⟨fun ⟨_, h⟩ => ?_, fun h => ⟨rfl, ?_⟩⟩
 ·rw [zdT] at h; exact h
 ·rw [zdT]; exact h
theorem ziz : rNe (.bl a) (.bl b) H Q = Q (.bl (!decide (a = b))) H := by
 refine propext ⟨fun ⟨_, h⟩ => ?_, fun h => ⟨rfl, ?_⟩⟩
 ·rw [zdT] at h; exact h
 ·rw [zdT]; exact h
theorem zl2 : rEqB K (.bl a) (.bl b) H Q = Q (.bl (decide (a = b))) H := by
 refine propext ⟨fun h => ?_, fun h => .inl (zgw ▸ h)⟩;rcases h with h | ⟨d, b, hd, h, _⟩
 ·rw [zgw] at h; exact h
 ·rcases h with h | h <;> cases h
theorem zl3 : rEqC K (.bl a) (.bl b) H Q = Q (.bl (decide (a = b))) H := by
 refine propext ⟨fun h => ?_, fun h => .inl (zgw ▸ h)⟩;rcases h with h | ⟨d, d', h, _⟩
 ·rw [zgw] at h; exact h
 ·cases h
theorem zl4 : rNeC K (.bl a) (.bl b) H Q = Q (.bl (!decide (a = b))) H := by
 refine propext ⟨fun h => ?_, fun h => .inl (ziz ▸ h)⟩;rcases h with h | ⟨d, d', h, _⟩
 ·rw [ziz] at h; exact h
 ·cases h
theorem zoZ : tIsN te σ H Q = te σ H fun x H1 => Q (.bl (decide (x = .non))) H1 := rfl
theorem zl5 : zky tc tb D σ H = ∃ W : Nat -> St -> Hp -> Prop, (∃ m, W m σ H) /\ ∀ m σ H, W m σ H ->
 tc σ H fun b H1 => if b = true then ∃ N : St -> Hp -> Prop, (∀ σ' H', N σ' H' -> ∃ m', m' < m /\ W m' σ' H') /\ tb { D with nx := N, ct := N, bk := D.nx } σ H1 else D.nx σ H1 := rfl
theorem zpa : rLtA (.str x) (.str y) H Q = Q (.bl (decide (x.cps.toList < y.cps.toList))) H := by
 refine propext ⟨fun h => ?_, fun h => .inr ⟨x, y, rfl, rfl, h⟩⟩;rcases h with ⟨_, _, e, _⟩ | ⟨_, _, e1, e2, h⟩
 ·cases e
 ·cases e1; cases e2; exact h
theorem zkD (xs : List V) (n : Nat) : cutV xs none (some (n : Int)) = xs.take n := by
 unfold cutV;rw [HT.sIx_none, HT.sIx_nat, List.drop_zero, Nat.sub_zero]
 by_cases h : n <= xs.length
 ·rw [Nat.min_eq_left h]
 ·rw [Nat.min_eq_right ω, List.take_of_length_le (yai _), List.take_of_length_le ω]
end
def opn (r : Str) : Bool := inV (.str r) [V.str "guess", V.str "new", V.str "case"]
def nxt (k : Nat) (r : Str) (l : Nat) (p : List Nat) : List Nat := if opn r = true then p.take (l - 1) ++ [k] else p.take l
def zd8 (rs : List Str) (g : Nat -> Nat) : Nat -> List Nat
 | 0 => []
 | i + 1 => nxt i (rs.getD i "") (g i) (zd8 rs g i)
theorem zgx {rs : List Str} {i : Nat} (h : i < rs.length) : (rs.map V.str)[i]? = some (.str (rs.getD i "")) := by simp [h, List.getD_eq_getElem?_getD]
def zpb (K : W.Frag) : Sp := fun vs H Q _ => ∃ (a : Addr) (ns : List Int) (k : Int), vs = [.ref a, .int k] /\ SqL K H a (ns.map V.int) /\ 0 <= k /\ k < 100000 /\ ∀ n : Int, 0 <= n -> n < 2147483629 -> Q (.int n) H
open AutoSeq1 (wpAny_loadPart')
section
variable {X : Cx}
def cntE (k : V) (u : Value) : Bool := match absV u with | some y => eqV y k | none => false
def zi0 (K : W.Frag) : V -> List V -> Hp -> VK -> Prop := fun x vs H Q => ∃ p xs k, x = .ref p /\ vs = [k] /\ SqL K H p xs /\ xs.all zbH = true /\ zbH k = true /\ Q (.int ((xs.countP fun y => eqV y k : Nat) : Int)) H
theorem zkE (k : V) : ∀ {xs : List V} {us : List Value}, Vals xs us -> us.countP (cntE k) = xs.countP fun y => eqV y k
 | _, _, .nil => rfl
 | _, _, .cons r t => by
  have e : ∀ {y : V} {u : Value}, RelV y u -> cntE k u = eqV y k := fun r => by unfold cntE; rw [r.abs]
  rw [List.countP_cons, List.countP_cons, zkE k t, e r]
theorem zi1 {u : Value} : ∀ {xs : List V} {us : List Value}, Vals xs us -> u ∈ us -> ∃ x, x ∈ xs /\ RelV x u
 | _, _, .nil, h => by simp at h
 | _, _, .cons r t, h => by
  rcases yau.mp h with rfl | h
  ·exact ⟨_, List.mem_cons_self, r⟩
  ·obtain ⟨x, hx, rx⟩ := zi1 t h;exact ⟨x, List.mem_cons_of_mem _ hx, rx⟩
theorem zjJ : MtR X "list.count" (zi0 X.K) := by
 intro Qa s σ H x vs v us Q I rx rv h;obtain ⟨p, xs, k, rfl, rfl, hq, fs, fk, q⟩ := h;cases rx;obtain ⟨u, rfl, ru⟩ := rv.one;obtain ⟨its, r, pl, hz⟩ := I.list hq;obtain ⟨⟨cls, dd, data, sl⟩, ho, hc, n, hd⟩ := pl.isList;simp only at hc hd;subst hc hd;refine call_meets PySem.F.slot_list_count ⟨_, ho, rfl⟩ PySem.F.entry_list_count (PySem.F.args_list_count_2 _ _) (SeqAt.list_countAt p its.toArray n dd sl u (cntE k)) ⟨ho, fun y hy => ?_, ?_⟩
 ·obtain ⟨x, hx, rx⟩ := zi1 r (by simpa using hy);have e : cntE k y = eqV x k := by unfold cntE; rw [rx.abs]
  rw [e];exact zhO rx ru (List.all_eq_true.mp fs x hx) fk
 ·rw [show its.toArray.toList = its from rfl, zkE k r];exact ⟨.int _, H, I.tok _, ⟨s.toks, rfl⟩, q⟩
theorem zi2 (K : W.Frag) (hK : X.K = K := by rfl) : MtR X "list.count" (zi0 K) := hK ▸ zjJ
theorem zi3 {K : W.Frag} {p : Addr} {k : V} {H : Hp} {Q : VK} : zi0 K (.ref p) [k] H Q = ∃ xs, SqL K H p xs /\ xs.all zbH = true /\ zbH k = true /\ Q (.int ((xs.countP fun y => eqV y k : Nat) : Int)) H := by
 refine propext ⟨fun ⟨_, xs, _, e1, e2, h⟩ => ?_, fun ⟨xs, h⟩ => ⟨p, xs, k, rfl, rfl, h⟩⟩;cases e1; cases e2; exact ⟨xs, h⟩
end
section
variable {K : W.Frag} {H H' : Hp} {us : List V} {f : Nat -> Int × Str}
theorem deps_le {l : List Dt} {n : Nat} (h : ∀ d ∈ l, Dt.dep d <= n) : Dt.deps l <= n := by
 induction l with
 | nil => exact yaq _
 | cons a l ih => exact Nat.max_le.mpr ⟨h a ς, ih fun d hd => h d (by simp [hd])⟩
end
section
variable {rs : List Str} {g : Nat -> Nat}
inductive Itm where
 | ln (i : Nat)
 | bx (b e : Nat)
def zpc (rs : List Str) (g : Nat -> Nat) (N b e : Nat) : Prop := e < N /\ zd8 rs g (e + 1) = zd8 rs g (b + 1) /\ ∀ i, i < N -> zd8 rs g (i + 1) = zd8 rs g (b + 1) -> i <= e
structure LOk (rs : List Str) (g : Nat -> Nat) (N n : Nat) (q : List Nat) (j : Nat) (L : List Itm) : Prop where
 ln : ∀ i, .ln i ∈ L ↔ i < n /\ zd8 rs g (i + 1) = q.take j
 bx : ∀ b e, .bx b e ∈ L ↔ b < n /\ opn (rs.getD b "") = true /\ zd8 rs g (b + 1) = q.take j ++ [b] /\ b ∉ q /\ zpc rs g N b e
 hd : ∀ b, 0 < j -> q[j - 1]? = some b -> ∃ t, L = .ln b :: t
end
def svT : Value -> Str
 | .str x _ => x
 | _ => ""
def zjK (es : Array (Int × Value)) : List Str := es.toList.map fun e => svT e.2
def znJ (w : World) : Bool := w.params.followText "set-order"
def SetS (prog : Program) (w : World) (h : Heap) (a : Addr) (us : List Str) : Prop :=
 ∃ o es ep tb, h.get? a = some o /\ o.ExactSet /\ o.data = .set es ep tb /\ ElemsOf (PySem.strKind prog w) es.toList /\ zjK es = us /\ us.Nodup /\ es.size < scanBound /\ tb.fits es.size = true /\ tb.led = !znJ w /\ (us ≠ [] -> tb.plain = false)
end L2
namespace L2
open PySem PySem.Spec PyProof.Rows PySem.SeqAt
structure zpz (prog : Program) (w : World) (s : Shared) (S : Addr) (xs : List Value) (I : Addr) (s' : Shared) (vs : List Value) (fp : List Addr) (St : Nat -> Heap -> Prop) : Prop where
 heap : ∀ b o, s.heap.get? b = some o -> s'.heap.get? b = some o
 rest : ∃ d, s' = { s with heap := s'.heap, drawn := d }
 new : s.heap.objs.size <= I
 fps : ∀ b ∈ fp, b = S \/ s.heap.objs.size <= b
 lt : ∀ b ∈ fp, b < s'.heap.objs.size
 mem : I ∈ fp
 vals : List.Perm vs xs
 st : St 0 s'.heap
 walk : ∀ A : Around, A.handled = none -> WalksS prog w A I fp [I] Eq vs.length (fun i v => vs[i]? = some v) (fun i s => St i s.heap)
def SetO (prog : Program) (w : World) (S : Addr) (us : List Str) : HO := .ext fun h => SetS prog w h S us
section
variable {X : Cx} {Qa : ZP} {σ : St} {H : Hp} {s : Shared}
def znK (P : Program) (w : World) (K : W.Frag) : List V -> Hp -> VK -> Prop := fun xs H Q => ∃ (a : Addr) (ts : List Str), xs = [.ref a] /\ SqL K H a (ts.map V.str) /\ ts.length < 4000 /\
 ∀ S us, H S = none -> us.Nodup -> us.length <= ts.length -> (∀ x, x ∈ us ↔ x ∈ ts) -> Q (.ref S) (upd H S (SetO P w S us))
def zl6 (P : Program) (w : World) (K : W.Frag) : List V -> Hp -> VK -> Prop := fun xs H Q => ∃ (a : Addr) (us : List Str), xs = [.ref a] /\ (H a = some (SetO P w a us) \/ SqL K H a (us.map V.str)) /\ us.length < 64 /\
 ∀ l vs, H l = none -> sortedS vs = true -> vs.Perm us -> Q (.ref l) (upd H l (.lst (vs.map V.str)))
variable {P : Program} {w : World} {K : W.Frag} {Q : VK} {p : Addr}
theorem zl7 : znK P w K [.ref p] H Q = ∃ ts : List Str, SqL K H p (ts.map V.str) /\ ts.length < 4000 /\ ∀ S us, H S = none -> us.Nodup -> us.length <= ts.length -> (∀ x, x ∈ us ↔ x ∈ ts) -> Q (.ref S) (upd H S (SetO P w S us)) := by
 refine propext ⟨fun ⟨_, ts, e, h⟩ => ?_, fun ⟨ts, h⟩ => ⟨p, ts, rfl, h⟩⟩;cases e; exact ⟨ts, h⟩
theorem zjL : zl6 P w K [.ref p] H Q = ∃ us : List Str, (H p = some (SetO P w p us) \/ SqL K H p (us.map V.str)) /\ us.length < 64 /\ ∀ l vs, H l = none -> sortedS vs = true -> vs.Perm us -> Q (.ref l) (upd H l (.lst (vs.map V.str))) := by
 refine propext ⟨fun ⟨_, us, e, h⟩ => ?_, fun ⟨us, h⟩ => ⟨p, us, rfl, h⟩⟩;cases e; exact ⟨us, h⟩
end
section
variable {K : W.Frag} {σ : St} {H H' : Hp} {Q : VK} {ta : TA} {p : Addr} {k : Int}
theorem zp0 : zjr (.ref p) (.int k) H Q = ∃ xs, H p = some (.lst xs) /\ -(2 ^ 63) <= k /\ k < 2 ^ 63 /\ xs.length * k.toNat <= sizeLine /\ ∀ q, H q = none -> Q (.ref q) (upd H q (.lst (List.replicate k.toNat xs).flatten)) := by
 refine propext ⟨fun h => ?_, fun ⟨xs, h⟩ => .inr ⟨p, k, xs, rfl, rfl, h⟩⟩;rcases h with ⟨_, _, e, _⟩ | ⟨_, _, xs, e1, e2, h⟩
 ·cases e
 ·cases e1; cases e2; exact ⟨xs, h⟩
end
end L2
namespace L2
open PySem PySem.Spec PySem.Calls PyProof.V PyProof.Rows PyProof.Rows.KTD
section
variable {X : Cx}
def TabK (K : W.Frag) (a : Addr) (D : List (Str × V)) : Prop :=
 (a == sysModules) = false /\ ∃ (o : Obj) (es : Array DictEntry) (ep : Nat), K.lookup a = some o /\ o.ExactDict /\ o.data = .dict es ep /\ KTD.Rows (fun d v => RelV d v) es.toList D
def znL (K : W.Frag) : R2 := fun x y H Q => ∃ k p D, x = .str k /\ y = .ref p /\ TabK K p D /\ Q (.bl (inKeys k D)) H
def znM (K : W.Frag) : R2 := fun x y H Q => ∃ k p D z, x = .ref p /\ y = .str k /\ TabK K p D /\ datumAt k D = some z /\ Q z H
end
open AutoSeq1 (wpAny_loadPart')
section
variable {X : Cx}
theorem zpd {K : W.Frag} {k : Str} {p : Addr} {H : Hp} {Q : VK} : znL K (.str k) (.ref p) H Q = ∃ D, TabK K p D /\ Q (.bl (KTD.inKeys k D)) H := by
 refine propext ⟨fun ⟨_, _, D, e1, e2, h⟩ => ?_, fun ⟨D, h⟩ => ⟨k, p, D, rfl, rfl, h⟩⟩;cases e1; cases e2; exact ⟨D, h⟩
theorem zpe {K : W.Frag} {k : Str} {p : Addr} {H : Hp} {Q : VK} : znM K (.ref p) (.str k) H Q = ∃ D z, TabK K p D /\ KTD.datumAt k D = some z /\ Q z H := by
 refine propext ⟨fun ⟨_, _, D, z, e1, e2, h⟩ => ?_, fun ⟨D, z, h⟩ => ⟨k, p, D, z, rfl, rfl, h⟩⟩;cases e1; cases e2; exact ⟨D, z, h⟩
end
theorem zi4 {x : Str} {i m : Int} {P : Nat -> Prop} (hm : 0 < m) (hx : m <= (x.length : Int)) (k : ∀ c ∈ x.cps.toList.take m.toNat, P c) : ∃ c, atI x.cps.toList (i % m) = some c /\ P c := by
 have e := zaA x;have h0 := yao i (show m ≠ 0 by omega);have h1 := yak i hm;generalize i % m = j at h0 h1;obtain ⟨j, rfl⟩ : ∃ n : Nat, j = n := ⟨j.toNat,ω⟩
 have hj : j < x.cps.toList.length := by omega
 exact ⟨x.cps.toList[j], zaI (yal hj), k _ (List.mem_take_iff_getElem.mpr ⟨j,ω, rfl⟩)⟩
section
variable {X : Cx}
def dS (l : List (Str × V)) : List (Key × V) := l.map fun p => (Sum.inr p.1, p.2)
def valS (l : List (Str × V)) (k : Str) : Option V := (l.find? fun p => decide (p.1 = k)).map (·.2)
def zpf : V -> List V -> Hp -> VK -> Prop := fun x xs H Q => ∃ a k v l, x = .ref a /\ xs = [.str k, v] /\ H a = some (.dK (dS l)) /\ Q ((valS l k).getD v) H
def zl8 : V -> List V -> Hp -> VK -> Prop := fun x xs H Q => ∃ a k v l, x = .ref a /\ xs = [.str k, v] /\ H a = some (.dK (dS l)) /\ l.length < 100000 /\ (∀ z, valS l k = some z -> Q z H) /\ (valS l k = none -> Q v (upd H a (.dK (dS (l ++ [(k, v)])))))
theorem zow {p : Addr} {k : Str} {v : V} {H : Hp} {Q : VK} : zl8 (.ref p) [.str k, v] H Q = ∃ l, H p = some (.dK (dS l)) /\ l.length < 100000 /\ (∀ z, valS l k = some z -> Q z H) /\ (valS l k = none -> Q v (upd H p (.dK (dS (l ++ [(k, v)]))))) :=
 propext ⟨fun ⟨_, _, _, l, e1, e2, h⟩ => by cases e1; cases e2; exact ⟨l, h⟩, fun ⟨l, h⟩ => ⟨p, k, v, l, rfl, rfl, h⟩⟩
theorem zp1 {p : Addr} {k : Str} {v : V} {H : Hp} {Q : VK} : zpf (.ref p) [.str k, v] H Q = ∃ l, H p = some (.dK (dS l)) /\ Q ((valS l k).getD v) H :=
 propext ⟨fun ⟨_, _, _, l, e1, e2, h⟩ => by cases e1; cases e2; exact ⟨l, h⟩, fun ⟨l, h⟩ => ⟨p, k, v, l, rfl, rfl, h⟩⟩
end
section
variable {prog : Program} {w : World} {A : Around} {E : ZQ} {s : Shared} {κ : KeyKind} {kx : SortKind}
def LtAt (κ : KeyKind) (kx : SortKind) (prog : Program) (w : World) (A : Around) (s : Shared) : Prop :=
 ∀ (E : ZQ) (x y : Value) (a b : κ.α) {Q : Bool -> Shared -> Prop}, κ.keyOf x = some a -> κ.keyOf y = some b -> Q (κ.blt a b) s -> wpAny (model prog w) A (keyLt' kx x y) Q E s
def kOf (κ : KeyKind) (x : Keyed) : κ.α := (κ.keyOf x.1).getD κ.dflt
def Kd (κ : KeyKind) (x : Keyed) : Prop := ∃ a, κ.keyOf x.1 = some a
def Srt (κ : KeyKind) (l : List Keyed) : Prop := l.Pairwise fun x y => κ.kle (kOf κ x) (kOf κ y)
structure MI (κ : KeyKind) (a b out : List Keyed) (ia ib : Nat) : Prop where
 ha : ia <= a.length
 hb : ib <= b.length
 perm : out.Perm (a.take ia ++ b.take ib)
 srt : Srt κ out
 le : ∀ x ∈ out, ∀ y ∈ a.drop ia ++ b.drop ib, κ.kle (kOf κ x) (kOf κ y)
structure Mg (κ : KeyKind) (a b m : List Keyed) : Prop where
 perm : m.Perm (a ++ b)
 srt : Srt κ m
structure LoH (κ : KeyKind) (kx : SortKind) (prog : Program) (w : World) (A : Around) (s : Shared) (a b : Array Keyed) : Prop where
 o : LtAt κ kx prog w A s
 ka : ∀ x ∈ a, Kd κ x
 kb : ∀ x ∈ b, Kd κ x
 sa : Srt κ a.toList
 sb : Srt κ b.toList
 z : ∀ y ∈ b.toList, ∀ z ∈ a.toList.drop (a.size - 1), κ.kle (kOf κ y) (kOf κ z)
structure LI (κ : KeyKind) (a b out : Array Keyed) (ia ib : Nat) : Prop where
 m : MI κ a.toList b.toList out.toList ia ib
 ia : ia + 1 < a.size
 ib : ib < b.size
structure MH (κ : KeyKind) (a b O : List Keyed) (na nb : Nat) : Prop where
 ha : na <= a.length
 hb : nb <= b.length
 perm : O.Perm (a.drop na ++ b.drop nb)
 srt : Srt κ O
 le : ∀ x ∈ a.take na ++ b.take nb, ∀ y ∈ O, κ.kle (kOf κ x) (kOf κ y)
structure HiH (κ : KeyKind) (kx : SortKind) (prog : Program) (w : World) (A : Around) (s : Shared) (a b : Array Keyed) : Prop where
 o : LtAt κ kx prog w A s
 ka : ∀ x ∈ a, Kd κ x
 kb : ∀ x ∈ b, Kd κ x
 sa : Srt κ a.toList
 sb : Srt κ b.toList
 z : ∀ x ∈ b.toList.take 1, ∀ y ∈ a.toList, κ.kle (kOf κ x) (kOf κ y)
structure HI (κ : KeyKind) (a b out : Array Keyed) (na nb : Nat) : Prop where
 m : MH κ a.toList b.toList out.toList.reverse na nb
 na : 1 <= na
 nb : 2 <= nb
structure Kp (lo : Nat) (xs0 xs : Array Keyed) : Prop where
 perm : xs.Perm xs0
 keep : ∀ i, i < lo -> xs[i]? = xs0[i]?
def zkF : Nat -> List (List Keyed) -> List (Nat × Nat)
 | _, [] => []
 | n, r :: rs => (n, r.length) :: zkF (n + r.length) rs
def pr (x : Nat × Nat × Nat) : Nat × Nat := (x.1, x.2.1)
structure Rn (κ : KeyKind) (l : List Keyed) (pend : List (Nat × Nat × Nat)) (runs : List (List Keyed)) (T : List Keyed) : Prop where
 eq : l = runs.flatten ++ T
 pos : ∀ r ∈ runs, 0 < r.length
 srt : ∀ r ∈ runs, Srt κ r
 pnd : pend.map pr = zkF 0 runs
structure So (κ : KeyKind) (kx : SortKind) (st st' : SortSt) (runs : List (List Keyed)) (T : List Keyed) : Prop where
 kind : kindOf st' = kx
 failed : failedOf st' = none
 perm : (arrOf st').Perm (arrOf st)
 rn : Rn κ (arrOf st').toList (pendingOf st').toList runs T
end
section
variable {X : Cx}
def zjM (P : Program) (w : World) (K : W.Frag) : List V -> Hp -> VK -> Prop := fun xs H Q => ∃ (a : Addr) (us : List Str), xs = [.ref a] /\ (H a = some (SetO P w a us) \/ SqL K H a (us.map V.str)) /\ us.length <= 1000 /\
 ∀ l vs, H l = none -> sortedS vs = true -> vs.Perm us -> Q (.ref l) (upd H l (.lst (vs.map V.str)))
variable {P : Program} {w : World} {K : W.Frag} {H : Hp} {Q : VK} {p : Addr}
theorem znN : zjM P w K [.ref p] H Q = ∃ us : List Str, (H p = some (SetO P w p us) \/ SqL K H p (us.map V.str)) /\ us.length <= 1000 /\ ∀ l vs, H l = none -> sortedS vs = true -> vs.Perm us -> Q (.ref l) (upd H l (.lst (vs.map V.str))) := by
 refine propext ⟨fun ⟨_, us, e, h⟩ => ?_, fun ⟨us, h⟩ => ⟨p, us, rfl, h⟩⟩;cases e; exact ⟨us, h⟩
end
end L2
namespace L2
open PySem PySem.Spec PyProof.Rows PySem.SeqAt
open AutoSeq1 (wpAny_loadPart')
open MeetsSeq MeetsSeq2 MeetsSeq3 SeqRoads2
end L2
namespace L2
open PySem PySem.Spec PyProof.Rows PySem.SeqAt
def zjN (a b : List Nat × List Int) : Prop := a.1 < b.1 \/ (a.1 = b.1 /\ a.2 < b.2)
instance (a b : List Nat × List Int) : Decidable (zjN a b) := by unfold zjN; infer_instance
def SecR (h : Heap) (f : Bool) (v : Value) (l : List Int) : Prop := match f with
 | false => ∃ i t, v = .int i t /\ l = [i]
 | true => ∃ c xs, v = .ref c /\ h.IsTuple c xs /\ IntsAre xs.toList l
theorem zdc {h : Heap} {a : Addr} {xs ys : Array Value} (h1 : h.IsTuple a xs) (h2 : h.IsTuple a ys) : xs = ys := by
 obtain ⟨o, e1, _, n, d1⟩ := h1;obtain ⟨o2, e2, _, n2, d2⟩ := h2;rw [e1] at e2; cases e2;rw [d1] at d2; cases d2; rfl
theorem zgy : ∀ {vs : List Value} {l m : List Int}, IntsAre vs l -> IntsAre vs m -> l = m
 | _, _, _, .nil, .nil => rfl
 | _, _, _, .cons n t h, .cons _ _ h' => by rw [zgy h h']
open Classical in
theorem zct {prog : Program} {w : World} : ∀ {vs : List Value} {l : List Int}, IntsAre vs l -> ItemsAre (intKind prog w) l vs
 | _, _, .nil => .nil
 | _, _, .cons n t h => .cons (by simp [intKind, Value.isInt]) (zct h)
section
variable {A : Around} {s : Shared}
theorem SecR.eqAt {f : Bool} {u v : Value} {l m : List Int} (hu : A.units < cLine) (h1 : SecR s.heap f u l) (h2 : SecR s.heap f v m) : EqAt A s u v (decide (l = m)) := by
 cases f with
 | false =>
  obtain ⟨i, t, rfl, rfl⟩ := h1; obtain ⟨j, t', rfl, rfl⟩ := h2;have : decide ([i] = [j]) = (i == j) := by simp [Bool.beq_eq_decide_eq]
  rw [this]; exact EqAt.int_int _ _ _ _
 | true =>
  obtain ⟨c, xs, rfl, p, q⟩ := h1;obtain ⟨c', ys, rfl, p', q'⟩ := h2;intro prog w E Q h;obtain ⟨o, ho, hc, n, hd⟩ := p;obtain ⟨o2, ho2, hc2, n2, hd2⟩ := p';exact wpAny_eqBool_tuple (knd := intKind prog w) hu ⟨o, xs, n, ho, hc, hd, zct q⟩ ⟨o2, ys, n2, ho2, hc2, hd2, zct q'⟩ h
end
end L2
namespace L2
open PySem PySem.Spec PyProof.Rows PySem.SeqAt
inductive F2 {α β : Type} (R : α -> β -> Prop) : List α -> List β -> Prop
 | nil : F2 R [] []
 | cons {a : α} {b : β} {l : List α} {m : List β} : R a b -> F2 R l m -> F2 R (a :: l) (b :: m)
abbrev Rw : Type := Str × List Int
def rowK (k : Rw) : List Nat × List Int := (k.1.cps.toList, k.2)
def rowD (f : Bool) (k : Rw) : Dt := match f with
 | false => .tup [.str k.1, .int (k.2.headD 0)]
 | true => .tup [.str k.1, .tup (k.2.map .int)]
def SrtR (l : List (V × Rw)) : Prop := l.Pairwise fun a b => ¬ zjN (rowK b.2) (rowK a.2)
def zjO (K : W.Frag) (f : Bool) : List V -> Hp -> VK -> Prop := fun xs H Q => ∃ (a : Addr) (zs : List (V × Rw)), xs = [.ref a] /\ SqL K H a (zs.map (·.1)) /\ (∀ z ∈ zs, RepD K H (rowD f z.2) z.1 /\ (f = false -> z.2.2.length = 1)) /\ zs.length <= 1000 /\
 ∀ l zs', H l = none -> zs'.Perm zs -> SrtR zs' -> Q (.ref l) (upd H l (.lst (zs'.map (·.1))))
section
variable {X : Cx} {Qa : ZP} {σ : St} {H : Hp} {s : Shared}
variable {K : W.Frag} {Q : VK} {p : Addr} {f : Bool}
theorem zi5 : zjO K f [.ref p] H Q = ∃ zs : List (V × Rw), SqL K H p (zs.map (·.1)) /\ (∀ z ∈ zs, RepD K H (rowD f z.2) z.1 /\ (f = false -> z.2.2.length = 1)) /\ zs.length <= 1000 /\
  ∀ l zs', H l = none -> zs'.Perm zs -> SrtR zs' -> Q (.ref l) (upd H l (.lst (zs'.map (·.1)))) := by
 refine propext ⟨fun ⟨_, zs, e, h⟩ => ?_, fun ⟨zs, h⟩ => ⟨p, zs, rfl, h⟩⟩;cases e; exact ⟨zs, h⟩
end
end L2
namespace L2
open PySem PySem.Spec PyProof.Rows PySem.SeqAt
def FactAt (h : Heap) (k : Rw) (a : Addr) : Prop := ∃ t c ys, h.IsTuple a #[.str k.1 t, .ref c] /\ h.IsTuple c ys /\ IntsAre ys.toList k.2
def ze6 (prog : Program) (w : World) (k : Rw) : Int := reduceHash (Builtin.Tuple.tupleHashOf [(PySem.strKind prog w).hash k.1, tupleKeyHash (intKind prog w) k.2])
theorem FactAt.inj {h : Heap} {k k' : Rw} {a : Addr} (h1 : FactAt h k a) (h2 : FactAt h k' a) : k = k' := by
 obtain ⟨t, c, ys, p, q, r⟩ := h1;obtain ⟨t', c', ys', p', q', r'⟩ := h2;have e := zdc p p';simp only [Array.mk.injEq, List.cons.injEq, Value.str.injEq, Value.ref.injEq, and_true] at e;obtain ⟨⟨e1, _⟩, rfl⟩ := e;rw [zdc q q'] at r;exact Prod.ext e1 (zgy r r')
theorem zcE {h h' : Heap} {a d : Addr} {o : Obj} {xs : Array Value} {es ep} (x : h.IsTuple a xs) (ho : h.get? d = some o) (hd : o.data = .dict es ep) (hs : Heap.SameBut d h h') : h'.IsTuple a xs := by
 obtain ⟨u, e, c, n, q⟩ := x;have hne : a ≠ d := by
  rintro rfl
  cases e.symm.trans ho;cases hd.symm.trans q
 exact ⟨u, (hs.2 a hne).trans e, c, n, q⟩
section
variable {prog : Program} {w : World} {A : Around} {E : ZQ} {s : Shared}
theorem zi6 {k : Rw} {a : Addr} {Q : Int -> Shared -> Prop} (hu : A.units + 1 < cLine) (hk : FactAt s.heap k a) (h : Q (ze6 prog w k) { s with toks := s.toks + (k.2.length + 3) }) : wpAny (model prog w) A (pyHash (.ref a)) Q E s := by
 obtain ⟨t, c, ys, p, q, r⟩ := hk;obtain ⟨o, ho, hc, n, hd⟩ := p;have hT : s.TypeIs (.ref a) "tuple" := ⟨o, ho, hc⟩
 unfold pyHash
 first | unfold pyHashByItsType | skip
 first | refine yaa (wpAny_cRoomFor_or (.inr ω) ?_) | skip
 refine yaa (wpAny_specialOf hT F.slot_tuple_hash.lookup ?_);rw [if_neg (show ¬ ((some (Value.builtin "tuple.__hash__") == some Value.none) = true) by rw [beq_builtin_none]; exact yam)];refine yaa (wpAny_specialOf hT F.slot_tuple_hash.lookup ?_);refine yaa (wpAny_callSpecialIfBoundUnlessNone?_slot hT F.slot_tuple_hash (wpAny_call_entry F.slot_tuple_hash hT F.entry_tuple_hash ?_ (F.args_tuple_hash_1 _)));show wpAny _ _ (Builtin.Tuple.tupleItemsOf (.ref a) >>= _) _ _ s;refine yaa (wpAny_tupleItemsOf ho hd (yaa ?_));rw [<- Array.forIn_toList];simp only [List.forIn_cons, List.forIn_nil];have q2 : IsTupleKey (intKind prog w) s.heap k.2 c := let ⟨o2, ho2, hc2, n2, hd2⟩ := q; ⟨o2, ys, n2, ho2, hc2, hd2, zct r⟩;refine yaa (yaa ((PySem.strKind prog w).pyHash (k := k.1) (by simp [PySem.strKind, Value.isStrOf]) (yab (yaa (yaa (wpAny_pyHash_tuple (s := { s with toks := s.toks + 1 }) (by show A.units + 1 < cLine; exact hu) q2 (yab (yab ?_))))))));show wpAny _ _ (retInt (Builtin.Tuple.tupleHashOf [(PySem.strKind prog w).hash k.1, tupleKeyHash (intKind prog w) k.2])) _ _ _;generalize hz : Builtin.Tuple.tupleHashOf [(PySem.strKind prog w).hash k.1, tupleKeyHash (intKind prog w) k.2] = z;unfold ze6 reduceHash at h;rw [hz] at h;have tk : s.toks + 1 + (k.2.length + 1) + 1 = s.toks + (k.2.length + 3) := by omega
 refine wpAny_ret_mkInt ?_;show wpAny _ _ (if (decide (-(2 : Int) ^ 63 <= z) && decide (z < 2 ^ 63)) = true then _ else _) Q E _
 by_cases hr : (decide (-(2 : Int) ^ 63 <= z) && decide (z < 2 ^ 63)) = true
 ·rw [if_pos hr] at h ⊢;refine yab ?_;show Q _ { s with toks := s.toks + 1 + (k.2.length + 1) + 1 };rw [tk]; exact h
 ·rw [if_neg hr] at h ⊢;refine yaa (wpAny_rule (yab ?_));show Q _ { s with toks := s.toks + 1 + (k.2.length + 1) + 1 };rw [tk]; exact h
theorem zed {n : Nat} {c : Addr} {ys : Array Value} {Q : Bool -> Shared -> Prop} (q : s.heap.IsTuple c ys) (hb : ∀ v ∈ ys, ∀ Q : Bool -> Shared -> Prop, Q true s -> wpAny (model prog w) A (eqIsQuiet n v) Q E s) (h : Q true s) : wpAny (model prog w) A (eqIsQuiet (n + 1) (.ref c)) Q E s := by
 obtain ⟨o, ho, hc, m, hd⟩ := q;have hT : s.TypeIs (.ref c) "tuple" := ⟨o, ho, hc⟩
 unfold eqIsQuiet;refine yaa (wpAny_specialOf hT F.slot_tuple_eq.lookup ?_);refine yaa (wpAny_isInstance hT isSubtype_tuple_tuple ?_);simp only [Bool.not_true, Bool.false_eq_true, if_false];refine yaa (wpAny_seqItems ho hd (yaa ?_));show wpAny _ _ (forIn ys _ _) _ _ s;rw [<- Array.forIn_toList];refine wpAny_forIn_list _ (fun rest r s' => r.1 = none /\ s' = s /\ ∀ v ∈ rest, v ∈ ys) _ ?_ ?_ _ _ ⟨rfl, rfl, fun v hv => by simpa using hv⟩
 ·rintro v rest r s' ⟨hr, rfl, hall⟩
  refine yaa (hb v (hall v ς) _ ?_);simp only [Bool.not_true, Bool.false_eq_true, if_false];exact yab ⟨rfl, rfl, fun u hu' => hall u (by simp [hu'])⟩
 ·rintro ⟨r1, r2⟩ s' ⟨hr, rfl, _⟩
  simp only at hr;subst hr;exact yab h
theorem zho {k : Rw} {a : Addr} {Q : Bool -> Shared -> Prop} (hk : FactAt s.heap k a) (h : Q true s) : wpAny (model prog w) A (eqIsQuiet 8 (.ref a)) Q E s := by
 obtain ⟨t, c, ys, p, q, r⟩ := hk;refine zed (n := 7) p (fun v hv Q hq => ?_) h;rcases (by simpa using hv : v = .str k.1 t \/ v = .ref c) with rfl | rfl
 ·rw [eqIsQuiet_byValue _ ρ]; exact yab hq
 ·refine zed (n := 6) q (fun u hu Q hq => ?_) hq;rw [eqIsQuiet_byValue _ ((zct (prog := prog) (w := w) r).byValue u (by simpa using hu))]; exact yab hq
theorem zl9 {x y : Rw} {a b : Addr} {Q : Bool -> Shared -> Prop} (hu : A.units + 1 < cLine) (hx : FactAt s.heap x a) (hy : FactAt s.heap y b) (h : Q (decide (x = y)) s) : wpAny (model prog w) A (eqBool (.ref a) (.ref b)) Q E s := by
 by_cases e : a = b
 ·subst e;rw [hx.inj hy] at h;simp only [decide_true] at h;exact EqAt.same _ prog w E Q h
 ·obtain ⟨t, c, ys, p, q, r⟩ := hx;obtain ⟨t', c', ys', p', q', r'⟩ := hy;have z := RcAt.tuples (A := A) (e := fun j => match j with | 0 => x.1 == y.1 | _ => decide (x.2 = y.2)) p p' ω (fun j h1 h2 => by
   have h1' : j < 2 := h1
   match j, h1' with
   | 0, _ => exact EqAt.str_str _ _ _ _
   | 1, _ => exact SecR.eqAt (f := true) (by show A.units + 1 < cLine; exact hu) ⟨c, ys, rfl, q, r⟩ ⟨c', ys', rfl, q', r'⟩)
  have ez : ((List.range (min (#[Value.str x.1 t, .ref c]).size (#[Value.str y.1 t', .ref c']).size)).all (fun j => match j with | 0 => x.1 == y.1 | _ => decide (x.2 = y.2)) && (#[Value.str x.1 t, .ref c]).size == (#[Value.str y.1 t', .ref c']).size) = decide (x = y) := by
   show ((List.range 2).all (fun j => match j with | 0 => x.1 == y.1 | _ => decide (x.2 = y.2)) && (2 == 2)) = _;have : List.range 2 = [0, 1] := rfl;rw [this];simp only [List.all_cons, List.all_nil, Bool.and_true, beq_self_eq_true];obtain ⟨x1, x2⟩ := x;obtain ⟨y1, y2⟩ := y;simp [Prod.ext_iff, Bool.beq_eq_decide_eq]
  rw [ez] at z;exact EqAt.of_refs e z prog w E Q h
end
def zjP (prog : Program) (w : World) : HeapKind prog w Rw where
 is := FactAt
 hash := ze6 prog w
 draws := fun k => k.2.length + 3
 room := fun A => A.units + 1 < cLine
 inj := fun h1 h2 => h1.inj h2
 keeps := fun x ho hd hs => let ⟨t, c, ys, p, q, r⟩ := x; ⟨t, c, ys, zcE p ho hd hs, zcE q ho hd hs, r⟩
 pyHash := fun hu hk h => zi6 hu hk h
 eqBool := fun hu hx hy h => zl9 hu hx hy h
 quiet := fun hk h => zho hk h
section
variable {X : Cx}
def putS (l : List (Str × V)) (k : Str) (v : V) : List (Str × V) := if l.any (fun p => decide (p.1 = k)) = true then l.map (fun p => if p.1 = k then (p.1, v) else p) else l ++ [(k, v)]
def zpg : V -> V -> V -> Hp -> (Hp -> Prop) -> Prop := fun o i v H Q => ∃ p k l, o = .ref p /\ i = .str k /\ H p = some (.dK (dS l)) /\ l.length < 4000 /\ Q (upd H p (.dK (dS (putS l k v))))
def zph : R2 := fun x y H Q => ∃ k p l z, x = .ref p /\ y = .str k /\ Rd H p (.dK (dS l)) /\ valS l k = some z /\ Q z H
def rawF (x : Rw × Addr) : Rw × Addr × Value := (x.1, x.2, .bool true)
def FdO (P : Program) (w : World) (d : Addr) (fs : List (Rw × Addr)) : HO := .ext fun h => (d == sysModules) = false /\ fs.length <= sizeLine /\ ∃ o es ep, h.get? d = some o /\ o.ExactDict /\ o.data = .dict es ep /\ es.toList = (fs.map rawF).map (entryOfKey (zjP P w)) /\ (fs.map (·.1)).Nodup
def FdAt (P : Program) (w : World) (H : Hp) (d : Addr) (fs : List (Rw × Addr)) : Prop := H d = some (FdO P w d fs) \/ (fs = [] /\ H d = some (.dK []))
def pFs (fs : List (Rw × Addr)) (k : Rw) (b : Addr) : List (Rw × Addr) := if (fs.map (·.1)).contains k = true then fs else fs ++ [(k, b)]
def zpi (P : Program) (w : World) (K : W.Frag) : V -> V -> V -> Hp -> (Hp -> Prop) -> Prop := fun o i v H Q => ∃ p b k fs, o = .ref p /\ i = .ref b /\ v = .bl true /\ FdAt P w H p fs /\ RepD K H (rowD true k) (.ref b) /\ (∀ z ∈ fs, RepD K H (rowD true z.1) (.ref z.2)) /\ fs.length < 4000 /\ Q (upd H p (FdO P w p (pFs fs k b)))
def znO (P : Program) (w : World) : List V -> Hp -> VK -> Prop := fun xs H Q => ∃ d fs, xs = [.ref d] /\ FdAt P w H d fs /\ ∀ l, H l = none -> Q (.ref l) (upd H l (.lst (fs.map fun f => .ref f.2)))
variable {K : W.Frag} {H H' : Hp} {Q : VK} {i j : Int} {x y : Str}
def RepX (K : W.Frag) (H : Hp) (ds : List Dt) (xs : List V) : Prop := ds.length = xs.length /\ ∀ (j : Nat) d x, ds[j]? = some d -> xs[j]? = some x -> RepD K H d x
theorem RepX.nil : RepX K H [] [] := ⟨rfl, fun j d x e => by simp at e⟩
theorem RepX.same (e : Same H H') {ds : List Dt} {xs : List V} (h : RepX K H ds xs) : RepX K H' ds xs := ⟨h.1, fun j d x a b => (h.2 j d x a b).same e⟩
theorem RepX.snoc {ds : List Dt} {xs : List V} {d : Dt} {v : V} (h : RepX K H ds xs) (hd : RepD K H d v) : RepX K H (ds ++ [d]) (xs ++ [v]) := by
 refine ⟨by simp [h.1], fun j d' x e1 e2 => ?_⟩
 by_cases c : j < ds.length
 ·rw [ya5 c] at e1;rw [ya5 (by rw [<- h.1]; exact c)] at e2;exact h.2 j d' x e1 e2
 ·rw [List.getElem?_append_right ω] at e1;rw [List.getElem?_append_right (by have := h.1; omega)] at e2;have z : j - ds.length = 0 := by
   have := (yag.mp e1).1;simp at this; omega
  rw [z] at e1;rw [<- h.1, z] at e2;cases e1; cases e2; exact hd
theorem RepX.tup {a : Addr} {ds : List Dt} {xs : List V} (h : RepX K H ds xs) (s : SqT K H a xs) : RepD K H (.tup ds) (.ref a) := .tup s h.1 h.2
theorem RepD.toT {ds : List Dt} {v : V} (h : RepD K H (.tup ds) v) : ∃ a xs, v = .ref a /\ SqT K H a xs /\ RepX K H ds xs := by
 cases h with
 | @tup a xs _ h hl hr => exact ⟨a, xs, rfl, h, hl, hr⟩
def prR (p : Str × Int) : Rw := (p.1, [p.2])
structure Wd where
 size : Int
 cs : List (Str × Int)
 fs : List Rw
def RisC (cs : List (Str × Int)) : Prop := cs.Pairwise fun a b => a.1.cps.toList < b.1.cps.toList
def RisF (fs : List Rw) : Prop := fs.Pairwise fun a b => zjN (rowK a) (rowK b)
structure Wd.Ok (W : Wd) : Prop where
 s1 : 1 <= W.size
 s2 : W.size <= 40
 rc : RisC W.cs
 rf : RisF W.fs
 nm : ∀ p ∈ W.cs, Nm smallS p.1 /\ 0 <= p.2 /\ p.2 < W.size
 ft : ∀ f ∈ W.fs, Nm smallS f.1 /\ f.2.length <= 3 /\ ∀ i ∈ f.2, 0 <= i /\ i < W.size
 lc : W.cs.length <= 40
 lf : W.fs.length <= 100
structure RepW (K : W.Frag) (H : Hp) (W : Wd) (a c f : Addr) (xs ys : List V) : Prop where
 top : SqT K H a [.int W.size, .ref c, .ref f]
 called : SqT K H c xs
 facts : SqT K H f ys
 rc : RepX K H ((W.cs.map prR).map (rowD false)) xs
 rf : RepX K H (W.fs.map (rowD true)) ys
section
variable {K : W.Frag} {P : Program} {w : World} {H : Hp} {Q : VK} {p b : Addr} {k : Str} {v : V} {Qh : Hp -> Prop}
theorem znP : zpg (.ref p) (.str k) v H Qh = ∃ l, H p = some (.dK (dS l)) /\ l.length < 4000 /\ Qh (upd H p (.dK (dS (putS l k v)))) := by
 refine propext ⟨fun ⟨_, _, l, e1, e2, h⟩ => ?_, fun ⟨l, h⟩ => ⟨p, k, l, rfl, rfl, h⟩⟩;cases e1; cases e2; exact ⟨l, h⟩
theorem znQ : zpi P w K (.ref p) (.ref b) (.bl true) H Qh = ∃ k fs, FdAt P w H p fs /\ RepD K H (rowD true k) (.ref b) /\ (∀ z ∈ fs, RepD K H (rowD true z.1) (.ref z.2)) /\ fs.length < 4000 /\ Qh (upd H p (FdO P w p (pFs fs k b))) := by
 refine propext ⟨fun ⟨_, _, k, fs, e1, e2, _, h⟩ => ?_, fun ⟨k, fs, h⟩ => ⟨p, b, k, fs, rfl, rfl, rfl, h⟩⟩;cases e1; cases e2; exact ⟨k, fs, h⟩
theorem zlA : znO P w [.ref p] H Q = ∃ fs, FdAt P w H p fs /\ ∀ l, H l = none -> Q (.ref l) (upd H l (.lst (fs.map fun f => .ref f.2))) := by
 refine propext ⟨fun ⟨_, fs, e, h⟩ => ?_, fun ⟨fs, h⟩ => ⟨p, fs, rfl, h⟩⟩;cases e; exact ⟨fs, h⟩
theorem znR : zph (.ref p) (.str k) H Q = ∃ l z, Rd H p (.dK (dS l)) /\ valS l k = some z /\ Q z H := by
 refine propext ⟨fun ⟨_, _, l, z, e1, e2, h⟩ => ?_, fun ⟨l, z, h⟩ => ⟨k, p, l, z, rfl, rfl, h⟩⟩;cases e1; cases e2; exact ⟨l, z, h⟩
end
end
theorem zpj {X : Cx} {P : Program} {w : World} {mg : Str -> Option Value} : zdv (CXX P w mg) X E0 := fun _ _ _ _ _ _ _ ⟨_, _, _, _, _, h, _⟩ => h.elim
end L2
namespace L2
open PySem PySem.Spec PyProof.Rows PySem.SeqAt
open AutoSeq1 (wpAny_loadPart')
open MeetsSeq MeetsSeq2 MeetsSeq3 SeqRoads2
section
variable {X : Cx}
variable {K : W.Frag} {H : Hp} {Q : VK} {i j : Int} {x y : Str} {p q : Addr}
def zlB : V -> List V -> Hp -> VK -> Prop := fun x vs H Q => ∃ l xs y n, x = .ref l /\ vs = [.int (n : Nat), y] /\ H l = some (.lst xs) /\ n <= xs.length /\ xs.length < 100000 /\ Q .non (upd H l (.lst (xs.take n ++ y :: xs.drop n)))
theorem zjQ {l : Addr} {y : V} {N : Int} : zlB (.ref l) [.int N, y] H Q = ∃ xs n, N = (n : Nat) /\ H l = some (.lst xs) /\ n <= xs.length /\ xs.length < 100000 /\ Q .non (upd H l (.lst (xs.take n ++ y :: xs.drop n))) := by
 refine propext ⟨fun ⟨_, xs, _, n, e1, e2, h⟩ => ?_, fun ⟨xs, n, e, h⟩ => ⟨l, xs, y, n, rfl, by rw [e], h⟩⟩;cases e1;simp only [List.cons.injEq, V.int.injEq, and_true] at e2;obtain ⟨e3, rfl⟩ := e2;exact ⟨xs, n, e3, h⟩
end
def Bk (z : List Nat) : Prop := ∀ c ∈ z, c = 32 \/ c = 10
section
variable {X : Cx}
def zfH (f : Str -> Str -> Str) : V -> List V -> Hp -> VK -> Prop := fun x vs H Q => ∃ z y, x = .str z /\ vs = [.str y] /\ z.length <= 1000000 /\ Q (.str (f z y)) H
theorem zfm : MtR X "str.strip" (zfH Txt.stripChars) := by
 intro Qa s σ H x vs v us Q I rx rv h;obtain ⟨z, y, rfl, rfl, hz, q⟩ := h;obtain ⟨t, rfl⟩ := rx;obtain ⟨u, rfl, ⟨t', rfl⟩⟩ := rv.one;exact SC.stripChars (fun t' k => ⟨.str _, H, I.tok _, ⟨t', rfl⟩, q⟩) (yat hz (by rw [sizeLine_eq]; decide))
theorem zgz {f : Str -> Str -> Str} {x y : Str} {H : Hp} {Q : VK} : zfH f (.str x) [.str y] H Q = (x.length <= 1000000 /\ Q (.str (f x y)) H) := propext ⟨fun ⟨_, _, e, e', h⟩ => by cases e; cases e'; exact h, fun h => ⟨x, y, rfl, rfl, h⟩⟩
def zjR : List V -> Hp -> VK -> Prop := fun xs H Q => zgj xs H Q \/ ∃ (x : Str) (n : Int), xs = [.str x] /\ PySem.intText? x = some n /\ x.length <= 640 /\ Q (.int n) H
theorem zfn : zbW X (.type "int") zjR := by
 intro Qa s σ H xs us Q I r h;rcases h with h | ⟨x, n, rfl, hn, hl, q⟩
 ·exact zhZ Qa s σ H xs us Q I r h
 ·obtain ⟨u, rfl, ru⟩ := zep r;obtain ⟨t, rfl⟩ := ru;exact W.KIN.call_text hn hl ⟨.int n, H, I.tok _, ⟨_, rfl⟩, q⟩
theorem zlC {H : Hp} {Q : VK} {i : Int} : zjR [.int i] H Q = Q (.int i) H := by
 refine propext ⟨fun h => ?_, fun h => .inl (by rw [zie]; exact h)⟩;rcases h with h | ⟨_, _, e, _⟩
 ·rwa [zie] at h
 ·cases e
theorem zlD {H : Hp} {Q : VK} {b : Bool} : zjR [.bl b] H Q = Q (.int (if b = true then 1 else 0)) H := by
 refine propext ⟨fun h => ?_, fun h => .inl (by rw [zid]; exact h)⟩;rcases h with h | ⟨_, _, e, _⟩
 ·rwa [zid] at h
 ·cases e
theorem zlE {H : Hp} {Q : VK} {x : Str} : zjR [.str x] H Q = ∃ n, PySem.intText? x = some n /\ x.length <= 640 /\ Q (.int n) H := by
 refine propext ⟨fun h => ?_, fun ⟨n, h⟩ => .inr ⟨x, n, rfl, h⟩⟩;rcases h with h | ⟨_, n, e, h⟩
 ·rcases h with ⟨_, e, _⟩ | ⟨_, e, _⟩ <;> cases e
 ·cases e; exact ⟨n, h⟩
def zpk : V -> List V -> Hp -> VK -> Prop := fun x vs H Q => ∃ z y, x = .str z /\ vs = [.str y] /\ Q (.int (Txt.find z y)) H
theorem znS {z y : Str} {H : Hp} {Q : VK} : zpk (.str z) [.str y] H Q = Q (.int (Txt.find z y)) H := propext ⟨fun ⟨_, _, e, e', h⟩ => by cases e; cases e'; exact h, fun h => ⟨z, y, rfl, rfl, h⟩⟩
end
theorem zfI {h : Heap} {a : Addr} {o : Obj} {f : Obj -> Obj} (e : h.get? a = some o) (hf : f o = o) : h.update a f = h := by
 obtain ⟨e1, _⟩ := Heap.get?_some_iff.mp e;obtain ⟨objs, l⟩ := h;show (⟨objs.modify a f, l⟩ : Heap) = ⟨objs, l⟩;have : objs.modify a f = objs := by
  refine Array.ext_getElem? fun i => ?_;rw [Array.getElem?_modify]
  by_cases c : a = i
  ·subst c;rw [if_pos rfl, show objs[a]? = some o from e1, Option.map_some, hf]
  ·rw [if_neg c]
 rw [this]
section
variable {M : Model} {A : Around} {E : ZQ} {s : Shared} {env : Env}
def zd9 (M : Model) (A : Around) (E : ZQ) (Q : ZQ) (acc : Value) (cenv : Env) (r : Result) (s' : Shared) : Prop :=
 match r with
 | .ok _ => ∃ m, s'.heap.Ns cenv.locals m /\ ∀ h', Heap.SameBut cenv.locals s'.heap h' -> Q acc { s' with heap := h' }
 | .error x => ∃ m, s'.heap.Ns cenv.locals m /\ ∀ h', Heap.SameBut cenv.locals s'.heap h' -> wpAny M A (passOn "comprehension.variables-let-go" x cenv : Sem Value) (fun _ _ => False) E { s' with heap := h' }
theorem zfJ {e : Expr} {scope : Scope} {pos : Pos} {newAcc first : Sem Value} {g : Comprehension} {gs : List Comprehension} {cl : List (Str × Addr)} {Q : ZQ}
  (hcl : clausesOf e = g :: gs) (hs : ∀ x, foldedSetIterable g.iter env x = pure x) (hclos : closureFor scope env = pure cl)
  (hkind : scope.kind = .function) (hnames : ∀ x ∈ scope.names, x.2 = .local -> scope.names.lookup x.1 = some .local)
  (h : wpAny M A first (fun x s₁ => wpAny M A (pyIter x) (fun it s₂ => wpAny M A newAcc (fun acc s₃ =>
   wpAny M A (newFunctionEnv scope env.globals cl [] env.qual none .none (some env)) (fun cenv s₄ =>
    codeAny M A (.compStart e 0 it acc { cenv with scope := relabel scope env }) (zd9 M A E Q acc { cenv with scope := relabel scope env }) s₄) E s₃) E s₂) E s₁) E s) :
  wpAny M A (comprehension e scope env pos newAcc false first none) Q E s := by
 unfold comprehension;rw [hclos, hcl];refine yaa (wpAny_mono h (fun x s₁ h₁ => yaa (wpAny_standAt (yaa (wpAny_of_eq (hs x) (yaa (wpAny_holding (wpAny_mono h₁ (fun it s₂ h₂ =>
  wpAny_standIf (yaa (wpAny_mono h₂ (fun acc s₃ h₃ => yaa (yab (yaa (wpAny_mono h₃ (fun cenv s₄ h₄ => ?_) fun _ _ h' => h')))) fun _ _ h' => h')))
   fun _ _ h' => h'))))))) fun _ _ h' => h')
 dsimp only;have hv : ∀ x ∈ (scope.names.filter fun x => (x.2 == .local || x.2 == .cell) && x.1 != (".0" : Str)).reverse, x.2 = .local ->
   Env.kindOf { cenv with scope := relabel scope env } x.1 = some .local := fun x hx hl => lookup_relabel_local (hnames x (List.mem_filter.mp (List.mem_reverse.mp hx)).1 hl)
 refine wpAny_holding (yaa (wpAny_attempt (wpAny_holding (wpAny_run (codeAny_mono h₄ fun r s' hr => ?_)))));cases r with
 | ok f =>
  obtain ⟨m, hn, hr⟩ := hr;exact yaa (wpAny_holding (wpAny_comp_letGo (cenv := { cenv with scope := relabel scope env }) hkind _ s' m hv hn fun h' m' _ hs' => yab (hr h' hs')))
 | error x =>
  obtain ⟨m, hn, hr⟩ := hr;exact yaa (wpAny_holding (wpAny_comp_letGo (cenv := { cenv with scope := relabel scope env }) hkind _ s' m hv hn fun h' m' _ hs' => wpAny_mono (hr h' hs') (fun _ _ f => f.elim) fun _ _ y => y))
end
section
variable {prog : Program} {w : World} {A : Around} {R : Result -> Shared -> Prop} {s : Shared}
theorem ze7 {elt target iter : Expr} {ifs : List Expr} {scope : Scope} {pos : Pos} {it acc : Value} {env : Env} {E : ZQ} (hE : ∀ u s, E u s -> notedBy (model prog w) A env (fun x s' => R (.error x) s') u s) (I : Nat -> Shared -> Prop)
  (turn : ∀ n s, I n s -> wpAny (model prog w) A (pyNext it) (fun r s₁ => match r with
   | none => R (.ok .next) s₁
   | some v => wpAny (model prog w) A (letOwnedTupleGo target it v) (fun _ s₁' => wpAny (model prog w) A (assign target env v) (fun _ s₂ =>
     wpAny (model prog w) A (forIn ifs true fun c r => if r = true then do let ok <- isTrue c env (eval c env); pure (ForInStep.yield ok) else pure (ForInStep.yield r)) (fun ok s₃ =>
      if ok = true then wpAny (model prog w) A (eval elt env) (fun x s₄ =>
       wpAny (model prog w) A (call (.builtin "list.append") [acc, x]) (fun _ s₅ => ∃ m, m < n /\ I m s₅) E s₄) E s₃
      else ∃ m, m < n /\ I m s₃) E s₂) E s₁') E s₁) E s)
  (n : Nat) (h : I n s) :
  codeAny (model prog w) A (.compLoop (.ListComp elt [⟨target, iter, ifs, 0⟩] scope pos) 0 it acc env) R s := by
 refine codeAny_loop rfl I (fun n s hI => ?_) n h;show wpAny _ A ((compTurn (.ListComp elt [⟨target, iter, ifs, 0⟩] scope pos) 0 it acc env).onRaise (fun x => do noteFrame x env; theTreesLotGoes x)) _ _ s;refine wpAny_noted ?_;rw [compTurn_list];refine yaa (wpAny_standAt (yaa (wpAny_mono (turn n s hI) (fun r s₁ h₁ => ?_) fun _ _ h' => hE _ _ h')));cases r with
 | none => exact yab h₁
 | some v =>
  refine yaa (wpAny_mono h₁ (fun _ s₁' h₁' => ?_) fun _ _ h' => hE _ _ h');refine yaa (wpAny_mono h₁' (fun _ s₂ h₂ => yaa (wpAny_mono h₂ (fun ok s₃ h₃ => ?_) fun _ _ h' => hE _ _ h')) fun _ _ h' => hE _ _ h');cases ok with
  | false => exact yab ⟨rfl, h₃⟩
  | true =>
   exact yaa (yaa (wpAny_mono h₃ (fun x s₄ h₄ => yaa (wpAny_mono h₄ (fun _ s₅ h₅ => yab (yab ⟨rfl, h₅⟩)) fun _ _ h' => hE _ _ h')) fun _ _ h' => hE _ _ h'))
end
def YE (X : Cx) (NC : List Str) (csc : Scope) (Gx : Addr -> Hp -> Prop) (C : Addr) (s₁ : Shared) (H₁ : Hp) (ex : List Addr) : ZQ := fun u s' =>
 ∃ e Cl l σ' H', u = .ref e /\ Inv (cxC X NC csc C s₁ H₁ ex) [] σ' H' s' /\ Air X.mg s'.heap e Cl (some .none) l /\ (∀ b ∈ l, (∀ o, s₁.heap.get? b = some o -> b ∈ ex) /\ H' b = none) /\ Gx Cl H'
abbrev cxX (X : Cx) (NC : List Str) (csc : Scope) (Gx : Addr -> Hp -> Prop) (C : Addr) (s₁ : Shared) (H₁ : Hp) (ex : List Addr) : Cx := (cxC X NC csc C s₁ H₁ ex).wish (YE X NC csc Gx C s₁ H₁ ex)
section
variable {X : Cx} {NC : List Str} {csc : Scope} {Gx : Addr -> Hp -> Prop} {C : Addr} {s₁ : Shared} {H₁ : Hp} {ex : List Addr}
theorem YE.comes {Qa : ZP} {σ : St} {H : Hp} {s s' : Shared} {u : Value} (I : Inv (cxX X NC csc Gx C s₁ H₁ ex) Qa σ H s) (h : CXX X.prog X.w X.mg X.stack H s (fun c _ H' => ∃ C, c = .ref C /\ Gx C H') u s') : YE X NC csc Gx C s₁ H₁ ex u s' := by
 obtain ⟨e, Cl, l, H', rfl, ⟨C', hc, g⟩, ho, hb, un, hok, a, hl⟩ := h;cases hc;have J : Inv (cxC X NC csc C s₁ H₁ ex) Qa σ H' s' := (I.unwish).call' (ch := []) ho un hok hb (fun b z => absurd z ς);refine ⟨e, Cl, l, σ, H', rfl, J.pins_of fun p hp => (nomatch hp), a, fun b hb => ⟨fun o q => ?_, (hl b hb).2⟩, g⟩;refine yax fun n => ?_;obtain ⟨o', k⟩ := I.base.there b o q n;rw [(hl b hb).1] at k; cases k
variable {k : Nat} {f : Addr} {fd : FuncData} {ps : List Str} {sp : Sp} {dvs : List V} {ds : List Value} {x : Str} {p pos : Pos} {e : Expr} {es : List Expr} {t : TA}
theorem zfo (F : FnOk X.prog X.w X.K X.mg X.base (CXX X.prog X.w X.mg) k f fd ps sp) (hr : Room k X.A) (hg : Gl (cxX X NC csc Gx C s₁ H₁ ex) x) (hm : X.mg x = some (.ref f)) (hk : W.keepIn X.K (.ref f) = true) (hb : Binds X.K fd ps ds) (hd : Vals dvs ds)
  (ha : PA (cxX X NC csc Gx C s₁ H₁ ex) (e :: es) t) (hdb : (x == ("__debug__" : Str)) = false := by decide) (he : starEach (e :: es) (cxX X NC csc Gx C s₁ H₁ ex).env = (false, eval e (cxX X NC csc Gx C s₁ H₁ ex).env) :: starEach es (cxX X NC csc Gx C s₁ H₁ ex).env := by rfl) (hpl : (backTo pos (starEach es (cxX X NC csc Gx C s₁ H₁ ex).env)).any (·.1) = false := by rfl) :
  PE (cxX X NC csc Gx C s₁ H₁ ex) (.Call (.Name x p) (e :: es) [] pos) (zgp sp dvs (fun C _ H' => Gx C H') t) := by
 intro Qa s σ H Q I h;refine wpAny_Call_Name_kw (zbV I hg hm ?_ hdb);refine W.callWith_K (h₀ := X.base) I.ok.mod.kin hk (thn (ha pos Qa s σ H _ I h) fun us s1 ⟨vs, H1, I1, r, q⟩ => ⟨I1.kIn, ?_⟩) he hpl;have r2 : Vals (vs ++ dvs) (us ++ ds) := r.append hd;have hl : (us ++ ds).length = ps.length := by rw [<- r2.length]; exact F.len _ _ _ _ q
 refine wpAny_call (codeAny_mono (F.run X.A X.stack s1 H1 ⟨us, []⟩ (us ++ ds) (vs ++ dvs) Q _ hr I1.env0 (hb s1 us I1.kIn hl) r2 q) fun r s' hq => ?_);cases r with
 | error e => exact YE.comes I1 hq
 | ok fl =>
  cases fl with
  | ret u => exact I1.after hq
  | next => exact False.elim hq
  | brk => exact False.elim hq
  | cont => exact False.elim hq
end
section
variable {X : Cx} {NC : List Str} {csc : Scope} {nt : Nat} {is : List Nat} {Gx : Addr -> Hp -> Prop} {Qa : ZP} {σ : St} {H : Hp} {s : Shared}
theorem zi7 {elt tg iter : Expr} {ifs : List Expr} {pos : Pos} {wi : TI} {g : TG} {tt : TT} {te : TE} {Q : VK} {epos : Pos} (Fn : Fnc X) (ho : Out X fun C _ H' => Gx C H')
  (S : CompSc X NC nt is csc) (hc : X.calm = true) (hi : PI X tg iter wi)
  (hg : ∀ C s H ex, PG (cxX X NC csc Gx C s H ex) tg g) (ht : ∀ C s H ex, PIf (cxX X NC csc Gx C s H ex) ifs tt) (he : ∀ C s H ex, PE (cxX X NC csc Gx C s H ex) elt te)
  (hgk : ∀ x (σ : St) H Q, g x σ H Q -> g x σ H fun σ2 H2 => σ2.drop nt = σ.drop nt /\ Q σ2 H2)
  (I : Inv X Qa σ H s) (h : zha wi nt is g tt te σ H Q)
  (hs : ∀ x, foldedSetIterable iter X.env x = pure x) :
  wpAny (model X.prog X.w) X.A (comprehension (.ListComp elt [⟨tg, iter, ifs, 0⟩] csc pos) csc X.env epos (newList []) false (eval iter X.env) none) (EP X Qa σ Q) X.xe s := by
 have hcells := S.has_cells I;have hnames : ∀ x ∈ csc.names, x.2 = .local -> csc.names.lookup x.1 = some .local := fun x hx hl => by
  have q := List.all_eq_true.mp S.locs x hx;simpa [hl] using q
 have hcell : ∀ y ∈ csc.names, y.2 ≠ .cell := fun y hy e => by
  obtain ⟨n, k⟩ := y;have e' : k = .cell := e;subst e';exact S.no_cell hy
 refine zfJ (g := ⟨tg, iter, ifs, 0⟩) (gs := []) (cl := clos X.env.cells csc.names []) rfl hs (zcq hcells) S.kind hnames ?_;refine thn (hi Qa s σ H _ I h) fun v s1 h1 => thn h1 fun itv s2 h2 => ?_;obtain ⟨it, fp, tn, J, H2, rfl, I2, T, st2, f2, W, ⟨m0, w0⟩, turn⟩ := h2;have fo : ∀ b ∈ fp, ∃ o, s2.heap.get? b = some o := fun b hb => let ⟨o, e, _⟩ := T.obj 0 _ st2 b hb; ⟨o, e⟩;have flt := zkZ fo;refine wpAny_newObj_type (wpAny_newFunctionEnv hcell (by intro y hy; simp at hy) (fun h₁ hns₁ hsb₁ => ?_) S.kind);dsimp only at hns₁ hsb₁ ⊢;generalize hH2 : s2.heap.push { cls := .type "list", dict := none, data := .seq ([] : List Value).toArray } = P2 at hns₁ hsb₁ ⊢;have hCs : P2.objs.size = s2.heap.objs.size + 1 := by rw [<- hH2, Heap.size_push]
 generalize hCC : P2.objs.size = C at hns₁ hsb₁ hCs ⊢;generalize hDD : s2.heap.objs.size = D at hCs ⊢;have hD : s2.heap.objs.size <= D := Nat.le_of_eq hDD;have hC : s2.heap.objs.size <= C := by omega
 have hDC : D ≠ C := by omega
 have old : ∀ b o, s2.heap.get? b = some o -> h₁.get? b = some o := fun b o e => hsb₁.extBut b o (Nat.ne_of_lt (Nat.lt_of_lt_of_le (yan e) hC)) (yac _ (hH2 ▸ yac _ e));have accO : h₁.get? D = some { cls := .type "list", data := .seq ([] : List Value).toArray 0 } := by
  refine hsb₁.extBut _ _ hDC (yac _ ?_);rw [<- hH2, <- hDD];exact yaj _ rfl
 have Istart : Inv (cxX X NC csc Gx C s2 H2 fp) [] (za8 nt is σ) H2 { s2 with heap := h₁, toks := s2.toks + ([] : List (Str × Value)).length } := (zfb S I2 f2 fo hC old hns₁).wish _;have HD0 : H2 D = none := I2.hok.fresh hD;have HC0 : H2 C = none := I2.hok.fresh hC;have fpY : ∀ {H' : Hp} {pl : ZP}, (∀ b ∈ fp, H' b = none) -> (∀ p ∈ pl, p.1 ∉ fp) -> ∀ b ∈ fp, FpOk (cxX X NC csc Gx C s2 H2 fp) pl H' b := fun {H' pl} hn hp b hb => by
  obtain ⟨_, g1, g2, g3, g4, g5⟩ := f2 b hb;refine ⟨hn b hb, Nat.ne_of_lt (Nat.lt_of_lt_of_le (flt b hb) hC), fun z => ?_, .inl hb, fun x c e => g4 x c (zbN csc.names [] x c hcells (by intro d hd; simp at hd) e), fun p hpp z => ?_⟩
  ·rcases yau.mp (I2.stkSub b z) with e | e
   ·exact g1 e
   ·exact g2 e
  ·exact hp p (by simpa using hpp) (z ▸ hb)
 have dne : D ∉ fp := fun hb => absurd (flt D hb) (Nat.not_lt.mpr hD);have cellD : ∀ {σ' : St} {H' : Hp} {s' : Shared} {pl : ZP} {its : List Value} {n : Nat}, Inv (cxX X NC csc Gx C s2 H2 fp) pl σ' H' s' -> s'.heap.get? D = some { cls := .type "list", data := .seq its.toArray n } ->
   ∀ x c, (cxX X NC csc Gx C s2 H2 fp).env.cells.lookup x = some c -> c ≠ D := fun {σ' H' s' pl its n} K e x c hx z => by
  obtain ⟨v, o, ho, hd⟩ := K.cell x c hx;rw [z, e] at ho; cases ho; cases hd
 have cellC : ∀ x c, X.env.cells.lookup x = some c -> c ≠ C := fun x c e z => by
  obtain ⟨v, o, ho, _⟩ := I2.cell x c e;exact absurd (yan ho) (Nat.not_lt.mpr (by rw [z]; exact hC))
 have pinC : ∀ p ∈ X.pn ++ Qa, p.1 ≠ C := fun p hp z => absurd (yan (I2.pin p hp).1) (Nat.not_lt.mpr (by rw [z]; exact hC));have cL : C ≠ X.env.locals := fun z => absurd I2.lt (Nat.not_lt.mpr (by rw [<- z]; exact hC));have exc : ∀ u s', YE X NC csc Gx C s2 H2 fp u s' -> notedBy (model X.prog X.w) X.A (compEnvC csc (clos X.env.cells csc.names []) C X.env) (fun x s' => zd9 (model X.prog X.w) X.A X.xe (EP X Qa σ Q) (.ref D) (compEnvC csc (clos X.env.cells csc.names []) C X.env) (.error x) s') u s' := by
  rintro u s' ⟨e, Cl, l, σ', H', rfl, J, a, hl, g⟩
  have JX : Inv X Qa σ H' s' := I2.call' (ch := fp) J.os J.base J.hok J.bare fun b hb => by
   obtain ⟨_, f1, _, f3, f4, f5⟩ := f2 b hb;exact ⟨f3, f1, f4, f5⟩
  obtain ⟨m, hm, _⟩ := J.loc;have nC : H' C = none := J.free;obtain ⟨oC, es, ep, hoC, hdC, hrC⟩ := hm;have hoC' : s'.heap.get? C = some oC := hoC;have lC : ∀ b ∈ l, b ≠ C := fun b hb z => by
   obtain ⟨o, vs, h1, h2⟩ := a.flds b hb;rw [z, hoC'] at h1; cases h1;rw [hdC] at h2; cases h2
  have JP : Inv X [(C, oC)] σ H' s' := JX.pins_of fun p hp => by
   have e : p = (C, oC) := by simpa using hp
   subst e;refine ⟨hoC', nC, cL, I2.nofs hC, fun v z => ?_⟩;rw [hdC] at z; cases z
  have F' : Fnc (X.at [(C, oC)] X.xe) := ⟨Fn.stk, Fn.fr, Fn.ex⟩
  have x : XF (X.at [(C, oC)] X.xe) (fun C _ H' => Gx C H') (.ref e) s' := by
   refine ⟨some .none, .inr (.inl rfl), e, Cl, l, σ, H', rfl, JP.at _, a, fun b hb => ⟨?_, (hl b hb).2, fun p hp z => ?_⟩, g⟩
   ·cases q : X.s₀.heap.get? b with
    | none => rfl
    | some o =>
     obtain ⟨o', k⟩ := I2.base.there b o q (by rw [Fn.ex]; simp);obtain ⟨_, _, _, f3, _⟩ := f2 b ((hl b hb).1 o' k);rcases f3 with f3 | f3
     ·rw [Fn.ex] at f3; cases f3
     ·exact absurd (yan q) (Nat.not_lt.mpr f3)
   ·rcases yay.mp hp with hp | hp
    ·have q := (I2.pin p (List.mem_append_left _ hp)).1;rw [z] at q;obtain ⟨_, _, _, _, _, f5⟩ := f2 b ((hl b hb).1 _ q);exact f5 p (List.mem_append_left _ hp) z
    ·have e : p = (C, oC) := by simpa using hp
     subst e;exact lC b hb z.symm
  show wpAny (model X.prog X.w) X.A (noteFrame (.ref e) X.env) _ _ s';refine XF.note (X := X.at [(C, oC)] X.xe) F' x fun s4 x4 => ?_;obtain ⟨e', Cl', l', σ4, H4, he, I4, a4, hl4, g4⟩ := x4;cases he;have hC4 : s4.heap.get? C = some oC := (I4.pin (C, oC) ς).1;have lC4 : ∀ b ∈ l', b ≠ C := fun b hb z => (hl4 b hb).2.2 (C, oC) ς z.symm;have J4 : Inv X [(C, oC)] σ4 H4 s4 := I4.unat;have nC4 : H4 C = none := (I4.pin (C, oC) ς).2.1;refine ⟨m, ⟨oC, es, ep, hC4, hdC, hrC⟩, fun h' hsb => ?_⟩;have J5 : Inv X [] σ4 H4 { s4 with heap := h' } := (J4.pins_of (pins' := []) fun p hp => (nomatch hp)).turned (t' := s4.toks) (fun b o hb e => hsb.extBut b o hb e) nC4 cL (.inr (yat I2.sz hC)) cellC fun p hp => pinC p (by rw [List.append_nil] at hp; exact List.mem_append_left _ hp);obtain ⟨oe, vs, a0, h1, h2, h3, h4, T', oT, ts, rfl, q1, q2, q3, q4, q5⟩ := a4;have k1 : h'.get? e = some oe := hsb.extBut e oe (lC4 e ς) h1;have k2 : h'.get? T' = some oT := hsb.extBut T' oT (lC4 T' ς) q3;have hsz : 3 < ts.size := (Array.getElem?_eq_some_iff.mp q5).1;unfold PySem.passOn;refine yaa (wpAny_field k1 h3 q1 ?_);rw [if_neg ς];refine yaa ?_;show wpAny _ _ (setFlight (.ref e) X.env.frame) _ _ _;rw [Fn.fr];unfold setFlight;refine yaa (wpAny_field k1 h3 q1 ?_);rw [if_pos ς];refine wpAny_setField k2 q4 hsz ?_;have same : Obj.mapFields (·.setIfInBounds 3 (rawInt X.env.locals)) oT = oT := by
   obtain ⟨oc, od, odt, osl⟩ := oT;have : odt = .fields ts := q4;subst this;show (⟨oc, od, .fields (ts.setIfInBounds 3 (rawInt X.env.locals)), osl⟩ : Obj) = _;have : ts.setIfInBounds 3 (rawInt X.env.locals) = ts := by
    refine Array.ext_getElem? fun i => ?_;rw [Array.getElem?_setIfInBounds]
    by_cases c : 3 = i
    ·subst c;rw [if_pos rfl, if_pos hsz, q5]
    ·rw [if_neg c]
   rw [this]
  have e6 : h'.update T' (Obj.mapFields fun x => x.setIfInBounds 3 (rawInt X.env.locals)) = h' := zfI k2 same;show wpAny _ _ (throw (Value.ref e) : Sem Value) _ _ { s4 with heap := h'.update T' (Obj.mapFields fun x => x.setIfInBounds 3 (rawInt X.env.locals)) };rw [e6];refine wpAny_throw (ho _ _ ⟨some (rawInt X.env.locals), .inr (.inr rfl), e, Cl', [e, T'], σ4, H4, rfl, J5, ⟨oe, vs, a0, k1, h2, h3, h4, T', oT, ts, rfl, q1, q2, k2, q4, q5⟩, fun b hb => ⟨(hl4 b hb).1, (hl4 b hb).2.1, fun p hp => (hl4 b hb).2.2 p (List.mem_append_left _ hp)⟩, g4⟩)
 have loop : ∀ s₃ : Shared, s₃ = { s2 with heap := h₁, toks := s2.toks + ([] : List (Str × Value)).length } ->
   codeAny (model X.prog X.w) X.A (.compLoop (.ListComp elt [⟨tg, iter, ifs, 0⟩] csc pos) 0 (.ref it) (.ref D) (compEnvC csc (clos X.env.cells csc.names []) C X.env)) (zd9 (model X.prog X.w) X.A X.xe (EP X Qa σ Q) (.ref D) (compEnvC csc (clos X.env.cells csc.names []) C X.env)) s₃ := by
  rintro s₃ rfl
  refine ze7 (E := YE X NC csc Gx C s2 H2 fp) exc (fun n s' => ∃ i H' acc its k, Inv (cxX X NC csc Gx C s2 H2 fp) [] (za8 nt is σ) H' s' /\ tn i s'.heap /\ (∀ b ∈ fp, H' b = none) /\ s'.heap.get? D = some { cls := .type "list", data := .seq its.toArray k } /\ H' D = none /\
   Vals acc its /\ acc.length <= sizeLine /\ W i n acc H') ?_ m0 ⟨0, H2, [], [], 0, Istart, T.keep _ _ _ st2 (fun b hb o e => old b o e), fun b hb => (f2 b hb).1, accO, HD0, .nil, yaq _, w0⟩
  rintro n s3 ⟨i, H3, acc, its, k, I3, st3, fr3, o3, n3, v3, z3, w3⟩
  have pinD : Inv (cxX X NC csc Gx C s2 H2 fp) [(D, { cls := .type "list", data := .seq its.toArray k })] (za8 nt is σ) H3 s3 := I3.pins_of fun p hp => by
   have e : p = (D, { cls := .type "list", data := .seq its.toArray k }) := by simpa using hp
   subst e;refine ⟨o3, n3, hDC, fun z => ?_, fun v z => by cases z⟩;rcases yau.mp (I2.stkSub D z) with e | e
   ·exact absurd I2.lt (Nat.not_lt.mpr (by rw [<- e]; exact hD))
   ·exact I2.nofs hD e
  have fpD : ∀ p ∈ [((D, { cls := .type "list", data := .seq its.toArray k }) : Addr × Obj)], p.1 ∉ fp := fun p hp => by
   have e : p = (D, { cls := .type "list", data := .seq its.toArray k }) := by simpa using hp
   subst e; exact dne
  rcases turn i n acc H3 w3 with ⟨stop, qn⟩ | ⟨go, Qe, N, hN, step⟩
  ·refine thn (T.done (cxX X NC csc Gx C s2 H2 fp) rfl rfl rfl hc i _ s3 _ H3 _ pinD (fpY fr3 fpD) st3 stop) fun r s4 ⟨hr, I4⟩ => ?_;subst hr;obtain ⟨e4, n4, _⟩ := I4.pin (D, { cls := .type "list", data := .seq its.toArray k }) (List.mem_append_right _ (yah.mpr rfl));have J := zdZ (NC := NC) (csc := csc) I2 f2 I4.unwish hC hD e4 n4 v3 z3;obtain ⟨m4, hm4, _⟩ := I4.loc;have nC : H3 C = none := I4.free;have c1 : C ≠ X.env.locals := fun z => absurd I2.lt (Nat.not_lt.mpr (by rw [<- z]; exact hC));refine ⟨m4, hm4, fun h' hsb => ?_⟩;exact ⟨.ref D, _, J.turned (t' := s4.toks) (fun b o hb e => hsb.extBut b o hb e) (show upd H3 D (.lst acc) C = none by rw [zaw (Ne.symm hDC)]; exact nC) c1 (.inr (yat I2.sz hC)) cellC pinC, rfl, qn D n4⟩
  ·refine thn (T.item (cxX X NC csc Gx C s2 H2 fp) rfl rfl rfl hc i _ s3 _ H3 _ pinD (fpY fr3 fpD) st3 go) fun r s4 ⟨u, hr, h4⟩ => ?_;subst hr;refine thn h4 fun _ s5 ⟨x, H5, I5, r5, y5, st5, fr5⟩ => ?_;have I5' := I5.pinned (fpY fr5 fpD) (T.obj _ _ st5);refine thn (hg C s2 H2 fp _ s5 _ H5 x u _ I5' r5 (hgk _ _ _ _ (step x H5 y5))) fun _ s6 ⟨σ6, H6, I6, d6, q6⟩ => ?_;refine thn (ht C s2 H2 fp _ s6 σ6 H6 _ I6 q6) fun ok s7 ⟨H7, I7, q7⟩ => ?_;have tnk : ∀ {σ' : St} {H' : Hp} {s' : Shared}, Inv (cxX X NC csc Gx C s2 H2 fp) ([(D, { cls := .type "list", data := .seq its.toArray k })] ++ zdR fp s5.heap) σ' H' s' ->
     tn (i + 1) s'.heap /\ (∀ b ∈ fp, H' b = none) /\ s'.heap.get? D = some { cls := .type "list", data := .seq its.toArray k } /\ H' D = none := fun {σ' H' s'} K => by
    refine ⟨T.keep _ _ _ st5 fun b hb o e => (K.pin (b, o) (List.mem_append_right _ (List.mem_append_right _ (zbA hb e)))).1, fun b hb => ?_, ?_, ?_⟩
    ·obtain ⟨o, e, d⟩ := T.obj _ _ st5 b hb;exact (K.pin (b, o) (List.mem_append_right _ (List.mem_append_right _ (zbA hb e)))).2.1
    ·exact (K.pin (D, { cls := .type "list", data := .seq its.toArray k }) (List.mem_append_right _ (List.mem_append_left _ (yah.mpr rfl)))).1
    ·exact (K.pin (D, { cls := .type "list", data := .seq its.toArray k }) (List.mem_append_right _ (List.mem_append_left _ (yah.mpr rfl)))).2.1
   have reset : ∀ {σ' : St} {H' : Hp} {s' : Shared} {pl : ZP}, σ'.drop nt = (za8 nt is σ).drop nt -> Inv (cxX X NC csc Gx C s2 H2 fp) pl σ' H' s' -> Inv (cxX X NC csc Gx C s2 H2 fp) [] (za8 nt is σ) H' s' := fun {σ' H' s' pl} hd K => by
    have K0 : Inv (cxX X NC csc Gx C s2 H2 fp) [] σ' H' s' := K.pins_of fun p hp => absurd hp ς;refine K0.weak ?_ fun j v hj => ?_
    ·rw [zcO, K.len]; exact S.len.symm
    ·by_cases hjn : j < nt
     ·exfalso
      unfold za8 at hj;rw [ya5 (by simpa using hjn), List.getElem?_replicate, if_pos hjn] at hj;cases hj
     ·have q := congrArg (fun l => l[j - nt]?) hd;simp only [List.getElem?_drop] at q;rw [show nt + (j - nt) = j by omega] at q;rw [q]; exact hj
   cases ok with
   | false =>
    obtain ⟨m', lt, w7⟩ : ∃ m', m' < n /\ W (i + 1) m' acc H7 := hN _ _ q7;obtain ⟨t7, f7, e7, n7⟩ := tnk I7;exact ⟨m', lt, i + 1, H7, acc, its, k, reset d6 I7, t7, f7, e7, n7, v3, z3, w7⟩
   | true =>
    have q7' : te σ6 H7 fun y H4 => N (acc ++ [y]) H4 := q7;refine thn (he C s2 H2 fp _ s7 σ6 H7 _ I7 q7') fun u8 s8 ⟨y, H8, I8, r8, qN⟩ => ?_;obtain ⟨m', lt, w8⟩ := hN _ _ qN;obtain ⟨t8, f8, e8, n8⟩ := tnk I8;have I8r := reset d6 I8;have hl := v3.length;refine call_meets F.slot_list_append ⟨_, e8, rfl⟩ F.entry_list_append (F.args_list_append_2 _ _) (PySem.list_append D its.toArray k u8 (by rw [yad]; omega)) ⟨e8, ?_⟩;have q := PySem.IsL.update e8 (fun a => a.push u8);have hq : (its.toArray.push u8) = (its ++ [u8]).toArray := by simp
    rw [hq] at q;have kk : ∀ b o, b ≠ D -> s8.heap.get? b = some o -> (s8.heap.update D (Obj.mapSeq fun a => a.push u8)).get? b = some o := fun b o hb e => (Heap.get?_update_other s8.heap _ (Ne.symm hb)).trans e;refine ⟨m', lt, i + 1, H8, acc ++ [y], its ++ [u8], _, I8r.turned (t' := s8.toks) kk n8 hDC (.inr hD) (cellD I8r e8) (fun p hp => absurd (show p ∈ ([] : ZP) from hp) ς), T.keep _ _ _ t8 (fun b hb o e => kk b o (fun z => dne (z ▸ hb)) e), f8, q, n8, v3.append (.cons r8 .nil), ?_, w8⟩;rw [yae, yas];omega
 exact codeAny_compStart_list (loop _ rfl) (T.self X.A 0 _ _ _ (T.keep _ _ _ st2 (fun b hb o e => old b o e)) (loop _ rfl))
theorem zg0 {elt tg iter : Expr} {ifs : List Expr} {pos : Pos} {wi : TI} {g : TG} {tt : TT} {te : TE} (nt : Nat) (is : List Nat) (NC : List Str) (Fn : Fnc X) (ho : Out X fun C _ H' => Gx C H')
  (S : CompSc X NC nt is csc) (hc : X.calm = true) (hi : PI X tg iter wi)
  (hg : ∀ C s H ex, PG (cxX X NC csc Gx C s H ex) tg g) (hgk : ∀ x (σ : St) H Q, g x σ H Q -> g x σ H fun σ2 H2 => σ2.drop nt = σ.drop nt /\ Q σ2 H2)
  (ht : ∀ C s H ex, PIf (cxX X NC csc Gx C s H ex) ifs tt) (he : ∀ C s H ex, PE (cxX X NC csc Gx C s H ex) elt te)
  (hs : ∀ x, foldedSetIterable iter X.env x = pure x := by intro _; rfl) : PE X (.ListComp elt [⟨tg, iter, ifs, 0⟩] csc pos) (zha wi nt is g tt te) := by
 intro Qa s σ H Q I h;rw [eval_ListComp];exact zi7 Fn ho S hc hi hg ht he hgk I h hs
end
section
variable {X : Cx} {e st : Expr} {te ts : TE} {pos p2 : Pos}
def rNeE (K : W.Frag) : R2 := fun x y H Q => ∃ p q xs, x = .ref p /\ y = .ref q /\ SqL K H p xs /\ SqL K H q [] /\ Q (.bl (!decide (xs = []))) H
theorem zp4 {K : W.Frag} {p q : Addr} {H : Hp} {Q : VK} : rNeE K (.ref p) (.ref q) H Q = ∃ xs, SqL K H p xs /\ SqL K H q [] /\ Q (.bl (!decide (xs = []))) H :=
 propext ⟨fun ⟨_, _, xs, e1, e2, h⟩ => by cases e1; cases e2; exact ⟨xs, h⟩, fun ⟨xs, h⟩ => ⟨p, q, xs, rfl, rfl, h⟩⟩
theorem zpl {p : Addr} {H : Hp} {Q : VK} : rPop (.ref p) [] H Q = ∃ xs y, H p = some (.lst xs) /\ xs[xs.length - 1]? = some y /\ Q y (upd H p (.lst xs.dropLast)) :=
 propext ⟨fun ⟨_, xs, y, e1, _, h⟩ => by cases e1; exact ⟨xs, y, h⟩, fun ⟨xs, y, h⟩ => ⟨p, xs, y, rfl, rfl, h⟩⟩
end
section
variable {X : Cx}
def znT : V -> List V -> Hp -> VK -> Prop := fun v vs H Q => ∃ x y z : Str, v = .str x /\ vs = [.str y, .str z] /\ (Builtin.Str.occurrences x y 0 x.length (x.length + 1)).isEmpty = true /\ Q (.str x) H
theorem zlF {x y z : Str} {H : Hp} {Q : VK} : znT (.str x) [.str y, .str z] H Q = ((Builtin.Str.occurrences x y 0 x.length (x.length + 1)).isEmpty = true /\ Q (.str x) H) := propext ⟨fun ⟨_, _, _, e, e', h⟩ => by cases e; cases e'; exact h, fun h => ⟨x, y, z, rfl, rfl, h⟩⟩
theorem zhp : MtR X "str.lstrip" (zfH Txt.lstripChars) := by
 intro Qa s σ H x vs v us Q I rx rv h;obtain ⟨z, y, rfl, rfl, hz, q⟩ := h;obtain ⟨t, rfl⟩ := rx;obtain ⟨u, rfl, ⟨t', rfl⟩⟩ := rv.one;exact SC.lstripChars (fun t' k => ⟨.str _, H, I.tok _, ⟨t', rfl⟩, q⟩) (yat hz (by rw [sizeLine_eq]; decide))
def zi8 : V -> List V -> Hp -> VK -> Prop := fun x vs H Q => ∃ z y, x = .str z /\ vs = [.str y] /\ Q (.int (Txt.count z y)) H
theorem zjS {z y : Str} {H : Hp} {Q : VK} : zi8 (.str z) [.str y] H Q = Q (.int (Txt.count z y)) H := propext ⟨fun ⟨_, _, e, e', h⟩ => by cases e; cases e'; exact h, fun h => ⟨z, y, rfl, rfl, h⟩⟩
def zpm (K : W.Frag) : List V -> Hp -> VK -> Prop := fun xs H Q => ∃ (p : Addr) (ns : List Int), xs = [.ref p] /\ SqL K H p (ns.map V.int) /\ ns ≠ [] /\ ∀ M, M ∈ ns -> (∀ a ∈ ns, a <= M) -> Q (.int M) H
theorem znU {K : W.Frag} {p : Addr} {H : Hp} {Q : VK} : zpm K [.ref p] H Q = ∃ ns : List Int, SqL K H p (ns.map V.int) /\ ns ≠ [] /\ ∀ M, M ∈ ns -> (∀ a ∈ ns, a <= M) -> Q (.int M) H := by
 refine propext ⟨fun ⟨_, bs, e, h⟩ => ?_, fun ⟨bs, h⟩ => ⟨p, bs, rfl, h⟩⟩;cases e; exact ⟨bs, h⟩
def dI (l : List (Int × V)) : List (Key × V) := l.map fun p => (Sum.inl p.1, p.2)
def valI (l : List (Int × V)) (k : Int) : Option V := (l.find? fun p => decide (p.1 = k)).map (·.2)
def putI (l : List (Int × V)) (k : Int) (v : V) : List (Int × V) := if l.any (fun p => decide (p.1 = k)) = true then l.map (fun p => if p.1 = k then (p.1, v) else p) else l ++ [(k, v)]
def zpn : V -> V -> V -> Hp -> (Hp -> Prop) -> Prop := fun o i v H Q => ∃ p k l, o = .ref p /\ i = .int k /\ H p = some (.dK (dI l)) /\ l.length < 4000 /\ Q (upd H p (.dK (dI (putI l k v))))
def rIxI : R2 := fun x y H Q => ∃ k p l z, x = .ref p /\ y = .int k /\ Rd H p (.dK (dI l)) /\ valI l k = some z /\ Q z H
def rInI : R2 := fun x y H Q => ∃ k p l, x = .int k /\ y = .ref p /\ H p = some (.dK (dI l)) /\ Q (.bl (valI l k).isSome) H
theorem zpo {k : Int} {p : Addr} {H : Hp} {Q : VK} : rInI (.int k) (.ref p) H Q = ∃ l, H p = some (.dK (dI l)) /\ Q (.bl (valI l k).isSome) H := propext ⟨fun ⟨_, _, l, e1, e2, h⟩ => by cases e1; cases e2; exact ⟨l, h⟩, fun ⟨l, h⟩ => ⟨k, p, l, rfl, rfl, h⟩⟩
theorem zpp {k : Int} {p : Addr} {H : Hp} {Q : VK} : rIxI (.ref p) (.int k) H Q = ∃ l z, Rd H p (.dK (dI l)) /\ valI l k = some z /\ Q z H := propext ⟨fun ⟨_, _, l, z, e1, e2, h⟩ => by cases e1; cases e2; exact ⟨l, z, h⟩, fun ⟨l, z, h⟩ => ⟨k, p, l, z, rfl, rfl, h⟩⟩
theorem znV {k : Int} {p : Addr} {v : V} {H : Hp} {Q : Hp -> Prop} : zpn (.ref p) (.int k) v H Q = ∃ l, H p = some (.dK (dI l)) /\ l.length < 4000 /\ Q (upd H p (.dK (dI (putI l k v)))) := propext ⟨fun ⟨_, _, l, e1, e2, h⟩ => by cases e1; cases e2; exact ⟨l, h⟩, fun ⟨l, h⟩ => ⟨p, k, l, rfl, rfl, h⟩⟩
end
theorem zi9 (x : Str) (c k : Nat) : StrLaws.At x ⟨#[c]⟩ x.length k ↔ x.cps.toList[k]? = some c := StrLaws.subAt_one x c k
theorem zdA {L : List Nat} {c : Nat} : ∀ {n a : Nat}, a + n <= L.length -> (∀ k, a <= k -> k < a + n -> L[k]? ≠ some c) -> (L.drop a).count c = (L.drop (a + n)).count c
 | 0, a, _, _ => rfl
 | n + 1, a, h, hn => by
  have e : L.drop a = L[a]'ω :: L.drop (a + 1) := List.drop_eq_getElem_cons ω;have h1 := hn a (yai _) ω;rw [yal ω] at h1;rw [e, List.count_cons_of_ne (fun z => h1 (by rw [z])), zdA (n := n) (a := a + 1) ω fun k h2 h3 => hn k ω ω]
  congr 2
  omega
theorem zdB (x : Str) (c : Nat) : ∀ (cuts : List Nat) (a f : Nat), a <= x.cps.toList.length -> StrLaws.ChainG x ⟨#[c]⟩ x.length a cuts f -> (∀ k, f <= k -> ¬ StrLaws.At x ⟨#[c]⟩ x.length k) -> cuts.length = (x.cps.toList.drop a).count c
 | [], a, f, ha, h, hn => by
  have e : f = a := h;subst e;have := zdA (L := x.cps.toList) (c := c) (n := x.cps.toList.length - f) (a := f) ω fun k h1 _ z => hn k h1 ((zi9 x c k).mpr z);rw [this, show f + (x.cps.toList.length - f) = x.cps.toList.length by omega, List.drop_length]
  rfl
 | d :: r, a, f, ha, h, hn => by
  obtain ⟨h1, h2, h3, h4⟩ := h;have g := (zi9 x c d).mp h2;obtain ⟨hd, g⟩ := yag.mp g;have e1 := zdA (L := x.cps.toList) (c := c) (n := d - a) (a := a) ω fun k k1 k2 z => h3 k k1 ω ((zi9 x c k).mpr z);have e2 : x.cps.toList.drop d = x.cps.toList[d] :: x.cps.toList.drop (d + 1) := List.drop_eq_getElem_cons hd;rw [e1, show a + (d - a) = d by omega, e2, g, List.count_cons_self, List.length_cons, zdB x c r (d + 1) f ω h4 hn]
theorem ziA (x : Str) (c : Nat) : Txt.count x ⟨#[c]⟩ = ((x.cps.toList.count c : Nat) : Int) := by
 obtain ⟨f, hG, hn⟩ := StrLaws.occ_tight x ⟨#[c]⟩ (yai 1);have := zdB x c _ 0 f (yaq _) hG hn;unfold Txt.count;rw [this, List.drop_zero]
def bars (l : Nat) : List Nat := (List.replicate l [124, 32]).flatten
theorem zee (l : Nat) : (zbQ (Str.ofString "| ") l).cps.toList = bars l := by
 have key : ∀ (l : Nat) (a : Array Nat), ((List.replicate l #[124, 32]).foldl (· ++ ·) a).toList = a.toList ++ bars l := by
  intro l
  induction l with
  | zero => intro a; simp [bars]
  | succ n ih =>
   intro a;rw [List.replicate_succ, List.foldl_cons, ih];simp [bars, List.replicate_succ]
 have e : (Str.ofString "| ").cps = #[124, 32] := by decide +kernel
 unfold zbQ;rw [e];exact (key l #[]).trans rfl
section
variable {K : W.Frag} {H H' : Hp}
def RepI (K : W.Frag) (H : Hp) : Itm -> V -> Prop
 | .ln i, v => v = .int (i : Nat)
 | .bx b e, v => ∃ a, v = .ref a /\ SqT K H a [.int (b : Nat), .int (e : Nat)]
def zpq (K : W.Frag) (H : Hp) (L : List Itm) (xs : List V) : Prop := xs.length = L.length /\ ∀ (k : Nat) (it : Itm), L[k]? = some it -> ∃ v, xs[k]? = some v /\ RepI K H it v
structure zp5 (K : W.Frag) (H : Hp) (S : List (List Itm)) (as : List Addr) : Prop where
 len : as.length = S.length
 nd : as.Nodup
 at_ : ∀ (j : Nat) (L : List Itm), S[j]? = some L -> ∃ a xs, as[j]? = some a /\ H a = some (.lst xs) /\ zpq K H L xs
end
section
variable {X : Cx} {e o : Expr} {es : List Expr} {st : Stmt} {rest : List Stmt} {te to : TE} {ta t : TA} {tt u : TS} {pos apos cpos : Pos} {T id : String} {name : Str} {r : V -> List V -> Hp -> VK -> Prop}
def MtRb (X : Cx) (id : String) (r : V -> List V -> Hp -> VK -> Prop) : Prop :=
 ∀ (Qa : ZP) (s : Shared) (σ : St) (H : Hp) (x : V) (xs : List V) (v : Value) (us : List Value) (Q : VK), Inv X Qa σ H s -> RelV x v -> Vals xs us -> r x xs H Q ->
  wpAny (model X.prog X.w) X.A (call (.builtin id) (v :: us)) (fun u s' => 1 <= s'.toks /\ EP X Qa σ Q u s') X.xe s
theorem zhq : MtRb X "str.count" zi8 := by
 intro Qa s σ H x vs v us Q I rx rv h;obtain ⟨z, y, rfl, rfl, q⟩ := h;obtain ⟨t, rfl⟩ := rx;obtain ⟨u, rfl, ⟨t', rfl⟩⟩ := rv.one;exact SC.count ⟨by show 1 <= s.toks + 1; omega, .int _, H, I.tok _, ⟨_, rfl⟩, q⟩
theorem zlG (K : W.Frag) (pa : PlainAttrs T) (slot : Slot T name id) (hty : typeOf (.builtin id) = pure (.type "method_descriptor")) (hm : MtRb X id r) (ho : PE X o to) (ha : PA X (e :: es) t) (hK : X.K = K := by rfl)
  (hbase : attributeBase o name X.env (eval o X.env) = eval o X.env := by rfl)
  (hfew : ((backTo cpos (starEach (e :: es) X.env)).all (fun x => !x.1) && (backToKw cpos (keywordEach [] X.env)).all (fun x => x.1.isSome)
   && decide ((e :: es).length + ([] : List Keyword).length + (if ([] : List Keyword).isEmpty then 0 else 1) < 30)) = true := by rfl)
  (hline : (apos.endLine == cpos.line) = true := by rfl) (hs : starEach (e :: es) X.env = (false, eval e X.env) :: starEach es X.env := by rfl) (hplain : (backTo cpos (starEach es X.env)).any (·.1) = false := by rfl) :
  PEb X (.Call (.Attribute o name apos) (e :: es) [] cpos) (tBM K T r to t) := by
 subst hK;intro Qa s σ H Q I h;refine wpAny_Call_method_late hbase hfew hline rfl (thn (ho Qa s σ H _ I h) fun v s1 ⟨x, H1, I1, r1, ty, q1⟩ => ?_);obtain ⟨h1, h2⟩ := zk3 I1 r1 ty;refine ⟨T, id, pa, slot, hty, h1, h2, ?_⟩;have hA := ha cpos Qa s1 σ H1 _ I1 q1;rw [hs] at hA ⊢;refine Calls.callWith_builtin (by show (false || (backTo cpos (starEach es X.env)).any (·.1)) = false; rw [hplain] <;> rfl) (Calls.evalArgs_plain ?_);exact thn hA fun us s2 ⟨vs, H2, I2, r2, q2⟩ => hm Qa s2 σ H2 x vs v us Q I2 r1 r2 q2
theorem ziB (he : PE1 X e te) : PS1 X (.Return (some e) pos) (tRet te) := by
 intro Qa s σ H D ht I h;exact wpAny_Return_some (thn (he Qa s σ H _ ht I h) fun v s1 ⟨x, H1, I1, r1, q1⟩ => ⟨x, σ, H1, I1, r1, q1⟩)
theorem zlH {x1} (h : PA1 X es t) : PE1 X (.Tuple es x1 pos) (tTup t) := by
 intro Qa s σ H Q ht I hq;refine wpAny_Tuple_spliced (thn (h pos Qa s σ H _ ht I hq) fun us s1 ⟨xs, H1, I1, r, z, q⟩ => ⟨by rw [<- r.length]; exact z, ?_⟩);have hf : H1 s1.heap.objs.size = none := I1.hok.fresh (yai _);refine ⟨.ref s1.heap.objs.size, upd H1 s1.heap.objs.size (.tup xs), I1.laid (t' := s1.toks) (fun b u e => yac _ e) (yai _) ?_, rfl, q _ hf⟩;exact ⟨z, us, r, ⟨_, yaj _ rfl, rfl, _, rfl⟩⟩
end
def brk (c : Nat) : Prop := c = 124 \/ c = 59
instance (c : Nat) : Decidable (brk c) := by unfold brk; infer_instance
theorem zpr (acc l : List Nat) : wd acc (32 :: l) = flushW acc ++ wd [] l := by rw [wd, if_pos rfl]
theorem wd_c {c : Nat} (h : c ≠ 32) (acc l : List Nat) : wd acc (c :: l) = wd (acc ++ [c]) l := by rw [wd, if_neg h]
theorem zjT : ∀ {l acc : List Nat} {d : Nat}, d ≠ 32 -> d ∈ acc \/ d ∈ l -> ∃ t ∈ wd acc l, d ∈ t
 | [], acc, d, h, hd => by
  rcases hd with hd | hd
  ·exact ⟨acc, by unfold wd flushW; rw [if_neg (List.ne_nil_of_mem hd)]; simp, hd⟩
  ·simp at hd
 | c :: l, acc, d, h, hd => by
  by_cases e : c = 32
  ·subst e;rw [zpr];rcases hd with hd | hd
   ·exact ⟨acc, by unfold flushW; rw [if_neg (List.ne_nil_of_mem hd)]; simp, hd⟩
   ·rcases yau.mp hd with rfl | hd
    ·exact absurd rfl h
    ·obtain ⟨t, ht, z⟩ := zjT (acc := []) h (.inr hd);exact ⟨t, List.mem_append_right _ ht, z⟩
  ·rw [wd_c e];refine zjT h ?_;rcases hd with hd | hd
   ·exact .inl (List.mem_append_left _ hd)
   ·rcases yau.mp hd with rfl | hd
    ·exact .inl ς
    ·exact .inr hd
def ofL (l : List Nat) : Str := ⟨l.toArray⟩
theorem ze8 (l : List Nat) : (ofL l).cps.toList = l := rfl
def brkO (o : Option Nat) : Prop := ∃ c, o = some c /\ brk c
inductive Wide : Option Nat -> List Nat -> List Nat -> Prop
 | nil {pv} : Wide pv [] []
 | word {pv c s s'} : ¬ brk c -> c ≠ 32 -> c ≠ 10 -> Wide (some c) s s' -> Wide pv (c :: s) (c :: s')
 | drop {pv s s'} : brkO pv \/ brkO s.head? -> Wide (some 32) s s' -> Wide pv (32 :: s) s'
 | sp {pv s s' z} : (∀ c ∈ z, c = 32) -> z ≠ [] -> Wide (some 32) s s' -> Wide pv (32 :: s) (z ++ s')
 | brk {pv c s s' a b} : brk c -> (∀ c ∈ a, c = 32) -> (∀ c ∈ b, c = 32) -> Wide (some c) s s' -> Wide pv (c :: s) (a ++ c :: (b ++ s'))
 | nl {pv s s' z} : Bk z -> 10 ∈ z -> Wide (some 10) s s' -> Wide pv (10 :: s) (z ++ s')
inductive Chn (b : Addr -> Option Obj) : Value -> Prop
 | nil : Chn b .none
 | cons {e : Addr} {o : Obj} {vs : Array Value} {c : Value} (h : b e = some o) (hd : o.data = .fields vs) (h2 : vs[2]? = some c) (hc : Chn b c) : Chn b (.ref e)
inductive Lead (b : Addr -> Option Obj) : Value -> Value -> Prop
 | refl (x : Value) : Lead b x x
 | step {e : Addr} {o : Obj} {vs : Array Value} {c y : Value} (h : b e = some o) (hd : o.data = .fields vs) (h2 : vs[2]? = some c) (t : Lead b c y) : Lead b (.ref e) y
theorem Lead.snoc {b : Addr -> Option Obj} {x y : Value} (t : Lead b x y) {e : Addr} {o : Obj} {vs : Array Value} {c : Value} (ey : y = .ref e) (h : b e = some o) (hd : o.data = .fields vs) (h2 : vs[2]? = some c) : Lead b x c := by
 induction t with
 | refl x => subst ey; exact .step h hd h2 (.refl c)
 | step g gd g2 _ ih => exact .step g gd g2 (ih ey)
theorem Lead.on {b : Addr -> Option Obj} {x y : Value} (t : Lead b x y) {e : Addr} {o : Obj} {vs : Array Value} {c : Value} (ey : y = .ref e) (h : b e = some o) (hd : o.data = .fields vs) (h2 : vs[2]? = some c) :
  ∃ e' o' vs' c', x = .ref e' /\ b e' = some o' /\ o'.data = .fields vs' /\ vs'[2]? = some c' /\ Lead b c' c := by
 cases t with
 | refl => exact ⟨e, o, vs, c, ey, h, hd, h2, .refl c⟩
 | step g gd g2 t => exact ⟨_, _, _, _, rfl, g, gd, g2, t.snoc ey h hd h2⟩
theorem zce : plainId "proto.unchain" = true := by decide +kernel
theorem ze9 : entryFor table "proto.unchain" = some Builtin.«proto.unchain» := entryFor_of_fast (by kernel_rfl)
section
variable {prog : Program} {w : World} {A : Around} {E : ZQ} {s : Shared}
theorem zfp {b : Addr -> Option Obj} {e : Addr} (kb : ∀ a o, b a = some o -> s.heap.get? a = some o) (he : b e = none) {o : Value} (c : Chn b o) : ∀ {slow : Value} {t : Bool} {R : Result -> Shared -> Prop}, Lead b slow o -> o ≠ .none ->
  (∀ v, R (.ok (.ret v)) s) -> codeAny (model prog w) A (.builtin "proto.unchain" ⟨[.ref e, o, slow, .bool t], []⟩) R s := by
 induction c with
 | nil => intro _ _ _ _ n; exact absurd rfl n
 | @cons e1 o1 vs c1 h hd h2 hc ih =>
  intro slow t R L _ hR;refine codeAny_builtin ze9 ?_;rw [Around.under_plainId zce _];show wpAny _ A.in1 (field (.ref e1) 2 >>= _) _ _ s;refine yaa (wpAny_field (kb _ _ h) hd h2 ?_);refine wpAny_ite_split (fun _ => yab (hR _)) fun n0 => ?_;refine wpAny_ite_split (fun z => ?_) fun _ => ?_
  ·cases (eq_of_beq z);cases hc with
   | cons h' _ _ _ => rw [he] at h'; cases h'
  refine wpAny_ite_split (fun _ => yaa (wpAny_rule (yab (hR _)))) fun _ => ?_;have n1 : c1 ≠ .none := fun z => n0 (by rw [z]; rfl);obtain ⟨e', o', vs', c', rfl, g, gd, g2, L'⟩ := L.on rfl h hd h2;cases t with
  | true => exact yaa (wpAny_field (kb _ _ g) gd g2 (yab ⟨plainId_quiet zce _, ih L' n1 hR⟩))
  | false => exact yaa (yab (yab ⟨plainId_quiet zce _, ih (L.snoc rfl h hd h2) n1 hR⟩))
def Hnd (b : Addr -> Option Obj) (A : Around) : Prop := ∀ v, A.handled = some v -> (∃ e, v = .ref e) /\ Chn b v
theorem zjU {α : Type} {b : Addr -> Option Obj} {e : Addr} {oe : Obj} {vs : Array Value} {Q : α -> Shared -> Prop} (hn : Hnd b A) (kb : ∀ a o, b a = some o -> s.heap.get? a = some o) (he : b e = none) (ho : s.heap.get? e = some oe) (hd : oe.data = .fields vs) (h2 : 2 < vs.size)
  (h : ∀ hp, hp = s.heap \/ (∃ c, Chn b c /\ hp = s.heap.update e (Obj.mapFields (·.setIfInBounds 2 c))) -> E (.ref e) { s with heap := hp }) : wpAny (model prog w) A (raiseNew (.ref e) : Sem α) Q E s := by
 unfold raiseNew;refine yaa (wpAny_handled ?_);cases hA : A.handled with
 | none => exact yaa (yab (wpAny_throw (h _ (.inl rfl))))
 | some v =>
  obtain ⟨⟨e1, rfl⟩, c⟩ := hn v hA;dsimp only;refine wpAny_ite_split (fun _ => ?_) fun z => ?_
  ·refine yaa (wpAny_holding (wpAny_runValue (zfp kb he c (.refl _) (by intro z; cases z) fun v => ?_)));refine yaa ?_;show wpAny _ A (setField (.ref e) 2 (.ref e1)) _ _ s;exact wpAny_setField ho hd h2 (wpAny_throw (h _ (.inr ⟨_, c, rfl⟩)))
  ·exfalso
   apply z;rw [bne_iff_ne];intro q;cases q;cases c with
   | cons g _ _ _ => rw [he] at g; cases g
end
section
variable {M : Model} {A : Around} {E : ZQ} {s : Shared} {base : Heap} {l : List Env} {e : Addr} {φ : Value -> Array Value -> Prop} {Q : Unit -> Shared -> Prop}
theorem zlI {fl : Value} {L : Addr} (hkb : base.StaysIn s.heap) (hl : s.heap.FunFrames base l) (ht : TrP s.heap base e φ fl)
  (h : ∀ h', base.StaysIn h' -> h'.FunFrames base l -> TrP h' base e φ (rawInt L) -> (∀ b o, s.heap.get? b = some o -> (∀ vs, o.data ≠ .fields vs) -> h'.get? b = some o) -> Q () { s with heap := h' }) : wpAny M A (setFlight (.ref e) (some L)) Q E s := by
 obtain ⟨oe, vs, T, oT, ts, he, h0, hd, h1, hnT, hTe, hT, hdT, h3⟩ := ht;have hsz3 : 3 < ts.size := (Array.getElem?_eq_some_iff.mp h3).1;have other : ∀ b, b ≠ T -> (s.heap.update T (Obj.mapFields (·.setIfInBounds 3 ((some L : Option Addr).elim Value.none fun f => rawInt f)))).get? b = s.heap.get? b := fun b hb => Heap.get?_update_other _ _ (Ne.symm hb);have noR : ∀ b o, s.heap.get? b = some o -> (∀ vs, o.data ≠ .fields vs) -> b ≠ T := fun b o hb hnf q => by rw [q, hT] at hb; cases hb; exact hnf ts hdT
 unfold setFlight; refine yaa (wpAny_field he hd h1 ?_); rw [if_pos (show (Value.ref T != Value.none) = true from by simp)];refine wpAny_setField hT hdT hsz3 (h _ (fun b o hbo => (other b fun q => by rw [q, hnT] at hbo; cases hbo).trans (hkb b o hbo)) (hl.of_keeps fun b o hb hnf => ⟨o, (other b (noR b o hb hnf)).trans hb, rfl⟩) ?_ fun b o hb hnf => (other b (noR b o hb hnf)).trans hb);exact ⟨oe, vs, T, _, _, (other e (Ne.symm hTe)).trans he, h0, hd, h1, hnT, hTe, Heap.get?_update_self _ hT (Obj.isFreed_of_fields (Obj.data_mapFields hdT _)), Obj.data_mapFields hdT _, by simp [hsz3]⟩
end
section
variable {X : Cx} {G : Addr -> St -> Hp -> Prop} {u : Value} {s : Shared}
theorem XG.on (F : Fnc X) {M : Model} {A : Around} {E : ZQ} {Q : Unit -> Shared -> Prop} {f : Value} (x : XG X G (some f) u s) (h : ∀ s', XG X G (some (rawInt X.env.locals)) u s' -> Q () s') : wpAny M A (setFlight u X.env.frame) Q E s := by
 obtain ⟨e, C, l, σ, H, rfl, I, a, hl, g⟩ := x;have a' := a;obtain ⟨oe, vs, a0, h1, h2, h3, h4, h5⟩ := a;obtain ⟨T, oT, ts, rfl, q1, q2, q3, q4, q5⟩ := h5;have fn : s.heap.FunFrames (bsOf X s.heap [e, T]) X.stack := zim I;rw [F.fr];refine zlI (base := bsOf X s.heap [e, T]) (l := X.stack) (φ := Phi X.mg C) (fl := f) ze1 fn ⟨oe, vs, T, oT, ts, h1, ⟨h2, a0, h4.1, h4.2⟩, h3, q1, zcT ς, q2, q3, q4, q5⟩ fun h' k1 k2 k3 k4 => ?_;obtain ⟨l', b1, b2⟩ := zfE F I hl a'.first k2 k3;exact h _ ⟨e, C, l', σ, H, rfl, land F I hl a'.flds k1 (fun b o q n => ⟨o.slots, k4 b o q n⟩), b1, b2, g⟩
theorem XG.fld {M : Model} {A : Around} {E : ZQ} {Q : ZQ} {f : Value} (x : XG X G (some f) u s) (h : ∀ T, Q (.ref T) s) : wpAny M A (field u 1) Q E s := by
 obtain ⟨e, C, l, σ, H, rfl, I, a, hl, g⟩ := x;obtain ⟨oe, vs, a0, h1, h2, h3, h4, T, oT, ts, rfl, q1, q2, q3, q4, q5⟩ := a;exact wpAny_field h1 h3 q1 (h T)
theorem XG.back (F : Fnc X) (ho : Out X G) {f : Value} (x : XG X G (some f) u s) : cameBackBy (model X.prog X.w) X.A X.env X.xe u s := by
 unfold cameBackBy;refine yaa (x.fld fun T => ?_);rw [if_neg ς];exact x.on F fun s' x' => ho _ _ ⟨_, .inr (.inr rfl), x'⟩
end
section
variable {prog : Program} {w : World} {A : Around} {E : ZQ} {env : Env} {nm q : Str} {C N : Addr} {bs bm : List Value} {hdct : Bool} {sn : List Str} {sub : List Value} {ab : Bool} {col : Option Bool} {dd : Option Addr} {k0 k1 k2 k3 k5 : Option Value} {newId : String}
 {nm' q' : Str} {C' N' : Addr} {bs' bm' : List Value} {hdct' : Bool} {sn' : List Str} {sub' : List Value} {ab' : Bool} {col' : Option Bool} {dd' : Option Addr} {k0' k1' k2' k3' k5' : Option Value} {newId' : String}
theorem zhr {e : Addr} {s : Shared} {x c : Sem Value} {Q : Flow -> Shared -> Prop} (hbase : bm.contains (.type "BaseException") = true) (hbase' : (Value.ref C' :: bm').contains (.type "BaseException") = true) (hA : A.handled = some (.ref e))
  (h : wpAny (model prog w) A x (fun v s₁ => ∃ e2 t, v = .ref e2 /\ s₁.heap.get? C = some (excClassObj nm q C N bs bm hdct sn sub ab col dd k0 k1 k2 k3 k5 newId) /\ s₁.heap.get? e2 = some { cls := .ref C, data := .fields #[.ref t, .none, .none, .none, .bool false, .none] } /\ e2 ≠ e /\
   wpAny (model prog w) A c (fun u s₂ => u = .ref e /\ s₂ = s₁ /\ s₁.heap.get? C' = some (excClassObj nm' q' C' N' bs' bm' hdct' sn' sub' ab' col' dd' k0' k1' k2' k3' k5' newId') /\ (∃ oe ws, s₁.heap.get? e = some oe /\ oe.cls = .ref C' /\ oe.data = .fields ws /\ ws[2]? = some .none) /\
    ∀ hp c, (∀ b, b ≠ e2 -> hp.get? b = s₁.heap.get? b) -> hp.get? e2 = some { cls := .ref C, data := .fields #[.ref t, .none, c, .ref e, .bool true, .none] } -> E (.ref e2) { s₁ with heap := hp }) E s₁) E s) :
  wpAny (model prog w) A (raiseStmt env (some x) (some c)) Q E s := by
 have hcB : (Value.ref C :: bm).contains (.type "BaseException") = true := by rw [List.contains_cons, hbase, Bool.or_true]
 unfold raiseStmt; refine yaa (wpAny_mono h (fun v s₁ h₁ => ?_) fun _ _ x => x);obtain ⟨e2, t, rfl, hC, he, hne, hc⟩ := h₁;refine yaa (wpAny_holding (wpAny_mono hc (fun u s₂ h₂ => yaa (yab ?_)) fun _ _ x => x));obtain ⟨rfl, rfl, hC', ⟨oe, ws, heo, hcl, hws, h2⟩, hE⟩ := h₂;obtain ⟨hp, g, d, tk, os⟩ := s₂
 repeat (first | with_reducible refine wpAny_loadPart_at he ?_ | with_reducible refine wpAny_loadPart_at hC ?_ | (with_reducible refine wpAny_loadPart_at heo ?_; rw [hcl]) | with_reducible refine wpAny_loadPart_at hC' ?_ | (with_reducible refine wpAny_isSubtype_exc hC ?_; rw [hcB]) | (with_reducible refine wpAny_isSubtype_exc hC' ?_; rw [hbase']) | wp_step)
 have hCe : C ≠ e2 := by
  rintro rfl
  have := congrArg Obj.data (Option.some.inj (hC.symm.trans he));cases this
 have he4 : ((hp.update e2 (Obj.mapFields fun x => x.setIfInBounds 3 (Value.ref e))).update e2 (Obj.mapFields fun x => x.setIfInBounds 4 (Value.bool true))).get? e2 = some { cls := .ref C, data := .fields #[.ref t, .none, .none, .ref e, .bool true, .none] } := Heap.get?_update_self _ (Heap.get?_update_self _ he rfl) rfl;have oth : ∀ b, b ≠ e2 -> ((hp.update e2 (Obj.mapFields fun x => x.setIfInBounds 3 (Value.ref e))).update e2 (Obj.mapFields fun x => x.setIfInBounds 4 (Value.bool true))).get? b = hp.get? b := fun b n => (Heap.get?_update_other _ _ (Ne.symm n)).trans (Heap.get?_update_other _ _ (Ne.symm n));have hC4 := (oth C hCe).trans hC;have heo4 := (oth e (Ne.symm hne)).trans heo
 revert he4 oth hC4 heo4
 generalize (hp.update e2 (Obj.mapFields fun x => x.setIfInBounds 3 (Value.ref e))).update e2 (Obj.mapFields fun x => x.setIfInBounds 4 (Value.bool true)) = h4;intro he4 oth hC4 heo4
 repeat (first | with_reducible refine wpAny_loadPart_at he4 ?_ | with_reducible refine wpAny_loadPart_at hC4 ?_ | wp_step)
 refine zjU (b := fun a => if a = e then some oe else none) (fun v z => ?_) (fun a o z => ?_) (if_neg hne) he4 rfl (show 2 < 6 by decide) fun hp' hh => ?_
 ·rw [hA] at z;cases z;exact ⟨⟨e, rfl⟩, .cons (if_pos rfl) hws h2 .nil⟩
 ·by_cases q : a = e
  ·rw [if_pos q] at z;cases z;rw [q]; exact heo4
  ·rw [if_neg q] at z; cases z
 ·rcases hh with rfl | ⟨c, _, rfl⟩
  ·exact hE _ _ oth he4
  ·exact hE _ c (fun b n => (Heap.get?_update_other _ _ (Ne.symm n)).trans (oth b n)) (Heap.get?_update_self _ he4 rfl)
theorem zfK {B initId : String} {bmB : List Value} {e : Addr} {s : Shared} (F : ExcBaseFacts B newId initId bmB) {mN : Str -> Option Value} {x : Str} {np cpos pos : Pos} {args : List Expr} {cause : Expr} {Q : Flow -> Shared -> Prop} (hbase : bm.contains (.type "BaseException") = true) (hbase' : (Value.ref C' :: bm').contains (.type "BaseException") = true) (hA : A.handled = some (.ref e))
  (hplain : (backTo cpos (starEach args env)).any (·.1) = false) (hni : mN "__init__" = none)
  (h : wpAny (model prog w) A (eval (.Name x np) env) (fun f s₁ => f = .ref C /\ wpAny (model prog w) A (evalArgs (.ref C) true (backTo cpos (starEach args env)) [])
   (fun a s₂ => a.kw = [] /\ a.pos.length <= sizeLine /\ s₂.heap.get? C = some (excClassObj nm q C N bs bm hdct sn sub ab col dd k0 k1 k2 k3 k5 newId) /\ s₂.heap.Ns N mN /\ OwnTail s₂.heap bmB bm /\ s₂.heap.get? C' = some (excClassObj nm' q' C' N' bs' bm' hdct' sn' sub' ab' col' dd' k0' k1' k2' k3' k5' newId') /\ (∃ oe ws, s₂.heap.get? e = some oe /\ oe.cls = .ref C' /\ oe.data = .fields ws /\ ws[2]? = some .none) /\
    ∀ h' e2 t, (∀ a o, s₂.heap.get? a = some o -> h'.get? a = some o) -> s₂.heap.get? e2 = none -> wpAny (model prog w) A (eval cause env) (fun u s₃ => u = .ref e /\ s₃ = { s₂ with heap := h' } /\
     ∀ hp c, (∀ b, b ≠ e2 -> hp.get? b = h'.get? b) -> hp.get? e2 = some { cls := .ref C, data := .fields #[.ref t, .none, c, .ref e, .bool true, .none] } -> E (.ref e2) { s₂ with heap := hp }) E { s₂ with heap := h' }) E s₁) E s) :
  wpAny (model prog w) A (exec (.Raise (some (.Call (.Name x np) args [] cpos)) (some cause) pos) env) Q E s := by
 rw [arm_exec_Raise];simp only [evalOpt, Option.map];refine yaa (wpAny_standAt (zhr (C := C) (nm := nm) (q := q) (N := N) (bs := bs) (bm := bm) (hdct := hdct) (sn := sn) (sub := sub) (ab := ab) (col := col) (dd := dd) (k0 := k0) (k1 := k1) (k2 := k2) (k3 := k3) (k5 := k5) (newId := newId) (C' := C') (nm' := nm') (q' := q') (N' := N') (bs' := bs') (bm' := bm') (hdct' := hdct') (sn' := sn') (sub' := sub') (ab' := ab') (col' := col') (dd' := dd') (k0' := k0') (k1' := k1') (k2' := k2') (k3' := k3') (k5' := k5') (newId' := newId') hbase hbase' hA
  (yaa (wpAny_mono (wpAny_Call_ofName (wpAny_mono h (fun f s₁ h₁ => ?_) fun _ _ x => x)) (fun v s₃ h₃ => yaa (wpAny_standAt (yab h₃))) fun _ _ x => x))))
 obtain ⟨rfl, h₁⟩ := h₁; unfold callWith; refine yaa (wpAny_holding (wpAny_mono h₁ (fun a s₂ h₂ => yaa (wpAny_standAt ?_)) fun _ _ x => x));obtain ⟨apos, akw⟩ := a; obtain ⟨hkw, Qe, hC, hN, T, hC', ⟨oe, ws, heo, hcl, hws, h2⟩, h₂⟩ := h₂; obtain rfl : akw = [] := hkw; obtain ⟨hp, g, d, tk, os⟩ := s₂;simp only [hplain]; refine yaa (wpAny_keeperOf_exc hC ?_); refine yaa (wpAny_call_exc_subT (hrest := Qe) F T hC hN hni fun h' e2 hm => yaa (wpAny_holding (wpAny_point (yab ?_))));obtain ⟨t, ht, _, _⟩ := hm.there;refine ⟨e2, t, rfl, hm.keeps _ _ hC, ht, fun z => ?_, yaa (wpAny_mono (h₂ h' e2 t hm.keeps hm.new) (fun u s₃ h₃ => yaa (wpAny_standAt (yab ?_))) fun _ _ x => x)⟩
 ·have := hm.new;rw [z] at this;rw [this] at heo; cases heo
 ·obtain ⟨rfl, rfl, hE⟩ := h₃;exact ⟨rfl, rfl, hm.keeps _ _ hC', ⟨oe, ws, hm.keeps _ _ heo, hcl, hws, h2⟩, hE⟩
end
section
variable {X : Cx}
theorem Inv.adoptG {φ : Heap -> Prop} {Qa : ZP} {σ : St} {H : Hp} {s : Shared} {e C : Addr} {o : Obj} {vs : Array Value} (I : Inv X Qa σ H s) (he : s.heap.get? e = some o) (hc : o.cls = .ref C) (hd : o.data = .fields vs)
  (h0 : X.s₀.heap.get? e = none) (hH : H e = none) (hp : ∀ p ∈ X.pn ++ Qa, p.1 ≠ e) (hφ : φ s.heap) (kφ : ∀ h1 h2 : Heap, φ h1 -> (∀ o, h1.get? e = some o -> h2.get? e = some o) -> φ h2) : Inv X Qa σ (upd H e (.ext φ)) s := by
 have ne : ∀ b, b ≠ e -> upd H e (.ext φ) b = H b := fun b n => zaw n;have s0 : ∀ b o, X.s₀.heap.get? b = some o -> b ≠ e := fun b o q z => by rw [z, h0] at q; cases q
 have hin : ∀ b u, H b = some u -> b ≠ e := fun b u q z => by rw [z, hH] at q; cases q
 refine ⟨I.ok, I.os, I.bare, ⟨I.base.keep, I.base.slot, fun b o q n hx => ?_, I.base.there, fun b xs q => ?_, fun b o u q => ?_, fun b ps q => ?_⟩, I.loc, I.cell, ?_, fun x c q => ?_, fun p hp' => ?_, fun b u q => ?_, I.len⟩
 ·rw [ne b (s0 b o q)]; exact I.base.free b o q n hx
 ·have k := I.base.tups b xs q; rw [ne b (hin b _ k)]; exact k
 ·have k := I.base.frzs b o u q; rw [ne b (hin b _ k)]; exact k
 ·obtain ⟨m, k⟩ := I.base.tbls b ps q; exact ⟨m, by rw [ne b (hin b _ k)]; exact k⟩
 ·rw [ne]
  ·exact I.free
  ·intro z;obtain ⟨m, ⟨o', es, ep, h1', h2', _⟩, _⟩ := I.loc;rw [z, he] at h1'; cases h1';rw [hd] at h2'; cases h2'
 ·rw [ne]
  ·exact I.freeC x c q
  ·intro z;obtain ⟨v, o', h1', h2'⟩ := I.cell x c q;rw [z, he] at h1'; cases h1';rw [hd] at h2'; cases h2'
 ·obtain ⟨e1, n, nl, nf, d⟩ := I.pin p hp';exact ⟨e1, by rw [ne _ (hp p hp')]; exact n, nl, nf, d⟩
 ·by_cases z : b = e
  ·subst z;rw [zad] at q; cases q;exact ⟨hφ, ⟨o, he⟩, kφ⟩
  ·rw [ne b z] at q;refine (I.hok b u q).stay (fun _ _ _ k => k) (fun c k => ?_) fun c xs k => ?_
   ·rw [ne c (hin c _ k)]; exact k
   ·rw [ne c (hin c _ k)]; exact k
end
def ExcN (e C : Addr) : HO := .ext fun h => ∃ o vs, h.get? e = some o /\ o.cls = .ref C /\ o.data = .fields vs /\ vs[2]? = some .none
section
variable {X : Cx} {G : Addr -> St -> Hp -> Prop} {u : Value} {s : Shared}
theorem XG.again (F : Fnc X) {M : Model} {A : Around} {E : ZQ} {Q : Unit -> Shared -> Prop} (x : XG X G (some (rawInt X.env.locals)) u s) (h : Q () s) : wpAny M A (noteFrame u X.env) Q E s := by
 obtain ⟨e, C, l, σ, H, rfl, I, a, hl, g⟩ := x;obtain ⟨oe, vs, a0, h1, h2, h3, h4, T, oT, ts, rfl, q1, q2, q3, q4, q5⟩ := a;exact zk7 (base := bsOf X s.heap [e, T]) (φ := Phi X.mg C) F.fr ⟨oe, vs, T, oT, ts, h1, ⟨h2, a0, h4.1, h4.2⟩, h3, q1, zcT ς, q2, q3, q4, q5⟩ h
theorem Air.but {mg : Str -> Option Value} {h h' : Heap} {e C L : Addr} {fl : Option Value} {l : List Addr} (a : Air mg h e C fl l) (sb : Heap.SameBut L h h') (hn : ∀ b ∈ l, b ≠ L) : Air mg h' e C fl l := by
 have a' := a;obtain ⟨oe, vs, a0, h1, h2, h3, h4, h5⟩ := a;refine ⟨oe, vs, a0, (sb.2 e (hn e a'.first)).trans h1, h2, h3, h4, ?_⟩;cases fl with
 | none => exact h5
 | some f =>
  obtain ⟨T, oT, ts, rfl, q1, q2, q3, q4, q5⟩ := h5;exact ⟨T, oT, ts, rfl, q1, q2, (sb.2 T (hn T ς)).trans q3, q4, q5⟩
theorem XF.suite (F : Fnc X) (ho : Out X G) (ok : X.Ok) {Qa : ZP} {e : Addr} {i : Nat} {n : Str} {pos : Pos} (hN : X.N.Nodup) (hi : X.N[i]? = some n) (hk : X.env.scope.names.lookup n = some .local)
  {E' E'' : ZQ} (x : XF (X.sui Qa e) (fun C σ H => G C (σ.set i none) H) u s) :
  wpAny (model X.prog X.w) (X.A.mark (some (.ref e))) (noteFrame u X.env) (fun _ s₃' =>
   wpAny (model X.prog X.w) (X.A.mark (some (.ref e))) (do bindName X.env n .none; unbindBehindTheSuite X.env n pos)
    (fun _ s₄ => wpAny (model X.prog X.w) (X.A.mark (some (.ref e))) (PySem.passOn "try.except-as" u X.env : Sem Flow) (fun _ _ => False) (notedBy (model X.prog X.w) (X.A.mark (some (.ref e))) X.env fun x s' => cameBackBy (model X.prog X.w) X.A X.env X.xe x s') s₄)
    E'' s₃') E' s := by
 have F' : Fnc (X.sui Qa e) := ⟨F.stk, F.fr, F.ex⟩
 refine XF.note (X := X.sui Qa e) F' x fun s4 x4 => ?_;obtain ⟨e2, C, l, σ, H, rfl, J, a, hl, g⟩ := x4;have J0 : Inv X Qa σ H s4 := J.unsui ok;have nl : ∀ b ∈ l, b ≠ X.env.locals := fun b hb z => by
  obtain ⟨o, vs, k1, k2⟩ := a.flds b hb;obtain ⟨m, ⟨o', es, ep, k1', k2', _⟩, _⟩ := J0.loc;rw [<- z, k1] at k1'; cases k1';rw [k2] at k2'; cases k2'
 refine zcs J0 hN hi hk fun s5 sb J5 => ?_;have x5 : XG X G (some (rawInt X.env.locals)) (.ref e2) s5 := ⟨e2, C, l, _, H, rfl, J5.pins_of fun p hp => (nomatch hp), a.but sb nl, fun b hb => ⟨(hl b hb).1, (hl b hb).2.1, fun p hp => (hl b hb).2.2 p (List.mem_append_left _ hp)⟩, g⟩
 unfold PySem.passOn;refine yaa (x5.fld fun T => ?_);rw [if_neg ς];refine yaa (x5.on F fun s6 x6 => wpAny_throw ?_);unfold notedBy;exact x6.again F (x6.back F ho)
end
section
variable {X : Cx} {G : Addr -> St -> Hp -> Prop}
theorem zlJ {x n c : Str} {i : Nat} {D C : Addr} {ch : List Addr} {B newId initId : String} {bm : List Value} {np np2 cp cpos pos hpos : Pos} {e₀ : Expr} {rest : List Expr} {t : TA} {rest' : List ExceptHandler} {tr : Addr -> TS} (F : Fnc X) (ho : Out X G) (hN : X.N.Nodup) (hi : X.N[i]? = some n) (hk : X.env.scope.names.lookup n = some .local) (hg : Gl X x) (hm : X.mg x = some (.ref D))
  (O : XCls X.K X.mg c C ch bm newId) (hL : c = Str.ofString "NoLines") (FB : ExcBaseFacts B newId initId bm) (hgc : Gl X c) (ha : ∀ Qa e, PA (X.sui Qa e) (e₀ :: rest) t) (hr : PH X rest' tr)
  (he : starEach (e₀ :: rest) X.env = (false, eval e₀ X.env) :: starEach rest X.env := by rfl) (hpl : (backTo cpos (starEach rest X.env)).any (·.1) = false := by rfl) (hd : (x == ("__debug__" : Str)) = false := by decide) (hdc : (c == ("__debug__" : Str)) = false := by decide) (hdn : (n == ("__debug__" : Str)) = false := by decide) :
  PH X (.ExceptHandler (some (.Name x np)) (some n) [.Raise (some (.Call (.Name c cp) (e₀ :: rest) [] cpos)) (some (.Name n np2)) pos] hpos :: rest')
   (fun Cc W σ H => ∃ b, SubX X.K Cc D b /\ if b = true then X.mg (Str.ofString "NoLines") ≠ some (.ref Cc) /\ zgr X.K Cc /\ ∀ e, H e = none -> t (σ.set i (some (.ref e))) (upd H e (ExcN e Cc)) fun vs H1 => vs.length <= sizeLine /\ H1 e = some (ExcN e Cc) /\ G C (σ.set i none) H1 else tr Cc W σ H) := by
 intro Qa s σ H W e Cc l I a hl ⟨b, S, h⟩;have a' := a;obtain ⟨oe, vs, a0, h1, h2, h3, h4, h5⟩ := a;refine wpAny_handleBy_cons (codeAny_handlers_test (ze2 I hg hm ?_ hd)) (by intro q; cases q);refine zc8 S I.kIn h1 h2 ?_;cases b with
 | false => exact hr Qa s σ H W e Cc l I a' hl (by simpa using h)
 | true =>
  have F' : Fnc (X.sui Qa e) := ⟨F.stk, F.fr, F.ex⟩
  obtain ⟨hnl, kn, h⟩ := (show X.mg (Str.ofString "NoLines") ≠ some (.ref Cc) /\ zgr X.K Cc /\ _ from by simpa using h)
  refine codeAny_handlers_suite_as ?_;refine XG.off (X := X.sui Qa e) (G := fun C' σ' H' => C' = Cc /\ σ' = σ /\ H' = H) F' ⟨e, Cc, l, σ, H, rfl, I.sui e, a', fun b hb => hl b hb, rfl, rfl, rfl⟩ fun s2 x2 => ?_;obtain ⟨e2, C2, l2, σ2, H2, heq, J, a2, hl2, rfl, rfl, rfl⟩ := x2;cases heq;obtain ⟨q1, q2, q3⟩ := hl2 e a2.first;obtain ⟨oe2, vs2, a02, r1, r2, r3, r4, _⟩ := a2;obtain ⟨_, cx, r5, r6⟩ := r4;obtain rfl := r6 hnl;have J2 := J.adoptG (φ := fun h => ∃ o vs, h.get? e = some o /\ o.cls = .ref C2 /\ o.data = .fields vs /\ vs[2]? = some .none) r1 r2 r3 q1 q2 (by simpa using q3) ⟨_, _, r1, r2, r3, r5⟩ fun h1 h2 ⟨o, vs, k1, k2, k3, k4⟩ k => ⟨o, vs, k _ k1, k2, k3, k4⟩
  refine zbZ (X := X.sui Qa e) (v := .ref e) J2 hN hi (.inl hk) rfl (fun s3 J3 => ?_) (.inr hk);have hiσ : i < σ2.length := by rw [I.len]; exact (yag.mp hi).1
  refine wpAny_execs_cons ?_;obtain ⟨N, nm, q, bs, hdct, sn, sub, ab, col, dd, k0, k1, k2, k3, k5, mN, hC, hNs, hni', T'⟩ := O.2 _ J3.mod.kin;have hni : mN "__init__" = none := hni' _ (.head _);have T := T'.tail;obtain ⟨mg', x', ch', bm'', newId'', B'', FB'', O''⟩ := kn;obtain ⟨N', nm', q', bs', hdct', sn', sub', ab', col', dd', k0', k1', k2', k3', k5', mN', hC', _, _, T''⟩ := O''.2 _ J3.mod.kin;refine zfK (C := C) (nm := nm) (q := q) (N := N) (bs := bs) (bm := ch.map Value.ref ++ bm) (hdct := hdct) (sn := sn) (sub := sub) (ab := ab) (col := col) (dd := dd) (k0 := k0) (k1 := k1) (k2 := k2) (k3 := k3) (k5 := k5) (newId := newId) (C' := C2) (nm' := nm') (q' := q') (N' := N') (bs' := bs') (bm' := ch'.map Value.ref ++ bm'') (hdct' := hdct') (sn' := sn') (sub' := sub') (ab' := ab') (col' := col') (dd' := dd') (k0' := k0') (k1' := k1') (k2' := k2') (k3' := k3') (k5' := k5') (newId' := newId'')
   FB (mN := mN) (T.hasType FB.hasBase) (by rw [List.contains_cons, T''.tail.hasType FB''.hasBase]; rfl) (e := e) rfl (by rw [he]; show (false || (backTo cpos (starEach rest X.env)).any (·.1)) = false; rw [hpl]; rfl) hni (zbV (X := X.sui Qa e) J3 hgc O.1 ⟨rfl, ?_⟩ hdc)
  have ha' := ha Qa e cpos [] s3 _ _ _ J3 (h e q2);rw [show (X.sui Qa e).env = X.env from rfl, he] at ha';rw [he];refine Calls.evalArgs_plain (wpAny_mono ha' (fun vs s₂ ⟨xs, H1, I1, r1, z, hH1, g⟩ => ⟨rfl, ?_, I1.bk _ _ hC, hNs.keeps I1.bk, T.keeps I1.bk, I1.bk _ _ hC', (I1.hok e _ hH1).1, fun h' e3 t k nw => ?_⟩) fun _ _ y => y.elim)
  ·show vs.length <= sizeLine;rw [<- r1.length]; exact z
  have I2 : Inv (X.sui Qa e) [] (σ2.set i (some (.ref e))) H1 { s₂ with heap := h' } := I1.kept (t' := s₂.toks) k;obtain ⟨m, hn, hlc⟩ := I2.loc;obtain ⟨u, ru, lk⟩ := hlc i n (.ref e) hi (by rw [List.getElem?_set_self hiσ]) (.inl hk);have fin : ∀ hp c, (∀ b, b ≠ e3 -> hp.get? b = h'.get? b) -> hp.get? e3 = some { cls := .ref C, data := .fields #[.ref t, .none, c, .ref e, .bool true, .none] } -> XF (X.sui Qa e) (fun C σ H => G C (σ.set i none) H) (.ref e3) { s₂ with heap := hp } := fun hp c hb hq => by
   have I3 : Inv (X.sui Qa e) [] (σ2.set i (some (.ref e))) H1 { s₂ with heap := hp } := I1.kept (t' := s₂.toks) fun b o z => (hb b fun y => by rw [y, nw] at z; cases z).trans (k b o z);refine ⟨none, .inl rfl, e3, C, [e3], _, H1, rfl, I3, ⟨_, _, _, hq, rfl, rfl, ⟨rfl, _, rfl, fun z => absurd (hL ▸ O.1) z⟩, rfl, rfl⟩, fun b hb' => ?_, by show G C ((σ2.set i (some (V.ref e))).set i none) H1; rw [List.set_set]; exact g⟩;obtain rfl := yah.mp hb';refine ⟨?_, ?_, fun p hp' z => ?_⟩
   ·cases y : X.s₀.heap.get? b with
    | none => rfl
    | some o =>
     obtain ⟨o', y'⟩ := I1.base.there b o y (by show b ∉ X.ex; rw [F.ex]; simp);rw [nw] at y'; cases y'
   ·cases y : H1 b with
    | none => rfl
    | some o =>
     obtain ⟨o', y'⟩ := (I1.hok b o y).there;rw [nw] at y'; cases y'
   ·obtain ⟨e1, _⟩ := I1.pin p (List.mem_append_left _ hp');rw [z, nw] at e1; cases e1
  rcases lk with ⟨hk', hm'⟩ | ⟨hk', _⟩
  ·refine wpAny_Name (wpAny_loadName_local I2.ok.kind hk' hn hm' ⟨ru, rfl, fun hp c hb hq => ?_⟩) hdn;exact XF.suite F ho I.ok hN hi hk (fin hp c hb hq)
  ·exfalso
   have : X.env.scope.names.lookup n = some .cell \/ X.env.scope.names.lookup n = some .free := hk';rw [hk] at this;rcases this with z | z <;> cases z
end
section
variable {X : Cx} {k : Nat} {f : Addr} {fd : FuncData} {ps : List Str} {sp : Sp} {dvs : List V} {ds : List Value} {x : Str} {p pos : Pos} {e : Expr} {es : List Expr} {t : TA}
theorem zdC {G : Addr -> St -> Hp -> Prop} (Fn : Fnc X) (ho : Out X G) (F : zhm X.prog X.w X.K X.mg X.base (CXX X.prog X.w X.mg) k f fd ps sp) (hr : Room k X.A) (hg : Gl X x) (hm : X.mg x = some (.ref f)) (hk : W.keepIn X.K (.ref f) = true) (hb : Binds X.K fd ps ds) (hd : Vals dvs ds)
  (ha : PA1 X (e :: es) t) (hdb : (x == ("__debug__" : Str)) = false := by decide) (he : starEach (e :: es) X.env = (false, eval e X.env) :: starEach es X.env := by rfl) (hpl : (backTo pos (starEach es X.env)).any (·.1) = false := by rfl) :
  PE1 X (.Call (.Name x p) (e :: es) [] pos) (zgp sp dvs G t) := by
 intro Qa s σ H Q ht I h;refine wpAny_Call_Name_kw (zbV I hg hm ?_ hdb);refine W.callWith_K (h₀ := X.base) I.ok.mod.kin hk (thn1 ht (ha pos Qa s σ H _ ht I h) fun us s1 ht1 ⟨vs, H1, I1, r, q⟩ => ⟨I1.kIn, ?_⟩) he hpl;have r2 : Vals (vs ++ dvs) (us ++ ds) := r.append hd;have hl : (us ++ ds).length = ps.length := by rw [<- r2.length]; exact F.len _ _ _ _ q
 refine wpAny_call (codeAny_mono (F.run X.A X.stack s1 H1 ⟨us, []⟩ (us ++ ds) (vs ++ dvs) Q _ ht1 hr I1.env0 (hb s1 us I1.kIn hl) r2 q) fun r s' hq => ?_);cases r with
 | error e => exact ho _ _ (XF.comes Fn I1 hq)
 | ok fl =>
  cases fl with
  | ret u => exact I1.after hq
  | next => exact False.elim hq
  | brk => exact False.elim hq
  | cont => exact False.elim hq
end
theorem Fun.okX1 {P : Program} {w : World} {K : W.Frag} {mg : Str -> Option Value} {base : Heap} {x qual : Str} {st : Stmt} {f : Addr} {fd : FuncData} {N ps : List Str} {k : Nat} {sp : Sp} (F : Fun K x qual st f fd) (S : zap N ps (zab st)) (len : ∀ vs H Q E, sp vs H Q E -> vs.length = ps.length)
  (hbody : ∀ (cdv : Value) (A : Around) (outer : List Env) (s : Shared) (H : Hp) (vs : List V) (Q : VK) (E : XK), Room k (A.deeper (envOfC qual (zab st) s.heap.objs.size f cdv)) -> sp vs H Q E ->
   ∃ t, PSs1 (cxOf (CXX P w mg) P w K mg base N qual (zab st) f cdv A outer s H E) (zaj st) t /\ t { nx := fun _ H' => Q .non H', rt := Q } (start N vs) H) : zhm P w K mg base (CXX P w mg) (k + 1) f fd ps sp := by
 obtain ⟨oc, od, kV, doc, pm, an, cdv, ct, osl, rfl, lk, hcd⟩ := F.ex;exact zny lk hcd S len fun A outer s H vs Q E hr hsp => hbody cdv A outer s H vs Q E hr hsp
def cls (c : Nat) : Nat := if c = 110 then 0 else if c = 111 then 1 else if c = 116 then 2 else if c = 97 then 3 else if c = 108 then 4 else if c = 115 then 5 else if c = 109 then 6 else if c = 101 then 7 else if 97 <= c /\ c <= 122 \/ 48 <= c /\ c <= 57 then 8 else if 65 <= c /\ c <= 90 then 9 else if c = 32 then 10 else if c = 124 then 11 else if c = 59 then 12 else if c = 10 then 13 else 14
theorem znW {p : Prop} [Decidable p] {a b n : Nat} (ha : a < n) (hb : b < n) : (if p then a else b) < n := by
 by_cases h : p
 ·rw [if_pos h]; exact ha
 ·rw [if_neg h]; exact hb
theorem ziC (c : Nat) : cls c < 15 := by
 unfold cls
 repeat (refine znW δ ?_)
 decide
def bT : Nat := 57356146795122231391853914174807727252119808624008396597713920880357539497807614984587547678476778776944136000594269485342072573590069578881523861093156661166033281055180402107138997055950247417018106723933360760625766945664646233519001121084861870910187201318921828303046797341790911727040944483008674732927165180811915315143666977404222190197099073137860195458858599779213876742775908941661669294745994883753488670486591408341025408854208498775210510548608295476455683964207915319036335844212645748008533709278757508455899560704846898316522554112087092949151008794304224922559976711910703100506826514999011897885818438842132679232566321342230806741954251706330880089189795794816620418198775123906158113514074886065577325111229682814249462254980368014118297588610001404838372768237316245637135922669303054000026365202849749096343788496248307260687898749188527264172865033965518550721989345796535139313459076994672811437554140501123600462541235429864392346997618780816080013919180922744207061287859874917380979197933214564098967032368025823923787058025888671550177729074263124747387703869715742838284390892123723296368724418253367747463448859289200590037544632840791366670415616444269228561553879472788329566113141022432249776007202320807600317313026049883425160374841968961395789143914091148825036419922938897072284180690091317270394252306722434527847547407715322456919511817614383959756682
def bst (q c : Nat) : Nat := (bT >>> (7 * (q * 15 + c))) % 128
def dst (t d c : Nat) : Nat := (t >>> (7 * (d * 15 + c))) % 128
def tQ : Nat := 3455242670718410529179614860632857280597237068018643193257889709843562020442885361576043035510051693518363818514115187710154832318734596968552635977640050300346082666668776274767553864225118760137318042811046447867724275670883488652934015340599208547061120335244681194040442097768794057620655682470154772141551387895443148715999339335539916923004003073316978368169173022840880434438046003919576546071969755509475725435369240852848810567980824170037606040828764771651399903067866029066768035532259126739580661417884809884801156607053206333257790358594126574522734822027
def tN : Nat := 11226851531394808077346522874271958420644475730473803405230934619813572219604403755005374695279068494263244354889622340030459899061258258221870703460087435673362069771646123554975445790420996600564686221986875217148576554143775110905724288315242516602065143859337723649270788231985444274231108266009015958738715286950412407728697804595610054232527043602813226988361487929431296259668436599520498937364151794049472606096305838992762792595083555735137377158950573919827193883270701051690880941987339435314640162850735681745170765135090287189116995287813800532476453523107698870142181609579057879756542291860561358874826172703707808088522449950894779554990515678037344902476617319760159340102779655
def mQ : Nat := 21690860197165804555788653028741783278668178475849493276871759692874574249753584260229417345145920567580476676983899140519954576113358378989141009959306318195369079631664492685158774555415445582570269450988813614588677827695951852898115380348703581778970694919398978484518676409341206732724631778290199853270576696158975939714683664164713588082409008067125218662491849867592570608488177703669408011180936827292649541410345778902276183894286470733009965683279400885749781549149698270268974798338307835850777036659150960587400093619169870336022785579793080640540821921393419352118669243420232375548480711219297326920634471476205133795866133153036139245082067085737119765268140074197317990248087236163879737389532704233865259471895859930154793996769292444763861609402552103115268607472515700365842177982260822596605059120853578450741769848830336460240027409607272796265147869748771959013260313975776405004568800584376996029938929845652890282445960184652712151390843585294768174449109646183212037113049222457969070101082015180236854061577176106940706346979861634768096676297807948581230315110276222091340535777127638721291031916054859875463562401319669202981221459969267570585401312645939406435669901990204933278296999302403218065991087919743391284197014907754252228100097
def mN : Nat := 33593068216821819790097577182183441945303206620968503661733794231682192612631793458509317954747171039036163647404445686808538757581637209967818238110720065853882840077283698916849704716938711866695919695115906894524668594945043430506996972897349856438116414640284430490259419471382783325910066620552075406686373241370162772371502544920855283644707860787512490836331931172291082251261193869286192705436230150086351457853734496816755124077071618202064474467767042660086870210460655552173681679205544214211513614400143430182498679733051019067341476542327123313116369304078829503579304751780312563882956747376714314836263125772864367157799396029133963407063189063958088794431433710325613155295184850256965908811063290173850967257673016976652517380715840116059619483452022946232629064081384641008136621567178247907646292999167359209632501286301679515034450138433562082193221471003079844329821155360633478130856169124856577603434065492472880523324513296681327836469290703326826279583151574290231737994153262776384148765852004167408900795817430419534451630436466759216480543823050184170322898482070552465869915631264656980367089297193740185171836438569616964854943063528269925932448248681104518313459851819396795366668257055430200922912730314756692079684891750351994160676865
def ix (q k d : Nat) : Nat := (q * 3 + k) * 32 + d
def allN : Nat -> (Nat -> Bool) -> Bool
 | 0, _ => true
 | n + 1, f => f n && allN n f
theorem zbu : ∀ {n : Nat} {f : Nat -> Bool}, allN n f = true -> ∀ i, i < n -> f i = true
 | 0, _, _, i, h => absurd h (Nat.not_lt_zero i)
 | n + 1, f, h, i, hi => by
  have h' : (f n && allN n f) = true := h;rw [Bool.and_eq_true] at h'
  by_cases e : i = n
  ·rw [e]; exact h'.1
  ·exact zbu h'.2 i ω
def inM (m q k d : Nat) : Bool := decide (q < 44) && decide (d < 32) && m.testBit (ix q k d)
def zcz (t m q k d c : Nat) : Bool := (bst q c == 127 || (inM m (bst q c) k (dst t d c) && (k == 2 || (inM m (bst q c) (k + 1) d && allN 15 fun c2 => inM m (bst q c) (k + 1) (dst t d c2))))) && (k == 2 || inM m q (k + 1) (dst t d c))
def zg1 (t m : Nat) : Bool := allN 44 fun q => allN 3 fun k => allN 32 fun d => !(m.testBit (ix q k d)) || allN 15 (zcz t m q k d)
theorem zlK : zg1 tQ mQ = true := by decide +kernel
theorem zlL : zg1 tN mN = true := by decide +kernel
theorem badQ : (allN 44 fun q => allN 3 fun k => !(mQ.testBit (ix q k 1))) = true := by decide +kernel
def bRun (q : Nat) : List Nat -> Nat
 | [] => q
 | c :: b => if bst q (cls c) = 127 then 127 else bRun (bst q (cls c)) b
def dRun (t d : Nat) : List Nat -> Nat
 | [] => d
 | c :: s => dRun t (dst t d (cls c)) s
inductive Ed : Nat -> List Nat -> List Nat -> Prop
 | nil (k : Nat) : Ed k [] []
 | same {k : Nat} {b s : List Nat} (c : Nat) (h : Ed k b s) : Ed k (c :: b) (c :: s)
 | ins {k : Nat} {b s : List Nat} (c : Nat) (h : Ed k b s) : Ed (k + 1) b (c :: s)
 | del {k : Nat} {b s : List Nat} (c : Nat) (h : Ed k b s) : Ed (k + 1) (c :: b) s
 | rep {k : Nat} {b s : List Nat} (c d : Nat) (h : Ed k b s) : Ed (k + 1) (c :: b) (d :: s)
theorem zcF {t m : Nat} (h : zg1 t m = true) {q k d : Nat} (hk : k < 3) (x : inM m q k d = true) (c : Nat) : zcz t m q k d (cls c) = true := by
 unfold inM at x;rw [Bool.and_eq_true, Bool.and_eq_true, decide_eq_true_eq, decide_eq_true_eq] at x;have h1 := zbu (zbu (zbu h q x.1.1) k hk) d x.1.2;rw [x.2] at h1;exact zbu (by simpa using h1) _ (ziC c)
theorem zkG {t m : Nat} (h : zg1 t m = true) {k : Nat} {b s : List Nat} (e : Ed k b s) : ∀ {q j d : Nat}, j + k <= 2 -> inM m q j d = true -> bRun q b ≠ 127 -> ∃ q' j', j' <= 2 /\ inM m q' j' (dRun t d s) = true := by
 induction e with
 | nil k => intro q j d hj x _; exact ⟨q, j,ω, x⟩
 | @same k b s c _ ih =>
  intro q j d hj x ha;have hc := zcF h ω x c;have hb : bst q (cls c) ≠ 127 := fun z => ha (by show (if bst q (cls c) = 127 then 127 else _) = 127; rw [if_pos z]);have ha' : bRun (bst q (cls c)) b ≠ 127 := fun z => ha (by show (if bst q (cls c) = 127 then 127 else _) = 127; rw [if_neg hb]; exact z);simp only [zcz, Bool.and_eq_true, Bool.or_eq_true, beq_iff_eq] at hc;rcases hc.1 with z | z
  ·exact absurd z hb
  ·exact ih (d := dst t d (cls c)) hj z.1 ha'
 | @ins k b s c _ ih =>
  intro q j d hj x ha;have hc := zcF h ω x c;simp only [zcz, Bool.and_eq_true, Bool.or_eq_true, beq_iff_eq] at hc;rcases hc.2 with z | z
  ·omega
  ·exact ih (d := dst t d (cls c)) ω z ha
 | @del k b s c _ ih =>
  intro q j d hj x ha;have hc := zcF h ω x c;have hb : bst q (cls c) ≠ 127 := fun z => ha (by show (if bst q (cls c) = 127 then 127 else _) = 127; rw [if_pos z]);have ha' : bRun (bst q (cls c)) b ≠ 127 := fun z => ha (by show (if bst q (cls c) = 127 then 127 else _) = 127; rw [if_neg hb]; exact z);simp only [zcz, Bool.and_eq_true, Bool.or_eq_true, beq_iff_eq] at hc;rcases hc.1 with z | z
  ·exact absurd z hb
  ·rcases z.2 with z | z
   ·omega
   ·exact ih (d := d) ω z.1 ha'
 | @rep k b s c c2 _ ih =>
  intro q j d hj x ha;have hc := zcF h ω x c;have hb : bst q (cls c) ≠ 127 := fun z => ha (by show (if bst q (cls c) = 127 then 127 else _) = 127; rw [if_pos z]);have ha' : bRun (bst q (cls c)) b ≠ 127 := fun z => ha (by show (if bst q (cls c) = 127 then 127 else _) = 127; rw [if_neg hb]; exact z);simp only [zcz, Bool.and_eq_true, Bool.or_eq_true, beq_iff_eq] at hc;rcases hc.1 with z | z
  ·exact absurd z hb
  ·rcases z.2 with z | z
   ·omega
   ·exact ih (d := dst t d (cls c2)) ω (zbu z.2 _ (ziC c2)) ha'
theorem Ed.pre {k : Nat} {b s : List Nat} (e : Ed k b s) : ∀ {s1 s2 : List Nat}, s = s1 ++ s2 -> ∃ b1 b2, b = b1 ++ b2 /\ Ed k b1 s1 := by
 induction e with
 | nil k =>
  intro s1 s2 h;obtain ⟨rfl, _⟩ := List.append_eq_nil_iff.mp h.symm;exact ⟨[], [], rfl, .nil k⟩
 | @same k b s c _ ih =>
  intro s1 s2 h;cases s1 with
  | nil => exact ⟨[], c :: b, rfl, .nil k⟩
  | cons d s1 =>
   obtain ⟨rfl, h'⟩ := List.cons.inj h;obtain ⟨b1, b2, rfl, h1⟩ := ih h';exact ⟨c :: b1, b2, rfl, .same c h1⟩
 | @ins k b s c _ ih =>
  intro s1 s2 h;cases s1 with
  | nil => exact ⟨[], b, rfl, .nil _⟩
  | cons d s1 =>
   obtain ⟨rfl, h'⟩ := List.cons.inj h;obtain ⟨b1, b2, rfl, h1⟩ := ih h';exact ⟨b1, b2, rfl, .ins c h1⟩
 | @del k b s c _ ih =>
  intro s1 s2 h;obtain ⟨b1, b2, rfl, h1⟩ := ih h;exact ⟨c :: b1, b2, rfl, .del c h1⟩
 | @rep k b s c d _ ih =>
  intro s1 s2 h;cases s1 with
  | nil => exact ⟨[], c :: b, rfl, .nil _⟩
  | cons d' s1 =>
   obtain ⟨rfl, h'⟩ := List.cons.inj h;obtain ⟨b1, b2, rfl, h1⟩ := ih h';exact ⟨c :: b1, b2, rfl, .rep c d h1⟩
theorem Ed.refl (k : Nat) : ∀ b : List Nat, Ed k b b
 | [] => .nil k
 | c :: b => .same c (Ed.refl k b)
theorem Ed.more {k : Nat} {b s : List Nat} (e : Ed k b s) : Ed (k + 1) b s := by
 induction e with
 | nil k => exact .nil _
 | same c _ ih => exact .same c ih
 | ins c _ ih => exact .ins c ih
 | del c _ ih => exact .del c ih
 | rep c d _ ih => exact .rep c d ih
theorem Ed.head (c : List Nat) {k : Nat} {b s : List Nat} (e : Ed k b s) : Ed k (c ++ b) (c ++ s) := by
 induction c with
 | nil => exact e
 | cons d c ih => exact .same d ih
theorem Ed.zero {a b : List Nat} (h : Ed 0 a b) : b = a := by
 generalize hk : 0 = k at h
 induction h with
 | nil => rfl
 | same c _ ih => rw [ih hk]
 | ins => cases hk
 | del => cases hk
 | rep => cases hk
theorem Ed.one {k : Nat} {b s : List Nat} (e : Ed k b s) : ∀ {s' : List Nat}, Ed 1 s s' -> Ed (k + 1) b s' := by
 induction e with
 | nil k =>
  intro s' h;cases h with
  | nil => exact .nil _
  | ins c h => cases h; exact .ins c (.nil _)
 | @same k b s c e ih =>
  intro s' h;cases h with
  | same _ h => exact .same c (ih h)
  | ins d h => rw [h.zero]; exact .ins d (.same c e)
  | del _ h => rw [h.zero]; exact .del c e
  | rep _ d h => rw [h.zero]; exact .rep c d e
 | @ins k b s c e ih =>
  intro s' h;cases h with
  | same _ h => exact .ins c (ih h)
  | ins d h => rw [h.zero]; exact .ins d (.ins c e)
  | del _ h => rw [h.zero]; exact e.more.more
  | rep _ d h => rw [h.zero]; exact (Ed.ins d e).more
 | @del k b s c e ih =>
  intro s' h;exact .del c (ih h)
 | @rep k b s c d e ih =>
  intro s' h;cases h with
  | same _ h => exact .rep c d (ih h)
  | ins x h => rw [h.zero]; exact .ins x (.rep c d e)
  | del _ h => rw [h.zero]; exact (Ed.del c e).more
  | rep _ x h => rw [h.zero]; exact (Ed.rep c x e).more
theorem Ed.put (u v : List Nat) (c : Nat) : Ed 1 (u ++ v) (u ++ c :: v) := Ed.head u (.ins c (Ed.refl 0 v))
theorem Ed.change (u v : List Nat) (c d : Nat) : Ed 1 (u ++ d :: v) (u ++ c :: v) := Ed.head u (.rep d c (Ed.refl 0 v))
theorem Ed.take (u v : List Nat) (d : Nat) : Ed 1 (u ++ d :: v) (u ++ v) := Ed.head u (.del d (Ed.refl 0 v))
theorem zeA : ∀ {b1 b2 : List Nat} {q : Nat}, q ≠ 127 -> bRun q (b1 ++ b2) ≠ 127 -> bRun q b1 ≠ 127
 | [], _, q, hq, _ => hq
 | c :: b1, b2, q, hq, h => by
  have h' : (if bst q (cls c) = 127 then 127 else bRun (bst q (cls c)) (b1 ++ b2)) ≠ 127 := h;show (if bst q (cls c) = 127 then 127 else bRun (bst q (cls c)) b1) ≠ 127
  by_cases z : bst q (cls c) = 127
  ·rw [if_pos z] at h'; exact absurd rfl h'
  ·rw [if_neg z] at h' ⊢;exact zeA z h'
theorem zbK : ∀ {b1 b2 : List Nat} {q : Nat}, bRun q b1 ≠ 127 -> bRun q (b1 ++ b2) = bRun (bRun q b1) b2
 | [], _, _, _ => rfl
 | c :: b1, b2, q, h => by
  have h' : (if bst q (cls c) = 127 then 127 else bRun (bst q (cls c)) b1) ≠ 127 := h;show (if bst q (cls c) = 127 then 127 else bRun (bst q (cls c)) (b1 ++ b2)) = bRun (if bst q (cls c) = 127 then 127 else bRun (bst q (cls c)) b1) b2
  by_cases z : bst q (cls c) = 127
  ·rw [if_pos z] at h'; exact absurd rfl h'
  ·rw [if_neg z] at h' ⊢;rw [if_neg z];exact zbK h'
theorem zbi (t : Nat) : ∀ (a b : List Nat) (d : Nat), dRun t d (a ++ b) = dRun t (dRun t d a) b
 | [], _, _ => rfl
 | c :: a, b, d => zbi t a b _
theorem znX : inM mQ 0 0 0 = true := by decide +kernel
theorem znY : inM mN 0 0 0 = true := by decide +kernel
theorem noQ {b s s1 s2 : List Nat} (e : Ed 2 b s) (hb : bRun 0 b ≠ 127) (hs : s = s1 ++ s2) : dRun tQ 0 s1 ≠ 1 /\ dRun tQ 0 s1 < 32 := by
 obtain ⟨b1, b2, rfl, e1⟩ := e.pre hs;obtain ⟨q, j, hj, h⟩ := zkG zlK e1 (q := 0) (j := 0) (d := 0) ω znX (zeA δ hb);unfold inM at h;rw [Bool.and_eq_true, Bool.and_eq_true, decide_eq_true_eq, decide_eq_true_eq] at h;refine ⟨fun z => ?_, h.1.2⟩;have hb' := zbu (zbu badQ q h.1.1) j ω;rw [z] at h;rw [h.2] at hb';cases hb'
theorem fewN {b s s1 s2 : List Nat} (e : Ed 2 b s) (hb : bRun 0 b ≠ 127) (hs : s = s1 ++ s2) : dRun tN 0 s1 < 32 := by
 obtain ⟨b1, b2, rfl, e1⟩ := e.pre hs;obtain ⟨q, j, hj, h⟩ := zkG zlL e1 (q := 0) (j := 0) (d := 0) ω znY (zeA δ hb);unfold inM at h;rw [Bool.and_eq_true, Bool.and_eq_true, decide_eq_true_eq, decide_eq_true_eq] at h;exact h.1.2
theorem zbL (acc r : List Nat) : wd acc (32 :: r) = flushW acc ++ wd [] r := by
 show (if 32 = 32 then _ else _) = _;rw [if_pos rfl]
theorem zfq : ∀ (n : Nat) (r : List Nat), wd [] (List.replicate n 32 ++ r) = wd [] r
 | 0, _ => rfl
 | n + 1, r => by
  rw [List.replicate_succ, List.cons_append, zbL, zfq n r]
  rfl
theorem zef : ∀ L : List Nat, ∃ n L1, L = List.replicate n 32 ++ L1 /\ ∀ r, L1 ≠ 32 :: r
 | [] => ⟨0, [], rfl, fun r z => by cases z⟩
 | c :: L => by
  by_cases h : c = 32
  ·obtain ⟨n, L1, rfl, k⟩ := zef L;exact ⟨n + 1, L1, by rw [h]; rfl, k⟩
  ·exact ⟨0, c :: L, rfl, fun r z => h (List.cons.inj z).1⟩
theorem zg2 : ∀ L : List Nat, ∃ p r, L = p ++ r /\ 32 ∉ p /\ (r = [] \/ ∃ r', r = 32 :: r')
 | [] => ⟨[], [], rfl,ς, .inl rfl⟩
 | c :: L => by
  by_cases h : c = 32
  ·exact ⟨[], c :: L, rfl,ς, .inr ⟨L, by rw [h]⟩⟩
  ·obtain ⟨p, r, rfl, k1, k2⟩ := zg2 L;refine ⟨c :: p, r, rfl, fun z => ?_, k2⟩;rcases yau.mp z with z | z
   ·exact h z.symm
   ·exact k1 z
theorem zcU {L w : List Nat} {ws : List (List Nat)} (h : wd [] L = w :: ws) : ∃ n L', L = List.replicate n 32 ++ (w ++ L') /\ w ≠ [] /\ ((L' = [] /\ ws = []) \/ ∃ r, L' = 32 :: r /\ wd [] r = ws) := by
 obtain ⟨n, L1, rfl, k1⟩ := zef L;rw [zfq] at h;obtain ⟨p, r, rfl, k2, k3⟩ := zg2 L1;rw [ze5 _ _ _ k2, List.nil_append] at h;have hp : p ≠ [] := fun z => by
  rw [z] at h k1;rcases k3 with rfl | ⟨r', rfl⟩
  ·cases h
  ·exact k1 r' rfl
 refine ⟨n, r, ?_⟩;rcases k3 with rfl | ⟨r', rfl⟩
 ·have h' : flushW p = w :: ws := h;unfold flushW at h';rw [if_neg hp] at h';cases h';exact ⟨rfl, hp, .inl ⟨rfl, rfl⟩⟩
 ·rw [zbL] at h;unfold flushW at h;rw [if_neg hp] at h;obtain ⟨rfl, h'⟩ := List.cons.inj (show p :: wd [] r' = w :: ws from h);exact ⟨rfl, hp, .inr ⟨r', rfl, h'⟩⟩
theorem zcf {t d : Nat} (h : dst t d 10 = d) : ∀ n, dRun t d (List.replicate n 32) = d
 | 0 => rfl
 | n + 1 => by
  show dRun t (dst t d (cls 32)) (List.replicate n 32) = d;rw [show cls 32 = 10 from rfl, h];exact zcf h n
theorem zcu {t d m : Nat} (h : ∀ c, c <= m -> dst t d c = d) : ∀ l : List Nat, (∀ c ∈ l, cls c <= m) -> dRun t d l = d
 | [], _ => rfl
 | c :: l, k => by
  show dRun t (dst t d (cls c)) l = d;rw [h _ (k c List.mem_cons_self)];exact zcu h l fun x hx => k x (List.mem_cons_of_mem _ hx)
def notL : List Nat := [110, 111, 116]
theorem fQ : (∀ d, d < 32 -> d ≠ 1 -> dst tQ d 13 = 0) /\ dst tQ 0 10 = 0 /\ dst tQ 2 10 = 2 /\ dst tQ 4 10 = 4 /\ dst tQ 7 10 = 7 /\ dst tQ 0 11 = 0 /\ dRun tQ 0 notL = 13 /\ dRun tQ 2 notL = 13 /\ dst tQ 13 10 = 2 /\ dRun tQ 0 [97, 108, 108] = 10 /\ dRun tQ 2 [97, 108, 108] = 10 /\ dRun tQ 0 [115, 111, 109, 101] = 17 /\ dRun tQ 2 [115, 111, 109, 101] = 17 /\ dst tQ 10 10 = 4 /\ dst tQ 17 10 = 4 /\ dst tQ 4 9 = 6 /\ (∀ c, c <= 9 -> dst tQ 6 c = 6) /\ dst tQ 6 10 = 7 /\ (∀ c, c <= 9 -> dst tQ 7 c = 3) /\ (∀ c, c <= 10 -> dst tQ 3 c = 3) /\ dst tQ 3 12 = 1 /\ ∀ c, c <= 14 -> dst tQ 1 c = 1 := by decide +kernel
theorem fN : (∀ d, d < 32 -> dst tN d 13 = 0) /\ (∀ i, i <= 5 -> dst tN i 10 = i) /\ dst tN 0 11 = 0 /\ (∀ i, i < 5 -> dRun tN i [110, 111, 116, 32] = i + 1) /\ dst tN 5 0 = 127 := by decide +kernel
theorem hitQ {rest : List Nat} {Qw Xw t : List Nat} {ws : List (List Nat)} (hQ : Qw = [97, 108, 108] \/ Qw = [115, 111, 109, 101]) (hX : ∃ c r, Xw = c :: r /\ cls c = 9) : ∀ (k : Nat) {L : List Nat} {d : Nat}, (∀ c ∈ L, cls c <= 10) -> (∀ w ∈ wd [] L, ∀ c ∈ w, cls c <= 9) -> (d = 0 \/ d = 2) -> wd [] L = List.replicate k notL ++ (Qw :: Xw :: t :: ws) -> dRun tQ d (L ++ 59 :: rest) = 1
 | 0, L, d, hL, hw, hd, h => by
  obtain ⟨n, L1, rfl, _, k1⟩ := zcU (show wd [] L = Qw :: Xw :: t :: ws from h);rcases k1 with ⟨_, z⟩ | ⟨r1, rfl, h1⟩
  ·cases z
  obtain ⟨n2, L2, rfl, _, k2⟩ := zcU h1;rcases k2 with ⟨_, z⟩ | ⟨r2, rfl, h2⟩
  ·cases z
  obtain ⟨n3, L3, rfl, ht, _⟩ := zcU h2;obtain ⟨c, r, rfl, hc⟩ := hX;obtain ⟨c3, r3, rfl⟩ := List.exists_cons_of_ne_nil ht;have mem : ∀ x, x ∈ (c :: r) \/ x ∈ (c3 :: r3) -> cls x <= 9 := fun x hx => by
   rcases hx with hx | hx
   ·exact hw (c :: r) (by rw [h]; simp) x hx
   ·exact hw (c3 :: r3) (by rw [h]; simp) x hx
  have hL3 : ∀ x ∈ L3, cls x <= 10 := fun x hx => hL x (by simp [hx]);have e1 : dRun tQ d (List.replicate n 32) = d := zcf (by rcases hd with rfl | rfl; exact fQ.2.1; exact fQ.2.2.1) n;have e2 : dst tQ (dRun tQ d Qw) 10 = 4 := by
   rcases hd with rfl | rfl <;> rcases hQ with rfl | rfl
   ·rw [fQ.2.2.2.2.2.2.2.2.2.1]; exact fQ.2.2.2.2.2.2.2.2.2.2.2.2.2.1
   ·rw [fQ.2.2.2.2.2.2.2.2.2.2.2.1]; exact fQ.2.2.2.2.2.2.2.2.2.2.2.2.2.2.1
   ·rw [fQ.2.2.2.2.2.2.2.2.2.2.1]; exact fQ.2.2.2.2.2.2.2.2.2.2.2.2.2.1
   ·rw [fQ.2.2.2.2.2.2.2.2.2.2.2.2.1]; exact fQ.2.2.2.2.2.2.2.2.2.2.2.2.2.2.1
  obtain ⟨g6, g67, g73, g33, g31, g11⟩ := fQ.2.2.2.2.2.2.2.2.2.2.2.2.2.2.2.2;have g46 := fQ.2.2.2.2.2.2.2.2.2.2.2.2.2.2.2.1;simp only [List.append_assoc, List.cons_append, zbi];rw [e1];show dRun tQ _ _ = 1;simp only [dRun, zbi];rw [show cls 32 = 10 from rfl, e2, zcf fQ.2.2.2.1 n2, hc, g46, zcu g6 r (fun x hx => mem x (.inl (List.mem_cons_of_mem _ hx))), g67, zcf fQ.2.2.2.2.1 n3, g73 _ (mem c3 (.inr List.mem_cons_self)), zcu g33 r3 (fun x hx => Nat.le_succ_of_le (mem x (.inr (List.mem_cons_of_mem _ hx)))), zcu g33 L3 hL3, show cls 59 = 12 from rfl, g31];exact zcu g11 rest fun x _ => Nat.le_of_lt_succ (ziC x)
 | k + 1, L, d, hL, hw, hd, h => by
  obtain ⟨n, L1, rfl, _, k1⟩ := zcU (show wd [] L = notL :: (List.replicate k notL ++ (Qw :: Xw :: t :: ws)) from h);rcases k1 with ⟨_, z⟩ | ⟨r1, rfl, h1⟩
  ·simp at z
  have e1 : dRun tQ d (List.replicate n 32) = d := zcf (by rcases hd with rfl | rfl; exact fQ.2.1; exact fQ.2.2.1) n;have e2 : dst tQ (dRun tQ d notL) 10 = 2 := by
   rcases hd with rfl | rfl
   ·rw [fQ.2.2.2.2.2.2.1]; exact fQ.2.2.2.2.2.2.2.2.1
   ·rw [fQ.2.2.2.2.2.2.2.1]; exact fQ.2.2.2.2.2.2.2.2.1
  have ih := hitQ hQ hX k (L := r1) (d := 2) (rest := rest) (t := t) (ws := ws) (fun c hc => hL c (by simp [hc])) (fun w hw' => hw w (by rw [h]; rw [h1] at hw'; exact List.mem_cons_of_mem _ hw')) (.inr rfl) h1;simp only [List.append_assoc, List.cons_append, zbi];rw [e1];simp only [dRun, zbi] at ih ⊢;rw [show cls 32 = 10 from rfl, e2];exact ih
theorem hitN {ws : List (List Nat)} : ∀ (k i : Nat) {L : List Nat}, i + k = 5 -> wd [] L = List.replicate (k + 1) notL ++ ws -> ∃ s1 s2, L = s1 ++ s2 /\ dRun tN i s1 = 127
 | 0, i, L, hi, h => by
  obtain ⟨n, L1, rfl, _, _⟩ := zcU (show wd [] L = notL :: ([] ++ ws) from h);obtain rfl : i = 5 := by omega
  refine ⟨List.replicate n 32 ++ [110], [111, 116] ++ L1, by simp [notL], ?_⟩;rw [zbi, zcf (fN.2.1 5 ω) n];exact fN.2.2.2.2
 | k + 1, i, L, hi, h => by
  obtain ⟨n, L1, rfl, _, k1⟩ := zcU (show wd [] L = notL :: (List.replicate (k + 1) notL ++ ws) from h);rcases k1 with ⟨_, z⟩ | ⟨r1, rfl, h1⟩
  ·simp [List.replicate_succ] at z
  obtain ⟨s1, s2, rfl, h2⟩ := hitN k (i + 1) ω h1;refine ⟨List.replicate n 32 ++ (notL ++ 32 :: s1), s2,ς, ?_⟩;rw [zbi, zcf (fN.2.1 i ω) n];have e := fN.2.2.2.1 i ω;rw [show notL ++ 32 :: s1 = [110, 111, 116, 32] ++ s1 from rfl, zbi, e];exact h2
def Fine (s : List Nat) : Prop := ∀ s1 s2, s = s1 ++ s2 -> (dRun tQ 0 s1 ≠ 1 /\ dRun tQ 0 s1 < 32) /\ dRun tN 0 s1 < 32
theorem Ed.fine {b s : List Nat} (e : Ed 2 b s) (hb : bRun 0 b ≠ 127) : Fine s := fun _ _ hs => ⟨noQ e hb hs, fewN e hb hs⟩
def ziD (a b : Nat) : List Nat -> Bool
 | [] => a != 1 && decide (a < 32) && decide (b < 32)
 | c :: l => a != 1 && decide (a < 32) && decide (b < 32) && ziD (dst tQ a (cls c)) (dst tN b (cls c)) l
theorem zfr : ∀ (l : List Nat) (a b : Nat), ziD a b l = true -> ∀ s1 s2, l = s1 ++ s2 -> (dRun tQ a s1 ≠ 1 /\ dRun tQ a s1 < 32) /\ dRun tN b s1 < 32
 | l, a, b, h, [], s2, e => by
  have : (a != 1 && decide (a < 32) && decide (b < 32)) = true := by
   cases l with
   | nil => exact h
   | cons c l => exact (Bool.and_eq_true _ _ ▸ h).1
  simp only [Bool.and_eq_true, bne_iff_ne, decide_eq_true_eq] at this;exact this
 | [], a, b, h, c :: s1, s2, e => by cases e
 | d :: l, a, b, h, c :: s1, s2, e => by
  obtain ⟨rfl, e1⟩ := List.cons.inj (show d :: l = c :: (s1 ++ s2) from e);have h' : ((a != 1 && decide (a < 32) && decide (b < 32)) && ziD (dst tQ a (cls d)) (dst tN b (cls d)) l) = true := h;exact zfr l _ _ (Bool.and_eq_true _ _ ▸ h').2 s1 s2 e1
theorem zlM {l : List Nat} (h : ziD 0 0 l = true) : Fine l := zfr l 0 0 h
theorem Fine.row {u v : List Nat} (f : Fine (u ++ v)) (hu : u = [] \/ ∃ u', u = u' ++ [10]) : Fine v := fun s1 s2 e => by
 have q : dRun tQ 0 u = 0 /\ dRun tN 0 u = 0 := by
  rcases hu with rfl | ⟨u', rfl⟩
  ·exact ⟨rfl, rfl⟩
  ·have h1 := f u' ([10] ++ v) ς;rw [zbi, zbi];exact ⟨fQ.1 _ h1.1.2 h1.1.1, fN.1 _ h1.2⟩
 have h := f (u ++ s1) s2 (by rw [e]; simp);rw [zbi, zbi, q.1, q.2] at h;exact h
theorem Fine.pre {u v : List Nat} (f : Fine (u ++ v)) : Fine u := fun s1 s2 e => f s1 (s2 ++ v) (by rw [e]; simp)
theorem preQ : ∀ p : List Nat, (∀ c ∈ p, c = 32 \/ c = 124) -> dRun tQ 0 p = 0 /\ dRun tN 0 p = 0
 | [], _ => ⟨rfl, rfl⟩
 | c :: p, h => by
  have ih := preQ p fun x hx => h x (List.mem_cons_of_mem _ hx);show dRun tQ (dst tQ 0 (cls c)) p = 0 /\ dRun tN (dst tN 0 (cls c)) p = 0;rcases h c List.mem_cons_self with rfl | rfl
  ·rw [show cls 32 = 10 from rfl, fQ.2.1, fN.2.1 0 ω]; exact ih
  ·rw [show cls 124 = 11 from rfl, fQ.2.2.2.2.2.1, fN.2.2.1]; exact ih
theorem zjV {p L v : List Nat} (f : Fine (p ++ (L ++ 59 :: v))) (hp : ∀ c ∈ p, c = 32 \/ c = 124) (hL : ∀ c ∈ L, cls c <= 10) (hw : ∀ w ∈ wd [] L, ∀ c ∈ w, cls c <= 9)
  {Qw Xw t : List Nat} {ws : List (List Nat)} (hQ : Qw = [97, 108, 108] \/ Qw = [115, 111, 109, 101]) (hX : ∃ c r, Xw = c :: r /\ cls c = 9) (k : Nat) : wd [] L ≠ List.replicate k notL ++ (Qw :: Xw :: t :: ws) := fun z => by
 have h := hitQ hQ hX k (rest := []) hL hw (.inl rfl) z;have n := (f (p ++ (L ++ 59 :: [])) v ς).1;rw [zbi, (preQ p hp).1] at n;exact n.1 h
theorem zjW {p L v : List Nat} (f : Fine (p ++ (L ++ v))) (hp : ∀ c ∈ p, c = 32 \/ c = 124) {ws : List (List Nat)} (k : Nat) (h : wd [] L = List.replicate k notL ++ ws) : k <= 5 := by
 refine yax fun n => ?_;have h' : wd [] L = List.replicate (5 + 1) notL ++ (List.replicate (k - 6) notL ++ ws) := by
  rw [h, <- List.append_assoc, List.replicate_append_replicate]
  congr 2
  omega
 obtain ⟨s1, s2, rfl, h2⟩ := hitN 5 0 rfl h';have m := (f (p ++ s1) (s2 ++ v) ς).2;rw [zbi, (preQ p hp).2, h2] at m;omega
section
variable {X : Cx} {o : Expr} {to ta : TE} {a b : Str} {apos cpos p1 p2 pos q : Pos} {k1 k2 j : Nat} {v : Expr} {r : R2} {i : Int}
theorem zlN (hr : IxR X r) (ha : PE X v ta) (hs : zhN (.Constant (.int i) j q)) : PEb X (.Subscript v (.Constant (.int i) j q) pos) (tOp r ta (tC (.int i))) := by
 intro Qa s σ H Q I h;refine Subscript_ (thn (ha Qa s σ H _ I h) fun x s1 ⟨vx, H1, I1, r1, q1⟩ => wpAny_Constant_int ?_);exact znz (by show 1 <= s1.toks + 1; omega) (hr v (.Constant (.int i) j q) Qa _ σ H1 vx (.int i) x _ Q (I1.tok _) r1 ⟨_, rfl⟩ q1 (hs _ _))
def zkH (a b : Str) (to : TE) : TE := fun σ H Q => to σ H fun v H1 => ∃ x, v = .str x /\ x.length <= 1000000 /\ Q (.str (Txt.replace x a b)) H1
theorem zlO {σ : St} {H : Hp} {Q : VK} : zkH a b to σ H Q = to σ H fun v H1 => ∃ x, v = .str x /\ x.length <= 1000000 /\ Q (.str (Txt.replace x a b)) H1 := rfl
theorem zjX (ho : PEb X o to) (ne : (a == b) = false) (hb : b.length <= 10)
  (hbase : attributeBase o "replace" X.env (eval o X.env) = eval o X.env := by rfl)
  (hfew : ((backTo cpos (starEach [.Constant (.str a) k1 p1, .Constant (.str b) k2 p2] X.env)).all (fun x => !x.1) && (backToKw cpos (keywordEach [] X.env)).all (fun x => x.1.isSome)
   && decide (([.Constant (.str a) k1 p1, .Constant (.str b) k2 p2] : List Expr).length + ([] : List Keyword).length + (if ([] : List Keyword).isEmpty then 0 else 1) < 30)) = true := by rfl)
  (hline : (apos.endLine == cpos.line) = true := by rfl)
  (hs1 : starEach [.Constant (.str a) k1 p1, .Constant (.str b) k2 p2] X.env = [(false, eval (.Constant (.str a) k1 p1) X.env), (false, eval (.Constant (.str b) k2 p2) X.env)] := by rfl) :
  PE X (.Call (.Attribute o "replace" apos) [.Constant (.str a) k1 p1, .Constant (.str b) k2 p2] [] cpos) (zkH a b to) := by
 intro Qa s σ H Q I h;refine wpAny_Call_method_late hbase hfew hline rfl (thn (ho Qa s σ H _ I h) fun v s1 ⟨ht, vx, H1, I1, r1, x, ex, hx, q1⟩ => ?_);subst ex;obtain ⟨t, rfl⟩ := r1;refine ⟨"str", "str.replace", F.plainAttrs_str, F.slot_str_replace, F.type_str_replace, typeIs_str _ _ _, (fun _ z => nomatch z), ?_⟩;rw [hs1];refine Calls.callWith_builtin rfl (Calls.evalArgs_plain ?_);refine Calls.spliced_cons (Calls.Constant_str (k := k1) (pos := p1) ?_);refine Calls.spliced_cons (Calls.Constant_str (k := k2) (pos := p2) ?_);refine Calls.spliced_nil ?_;refine SC.replace (Nat.ne_of_gt ht) (Nat.succ_ne_zero _) (Nat.ne_of_lt (Nat.lt_succ_self _)) ne ?_ fun t' k => ?_
 ·have : (x.length + 1) * b.length <= 1000001 * 10 := Nat.mul_le_mul ω hb;omega
 ·exact ⟨.str _, H1, I1.tok _, ⟨t', rfl⟩, q1⟩
end
theorem ziE {x : Str} {c : Nat} {r : Str} (h : r ∈ Txt.split x ⟨#[c]⟩) : ∃ u v, x.cps.toList = u ++ (r.cps.toList ++ v) /\ (u = [] \/ ∃ u', u = u' ++ [c]) := by
 have e : Str.join ⟨#[c]⟩ (Txt.split x ⟨#[c]⟩) = x := StrLaws.join_split x ⟨#[c]⟩;have key : ∀ {l : List Str}, r ∈ l -> ∃ u v, (Str.join ⟨#[c]⟩ l).cps.toList = u ++ (r.cps.toList ++ v) /\ (u = [] \/ ∃ u', u = u' ++ [c]) := by
  intro l
  induction l with
  | nil => intro h; simp at h
  | cons a l ih =>
   intro h
   by_cases hl : l = []
   ·subst hl;rw [yah.mp h];exact ⟨[], [], by simp [Str.join], .inl rfl⟩
   ·have e2 := zbr c a hl;rcases yau.mp h with rfl | h
    ·exact ⟨[], _, e2, .inl rfl⟩
    ·obtain ⟨u, v, e3, hu⟩ := ih h;refine ⟨a.cps.toList ++ c :: u, v, by rw [e2, e3]; simp, .inr ?_⟩;rcases hu with rfl | ⟨u', rfl⟩
     ·exact ⟨a.cps.toList, rfl⟩
     ·exact ⟨a.cps.toList ++ c :: u',ς⟩
 have := key h;rw [e] at this;exact this
theorem zdm {x : Str} {c : Nat} {r : Str} (h : r ∈ Txt.split x ⟨#[c]⟩) {d : Nat} (hd : d ∈ r.cps.toList) : d ∈ x.cps.toList := by
 obtain ⟨u, v, e, _⟩ := ziE h;rw [e];simp [hd]
def goB (c : Nat) : Bool := decide (c = 32) || decide (c = 124)
theorem zeB (x : Str) : (Txt.lstripChars x (Str.ofString " |")).cps.toList = x.cps.toList.dropWhile goB := by
 have goes : ∀ d, (Str.ofString " |").cps.contains d = goB d := fun d => by
  have : (Str.ofString " |").cps = #[32, 124] := rfl;rw [this]; unfold goB; simp
 have eg : (Str.ofString " |").cps.contains = goB := funext goes;show (Txt.stripBy (Str.ofString " |").cps.contains true false x).cps.toList = _;rw [eg, stripBy_eq];have lo : stripLo goB true x = (x.cps.toList.takeWhile goB).length := by unfold stripLo; rw [if_pos rfl]
 have hi : ∀ n, stripHi goB false x n = x.length := fun n => rfl;rw [lo, hi, StrLaws.strSub_toList];have e := List.takeWhile_append_dropWhile (p := goB) (l := x.cps.toList);have e2 : x.cps.toList.drop (x.cps.toList.takeWhile goB).length = x.cps.toList.dropWhile goB := by
  have : (x.cps.toList.takeWhile goB ++ x.cps.toList.dropWhile goB).drop (x.cps.toList.takeWhile goB).length = x.cps.toList.dropWhile goB := List.drop_left;rw [e] at this;exact this
 rw [e2, List.take_of_length_le];have := congrArg List.length e;rw [yae, zaA] at this;omega
theorem znZ {p : Prop} [Decidable p] {a b n : Nat} (ha : n <= a) (hb : n <= b) : n <= (if p then a else b) := by
 by_cases h : p
 ·rw [if_pos h]; exact ha
 ·rw [if_neg h]; exact hb
theorem zbX (c : Nat) : (cls c = 0 -> c = 110) /\ (cls c = 1 -> c = 111) /\ (cls c = 2 -> c = 116) /\ (cls c = 3 -> c = 97) /\ (cls c = 4 -> c = 108) /\ (cls c = 5 -> c = 115) /\ (cls c = 6 -> c = 109) /\ (cls c = 7 -> c = 101) := by
 by_cases a0 : c = 110
 ·subst a0; decide
 by_cases a1 : c = 111
 ·subst a1; decide
 by_cases a2 : c = 116
 ·subst a2; decide
 by_cases a3 : c = 97
 ·subst a3; decide
 by_cases a4 : c = 108
 ·subst a4; decide
 by_cases a5 : c = 115
 ·subst a5; decide
 by_cases a6 : c = 109
 ·subst a6; decide
 by_cases a7 : c = 101
 ·subst a7; decide
 have h : 8 <= cls c := by
  unfold cls;rw [if_neg a0, if_neg a1, if_neg a2, if_neg a3, if_neg a4, if_neg a5, if_neg a6, if_neg a7]
  repeat (refine znZ δ ?_)
  decide
 refine ⟨?_, ?_, ?_, ?_, ?_, ?_, ?_, ?_⟩ <;> (intro z; omega)
def okL (q : Nat) : Bool := decide (q <= 33) || q == 38 || q == 39
def zcg (q c : Nat) : Bool :=
 let r := bst q c
 (!(decide (16 <= r /\ r <= 18)) || (decide (13 <= q /\ q <= 15) && c == 2)) && (!(decide (13 <= r /\ r <= 15)) || (decide (10 <= q /\ q <= 12) && c == 1)) && (!(decide (10 <= r /\ r <= 12)) || ((q == 0 || q == 38 || q == 39) && c == 0))
 && (!(decide (7 <= r /\ r <= 9)) || (decide (4 <= q /\ q <= 6) && c == 4)) && (!(decide (4 <= r /\ r <= 6)) || (decide (1 <= q /\ q <= 3) && c == 4)) && (!(decide (1 <= r /\ r <= 3)) || ((q == 0 || q == 38 || q == 39) && c == 3))
 && (!(decide (28 <= r /\ r <= 30)) || (decide (25 <= q /\ q <= 27) && c == 7)) && (!(decide (25 <= r /\ r <= 27)) || (decide (22 <= q /\ q <= 24) && c == 6)) && (!(decide (22 <= r /\ r <= 24)) || (decide (19 <= q /\ q <= 21) && c == 1)) && (!(decide (19 <= r /\ r <= 21)) || ((q == 0 || q == 38 || q == 39) && c == 5))
 && !(r == 0 || r == 38 || r == 39 || r == 43) && (!(r == 36) || (q == 35 && c == 2)) && (!(r == 35) || (q == 34 && c == 1)) && (!(r == 34) || (q == 43 && c == 0))
 && (!(okL q) || decide (1 <= r /\ r <= 33)) && (!(decide (34 <= q /\ q <= 37) || q == 43) || decide (34 <= r /\ r <= 37))
theorem zjY : (allN 44 fun q => allN 9 fun c => zcg q c) = true := by decide +kernel
theorem back {q c : Nat} (hq : q < 44) (hc : cls c <= 8) : zcg q (cls c) = true := zbu (zbu zjY q hq) _ ω
theorem endL : (allN 34 fun q => q == 0 || (decide (7 <= q /\ q <= 9) || decide (16 <= q /\ q <= 18) || decide (28 <= q /\ q <= 30)) || bst q 10 == 41) = true := by decide +kernel
theorem endR : (allN 38 fun q => decide (q < 34) || q == 36 || (bst q 10 == 43 && bst q 13 == 0)) = true := by decide +kernel
theorem runL : ∀ (w : List Nat) (q : Nat), (∀ c ∈ w, cls c <= 8) -> okL q = true -> w ≠ [] -> 1 <= bRun q w /\ bRun q w <= 33
 | [], _, _, _, h => absurd rfl h
 | c :: w, q, hw, hq, _ => by
  have hq44 : q < 44 := by unfold okL at hq; simp at hq; omega
  have hb := back hq44 (hw c List.mem_cons_self);unfold zcg at hb;simp only [Bool.and_eq_true, Bool.or_eq_true, Bool.not_eq_true', hq, decide_eq_true_eq] at hb;have h1 : 1 <= bst q (cls c) /\ bst q (cls c) <= 33 := by
   rcases hb.1.2 with z | z
   ·cases z
   ·exact z
  have e : bRun q (c :: w) = bRun (bst q (cls c)) w := by
   show (if bst q (cls c) = 127 then 127 else bRun (bst q (cls c)) w) = _;rw [if_neg ω]
  rw [e]
  by_cases hn : w = []
  ·subst hn; exact h1
  ·exact runL w _ (fun d hd => hw d (List.mem_cons_of_mem _ hd)) (by unfold okL; rw [ya9 h1.2]; rfl) hn
theorem runR : ∀ (w : List Nat) (q : Nat), (∀ c ∈ w, cls c <= 8) -> (34 <= q /\ q <= 37 \/ q = 43) -> w ≠ [] -> 34 <= bRun q w /\ bRun q w <= 37
 | [], _, _, _, h => absurd rfl h
 | c :: w, q, hw, hq, _ => by
  have hq44 : q < 44 := by omega
  have hb := back hq44 (hw c List.mem_cons_self);unfold zcg at hb;have hq' : (decide (34 <= q /\ q <= 37) || q == 43) = true := by simpa using hq
  simp only [Bool.and_eq_true, Bool.or_eq_true, Bool.not_eq_true', hq', decide_eq_true_eq] at hb;have h1 : 34 <= bst q (cls c) /\ bst q (cls c) <= 37 := by
   rcases hb.2 with z | z
   ·cases z
   ·exact z
  have e : bRun q (c :: w) = bRun (bst q (cls c)) w := by
   show (if bst q (cls c) = 127 then 127 else bRun (bst q (cls c)) w) = _;rw [if_neg ω]
  rw [e]
  by_cases hn : w = []
  ·subst hn; exact h1
  ·exact runR w _ (fun d hd => hw d (List.mem_cons_of_mem _ hd)) (.inl h1) hn
theorem zaK {q : Nat} {w : List Nat} (hq : q < 44) (hw : ∀ c ∈ w, cls c <= 8) (hr : ∀ v, (∀ c ∈ v, c ∈ w) -> bRun q v < 44) (hn : w ≠ []) : ∃ w' c, w = w' ++ [c] /\ bRun q w = bst (bRun q w') (cls c) /\ zcg (bRun q w') (cls c) = true := by
 refine ⟨w.dropLast, w.getLast hn, (List.dropLast_concat_getLast hn).symm, ?_, ?_⟩
 ·have h1 := hr w fun _ h => h;have h2 := hr w.dropLast fun c h => List.dropLast_subset _ h;have e : bRun q w = bRun q (w.dropLast ++ [w.getLast hn]) := by rw [List.dropLast_concat_getLast hn]
  rw [e] at h1 ⊢;rw [zbK ω] at h1 ⊢;show (if bst _ _ = 127 then 127 else bst _ _) = _
  by_cases z : bst (bRun q w.dropLast) (cls (w.getLast hn)) = 127
  ·have : (if bst (bRun q w.dropLast) (cls (w.getLast hn)) = 127 then 127 else bst (bRun q w.dropLast) (cls (w.getLast hn))) < 44 := h1;rw [if_pos z] at this;omega
  ·rw [if_neg z]
 ·exact back (hr _ fun c h => List.dropLast_subset _ h) (hw _ (List.getLast_mem hn))
theorem zdn {q : Nat} {w : List Nat} (hq : q < 44) (hw : ∀ c ∈ w, cls c <= 8) (hr : ∀ v, (∀ c ∈ v, c ∈ w) -> bRun q v < 44) (h : bRun q w = 0 \/ bRun q w = 38 \/ bRun q w = 39 \/ bRun q w = 43) : w = [] := by
 refine yax fun hn => ?_;obtain ⟨w', c, rfl, e, b⟩ := zaK hq hw hr hn;rw [e] at h;unfold zcg at b;simp only [Bool.and_eq_true, Bool.or_eq_true, Bool.not_eq_true', Bool.or_eq_false_iff, beq_eq_false_iff_ne] at b;have z := b.1.1.1.1.1.2;omega
theorem zjZ {w : List Nat} {q : Nat} (hw : ∀ c ∈ w, cls c <= 8) (hq : q = 0 \/ q = 38 \/ q = 39) (hn : w ≠ []) (h1 : w ≠ [110, 111, 116]) (h2 : w ≠ [97, 108, 108]) (h3 : w ≠ [115, 111, 109, 101]) : bRun q w < 44 /\ bst (bRun q w) 10 = 41 := by
 have hok : okL q = true := by rcases hq with rfl | rfl | rfl <;> rfl
 have hq44 : q < 44 := by omega
 have hr : ∀ u : List Nat, (∀ c ∈ u, cls c <= 8) -> ∀ v, (∀ c ∈ v, c ∈ u) -> bRun q v < 44 := fun u hu v hv => by
  by_cases z : v = []
  ·subst z; exact hq44
  ·have := runL v q (fun c hc => hu c (hv c hc)) hok z;omega
 obtain ⟨r1, r2⟩ := runL w q hw hok hn;refine ⟨ω, ?_⟩;have e := zbu endL (bRun q w) ω;simp only [Bool.or_eq_true, beq_iff_eq, decide_eq_true_eq] at e;rcases e with (e | (e | e) | e) | e
 ·omega
 ·exfalso
  obtain ⟨w1, c1, rfl, e1, b1⟩ := zaK hq44 hw (hr _ hw) hn;rw [e1] at e;unfold zcg at b1;simp only [Bool.and_eq_true, Bool.or_eq_true, Bool.not_eq_true', beq_iff_eq, decide_eq_true_eq, decide_eq_false_iff_not] at b1;have k1 : (4 <= bRun q w1 /\ bRun q w1 <= 6) /\ cls c1 = 4 := by omega
  have hw1 : ∀ c ∈ w1, cls c <= 8 := fun c hc => hw c (by simp [hc]);have n1 : w1 ≠ [] := by rintro rfl; have : bRun q [] = q := rfl; omega
  obtain ⟨w2, c2, rfl, e2, b2⟩ := zaK hq44 hw1 (hr _ hw1) n1;rw [e2] at k1;unfold zcg at b2;simp only [Bool.and_eq_true, Bool.or_eq_true, Bool.not_eq_true', beq_iff_eq, decide_eq_true_eq, decide_eq_false_iff_not] at b2;have k2 : (1 <= bRun q w2 /\ bRun q w2 <= 3) /\ cls c2 = 4 := by omega
  have hw2 : ∀ c ∈ w2, cls c <= 8 := fun c hc => hw1 c (by simp [hc]);have n2 : w2 ≠ [] := by rintro rfl; have : bRun q [] = q := rfl; omega
  obtain ⟨w3, c3, rfl, e3, b3⟩ := zaK hq44 hw2 (hr _ hw2) n2;rw [e3] at k2;unfold zcg at b3;simp only [Bool.and_eq_true, Bool.or_eq_true, Bool.not_eq_true', beq_iff_eq, decide_eq_true_eq, decide_eq_false_iff_not] at b3;have k3 : (bRun q w3 = 0 \/ bRun q w3 = 38 \/ bRun q w3 = 39) /\ cls c3 = 3 := by omega
  have hw3 : ∀ c ∈ w3, cls c <= 8 := fun c hc => hw2 c (by simp [hc]);obtain rfl := zdn hq44 hw3 (hr _ hw3) ω;rw [(zbX c1).2.2.2.2.1 k1.2, (zbX c2).2.2.2.2.1 k2.2, (zbX c3).2.2.2.1 k3.2] at h2;exact h2 rfl
 ·exfalso
  obtain ⟨w1, c1, rfl, e1, b1⟩ := zaK hq44 hw (hr _ hw) hn;rw [e1] at e;unfold zcg at b1;simp only [Bool.and_eq_true, Bool.or_eq_true, Bool.not_eq_true', beq_iff_eq, decide_eq_true_eq, decide_eq_false_iff_not] at b1;have k1 : (13 <= bRun q w1 /\ bRun q w1 <= 15) /\ cls c1 = 2 := by omega
  have hw1 : ∀ c ∈ w1, cls c <= 8 := fun c hc => hw c (by simp [hc]);have n1 : w1 ≠ [] := by rintro rfl; have : bRun q [] = q := rfl; omega
  obtain ⟨w2, c2, rfl, e2, b2⟩ := zaK hq44 hw1 (hr _ hw1) n1;rw [e2] at k1;unfold zcg at b2;simp only [Bool.and_eq_true, Bool.or_eq_true, Bool.not_eq_true', beq_iff_eq, decide_eq_true_eq, decide_eq_false_iff_not] at b2;have k2 : (10 <= bRun q w2 /\ bRun q w2 <= 12) /\ cls c2 = 1 := by omega
  have hw2 : ∀ c ∈ w2, cls c <= 8 := fun c hc => hw1 c (by simp [hc]);have n2 : w2 ≠ [] := by rintro rfl; have : bRun q [] = q := rfl; omega
  obtain ⟨w3, c3, rfl, e3, b3⟩ := zaK hq44 hw2 (hr _ hw2) n2;rw [e3] at k2;unfold zcg at b3;simp only [Bool.and_eq_true, Bool.or_eq_true, Bool.not_eq_true', beq_iff_eq, decide_eq_true_eq, decide_eq_false_iff_not] at b3;have k3 : (bRun q w3 = 0 \/ bRun q w3 = 38 \/ bRun q w3 = 39) /\ cls c3 = 0 := by omega
  have hw3 : ∀ c ∈ w3, cls c <= 8 := fun c hc => hw2 c (by simp [hc]);obtain rfl := zdn hq44 hw3 (hr _ hw3) ω;rw [(zbX c1).2.2.1 k1.2, (zbX c2).2.1 k2.2, (zbX c3).1 k3.2] at h1;exact h1 rfl
 ·exfalso
  obtain ⟨w0, c0, rfl, e0, b0⟩ := zaK hq44 hw (hr _ hw) hn;rw [e0] at e;unfold zcg at b0;simp only [Bool.and_eq_true, Bool.or_eq_true, Bool.not_eq_true', beq_iff_eq, decide_eq_true_eq, decide_eq_false_iff_not] at b0;have k0 : (25 <= bRun q w0 /\ bRun q w0 <= 27) /\ cls c0 = 7 := by omega
  have hw0 : ∀ c ∈ w0, cls c <= 8 := fun c hc => hw c (by simp [hc]);have n0 : w0 ≠ [] := by rintro rfl; have : bRun q [] = q := rfl; omega
  obtain ⟨w1, c1, rfl, e1, b1⟩ := zaK hq44 hw0 (hr _ hw0) n0;rw [e1] at k0;unfold zcg at b1;simp only [Bool.and_eq_true, Bool.or_eq_true, Bool.not_eq_true', beq_iff_eq, decide_eq_true_eq, decide_eq_false_iff_not] at b1;have k1 : (22 <= bRun q w1 /\ bRun q w1 <= 24) /\ cls c1 = 6 := by omega
  have hw1 : ∀ c ∈ w1, cls c <= 8 := fun c hc => hw0 c (by simp [hc]);have n1 : w1 ≠ [] := by rintro rfl; have : bRun q [] = q := rfl; omega
  obtain ⟨w2, c2, rfl, e2, b2⟩ := zaK hq44 hw1 (hr _ hw1) n1;rw [e2] at k1;unfold zcg at b2;simp only [Bool.and_eq_true, Bool.or_eq_true, Bool.not_eq_true', beq_iff_eq, decide_eq_true_eq, decide_eq_false_iff_not] at b2;have k2 : (19 <= bRun q w2 /\ bRun q w2 <= 21) /\ cls c2 = 1 := by omega
  have hw2 : ∀ c ∈ w2, cls c <= 8 := fun c hc => hw1 c (by simp [hc]);have n2 : w2 ≠ [] := by rintro rfl; have : bRun q [] = q := rfl; omega
  obtain ⟨w3, c3, rfl, e3, b3⟩ := zaK hq44 hw2 (hr _ hw2) n2;rw [e3] at k2;unfold zcg at b3;simp only [Bool.and_eq_true, Bool.or_eq_true, Bool.not_eq_true', beq_iff_eq, decide_eq_true_eq, decide_eq_false_iff_not] at b3;have k3 : (bRun q w3 = 0 \/ bRun q w3 = 38 \/ bRun q w3 = 39) /\ cls c3 = 5 := by omega
  have hw3 : ∀ c ∈ w3, cls c <= 8 := fun c hc => hw2 c (by simp [hc]);obtain rfl := zdn hq44 hw3 (hr _ hw3) ω;rw [(zbX c0).2.2.2.2.2.2.2 k0.2, (zbX c1).2.2.2.2.2.2.1 k1.2, (zbX c2).2.1 k2.2, (zbX c3).2.2.2.2.2.1 k3.2] at h3;exact h3 rfl
 ·exact e
theorem ziF {w : List Nat} (hw : ∀ c ∈ w, cls c <= 8) (hn : w ≠ []) (h1 : w ≠ [110, 111, 116]) : bRun 43 w < 44 /\ bst (bRun 43 w) 10 = 43 /\ bst (bRun 43 w) 13 = 0 := by
 have hr : ∀ u : List Nat, (∀ c ∈ u, cls c <= 8) -> ∀ v, (∀ c ∈ v, c ∈ u) -> bRun 43 v < 44 := fun u hu v hv => by
  by_cases z : v = []
  ·subst z; decide
  ·have := runR v 43 (fun c hc => hu c (hv c hc)) (.inr rfl) z;omega
 obtain ⟨r1, r2⟩ := runR w 43 hw (.inr rfl) hn;refine ⟨ω, ?_⟩;have e := zbu endR (bRun 43 w) ω;simp only [Bool.or_eq_true, Bool.and_eq_true, beq_iff_eq, decide_eq_true_eq] at e;rcases e with (e | e) | e
 ·omega
 ·exfalso
  have hq44 : 43 < 44 := by decide
  obtain ⟨w1, c1, rfl, e1, b1⟩ := zaK hq44 hw (hr _ hw) hn;rw [e1] at e;unfold zcg at b1;simp only [Bool.and_eq_true, Bool.or_eq_true, Bool.not_eq_true', beq_iff_eq, decide_eq_true_eq, beq_eq_false_iff_ne] at b1;have k1 : bRun 43 w1 = 35 /\ cls c1 = 2 := by omega
  have hw1 : ∀ c ∈ w1, cls c <= 8 := fun c hc => hw c (by simp [hc]);have n1 : w1 ≠ [] := by rintro rfl; have : bRun 43 [] = 43 := rfl; omega
  obtain ⟨w2, c2, rfl, e2, b2⟩ := zaK hq44 hw1 (hr _ hw1) n1;rw [e2] at k1;unfold zcg at b2;simp only [Bool.and_eq_true, Bool.or_eq_true, Bool.not_eq_true', beq_iff_eq, decide_eq_true_eq, beq_eq_false_iff_ne] at b2;have k2 : bRun 43 w2 = 34 /\ cls c2 = 1 := by omega
  have hw2 : ∀ c ∈ w2, cls c <= 8 := fun c hc => hw1 c (by simp [hc]);have n2 : w2 ≠ [] := by rintro rfl; have : bRun 43 [] = 43 := rfl; omega
  obtain ⟨w3, c3, rfl, e3, b3⟩ := zaK hq44 hw2 (hr _ hw2) n2;rw [e3] at k2;unfold zcg at b3;simp only [Bool.and_eq_true, Bool.or_eq_true, Bool.not_eq_true', beq_iff_eq, decide_eq_true_eq, beq_eq_false_iff_ne] at b3;have k3 : bRun 43 w3 = 43 /\ cls c3 = 0 := by omega
  have hw3 : ∀ c ∈ w3, cls c <= 8 := fun c hc => hw2 c (by simp [hc]);obtain rfl := zdn hq44 hw3 (hr _ hw3) ω;rw [(zbX c1).2.2.1 k1.2, (zbX c2).2.1 k2.2, (zbX c3).1 k3.2] at h1;exact h1 rfl
 ·exact e
end L2
namespace L2
open PySem
theorem i0 {x : V} {r : List V} : atI (x :: r) 0 = some x := zaI (j := 0) rfl
theorem i1 {x y : V} {r : List V} : atI (x :: y :: r) 1 = some y := zaI (j := 1) rfl
theorem i2 {x y z : V} {r : List V} : atI (x :: y :: z :: r) 2 = some z := zaI (j := 2) rfl
theorem i3 {x y z u : V} {r : List V} : atI (x :: y :: z :: u :: r) 3 = some u := zaI (j := 3) rfl
end L2
namespace L2
open PySem PySem.Spec PyProof.Rows
abbrev CB (K : W.Frag) (mg : Str -> Option Value) (n : Str) (a : Addr) (d : FuncData) (ps : List Str) : Prop := mg n = some (.ref a) /\ W.keepIn K (.ref a) = true /\ Binds K d ps []
theorem YC {X : Cx} {k : Nat} {f : Addr} {fd : FuncData} {ps : List Str} {sp : Sp} {x : Str} {p pos : Pos} {e : Expr} {es : List Expr} {t : TA} (F : FnOk X.prog X.w X.K X.mg X.base CX0 k f fd ps sp) (hr : Room k X.A) (hg : Gl X x) (hB : CB X.K X.mg x f fd ps) (ha : PA X (e :: es) t) (hdb : (x == ("__debug__" : Str)) = false := by decide) (he : starEach (e :: es) X.env = (false, eval e X.env) :: starEach es X.env := by rfl) (hpl : (backTo pos (starEach es X.env)).any (·.1) = false := by rfl) : PE X (.Call (.Name x p) (e :: es) [] pos) (zkU sp [] E0 t) := zav F hr hg hB.1 hB.2.1 hB.2.2 .nil zaJ ha hdb he hpl
abbrev FU (K : W.Frag) (n : Str) (s : Stmt) (a : Addr) (d : FuncData) : Prop := Fun K n n s a d
end L2
namespace K27
open PySem L2
def top (i : Nat) : Stmt := PySem.Challenge.pw_boxproof_k27_texts_of_lines_read.main.body.getD i (.Pass ⟨0, 0, 0, 0⟩)
abbrev zb2 : Stmt := top 11
abbrev zb3 : Stmt := top 12
abbrev zaS : Stmt := top 13
abbrev zat : Stmt := top 22
abbrev zb4 : Stmt := top 23
abbrev zaT : Stmt := top 24
abbrev zb5 : Stmt := top 25
abbrev zb6 : Stmt := top 32
abbrev zcG : Stmt := top 34
abbrev za3 : Stmt := top 35
abbrev zaC : Stmt := top 36
abbrev zaU : Stmt := top 37
abbrev zaL : Stmt := top 38
abbrev zaV : Stmt := top 39
abbrev zaM : Stmt := top 41
abbrev zaW : Stmt := top 42
abbrev zb7 : Stmt := top 43
abbrev za4 : Stmt := top 44
abbrev zbk : Stmt := top 45
abbrev zaX : Stmt := top 47
abbrev zb8 : Stmt := top 48
abbrev zaY : Stmt := top 49
abbrev za9 : Stmt := top 50
abbrev zbM : Stmt := top 52
abbrev zbl : Stmt := top 53
abbrev zbm : Stmt := top 54
abbrev zaN : Stmt := top 55
abbrev zaZ : Stmt := top 56
abbrev zba : Stmt := top 57
abbrev zbn : Stmt := top 58
abbrev za5 : Stmt := top 59
abbrev zbb : Stmt := top 60
abbrev za0 : Stmt := top 61
abbrev zaP : Stmt := top 62
abbrev zeC : Stmt := top 63
abbrev zbc : Stmt := zes (top 33) 0
abbrev zaO : Stmt := zes (top 33) 1
abbrev zbd : Stmt := zes (top 33) 2
abbrev zbe : Stmt := zes (top 33) 3
set_option genInjectivity false in
set_option genSizeOf false in
structure Defs where
 (a_c9 : Addr) (d_c9 : FuncData)
 (a_d0 : Addr) (d_d0 : FuncData)
 (a_b8 : Addr) (d_b8 : FuncData)
 (a_a0 : Addr) (d_a0 : FuncData)
 (a_d4 : Addr) (d_d4 : FuncData)
 (a_c4 : Addr) (d_c4 : FuncData)
 (a_d2 : Addr) (d_d2 : FuncData)
 (a_d1 : Addr) (d_d1 : FuncData)
 (a_d7 : Addr) (d_d7 : FuncData)
 (a_a1 : Addr) (d_a1 : FuncData)
 (a_a6 : Addr) (d_a6 : FuncData)
 (a_c0 : Addr) (d_c0 : FuncData)
 (a_a8 : Addr) (d_a8 : FuncData)
 (a_b2 : Addr) (d_b2 : FuncData)
 (a_b0 : Addr) (d_b0 : FuncData)
 (a_c3 : Addr) (d_c3 : FuncData)
 (a_d5 : Addr) (d_d5 : FuncData)
 (a_a3 : Addr) (d_a3 : FuncData)
 (a_c7 : Addr) (d_c7 : FuncData)
 (a_b5 : Addr) (d_b5 : FuncData)
 (a_d3 : Addr) (d_d3 : FuncData)
 (a_b6 : Addr) (d_b6 : FuncData)
 (a_a5 : Addr) (d_a5 : FuncData)
 (a_d6 : Addr) (d_d6 : FuncData)
 (a_c5 : Addr) (d_c5 : FuncData)
 (a_c6 : Addr) (d_c6 : FuncData)
 (a_a9 : Addr) (d_a9 : FuncData)
 (a_b7 : Addr) (d_b7 : FuncData)
 (a_b4 : Addr) (d_b4 : FuncData)
 (a_c8 : Addr) (d_c8 : FuncData)
 (a_a4 : Addr) (d_a4 : FuncData)
 (a_c1 : Addr) (d_c1 : FuncData)
 (a_a2 : Addr) (d_a2 : FuncData)
 (a_b3 : Addr) (d_b3 : FuncData)
 (a_d8 : Addr) (d_d8 : FuncData)
 (a_b9 : Addr) (d_b9 : FuncData)
 (a_a7 : Addr) (d_a7 : FuncData)
 (a_b1 : Addr) (d_b1 : FuncData)
 (a_c2 : Addr) (d_c2 : FuncData)
 (k_KEPT_WORDS : Addr)
 (k_PAIRS : Addr)
 (k_QUANTIFIERS : Addr)
 (x_BoxError : Addr)
 (x_NoStatement : Addr)
 (x_NoName : Addr)
 (x_NoWorld : Addr)
 (x_NoBox : Addr)
 (x_NoLines : Addr)
 (x_NotShut : Addr)
 (C_Runs : Addr)
set_option genInjectivity false in
set_option genSizeOf false in
structure Tx (K : W.Frag) (mg : Str -> Option Value) (D : Defs) : Prop where
 F_c9 : FU K "rows_in" zb2 D.a_c9 D.d_c9
 m_c9 : CB K mg "rows_in" D.a_c9 D.d_c9 ["text"]
 F_d0 : FU K "runs_in" zb3 D.a_d0 D.d_d0
 m_d0 : CB K mg "runs_in" D.a_d0 D.d_d0 ["row"]
 F_b8 : FU K "is_number" zaS D.a_b8 D.d_b8
 m_b8 : CB K mg "is_number" D.a_b8 D.d_b8 ["text"]
 F_a0 : FU K "begins_and_goes_on" zat D.a_a0 D.d_a0
 m_a0 : CB K mg "begins_and_goes_on" D.a_a0 D.d_a0 ["text", "first_signs"]
 F_d4 : FU K "is_name" zb4 D.a_d4 D.d_d4
 m_d4 : CB K mg "is_name" D.a_d4 D.d_d4 ["text"]
 F_c4 : FU K "is_letter" zaT D.a_c4 D.d_c4
 m_c4 : CB K mg "is_letter" D.a_c4 D.d_c4 ["text"]
 F_d2 : FU K "is_word" zb5 D.a_d2 D.d_d2
 m_d2 : CB K mg "is_word" D.a_d2 D.d_d2 ["text"]
 F_d1 : FU K "runs_of" zb6 D.a_d1 D.d_d1
 m_d1 : CB K mg "runs_of" D.a_d1 D.d_d1 ["text"]
 F_d7 : FU K "read" zcG D.a_d7 D.d_d7
 m_d7 : CB K mg "read" D.a_d7 D.d_d7 ["text"]
 F_a1 : FU K "take_statement" za3 D.a_a1 D.d_a1
 m_a1 : CB K mg "take_statement" D.a_a1 D.d_a1 ["runs", "room"]
 F_a6 : FU K "take_letter" zaC D.a_a6 D.d_a6
 m_a6 : CB K mg "take_letter" D.a_a6 D.d_a6 ["runs"]
 F_c0 : FU K "take_pair" zaU D.a_c0 D.d_c0
 m_c0 : CB K mg "take_pair" D.a_c0 D.d_c0 ["runs", "room"]
 F_a8 : FU K "take_terms" zaL D.a_a8 D.d_a8
 m_a8 : CB K mg "take_terms" D.a_a8 D.d_a8 ["runs"]
 F_b2 : FU K "take_term" zaV D.a_b2 D.d_b2
 m_b2 : CB K mg "take_term" D.a_b2 D.d_b2 ["runs"]
 F_b0 : FU K "read_lines" zaM D.a_b0 D.d_b0
 m_b0 : CB K mg "read_lines" D.a_b0 D.d_b0 ["text"]
 F_c3 : FU K "read_line" zaW D.a_c3 D.d_c3
 m_c3 : CB K mg "read_line" D.a_c3 D.d_c3 ["row"]
 F_d5 : FU K "is_rule" zb7 D.a_d5 D.d_d5
 m_d5 : CB K mg "is_rule" D.a_d5 D.d_d5 ["text"]
 F_a3 : FU K "read_statement" za4 D.a_a3 D.d_a3
 m_a3 : CB K mg "read_statement" D.a_a3 D.d_a3 ["text", "rule"]
 F_c7 : FU K "read_ref" zbk D.a_c7 D.d_c7
 m_c7 : CB K mg "read_ref" D.a_c7 D.d_c7 ["run"]
 F_b5 : FU K "_law_cell_at" zaX D.a_b5 D.d_b5
 m_b5 : CB K mg "_law_cell_at" D.a_b5 D.d_b5 ["_law_script", "_law_k"]
 F_d3 : FU K "_law_mixed" zb8 D.a_d3 D.d_d3
 m_d3 : CB K mg "_law_mixed" D.a_d3 D.d_d3 ["_law_script", "_law_k"]
 F_b6 : FU K "_law_name_by" zaY D.a_b6 D.d_b6
 m_b6 : CB K mg "_law_name_by" D.a_b6 D.d_b6 ["_law_number", "_law_firsts", "_law_turn"]
 F_a5 : FU K "_law_thing_name" za9 D.a_a5 D.d_a5
 m_a5 : CB K mg "_law_thing_name" D.a_a5 D.d_a5 ["_law_base", "_law_turn"]
 F_d6 : FU K "_law_word" zbM D.a_d6 D.d_d6
 m_d6 : CB K mg "_law_word" D.a_d6 D.d_d6 ["_law_base", "_law_turn"]
 F_c5 : FU K "_law_row_by" zbl D.a_c5 D.d_c5
 m_c5 : CB K mg "_law_row_by" D.a_c5 D.d_c5 ["_law_number", "_law_base"]
 F_c6 : FU K "_law_spoilt" zbm D.a_c6 D.d_c6
 m_c6 : CB K mg "_law_spoilt" D.a_c6 D.d_c6 ["_law_text", "_law_cell"]
 F_a9 : FU K "_law_odd_text" zaN D.a_a9 D.d_a9
 m_a9 : CB K mg "_law_odd_text" D.a_a9 D.d_a9 ["_law_cell"]
 F_b7 : FU K "_law_is_word" zaZ D.a_b7 D.d_b7
 m_b7 : CB K mg "_law_is_word" D.a_b7 D.d_b7 ["_law_word_here"]
 F_b4 : FU K "_law_is_name" zba D.a_b4 D.d_b4
 m_b4 : CB K mg "_law_is_name" D.a_b4 D.d_b4 ["_law_word_here"]
 F_c8 : FU K "_law_ref_in" zbn D.a_c8 D.d_c8
 m_c8 : CB K mg "_law_ref_in" D.a_c8 D.d_c8 ["_law_word_here"]
 F_a4 : FU K "_law_statement_in" za5 D.a_a4 D.d_a4
 m_a4 : CB K mg "_law_statement_in" D.a_a4 D.d_a4 ["_law_words"]
 F_c1 : FU K "_law_line_in" zbb D.a_c1 D.d_c1
 m_c1 : CB K mg "_law_line_in" D.a_c1 D.d_c1 ["_law_row"]
 F_a2 : FU K "_law_of_one_class" za0 D.a_a2 D.d_a2
 m_a2 : CB K mg "_law_of_one_class" D.a_a2 D.d_a2 ["_law_e"]
 F_b3 : FU K "_law_refused" zaP D.a_b3 D.d_b3
 m_b3 : CB K mg "_law_refused" D.a_b3 D.d_b3 ["_law_text"]
 F_d8 : FU K "law" zeC D.a_d8 D.d_d8
 m_d8 : CB K mg "law" D.a_d8 D.d_d8 ["_law_script"]
 F_b9 : Fun K "__init__" "Runs.__init__" zbc D.a_b9 D.d_b9
 h_b9 : Meth K D.C_Runs "__init__" D.a_b9
 b_b9 : Binds K D.d_b9 ["self", "runs"] []
 F_a7 : Fun K "ahead" "Runs.ahead" zaO D.a_a7 D.d_a7
 h_a7 : Meth K D.C_Runs "ahead" D.a_a7
 b_a7 : Binds K D.d_a7 ["self"] []
 F_b1 : Fun K "take" "Runs.take" zbd D.a_b1 D.d_b1
 h_b1 : Meth K D.C_Runs "take" D.a_b1
 b_b1 : Binds K D.d_b1 ["self"] []
 F_c2 : Fun K "want" "Runs.want" zbe D.a_c2 D.d_c2
 h_c2 : Meth K D.C_Runs "want" D.a_c2
 b_c2 : Binds K D.d_c2 ["self", "wanted"] []
 c_FIGURES : ∃ t, mg "FIGURES" = some (.str "0123456789" t)
 c_MOST_FIGURES : ∃ t, mg "MOST_FIGURES" = some (.int 4 t)
 c_SMALL : ∃ t, mg "SMALL" = some (.str "abcdefghijklmnopqrstuvwxyz" t)
 c_GREAT : ∃ t, mg "GREAT" = some (.str "ABCDEFGHIJKLMNOPQRSTUVWXYZ" t)
 c_SMALL_OR_FIGURE : ∃ t, mg "SMALL_OR_FIGURE" = some (.str "abcdefghijklmnopqrstuvwxyz0123456789" t)
 c_KEPT_WORDS : mg "KEPT_WORDS" = some (.ref D.k_KEPT_WORDS)
 q_KEPT_WORDS : ∀ H, SqT K H D.k_KEPT_WORDS [V.str "not", V.str "and", V.str "or", V.str "then", V.str "all", V.str "some", V.str "false"]
 c_MOST_SIGNS : ∃ t, mg "MOST_SIGNS" = some (.int 8 t)
 c_PAIRS : mg "PAIRS" = some (.ref D.k_PAIRS)
 q_PAIRS : ∀ H, SqT K H D.k_PAIRS [V.str "and", V.str "or", V.str "then"]
 c_QUANTIFIERS : mg "QUANTIFIERS" = some (.ref D.k_QUANTIFIERS)
 q_QUANTIFIERS : ∀ H, SqT K H D.k_QUANTIFIERS [V.str "all", V.str "some"]
 c_RUN_SIGNS : ∃ t, mg "RUN_SIGNS" = some (.str "abcdefghijklmnopqrstuvwxyzABCDEFGHIJKLMNOPQRSTUVWXYZ0123456789" t)
 c_SINGLE_SIGNS : ∃ t, mg "SINGLE_SIGNS" = some (.str "()," t)
 c_END : ∃ t, mg "END" = some (.str "" t)
 c_MOST_TERMS : ∃ t, mg "MOST_TERMS" = some (.int 3 t)
 c_MOST_DEEP : ∃ t, mg "MOST_DEEP" = some (.int 40 t)
 z_ValueError : mg "ValueError" = none
 z_all : mg "all" = none
 z_int : mg "int" = none
 z_isinstance : mg "isinstance" = none
 z_len : mg "len" = none
 z_range : mg "range" = none
 z_tuple : mg "tuple" = none
 x_BoxError : XCls K mg "BoxError" D.x_BoxError [] [.type "ValueError", .type "Exception", .type "BaseException", .type "object"] "ValueError.__new__"
 x_NoStatement : XCls K mg "NoStatement" D.x_NoStatement [D.x_BoxError] [.type "ValueError", .type "Exception", .type "BaseException", .type "object"] "ValueError.__new__"
 x_NoName : XCls K mg "NoName" D.x_NoName [D.x_BoxError] [.type "ValueError", .type "Exception", .type "BaseException", .type "object"] "ValueError.__new__"
 x_NoWorld : XCls K mg "NoWorld" D.x_NoWorld [D.x_BoxError] [.type "ValueError", .type "Exception", .type "BaseException", .type "object"] "ValueError.__new__"
 x_NoBox : XCls K mg "NoBox" D.x_NoBox [D.x_BoxError] [.type "ValueError", .type "Exception", .type "BaseException", .type "object"] "ValueError.__new__"
 x_NoLines : XCls K mg "NoLines" D.x_NoLines [D.x_BoxError] [.type "ValueError", .type "Exception", .type "BaseException", .type "object"] "ValueError.__new__"
 x_NotShut : XCls K mg "NotShut" D.x_NotShut [D.x_BoxError] [.type "ValueError", .type "Exception", .type "BaseException", .type "object"] "ValueError.__new__"
 m_Runs : mg "Runs" = some (.ref D.C_Runs)
 cl_Runs : Cls K D.C_Runs
 mk_Runs : Mk K D.C_Runs D.a_b9
 n_Runs_runs : NoAttr K D.C_Runs "runs"
 n_Runs_place : NoAttr K D.C_Runs "place"
 v_NoStatement_NoStatement : SubX K D.x_NoStatement D.x_NoStatement true
 i_NoStatement_NoStatement : W.kitOne K (.ref D.x_NoStatement) (.ref D.x_NoStatement) = some true
 v_NoStatement_NoLines : SubX K D.x_NoStatement D.x_NoLines false
 i_NoStatement_NoLines : W.kitOne K (.ref D.x_NoStatement) (.ref D.x_NoLines) = some false
 v_NoStatement_BoxError : SubX K D.x_NoStatement D.x_BoxError true
 i_NoStatement_BoxError : W.kitOne K (.ref D.x_NoStatement) (.ref D.x_BoxError) = some true
 v_NoStatement_NoBox : SubX K D.x_NoStatement D.x_NoBox false
 i_NoStatement_NoBox : W.kitOne K (.ref D.x_NoStatement) (.ref D.x_NoBox) = some false
 v_NoStatement_NoName : SubX K D.x_NoStatement D.x_NoName false
 i_NoStatement_NoName : W.kitOne K (.ref D.x_NoStatement) (.ref D.x_NoName) = some false
 v_NoStatement_NotShut : SubX K D.x_NoStatement D.x_NotShut false
 i_NoStatement_NotShut : W.kitOne K (.ref D.x_NoStatement) (.ref D.x_NotShut) = some false
 v_NoStatement_NoWorld : SubX K D.x_NoStatement D.x_NoWorld false
 i_NoStatement_NoWorld : W.kitOne K (.ref D.x_NoStatement) (.ref D.x_NoWorld) = some false
 v_NoLines_NoStatement : SubX K D.x_NoLines D.x_NoStatement false
 i_NoLines_NoStatement : W.kitOne K (.ref D.x_NoLines) (.ref D.x_NoStatement) = some false
 v_NoLines_NoLines : SubX K D.x_NoLines D.x_NoLines true
 i_NoLines_NoLines : W.kitOne K (.ref D.x_NoLines) (.ref D.x_NoLines) = some true
 v_NoLines_BoxError : SubX K D.x_NoLines D.x_BoxError true
 i_NoLines_BoxError : W.kitOne K (.ref D.x_NoLines) (.ref D.x_BoxError) = some true
 v_NoLines_NoBox : SubX K D.x_NoLines D.x_NoBox false
 i_NoLines_NoBox : W.kitOne K (.ref D.x_NoLines) (.ref D.x_NoBox) = some false
 v_NoLines_NoName : SubX K D.x_NoLines D.x_NoName false
 i_NoLines_NoName : W.kitOne K (.ref D.x_NoLines) (.ref D.x_NoName) = some false
 v_NoLines_NotShut : SubX K D.x_NoLines D.x_NotShut false
 i_NoLines_NotShut : W.kitOne K (.ref D.x_NoLines) (.ref D.x_NotShut) = some false
 v_NoLines_NoWorld : SubX K D.x_NoLines D.x_NoWorld false
 i_NoLines_NoWorld : W.kitOne K (.ref D.x_NoLines) (.ref D.x_NoWorld) = some false
 i_NoStatement_ValueError : W.kitOne K (.ref D.x_NoStatement) (.type "ValueError") = some true
 i_NoLines_ValueError : W.kitOne K (.ref D.x_NoLines) (.type "ValueError") = some true
theorem Tx.g_FIGURES {K : W.Frag} {mg : Str -> Option Value} {D : Defs} (T : Tx K mg D) {X : Cx} {pos : Pos} (h : Gl X "FIGURES") (hm : X.mg = mg := by rfl) : PE X (.Name "FIGURES" pos) (tC (.str "0123456789")) := by
 obtain ⟨t, e⟩ := T.c_FIGURES;exact zaQ h (hm ▸ e) ⟨t, rfl⟩
theorem Tx.g_MOST_FIGURES {K : W.Frag} {mg : Str -> Option Value} {D : Defs} (T : Tx K mg D) {X : Cx} {pos : Pos} (h : Gl X "MOST_FIGURES") (hm : X.mg = mg := by rfl) : PE X (.Name "MOST_FIGURES" pos) (tC (.int 4)) := by
 obtain ⟨t, e⟩ := T.c_MOST_FIGURES;exact zaQ h (hm ▸ e) ⟨t, rfl⟩
theorem Tx.g_SMALL {K : W.Frag} {mg : Str -> Option Value} {D : Defs} (T : Tx K mg D) {X : Cx} {pos : Pos} (h : Gl X "SMALL") (hm : X.mg = mg := by rfl) : PE X (.Name "SMALL" pos) (tC (.str "abcdefghijklmnopqrstuvwxyz")) := by
 obtain ⟨t, e⟩ := T.c_SMALL;exact zaQ h (hm ▸ e) ⟨t, rfl⟩
theorem Tx.g_GREAT {K : W.Frag} {mg : Str -> Option Value} {D : Defs} (T : Tx K mg D) {X : Cx} {pos : Pos} (h : Gl X "GREAT") (hm : X.mg = mg := by rfl) : PE X (.Name "GREAT" pos) (tC (.str "ABCDEFGHIJKLMNOPQRSTUVWXYZ")) := by
 obtain ⟨t, e⟩ := T.c_GREAT;exact zaQ h (hm ▸ e) ⟨t, rfl⟩
theorem Tx.g_SMALL_OR_FIGURE {K : W.Frag} {mg : Str -> Option Value} {D : Defs} (T : Tx K mg D) {X : Cx} {pos : Pos} (h : Gl X "SMALL_OR_FIGURE") (hm : X.mg = mg := by rfl) : PE X (.Name "SMALL_OR_FIGURE" pos) (tC (.str "abcdefghijklmnopqrstuvwxyz0123456789")) := by
 obtain ⟨t, e⟩ := T.c_SMALL_OR_FIGURE;exact zaQ h (hm ▸ e) ⟨t, rfl⟩
theorem Tx.g_KEPT_WORDS {K : W.Frag} {mg : Str -> Option Value} {D : Defs} (T : Tx K mg D) {X : Cx} {pos : Pos} (h : Gl X "KEPT_WORDS") (hm : X.mg = mg := by rfl) : PE X (.Name "KEPT_WORDS" pos) (tC (.ref D.k_KEPT_WORDS)) := zaQ h (hm ▸ T.c_KEPT_WORDS) rfl
theorem Tx.g_MOST_SIGNS {K : W.Frag} {mg : Str -> Option Value} {D : Defs} (T : Tx K mg D) {X : Cx} {pos : Pos} (h : Gl X "MOST_SIGNS") (hm : X.mg = mg := by rfl) : PE X (.Name "MOST_SIGNS" pos) (tC (.int 8)) := by
 obtain ⟨t, e⟩ := T.c_MOST_SIGNS;exact zaQ h (hm ▸ e) ⟨t, rfl⟩
theorem Tx.g_PAIRS {K : W.Frag} {mg : Str -> Option Value} {D : Defs} (T : Tx K mg D) {X : Cx} {pos : Pos} (h : Gl X "PAIRS") (hm : X.mg = mg := by rfl) : PE X (.Name "PAIRS" pos) (tC (.ref D.k_PAIRS)) := zaQ h (hm ▸ T.c_PAIRS) rfl
theorem Tx.g_QUANTIFIERS {K : W.Frag} {mg : Str -> Option Value} {D : Defs} (T : Tx K mg D) {X : Cx} {pos : Pos} (h : Gl X "QUANTIFIERS") (hm : X.mg = mg := by rfl) : PE X (.Name "QUANTIFIERS" pos) (tC (.ref D.k_QUANTIFIERS)) := zaQ h (hm ▸ T.c_QUANTIFIERS) rfl
theorem Tx.g_RUN_SIGNS {K : W.Frag} {mg : Str -> Option Value} {D : Defs} (T : Tx K mg D) {X : Cx} {pos : Pos} (h : Gl X "RUN_SIGNS") (hm : X.mg = mg := by rfl) : PE X (.Name "RUN_SIGNS" pos) (tC (.str "abcdefghijklmnopqrstuvwxyzABCDEFGHIJKLMNOPQRSTUVWXYZ0123456789")) := by
 obtain ⟨t, e⟩ := T.c_RUN_SIGNS;exact zaQ h (hm ▸ e) ⟨t, rfl⟩
theorem Tx.g_SINGLE_SIGNS {K : W.Frag} {mg : Str -> Option Value} {D : Defs} (T : Tx K mg D) {X : Cx} {pos : Pos} (h : Gl X "SINGLE_SIGNS") (hm : X.mg = mg := by rfl) : PE X (.Name "SINGLE_SIGNS" pos) (tC (.str "(),")) := by
 obtain ⟨t, e⟩ := T.c_SINGLE_SIGNS;exact zaQ h (hm ▸ e) ⟨t, rfl⟩
theorem Tx.g_END {K : W.Frag} {mg : Str -> Option Value} {D : Defs} (T : Tx K mg D) {X : Cx} {pos : Pos} (h : Gl X "END") (hm : X.mg = mg := by rfl) : PE X (.Name "END" pos) (tC (.str "")) := by
 obtain ⟨t, e⟩ := T.c_END;exact zaQ h (hm ▸ e) ⟨t, rfl⟩
theorem Tx.g_MOST_TERMS {K : W.Frag} {mg : Str -> Option Value} {D : Defs} (T : Tx K mg D) {X : Cx} {pos : Pos} (h : Gl X "MOST_TERMS") (hm : X.mg = mg := by rfl) : PE X (.Name "MOST_TERMS" pos) (tC (.int 3)) := by
 obtain ⟨t, e⟩ := T.c_MOST_TERMS;exact zaQ h (hm ▸ e) ⟨t, rfl⟩
theorem Tx.g_MOST_DEEP {K : W.Frag} {mg : Str -> Option Value} {D : Defs} (T : Tx K mg D) {X : Cx} {pos : Pos} (h : Gl X "MOST_DEEP") (hm : X.mg = mg := by rfl) : PE X (.Name "MOST_DEEP" pos) (tC (.int 40)) := by
 obtain ⟨t, e⟩ := T.c_MOST_DEEP;exact zaQ h (hm ▸ e) ⟨t, rfl⟩
local macro_rules | `(tactic| walk_at "s") => `(tactic| exact ⟨rfl, rfl, rfl, by decide +kernel, rfl, by decide +kernel, by decide +kernel⟩)
theorem zhs : zap ["text"] ["text"] (zab zb2) := by walk_at "s"
theorem zht : zap ["row"] ["row"] (zab zb3) := by walk_at "s"
theorem zfs : zap ["text"] ["text"] (zab zaS) := by walk_at "s"
theorem zcv : zap ["text", "first_signs"] ["text", "first_signs"] (zab zat) := by walk_at "s"
theorem zhu : zap ["text"] ["text"] (zab zb4) := by walk_at "s"
theorem zft : zap ["text"] ["text"] (zab zaT) := by walk_at "s"
theorem zhv : zap ["text"] ["text"] (zab zb5) := by walk_at "s"
theorem sc_d1 : zap ["text", "sign", "spaced"] ["text"] (zab zb6) := by walk_at "s"
theorem sc_d7 : zap ["text", "runs", "found"] ["text"] (zab zcG) := by walk_at "s"
theorem sc_a1 : zap ["runs", "room", "run", "letter"] ["runs", "room"] (zab za3) := by walk_at "s"
theorem sc_a6 : zap ["runs", "run"] ["runs"] (zab zaC) := by walk_at "s"
theorem sc_c0 : zap ["runs", "room", "first", "joint", "second"] ["runs", "room"] (zab zaU) := by walk_at "s"
theorem sc_a8 : zap ["runs", "terms"] ["runs"] (zab zaL) := by walk_at "s"
theorem sc_b2 : zap ["runs", "run"] ["runs"] (zab zaV) := by walk_at "s"
theorem zeD : zap ["text"] ["text"] (zab zaM) := by walk_at "s"
theorem sc_c3 : zap ["row", "told", "level", "halves", "runs"] ["row"] (zab zaW) := by walk_at "s"
theorem zhw : zap ["text"] ["text"] (zab zb7) := by walk_at "s"
theorem sc_a3 : zap ["text", "rule", "refusal"] ["text", "rule"] (zab za4) := by walk_at "s"
theorem zfL : zap ["run"] ["run"] (zab zbk) := by walk_at "s"
theorem zfu : zap ["_law_script", "_law_k"] ["_law_script", "_law_k"] (zab zaX) := by walk_at "s"
theorem sc_d3 : zap ["_law_script", "_law_k", "_law_cell", "_law_number"] ["_law_script", "_law_k"] (zab zb8) := by walk_at "s"
theorem sc_b6 : zap ["_law_number", "_law_firsts", "_law_turn", "_law_some", "_law_plain", "_law_signs", "_law_size", "_law_at", "_law_text"] ["_law_number", "_law_firsts", "_law_turn"] (zab zaY) := by walk_at "s"
theorem zdD : zap ["_law_base", "_law_turn"] ["_law_base", "_law_turn"] (zab za9) := by walk_at "s"
theorem ziG : zap ["_law_base", "_law_turn"] ["_law_base", "_law_turn"] (zab zbM) := by walk_at "s"
theorem sc_c5 : zap ["_law_number", "_law_base", "_law_some", "_law_rule", "_law_left", "_law_refs", "_law_row", "_law_k"] ["_law_number", "_law_base"] (zab zbl) := by walk_at "s"
theorem sc_c6 : zap ["_law_text", "_law_cell", "_law_way", "_law_at", "_law_sign"] ["_law_text", "_law_cell"] (zab zbm) := by walk_at "s"
theorem sc_a9 : zap ["_law_cell", "_law_some"] ["_law_cell"] (zab zaN) := by walk_at "s"
theorem sc_b7 : zap ["_law_word_here", "_law_sign"] ["_law_word_here"] (zab zaZ) := by walk_at "s"
theorem zfv : zap ["_law_word_here"] ["_law_word_here"] (zab zba) := by walk_at "s"
theorem sc_c8 : zap ["_law_word_here", "_law_sign"] ["_law_word_here"] (zab zbn) := by walk_at "s"
theorem sc_a4 : zap ["_law_words", "_law_ka", "_law_word_here"] ["_law_words"] (zab za5) := by walk_at "s"
theorem sc_c1 : zap ["_law_row", "_law_parts", "_law_words", "_law_left", "_law_level", "_law_refs", "_law_ka"] ["_law_row"] (zab zbb) := by walk_at "s"
theorem sc_a2 : zap ["_law_e", "_law_found"] ["_law_e"] (zab za0) := by walk_at "s"
theorem sc_b3 : zap ["_law_text", "_law_refused_here", "_law_e"] ["_law_text"] (zab zaP) := by walk_at "s"
theorem sc_d8 : zap ["_law_script", "_law_base", "_law_rows", "_law_text", "_law_k", "_law_due", "_law_found"] ["_law_script"] (zab zeC) := by walk_at "s"
theorem zfw : zap ["self", "runs"] ["self", "runs"] (zab zbc) := by walk_at "s"
theorem zeE : zap ["self"] ["self"] (zab zaO) := by walk_at "s"
theorem sc_b1 : zap ["self", "run"] ["self"] (zab zbd) := by walk_at "s"
theorem sc_c2 : zap ["self", "wanted", "run"] ["self", "wanted"] (zab zbe) := by walk_at "s"
end K27
namespace K27
open PySem L2
seal PE PS PSs PA PT PW PG PI PO PIf OpR UnR zbW IxR SlR MtR MtM PSet PH PM PMp PE1 PA1 PS1 PSs1 PSb PEb
local macro_rules | `(tactic| walk_at "bpW") => `(tactic| simp only [↓w_v0, ↓w_v1, ↓w_v2, ↓w_v3, ↓w_v4, ↓w_v5, ↓w_v6, ↓w_v7, ↓w_v8, ↓w_v9, ↓zo1, ↓zo2, ↓w_c, ↓zo3, ↓zo4, ↓zmN, ↓zo5, ↓zmO, ↓zo6, ↓zcR, ↓w_op, ↓w_un, ↓zmP, ↓w_B, ↓w_bl, ↓zo7, ↓w_or, ↓w_not, ↓zmQ, ↓zmR, ↓zo8, ↓zmS, ↓zo9, ↓zoA, ↓zmT, ↓w_CB, ↓w_BM, ↓zjt, ↓zic, ↓w_sl, ↓zju, ↓zmU, ↓zoB, ↓zmV, ↓w_rI, ↓zmW, ↓zoC, ↓zoD, ↓zoE, ↓zoF, ↓zjv, ↓zoG, ↓zjw, ↓zoH, ↓zoI, ↓zmX, ↓zmY, ↓zoJ, ↓zmZ, ↓zid, ↓zie, ↓zoK, ↓zoL, ↓zna, ↓znb, ↓znc, ↓zle, ↓zif, ↓zjx, ↓zjy, ↓zjz, ↓znd, ↓zne, ↓zig, ↓zih, ↓zlf, ↓znk, ↓znl, ↓znm, ↓znn, ↓zhg, ↓zhh, ↓zj6, ↓zld, ↓zjq, ↓List.set_cons_zero, ↓List.set_cons_succ, ↓List.nil_append, ↓List.cons_append, ↓List.append_nil, ↓reduceIte, Bool.false_eq_true, decide_eq_true_eq, Bool.not_eq_true', decide_eq_false_iff_not, ↓zl7, ↓zjL, ↓zlq, ↓zoT, ↓zoU, ↓w_m0, ↓w_mc, ↓w_mr, ↓w_mv, ↓zln, ↓zlo, ↓zlp, ↓zn5, ↓zn6, ↓zn9, ↓znA, ↓zn7, ↓zn8, ↓znB, ↓znC, ↓znD, ↓ziw, ↓znE, ↓w_is, ↓zoM, ↓zli, ↓zlj, ↓znq, ↓zoV, ↓znv, ↓znw, ↓zls, ↓znx, ↓zoW, ↓zoX, ↓zlw, ↓zoY, ↓znF, ↓zlx, ↓znH, ↓znI, ↓zlz, ↓zl0, ↓zl1, ↓ziy, ↓zl2, ↓ziz, ↓zl3, ↓zl4, ↓zoZ, ↓zl5, ↓zpa, ↓zi3, ↓zgz, ↓zlC, ↓zlD, ↓zlE, ↓znS, ↓zi5, ↓znP, ↓znQ, ↓zlA, ↓znR, ↓zjQ, ↓zlO, ↓zi3, ↓zpl, ↓zgz, ↓zlF, ↓zjS, ↓znU, ↓zpo, ↓zpp, ↓znV])
local macro_rules | `(tactic| walk_at "S") => `(tactic| simp only [L2.start, List.map_cons, List.map_nil, List.length_cons, List.length_nil, Nat.reduceAdd, Nat.reduceSub, List.replicate_succ, List.replicate_zero, List.cons_append, List.nil_append, List.append_nil, Nat.zero_add, Nat.sub_self])
local macro_rules | `(tactic| walk_at "o") => `(tactic| first | exact Or.inl ρ | exact Or.inr ρ)
local macro_rules | `(tactic| walk_at "") => `(tactic| walk_at "bpW")
local macro_rules | `(tactic| walk_at "T") => `(tactic| simp only [za8, List.replicate_succ, List.replicate_zero, List.map_cons, List.map_nil, List.nil_append, List.cons_append, List.getElem?_cons_zero, List.getElem?_cons_succ, Option.join_some])
local macro_rules | `(tactic| walk_at "t") => `(tactic| try walk_at "bpW")
section
variable {P : Program} {w : World} {K : W.Frag} {mg : Str -> Option Value} {Qd : Heap} {D : Defs}
def sof : Str := "abcdefghijklmnopqrstuvwxyz0123456789"
def zdd (x : Str) : Bool := (Txt.slice x (some 1) none).cps.toList.all fun c => inS ⟨#[c]⟩ sof
def base (x f : Str) : Bool := if x = "" then false else if (8 : Int) < x.length then false else if inS ⟨#[x.cps.toList.headD 0]⟩ f then zdd x else false
def zeF : List V := [V.str "not", V.str "and", V.str "or", V.str "then", V.str "all", V.str "some", V.str "false"]
theorem zlP {x : Str} (h : ¬ x = "") : atI x.cps.toList 0 = some (x.cps.toList.headD 0) := by
 have e : x.cps.toList ≠ [] := fun e => h (by
  obtain ⟨c⟩ := x;have : c = #[] := by simpa using e
  subst this
  rfl)
 cases q : x.cps.toList with
 | nil => exact absurd q e
 | cons c r => exact zaI (j := 0) rfl
def zoa : Sp := fun vs H Q _ => ∃ x f, vs = [.str x, .str f] /\ x.length <= 90000 /\ ∀ H', Same H H' -> Q (.bl (base x f)) H'
def sp1 (r : Str -> Bool) : Sp := fun vs H Q _ => ∃ x, vs = [.str x] /\ x.length <= 90000 /\ ∀ H', Same H H' -> Q (.bl (r x)) H'
theorem zdE (T : Tx K mg D) : FnOk P w K mg Qd CX0 1 D.a_a0 D.d_a0 ["text", "first_signs"] zoa := by
 refine T.F_a0.ok zcv (fun vs H Q E h => ?_) (fun cdv A outer s H vs Q E hr h => ?_)
 ·obtain ⟨x, f, rfl, _⟩ := h; rfl
 obtain ⟨x, f, rfl, hx, k⟩ := h;have hu := hr.units;refine ⟨_, (zac (zaF (PW.pt (zeO (zal (zb9 K hu) (pv 0) zai (zay _)) (zeO (zal zgS (zau (za1 K) ρ T.z_len yap (zaa (pv 0) zae)) (T.g_MOST_SIGNS ρ) (zay _)) (zdp (zal (zb1 K hu) (zbg (ixA K) (pv 0) zag (fun _ _ => rfl)) (pv 1) ρ))))) (zah (zan zdO)) zao)
  (zah (zan (zau (zfc K ρ) ρ T.z_all ρ (zaa (zeu 1 [] ["sign"] ⟨ρ,ρ,ρ,ρ,ρ,ρ,ρ⟩ ρ (zbS K (zbh (slB K) (pv 0) (zbz zag) zby)) (fun _ _ _ _ => zaR (i := 0) (show List.Nodup (["sign"] : List Str) by decide +kernel) ρ (Or.inl ρ) (Or.inr ρ)) (zaG δ) (fun _ _ _ _ => zcr) (fun _ _ _ _ => (zcM (zgv K hu) (pv 0) (T.g_SMALL_OR_FIGURE ρ) ρ))) zae))))), ?_⟩
 walk_at "S";walk_at "";have hz : x.length <= sizeLine := zaq ω;have kf : base x f = false -> Q (.bl false) H := fun e => by have q := k H (Same.refl H); rw [e] at q; exact q
 refine ite2 (fun c => kf (by unfold base; rw [if_pos c])) fun c => ⟨hz, ite2 (fun c2 => kf (by unfold base; rw [if_neg c, if_pos c2])) fun c2 => ⟨hz, _, zlP c, ?_⟩⟩
 refine ite2 (fun c3 => kf (by unfold base; rw [if_neg c, if_neg c2, if_neg (by rw [c3]; exact yam)])) fun c3 => ⟨hz, ?_⟩
 have c3' : inS ⟨#[x.cps.toList.headD 0]⟩ f = true := by simpa using c3
 have hb : base x f = zdd x := by unfold base; rw [if_neg c, if_neg c2, if_pos c3']
 have Qe : (Txt.slice x (some 1) none).cps.toList.length <= 90000 := yat (Nat.le_of_eq (by simp [Str.length])) (yat (Txt.slice_le x (some 1) none) hx);refine zgh (fun i acc H2 => H2 = H /\ acc = ((Txt.slice x (some 1) none).cps.toList.take i).map fun c => V.bl (inS ⟨#[c]⟩ sof)) ⟨rfl,ς⟩ (fun i c acc H2 hi hp => ?_) fun acc H2 hp p hn => ?_
 ·obtain ⟨rfl, rfl⟩ := hp;have hil : i < (Txt.slice x (some 1) none).cps.toList.length := (yag.mp hi).1;refine ⟨zcb (by rw [yaf, ya3]; omega), ?_⟩;simp only [za8, List.replicate_succ, List.replicate_zero, List.map_nil, List.nil_append, List.cons_append];walk_at "";refine ⟨trivial, ?_⟩;rw [List.take_add_one, hi];simp [sof]
 ·obtain ⟨rfl, rfl⟩ := hp;walk_at "";refine ⟨(Txt.slice x (some 1) none).cps.toList.map fun c => inS ⟨#[c]⟩ sof, SqL.of (by rw [zad, List.take_of_length_le (yai _), List.map_map]; rfl), ?_⟩;have q := k _ (zaf hn (.lst (((Txt.slice x (some 1) none).cps.toList.take (Txt.slice x (some 1) none).cps.toList.length).map fun c => V.bl (inS ⟨#[c]⟩ sof))));rw [hb] at q;have e : ((Txt.slice x (some 1) none).cps.toList.map fun c => inS ⟨#[c]⟩ sof).all id = zdd x := by unfold zdd; rw [List.all_map]; rfl
  rw [e];exact q
theorem zfM (T : Tx K mg D) : FnOk P w K mg Qd CX0 2 D.a_d4 D.d_d4 ["text"] (sp1 fun x => base x "abcdefghijklmnopqrstuvwxyz" && !inV (.str x) zeF) := by
 have G_a0 := @zdE P w _ _ Qd _ T;refine T.F_d4.ok zhu (fun vs H Q E h => ?_) (fun cdv A outer s H vs Q E hr h => ?_)
 ·obtain ⟨x, rfl, _⟩ := h; rfl
 obtain ⟨x, rfl, hx, k⟩ := h;have hu := hr.units;have hr_a0 : Room 1 _ := hr.mono δ;refine ⟨_, (zah (zan (zeQ (YC G_a0 hr_a0 ρ T.m_a0 (zaa (pv 0) (zaa (T.g_SMALL ρ) zae))) (zeP (zcM (zb1 K hu) (pv 0) (T.g_KEPT_WORDS ρ) ρ))))), ?_⟩;walk_at "S";walk_at "";refine ⟨x, _, rfl, hx, fun H' hs => ?_⟩;walk_at "";have q : Q (.bl (base x "abcdefghijklmnopqrstuvwxyz" && !inV (.str x) zeF)) H' := k H' hs;cases e : base x "abcdefghijklmnopqrstuvwxyz" with
 | false => rw [e] at q; exact iteF q
 | true => rw [e] at q; exact iteT (.inl ⟨_, _, rfl, .inr (T.q_KEPT_WORDS _), rfl,δ, q⟩)
theorem zlQ (T : Tx K mg D) : FnOk P w K mg Qd CX0 3 D.a_d2 D.d_d2 ["text"] (sp1 fun x => base x "abcdefghijklmnopqrstuvwxyz" && !inV (.str x) zeF) := by
 have G_d4 := @zfM P w _ _ Qd _ T;refine T.F_d2.ok zhv (fun vs H Q E h => ?_) (fun cdv A outer s H vs Q E hr h => ?_)
 ·obtain ⟨x, rfl, _⟩ := h; rfl
 obtain ⟨x, rfl, hx, k⟩ := h;have hu := hr.units;have hr_d4 : Room 2 _ := hr.mono δ;refine ⟨_, (zah (zan (YC G_d4 hr_d4 ρ T.m_d4 (zaa (pv 0) zae)))), ?_⟩;walk_at "S";walk_at "";exact ⟨x, rfl, hx, k⟩
theorem zfx (T : Tx K mg D) : FnOk P w K mg Qd CX0 2 D.a_c4 D.d_c4 ["text"] (sp1 fun x => base x "ABCDEFGHIJKLMNOPQRSTUVWXYZ") := by
 have G_a0 := @zdE P w _ _ Qd _ T;refine T.F_c4.ok zft (fun vs H Q E h => ?_) (fun cdv A outer s H vs Q E hr h => ?_)
 ·obtain ⟨x, rfl, _⟩ := h; rfl
 obtain ⟨x, rfl, hx, k⟩ := h;have hu := hr.units;have hr_a0 : Room 1 _ := hr.mono δ;refine ⟨_, (zah (zan (YC G_a0 hr_a0 ρ T.m_a0 (zaa (pv 0) (zaa (T.g_GREAT ρ) zae))))), ?_⟩;walk_at "S";walk_at "";exact ⟨x, _, rfl, hx, k⟩
def zka : Sp := fun vs H Q _ => ∃ z : Str, vs = [.str z] /\ z.length <= 1000000 /\ ∀ p H', Same H H' -> H p = none -> H' p = some (.lst (((Txt.split z " ").filter fun r : Str => !decide (r = "")).map V.str)) -> Q (.ref p) H'
theorem zeg (T : Tx K mg D) : FnOk P w K mg Qd CX0 1 D.a_d0 D.d_d0 ["row"] zka := by
 refine T.F_d0.ok zht (fun vs H Q E h => ?_) (fun cdv A outer s H vs Q E hr h => ?_)
 ·obtain ⟨z, rfl, _⟩ := h; rfl
 obtain ⟨z, rfl, hpl, k⟩ := h;have hu := hr.units;refine ⟨_, (zah (zan (zeu 1 [] ["run"] ⟨ρ,ρ,ρ,ρ,ρ,ρ,ρ⟩ ρ (zbS K (zbP K PySem.F.plainAttrs_str PySem.F.slot_str_split PySem.F.type_str_split zcc (pv 0) (zaa zai zae))) (fun _ _ _ _ => zaR (i := 0) (show List.Nodup (["run"] : List Str) by decide +kernel) ρ (Or.inl ρ) (Or.inr ρ)) (zaG δ) (fun _ _ _ _ => zd1 (zal (zcl K hu) (pv 0) zai (zay _))) (fun _ _ _ _ => (pv 0))))), ?_⟩;walk_at "S";walk_at "";refine ⟨trivial,δ,ω, fun p hp => .inl ⟨⟨_, SqL.of zad⟩, ?_⟩⟩;have hsz : (Txt.split (z) " ").length <= 1000002 := yat (zbq _ _) ω;refine zbO (xs := (Txt.split (z) " ").map V.str) (fun i acc Hc => Hc = upd H p (.lst ((Txt.split (z) " ").map V.str)) /\ acc = (((Txt.split (z) " ").take i).filter fun r : Str => !decide (r = "")).map V.str) ⟨rfl, rfl⟩ (fun i acc Hc _ h => h.1 ▸ SqL.of zad) (fun i v acc Hc hv h => ?_) fun acc Hc h p2 hp2 => ?_
 ·obtain ⟨rfl, rfl⟩ := h;rw [yav] at hv;cases hr : (Txt.split (z) " ")[i]? with
  | none => rw [hr] at hv; cases hv
  | some r =>
   rw [hr] at hv;cases hv;have e : List.take (i + 1) (Txt.split (z) " ") = List.take i (Txt.split (z) " ") ++ [r] := by rw [List.take_succ, hr]; rfl
   refine ⟨?_, ?_⟩
   ·rw [yaf];refine Nat.lt_of_le_of_lt (List.length_filter_le _ _) ?_;rw [ya3, sizeLine_eq];omega
   ·simp only [za8, L2.start, List.map_cons, List.map_nil, List.length_cons, List.length_nil, Nat.reduceAdd, Nat.reduceSub, List.replicate_succ, List.replicate_zero, List.cons_append, List.nil_append, List.append_nil, Nat.zero_add, Nat.sub_self];walk_at "";rw [e, List.filter_append];refine ite2 (fun c => ?_) fun c => ?_
    ·have : [r].filter (fun r : Str => !decide (r = "")) = [r] := by simp [c]
     rw [this, ya0];exact ⟨trivial, rfl⟩
    ·have : [r].filter (fun r : Str => !decide (r = "")) = [] := by simp [c]
     rw [this, List.append_nil];exact ⟨trivial, rfl⟩
 ·obtain ⟨rfl, rfl⟩ := h;rw [yaf, List.take_length] at *;refine k p2 _ ?_ ?_ zad
  ·exact ((Same.refl _).upd hp).trans ((Same.refl _).upd hp2)
  ·exact ((Same.refl _).upd hp : Same H _).free hp2
def zbw (c : Nat) : Bool := c == 32 || inS ⟨#[c]⟩ "()," || inS ⟨#[c]⟩ "abcdefghijklmnopqrstuvwxyzABCDEFGHIJKLMNOPQRSTUVWXYZ0123456789"
def padS (x : Str) : Str := (Str.ofString "(),").cps.toList.foldl (zbR " " " ") x
def zbY (x : Str) : List Str := (Txt.split (padS x) " ").filter fun r : Str => !decide (r = "")
theorem zlR (y : Str) (c : Nat) : y.length <= (zbR " " " " y c).length := by
 rw [zbU, zbU (zbR _ _ _ _), zbv];generalize y.cps.toList = l
 induction l with
 | nil => simp
 | cons d r ih =>
  have e : ∀ z : List Nat, putC c z (d :: r) = (if d = c then z else [d]) ++ putC c z r := fun z => rfl;rw [e, yae, List.length_cons];have : 1 <= (if d = c then (Str.ofString " ").cps.toList ++ [c] ++ (Str.ofString " ").cps.toList else [d]).length := by
   split
   ·simp; omega
   ·simp
  omega
theorem ziH : ∀ (l : List Nat) (y : Str), y.length <= (l.foldl (zbR " " " ") y).length
 | [], y => yai _
 | c :: r, y => yat (zlR y c) (ziH r _)
theorem ziI : ∀ (l : List Nat) (y : Str) (k : Nat), ((l.take k).foldl (zbR " " " ") y).length <= (l.foldl (zbR " " " ") y).length
 | [], y, k => by simp
 | c :: r, y, 0 => ziH (c :: r) y
 | c :: r, y, k + 1 => ziI r (zbR " " " " y c) k
theorem zkb (x : Str) : (padS x).length <= 3 * x.length := by
 have e : padS x = zbR " " " " (zbR " " " " (zbR " " " " x 40) 41) 44 := rfl;have e2 : (padS x).cps.toList = padL x.cps.toList := by
  rw [e, zbv, zbv, zbv];exact ziu _
 rw [zbU, e2, zbU x];generalize x.cps.toList = l
 induction l with
 | nil => simp [padL]
 | cons d r ih =>
  have e : padL (d :: r) = (if sgn d then [32, d, 32] else [d]) ++ padL r := rfl;rw [e, yae, List.length_cons];have : (if sgn d then [32, d, 32] else [d]).length <= 3 := by split <;> simp
  omega
def zkc (D : Defs) : Sp := fun vs H Q E => ∃ x : Str, vs = [.str x] /\ x.length <= 90000 /\ (∀ c ∈ x.cps.toList, c < 1114112) /\
 (x.cps.toList.all zbw = true -> ∀ p H', Same H H' -> H p = none -> H' p = some (.lst ((zbY x).map V.str)) -> Q (.ref p) H') /\ (x.cps.toList.all zbw = false -> ∀ H', E (.ref D.x_NoStatement) none H')
theorem zhx (T : Tx K mg D) : zhm P w K mg Qd (CXX P w mg) 2 D.a_d1 D.d_d1 ["text"] (zkc D) := by
 have G_d0 := @zeg P w _ _ Qd _ T;refine T.F_d1.okX1 sc_d1 (fun vs H Q E h => ?_) (fun cdv A outer s H vs Q E hr h => ?_)
 ·obtain ⟨x, rfl, _⟩ := h; rfl
 obtain ⟨x, rfl, hl, hcp, k, kE⟩ := h;have hu := hr.units;have hr_d0 : Room 1 _ := hr.mono δ;refine ⟨_, (zbj (PS.up (zdS zd4 ρ (zbS K (pv 0)) (zaR (i := 1) sc_d1.nd ρ (by walk_at "o"))
   (zah (zaF (PW.pt (zdq (zal (zcl K hu) (pv 1) zai (zay _)) (zdq (zal (zb1 K hu) (pv 1) (T.g_SINGLE_SIGNS ρ) ρ) (zcL (zal (zb1 K hu) (pv 1) (T.g_RUN_SIGNS ρ) ρ))))) (zah (zbs za7 ρ zaE T.x_NoStatement PySem.F.excBase_ValueError ρ (zaa (zc6 (zaH zck (zaH (pm_r (pv 1)) zc5))) zae))) zao))))
  (zbj (PS.up (zar (i := 2) sc_d1.nd ρ (by walk_at "o") (pv 0)))
  (zbj (zll (jn := 2) (gn := 1) zd4 ρ sc_d1.nd ρ ρ δ ρ ρ (T.g_SINGLE_SIGNS ρ) δ δ δ δ)
  (zcD (PS.up (zan (YC G_d0 hr_d0 ρ T.m_d0 (zaa (pv 2) zae)))))))), ?_⟩
 walk_at "S";walk_at "";refine zex (Pv := fun i σ' H' => H' = H /\ (∀ c ∈ x.cps.toList.take i, zbw c = true) /\ ∃ u, σ' = [some (.str x), u, none]) ⟨rfl,ς, _, rfl⟩ (fun i c σ' H' hc hP => ?_) fun σ' H' hP => ?_
 ·obtain ⟨rfl, hok, u, rfl⟩ := hP;have hcm : c ∈ x.cps.toList := ya1 hc;have nx : zbw c = true -> ∀ d ∈ x.cps.toList.take (i + 1), zbw d = true := fun z d hd => by
   rw [List.take_succ, hc] at hd;rcases yay.mp hd with q | q
   ·exact hok d q
   ·have : d = c := by simpa using q
    rw [this]; exact z
  walk_at "";refine ite2 (fun c1 => ite2 (fun c2 => ite2 (fun c3 => ?_) fun c3 => ⟨trivial, nx ?_, _, rfl⟩) fun c2 => ⟨trivial, nx ?_, _, rfl⟩) fun c1 => ⟨trivial, nx ?_, _, rfl⟩
  ·refine ⟨⟨by show 1 <= 99000; decide, fun d hd => ?_⟩, fun out _ => ⟨zaq (show 1 <= 100000 by decide), kE ?_ _⟩⟩
   ·have : d = c := by simpa using hd
    rw [this]; exact hcp c hcm
   ·rw [List.all_eq_false];refine ⟨c, hcm, fun z => ?_⟩;unfold zbw at z;rw [c2, c3, Bool.or_false, Bool.or_false] at z;have : c = 32 := by simpa using z
    subst this;exact c1 rfl
  ·unfold zbw; rw [eq_true_of_ne_false c3]; simp
  ·unfold zbw; rw [eq_true_of_ne_false c2]; simp
  ·have : c = 32 := by
    have := Classical.not_not.mp c1;have e : [c] = [32] := congrArg (fun z : Str => z.cps.toList) this;exact (List.cons.inj e).1
   unfold zbw; rw [this]; rfl
 ·obtain ⟨rfl, hok, u, rfl⟩ := hP;have hall : x.cps.toList.all zbw = true := List.all_eq_true.mpr fun c hc => hok c (by rw [List.take_of_length_le (yai _)]; exact hc);walk_at "";unfold znr;rw [w_c];have hpl : (padS x).length <= 1000000 := by have := zkb x; omega
  refine ⟨Str.ofString "(),", x, rfl, rfl, by decide +kernel, fun k hk => yat (ziI _ x k) hpl,δ, fun σ' e1 e2 e3 => ?_⟩
  match σ', e3 with
  | [a0, a1, a2], _ =>
   obtain rfl : a2 = some (.str (padS x)) := Option.some.inj e1;walk_at "";exact ⟨padS x, rfl, hpl, fun p H2 s2 hp h2 => k hall p H2 s2 hp h2⟩
def RunsAt (D : Defs) (H : Hp) (r : Addr) (ts : List Str) (i : Nat) : Prop := ∃ dx l, H r = some (.ins D.C_Runs dx [("runs", .ref l), ("place", .int i)]) /\ H l = some (.lst (ts.map V.str))
def SameX (r : Addr) (H H' : Hp) : Prop := ∀ b o, b ≠ r -> H b = some o -> H' b = some o
theorem SameX.trans {r : Addr} {H H1 H2 : Hp} (a : SameX r H H1) (b : SameX r H1 H2) : SameX r H H2 := fun c o n h => b c o n (a c o n h)
theorem Same.x {r : Addr} {H H' : Hp} (a : Same H H') : SameX r H H' := fun b o _ h => a b o h
theorem RunsAt.same {D : Defs} {H H' : Hp} {r : Addr} {ts : List Str} {i : Nat} (h : RunsAt D H r ts i) (e : Same H H') : RunsAt D H' r ts i := by
 obtain ⟨dx, l, h1, h2⟩ := h;exact ⟨dx, l, e _ _ h1, e _ _ h2⟩
def zlS (D : Defs) : Sp := fun vs H Q _ => ∃ r ts i t, vs = [.ref r] /\ RunsAt D H r ts i /\ ts[i]? = some t /\ Q (.str t) H
theorem zkd (T : Tx K mg D) : FnOk P w K mg Qd CX0 1 D.a_a7 D.d_a7 ["self"] (zlS D) := by
 refine T.F_a7.ok zeE (fun vs H Q E h => ?_) (fun cdv A outer s H vs Q E hr h => ?_)
 ·obtain ⟨r, ts, i, t, rfl, _⟩ := h; rfl
 obtain ⟨r, ts, i, t, rfl, ⟨dx, l, h1, h2⟩, ht, k⟩ := h;have hu := hr.units;refine ⟨_, (zah (zan (zbg (ixA K) (zgc (pv 0) ρ) (zgc (pv 0) ρ) (fun _ _ => rfl)))), ?_⟩;walk_at "S";walk_at "";refine ⟨r, _, dx, _, .ref l, rfl, h1, T.cl_Runs, T.n_Runs_runs, rfl, r, _, dx, _, .int i, rfl, h1, T.cl_Runs, T.n_Runs_place, rfl, ?_⟩;walk_at "";exact ⟨_, .inl (SqL.of h2), _, zaI (by rw [yav, ht]; rfl), k⟩
def zob (D : Defs) : Sp := fun vs H Q _ => ∃ r ts i t, vs = [.ref r] /\ RunsAt D H r ts i /\ ts[i]? = some t /\ ∀ H', RunsAt D H' r ts (i + 1) -> SameX r H H' -> Q (.str t) H'
theorem zdF (T : Tx K mg D) : FnOk P w K mg Qd CX0 1 D.a_b1 D.d_b1 ["self"] (zob D) := by
 refine T.F_b1.ok sc_b1 (fun vs H Q E h => ?_) (fun cdv A outer s H vs Q E hr h => ?_)
 ·obtain ⟨r, ts, i, t, rfl, _⟩ := h; rfl
 obtain ⟨r, ts, i, t, rfl, ⟨dx, l, h1, h2⟩, ht, k⟩ := h;have hu := hr.units;refine ⟨_, (zac (zar (i := 1) sc_b1.nd ρ (by walk_at "o") (zbg (ixA K) (zgc (pv 0) ρ) (zgc (pv 0) ρ) (fun _ _ => rfl)))
  (zac (zhJ (pv 0) zag zm6)
  (zah (zan (pv 1))))), ?_⟩
 walk_at "S";walk_at "";refine ⟨r, _, dx, _, .ref l, rfl, h1, T.cl_Runs, T.n_Runs_runs, rfl, r, _, dx, _, .int i, rfl, h1, T.cl_Runs, T.n_Runs_place, rfl, ?_⟩;walk_at "";refine ⟨_, .inl (SqL.of h2), _, zaI (by rw [yav, ht]; rfl), ?_⟩;have nlr : l ≠ r := zmt h2 h1 (by intro z; cases z);refine ⟨_, rfl, r, _, dx, _, .int i, rfl, h1, T.cl_Runs, T.n_Runs_place, rfl, _, _, rfl, rfl, dx, _, h1, by show 2 < 1000; decide, _, rfl, k _ ⟨dx, l, ?_, ?_⟩ ?_⟩
 ·rw [zad]; rfl
 ·rw [zaw nlr]; exact h2
 ·intro b o nb hb; rw [zaw nb]; exact hb
def zoc (D : Defs) : Sp := fun vs H Q E => ∃ r ts i t u, vs = [.ref r, .str t] /\ RunsAt D H r ts i /\ ts[i]? = some u /\ (u.length <= 90000 /\ ∀ c ∈ u.cps.toList, c < 1114112) /\ (t.length <= 90000 /\ ∀ c ∈ t.cps.toList, c < 1114112) /\
 (u = t -> ∀ H', RunsAt D H' r ts (i + 1) -> SameX r H H' -> Q .non H') /\ (u ≠ t -> ∀ H', E (.ref D.x_NoStatement) none H')
theorem zfN (T : Tx K mg D) : FnOk P w K mg Qd (CXX P w mg) 2 D.a_c2 D.d_c2 ["self", "wanted"] (zoc D) := by
 have G_b1 := @zdF P w _ _ Qd _ T;refine T.F_c2.okX sc_c2 (fun vs H Q E h => ?_) (fun cdv A outer s H vs Q E hr h => ?_)
 ·obtain ⟨r, ts, i, t, u, rfl, _⟩ := h; rfl
 obtain ⟨r, ts, i, t, u, rfl, hR, ht, hu1, ht1, k, kE⟩ := h;have hR0 := hR;obtain ⟨dx, l, h1, h2⟩ := hR0;have hu := hr.units;have hr_b1 : Room 1 _ := hr.mono δ;refine ⟨_, (zac (zar (i := 2) sc_c2.nd ρ (by walk_at "o") (zca (pv 0) T.cl_Runs T.h_b1 G_b1 hr_b1 T.b_b1 .nil zaJ))
  (zah (zaF (zal (zcl K hu) (pv 2) (pv 1) (zay _)) (zah (zbs za7 ρ zaE T.x_NoStatement PySem.F.excBase_ValueError ρ (zaa (zc6 (zaH (pm_r (pv 1)) (zaH zck (zaH (pm_r (pv 2)) zc5)))) zae))) zao))), ?_⟩
 walk_at "S";walk_at "";refine ⟨r, dx, _, rfl, h1, rfl, r, ts, i, u, rfl, hR, ht, fun H' hR' hS => ?_⟩;walk_at "";refine ite2 (fun c => ?_) fun c => k (Classical.not_not.mp c) H' hR' hS;exact ⟨⟨ω, ht1.2⟩, ⟨ω, hu1.2⟩, fun out _ => ⟨zaq (show 1 <= 100000 by decide), kE c _⟩⟩
def zod (D : Defs) : Sp := fun vs H Q _ => ∃ (r l dx : Addr) (ts : List Str), vs = [.ref r, .ref l] /\ H r = some (.ins D.C_Runs dx []) /\ H l = some (.lst (ts.map V.str)) /\ ts.length <= 100000 /\ ∀ H', RunsAt D H' r (ts ++ [Str.ofString ""]) 0 -> SameX r H H' -> Q .non H'
theorem zlT (T : Tx K mg D) : FnOk P w K mg Qd CX0 1 D.a_b9 D.d_b9 ["self", "runs"] (zod D) := by
 refine T.F_b9.ok zfw (fun vs H Q E h => ?_) (fun cdv A outer s H vs Q E hr h => ?_)
 ·obtain ⟨r, l, dx, ts, rfl, _⟩ := h; rfl
 obtain ⟨r, l, dx, ts, rfl, h1, h2, hl, k⟩ := h;have hu := hr.units;refine ⟨_, (zac (zk0 (pv 0) (zam (zax K) (pv 1) (zbx (zaa (T.g_END ρ) zae))) ρ)
  (zah (zk0 (pv 0) zag ρ))), ?_⟩
 walk_at "S";walk_at "";refine ⟨δ, fun p hp => ?_⟩;have nlp : l ≠ p := zas h2 hp;have nrp : r ≠ p := zas h1 hp;have nlr : l ≠ r := zmt h2 h1 (by intro z; cases z);refine ⟨_, _, .inl ⟨by rw [zaw nlp]; exact h2, zad, by rw [yaf, sizeLine_eq]; show ts.length + 1 <= _; omega, fun q hq => ?_⟩⟩;have nqp : q ≠ p := by rintro rfl; rw [zad] at hq; cases hq
 have hHq : H q = none := by rw [zaw nqp] at hq; exact hq
 have nrq : r ≠ q := zas h1 hHq;refine ⟨r, _, dx, [], rfl, by rw [zaw nrq, zaw nrp]; exact h1, T.cl_Runs, T.n_Runs_runs,δ, ?_⟩;walk_at "t";refine ⟨r, _, dx, _, rfl, zad, T.cl_Runs, T.n_Runs_place, by show 1 < 1000; decide, ?_⟩;walk_at "t";refine k _ ⟨dx, q, ?_, ?_⟩ ?_
 ·rw [zad]; rfl
 ·rw [zaw (Ne.symm nrq), zaw (Ne.symm nrq), zad, ya0]; rfl
 ·intro b o nb hb;rw [zaw nb, zaw nb, zaw (zas hb hHq), zaw (zas hb hp)];exact hb
def TxL (t : Str) : Prop := t.length <= 90000 /\ ∀ c ∈ t.cps.toList, c < 1114112
def letB (t : Str) : Bool := base t "ABCDEFGHIJKLMNOPQRSTUVWXYZ"
def zcw (t : Str) : Bool := (base t "abcdefghijklmnopqrstuvwxyz" && !inV (.str t) zeF) || letB t
def zps (D : Defs) : Sp := fun vs H Q E => ∃ r ts i t, vs = [.ref r] /\ RunsAt D H r ts i /\ ts[i]? = some t /\ TxL t /\ (letB t = true -> ∀ H', RunsAt D H' r ts (i + 1) -> SameX r H H' -> Q (.str t) H') /\ (letB t = false -> ∀ H', E (.ref D.x_NoStatement) none H')
theorem zdP (T : Tx K mg D) : FnOk P w K mg Qd (CXX P w mg) 3 D.a_a6 D.d_a6 ["runs"] (zps D) := by
 have G_b1 := @zdF P w _ _ Qd _ T;have G_c4 := @zfx P w _ _ Qd _ T;refine T.F_a6.okX sc_a6 (fun vs H Q E h => ?_) (fun cdv A outer s H vs Q E hr h => ?_)
 ·obtain ⟨r, ts, i, t, rfl, _⟩ := h; rfl
 obtain ⟨r, ts, i, t, rfl, hR, ht, hl, k, kE⟩ := h;have hR0 := hR;obtain ⟨dx, l, h1, h2⟩ := hR0;have hu := hr.units;have hr_b1 : Room 1 _ := hr.mono δ;have hr_c4 : Room 2 _ := hr.mono δ;refine ⟨_, (zac (zar (i := 1) sc_a6.nd ρ (by walk_at "o") (zca (pv 0) T.cl_Runs T.h_b1 G_b1 hr_b1 T.b_b1 .nil zaJ))
  (zac (zaF (zdr (zc3 (YC G_c4 hr_c4 ρ T.m_c4 (zaa (pv 1) zae)))) (zah (zbs za7 ρ zaE T.x_NoStatement PySem.F.excBase_ValueError ρ (zaa (zc6 (zaH zck (zaH (pm_r (pv 1)) zc5))) zae))) zao)
  (zah (zan (pv 1))))), ?_⟩
 walk_at "S";walk_at "";refine ⟨r, dx, _, rfl, h1, rfl, r, ts, i, t, rfl, hR, ht, fun H' hR' hS => ?_⟩;walk_at "";refine ⟨t, rfl, hl.1, fun H2 hs2 => ?_⟩;walk_at "t";exact ite2 (fun c => ⟨⟨yat hl.1 δ, hl.2⟩, fun out _ => ⟨zaq (show 1 <= 100000 by decide), kE c _⟩⟩) fun c => k (eq_true_of_ne_false c) H2 (hR'.same hs2) (hS.trans (Same.x hs2))
def zoe (D : Defs) : Sp := fun vs H Q E => ∃ r ts i t, vs = [.ref r] /\ RunsAt D H r ts i /\ ts[i]? = some t /\ TxL t /\ (zcw t = true -> ∀ H', RunsAt D H' r ts (i + 1) -> SameX r H H' -> Q (.str t) H') /\ (zcw t = false -> ∀ H', E (.ref D.x_NoStatement) none H')
theorem zfy (T : Tx K mg D) : FnOk P w K mg Qd (CXX P w mg) 3 D.a_b2 D.d_b2 ["runs"] (zoe D) := by
 have G_b1 := @zdF P w _ _ Qd _ T;have G_c4 := @zfx P w _ _ Qd _ T;have G_d4 := @zfM P w _ _ Qd _ T;refine T.F_b2.okX sc_b2 (fun vs H Q E h => ?_) (fun cdv A outer s H vs Q E hr h => ?_)
 ·obtain ⟨r, ts, i, t, rfl, _⟩ := h; rfl
 obtain ⟨r, ts, i, t, rfl, hR, ht, hl, k, kE⟩ := h;have hR0 := hR;obtain ⟨dx, l, h1, h2⟩ := hR0;have hu := hr.units;have hr_b1 : Room 1 _ := hr.mono δ;have hr_c4 : Room 2 _ := hr.mono δ;have hr_d4 : Room 2 _ := hr.mono δ;refine ⟨_, (zac (zar (i := 1) sc_b2.nd ρ (by walk_at "o") (zca (pv 0) T.cl_Runs T.h_b1 G_b1 hr_b1 T.b_b1 .nil zaJ))
  (zac (zaF (PW.pt (zdq (zdr (zc3 (YC G_d4 hr_d4 ρ T.m_d4 (zaa (pv 1) zae)))) (zcL (zdr (zc3 (YC G_c4 hr_c4 ρ T.m_c4 (zaa (pv 1) zae))))))) (zah (zbs za7 ρ zaE T.x_NoStatement PySem.F.excBase_ValueError ρ (zaa (zc6 (zaH zck (zaH (pm_r (pv 1)) zc5))) zae))) zao)
  (zah (zan (pv 1))))), ?_⟩
 walk_at "S";walk_at "";refine ⟨r, dx, _, rfl, h1, rfl, r, ts, i, t, rfl, hR, ht, fun H' hR' hS => ?_⟩;walk_at "";refine ⟨t, rfl, hl.1, fun H2 hs2 => ?_⟩;walk_at "t";refine ite2 (fun c => ?_) fun c => ?_
 ·have c' : (base t "abcdefghijklmnopqrstuvwxyz" && !inV (.str t) zeF) = false := c;refine ⟨t, rfl, hl.1, fun H3 hs3 => ?_⟩;walk_at "t";refine ite2 (fun c2 => ⟨⟨yat hl.1 δ, hl.2⟩, fun out _ => ⟨zaq (show 1 <= 100000 by decide), kE (by unfold zcw letB; rw [c', c2]; rfl) _⟩⟩) fun c2 => k (by unfold zcw letB; rw [eq_true_of_ne_false c2, Bool.or_true]) H3 (hR'.same (hs2.trans hs3)) (hS.trans (Same.x (hs2.trans hs3)))
 ·have c' : (base t "abcdefghijklmnopqrstuvwxyz" && !inV (.str t) zeF) = true := eq_true_of_ne_false c;exact k (by unfold zcw; rw [c', Bool.true_or]) H2 (hR'.same hs2) (hS.trans (Same.x hs2))
def WF (l : List Str) : Prop := ∃ rs, l = rs ++ [Str.ofString ""] /\ ∀ r ∈ rs, r ≠ Str.ofString ""
theorem WF.ne {l : List Str} (h : WF l) : ∃ t l', l = t :: l' := by
 obtain ⟨rs, rfl, _⟩ := h;cases rs with
 | nil => exact ⟨_, _, rfl⟩
 | cons r rs => exact ⟨_, _, rfl⟩
theorem WF.tl {t : Str} {l : List Str} (h : WF (t :: l)) (n : t ≠ Str.ofString "") : WF l := by
 obtain ⟨rs, e, k⟩ := h;cases rs with
 | nil => exact absurd (List.cons.inj e).1 n
 | cons r rs => exact ⟨rs, (List.cons.inj e).2, fun x hx => k x (List.mem_cons_of_mem _ hx)⟩
theorem zch {ts l : List Str} {i : Nat} {t : Str} (h : ts.drop i = t :: l) : ts[i]? = some t /\ ts.drop (i + 1) = l /\ i < ts.length := by
 have e : ts[i]? = some t := by have := congrArg List.head? h; simpa using this
 exact ⟨e, by rw [<- List.drop_drop, h]; rfl, (yag.mp e).1⟩
def zcV : List Str -> Option (List Str × List Str)
 | c :: t :: l => if c = Str.ofString "," then (if zcw t = true then (zcV l).map fun p => (t :: p.1, p.2) else none) else some ([], c :: t :: l)
 | l => some ([], l)
theorem zeh {c : Str} {l : List Str} (h : c ≠ Str.ofString ",") : zcV (c :: l) = some ([], c :: l) := by
 cases l with
 | nil => rfl
 | cons t l => unfold zcV; rw [if_neg h]
theorem zg3 {t : Str} {l : List Str} : zcV (Str.ofString "," :: t :: l) = if zcw t = true then (zcV l).map fun p => (t :: p.1, p.2) else none := by
 show (if Str.ofString "," = Str.ofString "," then _ else _) = _;rw [if_pos rfl]
def clos (acc : List Str) : Option (List Str × List Str) -> Option (List Str × List Str)
 | some (us, c :: l) => if c = Str.ofString ")" then (if (acc ++ us).length <= 3 then some (acc ++ us, l) else none) else none
 | _ => none
theorem zke {acc : List Str} {t : Str} : ∀ {m : Option (List Str × List Str)}, clos acc (m.map fun p => (t :: p.1, p.2)) = clos (acc ++ [t]) m
 | none => rfl
 | some (us, []) => rfl
 | some (us, c :: l) => by simp [clos, List.append_assoc]
def zcm : List Str -> Option (List Str × List Str)
 | o :: t :: l => if o = Str.ofString "(" then (if zcw t = true then clos [t] (zcV l) else none) else some ([], o :: t :: l)
 | l => some ([], l)
theorem zdG {o : Str} {l : List Str} (h : o ≠ Str.ofString "(") : zcm (o :: l) = some ([], o :: l) := by
 cases l with
 | nil => rfl
 | cons t l =>
  show (if o = Str.ofString "(" then _ else some ([], o :: t :: l)) = _;rw [if_neg h]
theorem tl_lits : TxL (Str.ofString "(") /\ TxL (Str.ofString ")") /\ TxL (Str.ofString ",") /\ TxL (Str.ofString "") := by unfold TxL; decide +kernel
theorem zdo {t : Str} (h : zcw t = true) : t ≠ Str.ofString "" := by
 rintro rfl
 exact absurd h (by decide +kernel)
def zlU (K : W.Frag) (D : Defs) : Sp := fun vs H Q E => ∃ (r : Addr) (ts : List Str) (i : Nat), vs = [.ref r] /\ RunsAt D H r ts i /\ ts.length <= 100000 /\ (∀ t ∈ ts, TxL t) /\ WF (ts.drop i) /\
 (∀ us l, zcm (ts.drop i) = some (us, l) -> ∀ p H' j, SqT K H' p (us.map V.str) -> RunsAt D H' r ts j -> ts.drop j = l -> SameX r H H' -> Q (.ref p) H') /\ (zcm (ts.drop i) = none -> ∀ H', E (.ref D.x_NoStatement) none H')
theorem zeG (T : Tx K mg D) : FnOk P w K mg Qd (CXX P w mg) 4 D.a_a8 D.d_a8 ["runs"] (zlU K D) := by
 have G_a7 := @zkd P w _ _ Qd _ T;have G_c2 := @zfN P w _ _ Qd _ T;have G_b2 := @zfy P w _ _ Qd _ T;refine T.F_a8.okX sc_a8 (fun vs H Q E h => ?_) (fun cdv A outer s H vs Q E hr h => ?_)
 ·obtain ⟨r, ts, i, rfl, _⟩ := h; rfl
 obtain ⟨r, ts, i, rfl, hR, hn, hTL, hW, k, kE⟩ := h;have hR0 := hR;obtain ⟨dx, l, h1, h2⟩ := hR0;have hu := hr.units;have hr_a7 : Room 1 _ := hr.mono δ;have hr_c2 : Room 2 _ := hr.mono δ;have hr_b2 : Room 3 _ := hr.mono δ;have tl : ∀ {j : Nat} {t : Str}, ts[j]? = some t -> TxL t := fun h => hTL _ (ya1 h);refine ⟨_, (zac (zaF (zal (zcl K hu) (zca (pv 0) T.cl_Runs T.h_a7 G_a7 hr_a7 T.b_a7 .nil zaJ) zai (zay _)) (zah (zan (zci zae))) zao)
  (zac (zco (zcC za7 zaE (pv 0) T.cl_Runs T.h_c2 G_c2 hr_c2 T.b_c2 .nil (zaa zai zae)))
  (zac (zar (i := 1) sc_a8.nd ρ (by walk_at "o") (zbx (zaa (zbt za7 zaE G_b2 hr_b2 ρ T.m_b2.1 T.F_b2.kp T.m_b2.2.2 .nil (zaa (pv 0) zae)) zae)))
  (zac (zgb zd4 (zal (zb9 K hu) (zca (pv 0) T.cl_Runs T.h_a7 G_a7 hr_a7 T.b_a7 .nil zaJ) zai (zay _)) (zac (zco (zcC za7 zaE (pv 0) T.cl_Runs T.h_c2 G_c2 hr_c2 T.b_c2 .nil (zaa zai zae)))
  (zah (zco (zbP K PySem.F.plainAttrs_list PySem.F.slot_list_append PySem.F.type_list_append zhc (pv 1) (zaa (zbt za7 zaE G_b2 hr_b2 ρ T.m_b2.1 T.F_b2.kp T.m_b2.2.2 .nil (zaa (pv 0) zae)) zae))))))
  (zac (zco (zcC za7 zaE (pv 0) T.cl_Runs T.h_c2 G_c2 hr_c2 T.b_c2 .nil (zaa zai zae)))
  (zac (zaF (zal zgS (zau (za1 K) ρ T.z_len yap (zaa (pv 1) zae)) (T.g_MOST_TERMS ρ) (zay _)) (zah (zbs za7 ρ zaE T.x_NoStatement PySem.F.excBase_ValueError ρ (zaa (zc6 (zaH zck (zaH (pm_v (T.g_MOST_TERMS ρ)) (zaH zck zc5)))) zae))) zao)
  (zah (zan (zbE (zbC K) ρ T.z_tuple ρ (zaa (pv 1) zae)))))))))), ?_⟩
 walk_at "S";walk_at "";obtain ⟨o, l1, e0⟩ := hW.ne;obtain ⟨a0, d0, _⟩ := zch e0;refine ⟨r, dx, _, rfl, h1, rfl, r, ts, i, o, rfl, hR, a0, ?_⟩;walk_at "t";refine ite2 (fun c => ?_) fun c => ?_
 ·refine ⟨δ, fun p hp => k [] (o :: l1) (by rw [e0]; exact zdG c) p _ i (SqT.of zad) (hR.same (zaf hp _)) e0 (Same.x (zaf hp _))⟩
 obtain rfl : o = Str.ofString "(" := Classical.not_not.mp c;refine ⟨r, dx, _, rfl, h1, rfl, r, ts, i, _, _, rfl, hR, a0, tl a0, tl_lits.1, fun _ H1 hR1 hS1 => ?_, fun z => absurd rfl z⟩;walk_at "t";have hW1 : WF l1 := by rw [e0] at hW; exact hW.tl δ
 obtain ⟨t, l2, rfl⟩ := hW1.ne;obtain ⟨a1, d1, lt1⟩ := zch d0;have ep : zcm (ts.drop i) = if zcw t = true then clos [t] (zcV l2) else none := by
  rw [e0];show (if Str.ofString "(" = Str.ofString "(" then (if zcw t = true then clos [t] (zcV l2) else none) else some ([], Str.ofString "(" :: t :: l2)) = _;rw [if_pos rfl]
 refine ⟨r, ts, i + 1, t, rfl, hR1, a1, tl a1, fun hb H2 hR2 hS2 => ?_, fun hb H' => ⟨_, rfl, kE (by rw [ep, if_neg (by rw [hb]; decide)]) H'⟩⟩;rw [if_pos hb] at ep;refine ⟨by show 1 <= sizeLine; decide, fun p hp => ?_⟩;have hpr : r ≠ p := by obtain ⟨_, _, a, _⟩ := hR2; exact zas a hp
 have hW2 : WF l2 := hW1.tl (zdo hb);refine ⟨fun m σ' H' => ∃ (j : Nat) (acc : List Str), acc.length < j /\ j <= ts.length /\ m = ts.length - j /\ σ' = [some (.ref r), some (.ref p)] /\ H' p = some (.lst (acc.map V.str)) /\ RunsAt D H' r ts j /\ SameX r H H' /\ WF (ts.drop j) /\ zcm (ts.drop i) = clos acc (zcV (ts.drop j)), ⟨_, i + 1 + 1, [t], by show 1 < i + 1 + 1; omega, lt1, rfl, rfl, ?_, hR2.same (zaf hp _), (hS1.trans hS2).trans (Same.x (zaf hp _)), by rw [d1]; exact hW2, by rw [d1]; exact ep⟩, ?_⟩
 ·rw [zad]; rfl
 rintro m σ' H' ⟨j, acc, hal, hjl, rfl, rfl, hp', hR', hS', hW', ep'⟩
 have hR0' := hR';obtain ⟨dx', l', q1, q2⟩ := hR0';walk_at "t";obtain ⟨c, l3, e3⟩ := hW'.ne;obtain ⟨a3, d3, lt3⟩ := zch e3;refine ⟨r, dx', _, rfl, q1, rfl, r, ts, j, c, rfl, hR', a3, ?_⟩;walk_at "t";refine ite2 (fun cc => ?_) fun cc => ?_
 ·subst cc;have hW3 : WF l3 := by rw [e3] at hW'; exact hW'.tl δ
  obtain ⟨u, l4, rfl⟩ := hW3.ne;obtain ⟨a4, d4, lt4⟩ := zch d3;rw [e3, zg3] at ep';refine ⟨fun σ2 H5 => ∃ acc', acc'.length < j + 1 + 1 /\ σ2 = [some (.ref r), some (.ref p)] /\ H5 p = some (.lst (acc'.map V.str)) /\ RunsAt D H5 r ts (j + 1 + 1) /\ SameX r H H5 /\ WF l4 /\ zcm (ts.drop i) = clos acc' (zcV l4), fun σ2 H5 ⟨acc', z1, z2, z3, z4, z5, z6, z7⟩ => ⟨ts.length - (j + 1 + 1),ω, j + 1 + 1, acc', z1, lt4, rfl, z2, z3, z4, z5, by rw [d4]; exact z6, by rw [d4]; exact z7⟩, r, dx', _, rfl, q1, rfl, r, ts, j, _, _, rfl, hR', a3, tl a3, tl_lits.2.2.1, fun _ H3 hR3 hS3 => ?_, fun z => absurd rfl z⟩;have hp3 := hS3 p _ (Ne.symm hpr) hp';refine ⟨⟨_, SqL.of hp3⟩, r, ts, j + 1, u, rfl, hR3, a4, tl a4, fun hb' H4 hR4 hS4 => ?_, fun hb' H' => ⟨_, rfl, kE (by rw [ep', if_neg (by rw [hb']; decide)]; rfl) H'⟩⟩;rw [if_pos hb', zke] at ep';have hp4 := hS4 p _ (Ne.symm hpr) hp3;refine ⟨_, hp4, by rw [yaf, sizeLine_eq]; omega, acc ++ [u], by rw [yae, yas]; omega, rfl, ?_, ?_, ?_, hW3.tl (zdo hb'), ep'⟩
  ·rw [zad, ya0]; rfl
  ·obtain ⟨dx4, l4', b1, b2⟩ := hR4;have nl : l4' ≠ p := by
    rintro rfl
    rw [b2] at hp4;have := congrArg List.length (HO.lst.inj (Option.some.inj hp4));rw [yaf, yaf] at this;omega
   exact ⟨dx4, l4', by rw [zaw hpr]; exact b1, by rw [zaw nl]; exact b2⟩
  ·intro b o nb hb;have hb4 := ((hS'.trans hS3).trans hS4) b o nb hb;have nbp : b ≠ p := by
    rintro rfl
    have hb2 := (hS1.trans hS2) b o nb hb;rw [hp] at hb2; cases hb2
   rw [zaw nbp]; exact hb4
 ·rw [e3, zeh cc] at ep';have ep2 : zcm (ts.drop i) = if c = Str.ofString ")" then (if acc.length <= 3 then some (acc, l3) else none) else none := by rw [ep']; simp [clos]
  walk_at "t";refine ⟨r, dx', _, rfl, q1, rfl, r, ts, j, _, c, rfl, hR', a3, tl a3, tl_lits.2.1, fun ec H3 hR3 hS3 => ?_, fun ec H' => ⟨_, rfl, kE (by rw [ep2, if_neg ec]) H'⟩⟩;rw [if_pos ec] at ep2;have hp3 := hS3 p _ (Ne.symm hpr) hp';refine ⟨_, .inl (SqL.of hp3), ?_⟩;refine ite2 (fun c3 => ?_) fun c3 => ?_
  ·rw [yaf] at c3;exact ⟨δ, fun out _ => ⟨zaq (show 1 <= 100000 by decide), kE (by rw [ep2, if_neg ω]) _⟩⟩
  ·rw [yaf] at c3;rw [if_pos ω] at ep2;exact ⟨_, .inl ⟨SqL.of hp3, fun p2 hp2 => k acc l3 ep2 p2 _ (j + 1) (SqT.of zad) (RunsAt.same hR3 (zaf hp2 _)) d3 ((hS'.trans hS3).trans (Same.x (zaf hp2 _)))⟩⟩
def zbF (t : Str) : Bool := base t "abcdefghijklmnopqrstuvwxyz" && !inV (.str t) zeF
def zei : List Str -> List Str
 | [] => []
 | [u] => [u]
 | u :: v :: us => u :: "," :: zei (v :: us)
def toks : Stm -> List Str
 | .is w us => w :: (if us = [] then [] else (Str.ofString "(") :: zei us ++ [Str.ofString ")"])
 | .fls => [Str.ofString "false"]
 | .neg A => Str.ofString "not" :: toks A
 | .bi o A B => Str.ofString "(" :: (toks A ++ o.txt :: (toks B ++ [Str.ofString ")"]))
 | .qu q X A => qtx q :: X :: toks A
def zdi : Stm -> Prop
 | .is w us => zbF w = true /\ us.length <= 3 /\ ∀ u ∈ us, zcw u = true
 | .fls => True
 | .neg A => zdi A
 | .bi _ A B => zdi A /\ zdi B
 | .qu _ X A => letB X = true /\ zdi A
def cmT (us : List Str) : List Str := us.flatMap fun u => [Str.ofString ",", u]
theorem zdH : ∀ (t : Str) (us : List Str), zei (t :: us) = t :: cmT us
 | t, [] => rfl
 | t, u :: us => by
  have := zdH u us;show t :: "," :: zei (u :: us) = _;rw [this]; rfl
theorem zej : ∀ (l us r : List Str), zcV l = some (us, r) -> (∀ u ∈ us, zcw u = true) /\ l = cmT us ++ r
 | [], us, r, h => by cases h; exact ⟨ς, rfl⟩
 | [c], us, r, h => by cases h; exact ⟨ς, rfl⟩
 | c :: t :: l, us, r, h => by
  by_cases hc : c = Str.ofString ","
  ·subst hc;rw [zg3] at h
   by_cases hb : zcw t = true
   ·rw [if_pos hb] at h;cases e : zcV l with
    | none => rw [e] at h; cases h
    | some p =>
     rw [e] at h;cases h;obtain ⟨k1, k2⟩ := zej l p.1 p.2 e;refine ⟨fun u hu => ?_, by rw [k2]; rfl⟩;rcases yau.mp hu with rfl | hu
     ·exact hb
     ·exact k1 u hu
   ·rw [if_neg hb] at h; cases h
  ·rw [zeh hc] at h;cases h;exact ⟨ς, rfl⟩
theorem ziJ {acc us r : List Str} : ∀ {m : Option (List Str × List Str)}, clos acc m = some (us, r) -> ∃ vs, m = some (vs, Str.ofString ")" :: r) /\ us = acc ++ vs /\ us.length <= 3
 | none, h => by cases h
 | some (vs, []), h => by cases h
 | some (vs, c :: l), h => by
  have h' : (if c = Str.ofString ")" then (if (acc ++ vs).length <= 3 then some (acc ++ vs, l) else none) else none) = some (us, r) := h
  by_cases hc : c = Str.ofString ")"
  ·rw [if_pos hc] at h'
   by_cases hl : (acc ++ vs).length <= 3
   ·rw [if_pos hl] at h';cases h';exact ⟨vs, by rw [hc], rfl, hl⟩
   ·rw [if_neg hl] at h'; cases h'
  ·rw [if_neg hc] at h'; cases h'
theorem zfO : ∀ (l us r : List Str), zcm l = some (us, r) -> us.length <= 3 /\ (∀ u ∈ us, zcw u = true) /\ l = (if us = [] then [] else (Str.ofString "(") :: zei us ++ [Str.ofString ")"]) ++ r
 | [], us, r, h => by cases h; exact ⟨ς,ς, rfl⟩
 | [c], us, r, h => by cases h; exact ⟨ς,ς, rfl⟩
 | o :: t :: l, us, r, h => by
  by_cases ho : o = Str.ofString "("
  ·subst ho;have h' : (if zcw t = true then clos [t] (zcV l) else none) = some (us, r) := h
   by_cases hb : zcw t = true
   ·rw [if_pos hb] at h';obtain ⟨vs, e, rfl, hl⟩ := ziJ h';obtain ⟨k1, k2⟩ := zej _ _ _ e;refine ⟨hl, fun u hu => ?_, ?_⟩
    ·rcases yau.mp hu with rfl | hu
     ·exact hb
     ·exact k1 u hu
    ·rw [if_neg ς, k2];show _ = (Str.ofString "(" :: zei (t :: vs) ++ [Str.ofString ")"]) ++ r;rw [zdH];simp
   ·rw [if_neg hb] at h'; cases h'
  ·rw [zdG ho] at h;cases h;exact ⟨ς,ς, rfl⟩
def pQ (q : Bool) (rec : List Str -> Option (Stm × List Str)) : List Str -> Option (Stm × List Str)
 | X :: l => if letB X = true then (rec l).map fun p => (.qu q X p.1, p.2) else none
 | [] => none
def biOf (t : Str) : Option Bi := if t = Bi.and.txt then some .and else if t = Bi.or.txt then some .or else if t = Bi.thn.txt then some .thn else none
def pEnd (o : Bi) (A : Stm) : Option (Stm × List Str) -> Option (Stm × List Str)
 | some (B, c :: l) => if c = Str.ofString ")" then some (.bi o A B, l) else none
 | _ => none
def pMid (rec : List Str -> Option (Stm × List Str)) : Option (Stm × List Str) -> Option (Stm × List Str)
 | some (A, j :: l) => match biOf j with
  | some o => pEnd o A (rec l)
  | none => none
 | _ => none
def zkf (rec : List Str -> Option (Stm × List Str)) : List Str -> Option (Stm × List Str)
 | [] => none
 | f :: l => if f = Str.ofString "false" then some (.fls, l) else if f = Str.ofString "not" then (rec l).map fun p => (.neg p.1, p.2) else if f = qtx true then pQ true rec l else if f = qtx false then pQ false rec l
  else if f = Str.ofString "(" then pMid rec (rec l) else if zbF f = true then (zcm l).map fun p => (.is f p.1, p.2) else none
theorem zcW {rec : List Str -> Option (Stm × List Str)} {f : Str} {l : List Str} : zkf rec (f :: l) = if f = Str.ofString "false" then some (.fls, l) else if f = Str.ofString "not" then (rec l).map fun p => (.neg p.1, p.2) else if f = qtx true then pQ true rec l else if f = qtx false then pQ false rec l
  else if f = Str.ofString "(" then pMid rec (rec l) else if zbF f = true then (zcm l).map fun p => (.is f p.1, p.2) else none := rfl
def pStm : Nat -> List Str -> Option (Stm × List Str)
 | 0, _ => none
 | n + 1, l => zkf (pStm n) l
theorem zdI {t : Str} {o : Bi} (h : biOf t = some o) : t = o.txt := by
 unfold biOf at h
 repeat (split at h; · rename_i e; cases h; exact e)
 cases h
theorem zkg {n : Nat} {rec : List Str -> Option (Stm × List Str)} (ih : ∀ l S r, rec l = some (S, r) -> zdi S /\ S.deep <= n /\ l = toks S ++ r) : ∀ l S r, zkf rec l = some (S, r) -> zdi S /\ S.deep <= n + 1 /\ l = toks S ++ r
 | [], S, r, h => by cases h
 | f :: l, S, r, h => by
  have pq : ∀ q, f = qtx q -> pQ q rec l = some (S, r) -> zdi S /\ S.deep <= n + 1 /\ f :: l = toks S ++ r := fun q ef h => by
   cases l with
   | nil => cases h
   | cons X l =>
    have h' : (if letB X = true then (rec l).map fun p => (Stm.qu q X p.1, p.2) else none) = some (S, r) := h
    by_cases hb : letB X = true
    ·rw [if_pos hb] at h';cases e : rec l with
     | none => rw [e] at h'; cases h'
     | some p =>
      rw [e] at h';cases h';obtain ⟨k1, k2, k3⟩ := ih _ _ _ e;exact ⟨⟨hb, k1⟩, by simp only [Stm.deep]; omega, by rw [ef, k3]; rfl⟩
    ·rw [if_neg hb] at h'; cases h'
  rw [zcW] at h
  split at h
  ·rename_i ef
   cases h;exact ⟨trivial, by simp only [Stm.deep]; omega, by rw [ef]; rfl⟩
  split at h
  ·rename_i ef
   cases e : rec l with
   | none => rw [e] at h; cases h
   | some p =>
    rw [e] at h;cases h;obtain ⟨k1, k2, k3⟩ := ih _ _ _ e;exact ⟨k1, by simp only [Stm.deep]; omega, by rw [ef, k3]; rfl⟩
  split at h
  ·rename_i ef; exact pq true ef h
  split at h
  ·rename_i ef; exact pq false ef h
  split at h
  ·rename_i ef
   cases e : rec l with
   | none => rw [e] at h; cases h
   | some p =>
    obtain ⟨A, l1⟩ := p;rw [e] at h;cases l1 with
    | nil => cases h
    | cons j l1 =>
     cases eo : biOf j with
     | none => simp only [pMid, eo] at h; cases h
     | some o =>
      simp only [pMid, eo] at h;cases e2 : rec l1 with
      | none => rw [e2] at h; cases h
      | some p =>
       obtain ⟨B, l2⟩ := p;rw [e2] at h;cases l2 with
       | nil => cases h
       | cons c l2 =>
        have h' : (if c = Str.ofString ")" then some (Stm.bi o A B, l2) else none) = some (S, r) := h
        by_cases hc : c = Str.ofString ")"
        ·rw [if_pos hc] at h';cases h';obtain ⟨k1, k2, k3⟩ := ih _ _ _ e;obtain ⟨q1, q2, q3⟩ := ih _ _ _ e2;refine ⟨⟨k1, q1⟩, by simp only [Stm.deep]; omega, ?_⟩;rw [ef, k3, q3, hc, zdI eo];simp [toks]
        ·rw [if_neg hc] at h'; cases h'
  split at h
  ·rename_i hb
   cases e : zcm l with
   | none => rw [e] at h; cases h
   | some p =>
    rw [e] at h;cases h;obtain ⟨k1, k2, k3⟩ := zfO _ _ _ e;refine ⟨⟨hb, k1, k2⟩, by simp only [Stm.deep]; omega, ?_⟩;show f :: l = (f :: _) ++ p.2;rw [List.cons_append, <- k3]
  ·cases h
theorem zfP : ∀ (n : Nat) (l : List Str) (S : Stm) (r : List Str), pStm n l = some (S, r) -> zdi S /\ S.deep <= n /\ l = toks S ++ r
 | 0, l, S, r, h => by cases h
 | n + 1, l, S, r, h => zkg (zfP n) l S r h
theorem ziK {t : Str} (h : letB t = true) : t ≠ Str.ofString "" := by rintro rfl; exact absurd h (by decide +kernel)
theorem zg4 {t : Str} (h : zbF t = true) : t ≠ Str.ofString "" := by rintro rfl; exact absurd h (by decide +kernel)
theorem zdJ : ∀ {S : Stm}, zdi S -> ∀ t ∈ toks S, t ≠ Str.ofString ""
 | .is w us, h, t, ht => by
  rcases yau.mp ht with rfl | ht
  ·exact zg4 h.1
  ·cases us with
   | nil => cases ht
   | cons u us =>
    rw [if_neg ς, zdH] at ht;simp only [List.cons_append, List.mem_cons, List.mem_append, cmT, List.mem_flatMap, List.not_mem_nil, or_false] at ht;rcases ht with rfl | rfl | ⟨x, hx, rfl | rfl⟩ | rfl
    ·decide
    ·exact zdo (h.2.2 _ List.mem_cons_self)
    ·decide
    ·exact zdo (h.2.2 _ (List.mem_cons_of_mem _ hx))
    ·decide
 | .fls, _, t, ht => by rw [yah.mp ht]; decide
 | .neg A, h, t, ht => by
  rcases yau.mp ht with rfl | ht
  ·decide
  ·exact zdJ (S := A) h t ht
 | .bi o A B, h, t, ht => by
  simp only [toks, List.mem_cons, List.mem_append, List.not_mem_nil, or_false] at ht;rcases ht with rfl | ht | rfl | ht | rfl
  ·decide
  ·exact zdJ (S := A) h.1 t ht
  ·cases o <;> decide
  ·exact zdJ (S := B) h.2 t ht
  ·decide
 | .qu q X A, h, t, ht => by
  rcases yau.mp ht with rfl | ht
  ·cases q <;> decide
  rcases yau.mp ht with rfl | ht
  ·exact ziK h.1
  ·exact zdJ (S := A) h.2 t ht
theorem WF.app : ∀ {a l : List Str}, WF (a ++ l) -> (∀ t ∈ a, t ≠ Str.ofString "") -> WF l
 | [], _, h, _ => h
 | t :: a, l, h, k => WF.app (a := a) (WF.tl h (k t List.mem_cons_self)) fun x hx => k x (List.mem_cons_of_mem _ hx)
theorem zeH {n : Nat} {l r : List Str} {S : Stm} (h : pStm n l = some (S, r)) (w : WF l) : WF r := by
 obtain ⟨k1, _, k3⟩ := zfP n l S r h;rw [k3] at w;exact w.app (zdJ k1)
theorem SqT.sameX {K : W.Frag} {H H' : Hp} {r a C dx : Addr} {fs : List (Str × V)} {xs : List V} (e : SameX r H H') (hr : H r = some (.ins C dx fs)) (h : SqT K H a xs) : SqT K H' a xs := by
 rcases h with h | h
 ·have na : a ≠ r := by
   rintro rfl
   rcases h with h | ⟨o, h⟩
   ·rw [hr] at h; cases h
   ·rw [hr] at h; cases h
  rcases h with h | ⟨o, h⟩
  ·exact .inl (.inl (e _ _ na h))
  ·exact .inl (.inr ⟨o, e _ _ na h⟩)
 ·exact .inr h
theorem RepS.sameX {K : W.Frag} {H H' : Hp} {r C dx : Addr} {fs : List (Str × V)} (e : SameX r H H') (hr : H r = some (.ins C dx fs)) : ∀ {S : Stm} {v : V}, RepS K H S v -> RepS K H' S v
 | .is _ _, _, ⟨a, b, h1, h2, h3⟩ => ⟨a, b, h1, SqT.sameX e hr h2, SqT.sameX e hr h3⟩
 | .fls, _, ⟨a, h1, h2⟩ => ⟨a, h1, SqT.sameX e hr h2⟩
 | .neg _, _, ⟨a, u, h1, h2, h3⟩ => ⟨a, u, h1, SqT.sameX e hr h2, RepS.sameX e hr h3⟩
 | .bi _ _ _, _, ⟨a, u, u', h1, h2, h3, h4⟩ => ⟨a, u, u', h1, SqT.sameX e hr h2, RepS.sameX e hr h3, RepS.sameX e hr h4⟩
 | .qu _ _ _, _, ⟨a, u, h1, h2, h3⟩ => ⟨a, u, h1, SqT.sameX e hr h2, RepS.sameX e hr h3⟩
def spTS (K : W.Frag) (D : Defs) (d : Nat) : Sp := fun vs H Q E => ∃ (r : Addr) (ts : List Str) (i n : Nat), vs = [.ref r, .int n] /\ n < d /\ RunsAt D H r ts i /\ ts.length <= 100000 /\ (∀ t ∈ ts, TxL t) /\ WF (ts.drop i) /\
 (∀ S l, pStm n (ts.drop i) = some (S, l) -> ∀ v H' j, RepS K H' S v -> RunsAt D H' r ts j -> ts.drop j = l -> SameX r H H' -> Q v H') /\ (pStm n (ts.drop i) = none -> ∀ H', E (.ref D.x_NoStatement) none H')
def spTP (K : W.Frag) (D : Defs) (d : Nat) : Sp := fun vs H Q E => ∃ (r : Addr) (ts : List Str) (i n : Nat), vs = [.ref r, .int n] /\ n < d /\ RunsAt D H r ts i /\ ts.length <= 100000 /\ (∀ t ∈ ts, TxL t) /\ WF (ts.drop i) /\
 (∀ S l, pMid (pStm n) (pStm n (ts.drop i)) = some (S, l) -> ∀ v H' j, RepS K H' S v -> RunsAt D H' r ts j -> ts.drop j = l -> SameX r H H' -> Q v H') /\ (pMid (pStm n) (pStm n (ts.drop i)) = none -> ∀ H', E (.ref D.x_NoStatement) none H')
theorem zlV (T : Tx K mg D) (d : Nat) (G_a1 : FnOk P w K mg Qd (CXX P w mg) (2 * d + 5) D.a_a1 D.d_a1 ["runs", "room"] (spTS K D d)) :
  FnOk P w K mg Qd (CXX P w mg) (2 * d + 6) D.a_c0 D.d_c0 ["runs", "room"] (spTP K D d) := by
 have G_b1 := @zdF P w _ _ Qd _ T;have G_c2 := @zfN P w _ _ Qd _ T;refine T.F_c0.okX sc_c0 (fun vs H Q E h => ?_) (fun cdv A outer s H vs Q E hr h => ?_)
 ·obtain ⟨r, ts, i, n, rfl, _⟩ := h; rfl
 obtain ⟨r, ts, i, n, rfl, hnd, hR, hn, hTL, hW, k, kE⟩ := h;have hu := hr.units;have hr_a1 : Room (2 * d + 5) _ := hr;have hr_b1 : Room 1 _ := hr.mono ω;have hr_c2 : Room 2 _ := hr.mono ω;have tl : ∀ {j : Nat} {t : Str}, ts[j]? = some t -> TxL t := fun h => hTL _ (ya1 h);refine ⟨_, (zac (zar (i := 2) sc_c0.nd ρ (by walk_at "o") (zbt za7 zaE G_a1 hr_a1 ρ T.m_a1.1 T.F_a1.kp T.m_a1.2.2 .nil (zaa (pv 0) (zaa (pv 1) zae))))
  (zac (zar (i := 3) sc_c0.nd ρ (by walk_at "o") (zca (pv 0) T.cl_Runs T.h_b1 G_b1 hr_b1 T.b_b1 .nil zaJ))
  (zac (zaF (zal (zb1 K hu) (pv 3) (T.g_PAIRS ρ) ρ) (zah (zbs za7 ρ zaE T.x_NoStatement PySem.F.excBase_ValueError ρ (zaa (zc6 (zaH zck (zaH (pm_r (pv 3)) zc5))) zae))) zao)
  (zac (zar (i := 4) sc_c0.nd ρ (by walk_at "o") (zbt za7 zaE G_a1 hr_a1 ρ T.m_a1.1 T.F_a1.kp T.m_a1.2.2 .nil (zaa (pv 0) (zaa (pv 1) zae))))
  (zac (zco (zcC za7 zaE (pv 0) T.cl_Runs T.h_c2 G_c2 hr_c2 T.b_c2 .nil (zaa zai zae)))
  (zah (zan (zci (zaa (pv 3) (zaa (pv 2) (zaa (pv 4) zae))))))))))), ?_⟩
 walk_at "S";walk_at "";refine ⟨r, ts, i, n, rfl, hnd, hR, hn, hTL, hW, fun SA l1 eA va H1 j1 ra hR1 dj1 hS1 => ?_, fun e H' => ⟨_, rfl, kE (by rw [e]; rfl) H'⟩⟩;walk_at "t";have hW1 : WF l1 := zeH eA hW;obtain ⟨o, l2, rfl⟩ := hW1.ne;obtain ⟨a1, d1, lt1⟩ := zch dj1;have hR1' := hR1;obtain ⟨dx1, m1, c1, b1⟩ := hR1';refine ⟨r, dx1, _, rfl, c1, rfl, r, ts, _, o, rfl, hR1, a1, fun H2 hR2 hS2 => ?_⟩;walk_at "t";refine .inl ⟨_, _, rfl, .inr (T.q_PAIRS _), rfl,δ, ?_⟩;refine ⟨_, rfl, ?_⟩;have hin : inV (.str o) [V.str "and", V.str "or", V.str "then"] = (biOf o).isSome := by
  unfold biOf;simp only [inV, List.any_cons, List.any_nil, eqV, Bool.or_false]
  by_cases e1 : o = Bi.and.txt
  ·subst e1; rfl
  by_cases e2 : o = Bi.or.txt
  ·subst e2; rfl
  by_cases e3 : o = Bi.thn.txt
  ·subst e3; rfl
  rw [if_neg e1, if_neg e2, if_neg e3];simp;exact ⟨fun z => e1 z.symm, fun z => e2 z.symm, fun z => e3 z.symm⟩
 cases eo : biOf o with
 | none =>
  rw [eo] at hin;refine ite2 (fun c => ?_) fun c => absurd (show (!inV (.str o) [V.str "and", V.str "or", V.str "then"]) = true by rw [hin]; rfl) c;exact ⟨⟨yat (tl a1).1 δ, (tl a1).2⟩, fun out _ => ⟨zaq (show 1 <= 100000 by decide), kE (by rw [eA]; simp only [pMid, eo]) _⟩⟩
 | some o' =>
  rw [eo] at hin;refine ite2 (fun c => ?_) fun _ => ?_
  ·exfalso
   have c' : (!inV (.str o) [V.str "and", V.str "or", V.str "then"]) = true := c;rw [hin] at c'; cases c'
  have eM : pMid (pStm n) (pStm n (ts.drop i)) = pEnd o' SA (pStm n l2) := by rw [eA]; simp only [pMid, eo]
  have hW2 : WF l2 := hW1.tl (by rw [zdI eo]; cases o' <;> decide);refine ⟨r, ts, j1 + 1, n, rfl, hnd, hR2, hn, hTL, by rw [d1]; exact hW2, fun SB l3 eB vb H3 j3 rb hR3 dj3 hS3 => ?_, fun e H' => ⟨_, rfl, kE (by rw [eM, <- d1, e]; rfl) H'⟩⟩;rw [d1] at eB;rw [eB] at eM;have hW3 : WF l3 := zeH eB hW2;obtain ⟨c, l4, rfl⟩ := hW3.ne;obtain ⟨a3, d3, lt3⟩ := zch dj3;have hR3' := hR3;obtain ⟨dx3, m3, c3, b3⟩ := hR3';have eM' : pMid (pStm n) (pStm n (ts.drop i)) = if c = Str.ofString ")" then some (.bi o' SA SB, l4) else none := eM;refine ⟨r, dx3, _, rfl, c3, rfl, r, ts, _, _, c, rfl, hR3, a3, tl a3, tl_lits.2.1, fun ec H4 hR4 hS4 => ?_, fun ec H' => ⟨_, rfl, kE (by rw [eM', if_neg ec]) H'⟩⟩;rw [if_pos ec] at eM';obtain rfl := zdI eo;refine ⟨by show 3 <= sizeLine; decide, fun p hp => k _ _ eM' _ _ (j3 + 1) ⟨p, va, vb, rfl, SqT.of zad, ?_, ?_⟩ (hR4.same (zaf hp _)) d3 ?_⟩
  ·obtain ⟨dx2, m2, c2, b2⟩ := hR2;exact (RepS.sameX hS4 c3 (RepS.sameX hS3 c2 (RepS.sameX hS2 c1 ra))).same (zaf hp _)
  ·exact (RepS.sameX hS4 c3 rb).same (zaf hp _)
  ·exact (((hS1.trans hS2).trans hS3).trans hS4).trans (Same.x (zaf hp _))
theorem zof (T : Tx K mg D) : ∀ d, FnOk P w K mg Qd (CXX P w mg) (2 * d + 5) D.a_a1 D.d_a1 ["runs", "room"] (spTS K D d)
 | 0 => ⟨fun vs H Q E h => by obtain ⟨r, ts, i, n, rfl, _⟩ := h; rfl, fun A outer s H args us vs Q E _ _ _ _ h => by
   obtain ⟨r, ts, i, n, _, hn, _⟩ := h;exact absurd hn (Nat.not_lt_zero _)⟩
 | d + 1 => by
  have G_a1 := zof T d;have G_c0 := zlV T d G_a1;have G_b1 := @zdF P w _ _ Qd _ T;have G_a6 := @zdP P w _ _ Qd _ T;have G_a8 := @zeG P w _ _ Qd _ T;have G_d2 := @zlQ P w _ _ Qd _ T;refine (T.F_a1.okX (k := 2 * d + 6) sc_a1 (fun vs H Q E h => ?_) (fun cdv A outer s H vs Q E hr h => ?_) : FnOk P w K mg Qd (CXX P w mg) (2 * d + 6 + 1) _ _ _ _)
  ·obtain ⟨r, ts, i, n, rfl, _⟩ := h; rfl
  obtain ⟨r, ts, i, n, rfl, hnd, hR, hn, hTL, hW, k, kE⟩ := h;have hu := hr.units;have hr_a1 : Room (2 * d + 5) _ := hr.mono ω;have hr_c0 : Room (2 * d + 6) _ := hr;have hr_b1 : Room 1 _ := hr.mono ω;have hr_a6 : Room 3 _ := hr.mono ω;have hr_a8 : Room 4 _ := hr.mono ω;have hr_d2 : Room 3 _ := hr.mono ω;have hR' := hR;obtain ⟨dx, l, h1, h2⟩ := hR';have tl : ∀ {j : Nat} {t : Str}, ts[j]? = some t -> TxL t := fun h => hTL _ (ya1 h);refine ⟨_, (zac (zaF (zal (zb9 K hu) (pv 1) zag (zay _)) (zah (zbs za7 ρ zaE T.x_NoStatement PySem.F.excBase_ValueError ρ (zaa (zc6 (zaH zck (zaH (pm_v (T.g_MOST_DEEP ρ)) (zaH zck zc5)))) zae))) zao)
  (zac (zar (i := 2) sc_a1.nd ρ (by walk_at "o") (zca (pv 0) T.cl_Runs T.h_b1 G_b1 hr_b1 T.b_b1 .nil zaJ))
  (zac (zaF (zal (zb9 K hu) (pv 2) zai (zay _)) (zah (zan (zci (zaa zai zae)))) zao)
  (zac (zaF (zal (zb9 K hu) (pv 2) zai (zay _)) (zah (zan (zci (zaa zai (zaa (zbt za7 zaE G_a1 hr_a1 ρ T.m_a1.1 T.F_a1.kp T.m_a1.2.2 .nil (zaa (pv 0) (zaa (zam zdb (pv 1) zag) zae))) zae))))) zao)
  (zac (zaF (zal (zgv K hu) (pv 2) (T.g_QUANTIFIERS ρ) ρ) (zac (zar (i := 3) sc_a1.nd ρ (by walk_at "o") (zbt za7 zaE G_a6 hr_a6 ρ T.m_a6.1 T.F_a6.kp T.m_a6.2.2 .nil (zaa (pv 0) zae)))
  (zah (zan (zci (zaa (pv 2) (zaa (pv 3) (zaa (zbt za7 zaE G_a1 hr_a1 ρ T.m_a1.1 T.F_a1.kp T.m_a1.2.2 .nil (zaa (pv 0) (zaa (zam zdb (pv 1) zag) zae))) zae))))))) zao)
  (zac (zaF (zal (zb9 K hu) (pv 2) zai (zay _)) (zah (zan (zbt za7 zaE G_c0 hr_c0 ρ T.m_c0.1 T.F_c0.kp T.m_c0.2.2 .nil (zaa (pv 0) (zaa (zam zdb (pv 1) zag) zae))))) zao)
  (zac (zaF (zc3 (YC G_d2 hr_d2 ρ T.m_d2 (zaa (pv 2) zae))) (zah (zan (zci (zaa zai (zaa (pv 2) (zaa (zbt za7 zaE G_a8 hr_a8 ρ T.m_a8.1 T.F_a8.kp T.m_a8.2.2 .nil (zaa (pv 0) zae)) zae)))))) zao)
  (zah (zbs za7 ρ zaE T.x_NoStatement PySem.F.excBase_ValueError ρ (zaa (zc6 (zaH zck (zaH (pm_r (pv 2)) zc5))) zae)))))))))), ?_⟩
  walk_at "S";walk_at "";refine ite2 (fun c => ?_) fun c => ?_
  ·have hn0 : n = 0 := by omega
   subst hn0;exact ⟨δ, fun out _ => ⟨zaq (show 1 <= 100000 by decide), kE rfl _⟩⟩
  obtain ⟨m, rfl⟩ : ∃ m, n = m + 1 := ⟨n - 1,ω⟩
  obtain ⟨f, l1, e0⟩ := hW.ne;obtain ⟨a0, d0, lt0⟩ := zch e0;have eP : pStm (m + 1) (ts.drop i) = zkf (pStm m) (f :: l1) := by rw [e0]; rfl
  refine ⟨r, dx, _, rfl, h1, rfl, r, ts, i, f, rfl, hR, a0, fun H1 hR1 hS1 => ?_⟩;walk_at "t";have en : ((m + 1 : Nat) : Int) - 1 = (m : Int) := by omega
  rw [en];rw [zcW] at eP;refine ite2 (fun c1 => ?_) fun c1 => ?_
  ·rw [if_pos c1] at eP;exact ⟨by show 1 <= sizeLine; decide, fun p hp => k _ _ eP _ _ (i + 1) ⟨p, rfl, SqT.of zad⟩ (hR1.same (zaf hp _)) d0 (hS1.trans (Same.x (zaf hp _)))⟩
  rw [if_neg c1] at eP;refine ite2 (fun c2 => ?_) fun c2 => ?_
  ·rw [if_pos c2] at eP;have hW1 : WF l1 := by rw [e0] at hW; exact hW.tl (by rw [c2]; decide)
   refine ⟨r, ts, i + 1, m, rfl,ω, hR1, hn, hTL, by rw [d0]; exact hW1, fun SA l2 eA va H2 j2 ra hR2 dj2 hS2 => ?_, fun e H' => ⟨_, rfl, kE (by rw [eP, <- d0, e]; rfl) H'⟩⟩;rw [d0] at eA;rw [eA] at eP;exact ⟨by show 2 <= sizeLine; decide, fun p hp => k _ _ eP _ _ j2 ⟨p, va, rfl, SqT.of zad, ra.same (zaf hp _)⟩ (hR2.same (zaf hp _)) dj2 ((hS1.trans hS2).trans (Same.x (zaf hp _)))⟩
  rw [if_neg c2] at eP;refine .inl ⟨_, _, rfl, .inr (T.q_QUANTIFIERS _), rfl,δ, _, rfl, ?_⟩;refine ite2 (fun c3 => ?_) fun c3 => ?_
  ·obtain ⟨q, rfl⟩ : ∃ q, f = qtx q := by
    have c' : inV (.str f) [V.str "all", V.str "some"] = true := c3;simp only [inV, List.any_cons, List.any_nil, eqV, Bool.or_false, Bool.or_eq_true, beq_iff_eq] at c';rcases c' with c' | c'
    ·exact ⟨true, c'.symm⟩
    ·exact ⟨false, c'.symm⟩
   have eP2 : pStm (m + 1) (ts.drop i) = pQ q (pStm m) l1 := by
    rw [eP];cases q with
    | true => rw [if_pos rfl]
    | false => rw [if_neg δ, if_pos rfl]
   have hW1 : WF l1 := by rw [e0] at hW; exact hW.tl (by cases q <;> decide)
   obtain ⟨X, l2, rfl⟩ := hW1.ne;obtain ⟨a1, d1, lt1⟩ := zch d0;have eP3 : pStm (m + 1) (ts.drop i) = if letB X = true then (pStm m l2).map fun p => (.qu q X p.1, p.2) else none := eP2;refine ⟨r, ts, i + 1, X, rfl, hR1, a1, tl a1, fun hb H2 hR2 hS2 => ?_, fun hb H' => ⟨_, rfl, kE (by rw [eP3, if_neg (by rw [hb]; decide)]) H'⟩⟩;rw [if_pos hb] at eP3;refine ⟨r, ts, i + 1 + 1, m, rfl,ω, hR2, hn, hTL, by rw [d1]; exact hW1.tl (ziK hb), fun SA l3 eA va H3 j3 ra hR3 dj3 hS3 => ?_, fun e H' => ⟨_, rfl, kE (by rw [eP3, <- d1, e]; rfl) H'⟩⟩;rw [d1] at eA;rw [eA] at eP3;exact ⟨by show 3 <= sizeLine; decide, fun p hp => k _ _ eP3 _ _ j3 ⟨p, va, rfl, SqT.of zad, ra.same (zaf hp _)⟩ (hR3.same (zaf hp _)) dj3 (((hS1.trans hS2).trans hS3).trans (Same.x (zaf hp _)))⟩
  have n1 : f ≠ qtx true := fun z => c3 (by rw [z]; decide);have n2 : f ≠ qtx false := fun z => c3 (by rw [z]; decide);rw [if_neg n1, if_neg n2] at eP;refine ite2 (fun c4 => ?_) fun c4 => ?_
  ·rw [if_pos c4] at eP;have hW1 : WF l1 := by rw [e0] at hW; exact hW.tl (by rw [c4]; decide)
   refine ⟨r, ts, i + 1, m, rfl,ω, hR1, hn, hTL, by rw [d0]; exact hW1, fun S l2 eS v H2 j2 rv hR2 dj2 hS2 => ?_, fun e H' => ⟨_, rfl, kE (by rw [eP, <- d0, e]) H'⟩⟩;rw [d0] at eS;exact k S l2 (by rw [eP, eS]) v H2 j2 rv hR2 dj2 (hS1.trans hS2)
  rw [if_neg c4] at eP;refine ⟨f, rfl, (tl a0).1, fun H2 hs2 => ⟨_, rfl, ite2 (fun c5 => ?_) fun c5 => ?_⟩⟩
  ·have c5' : zbF f = true := c5;rw [if_pos c5'] at eP;have hW1 : WF l1 := by rw [e0] at hW; exact hW.tl (zg4 c5')
   refine ⟨r, ts, i + 1, rfl, hR1.same hs2, hn, hTL, by rw [d0]; exact hW1, fun us l2 eU p H3 j3 hq hR3 dj3 hS3 => ?_, fun e H' => ⟨_, rfl, kE (by rw [eP, <- d0, e]; rfl) H'⟩⟩;rw [d0] at eU;rw [eU] at eP;exact ⟨by show 3 <= sizeLine; decide, fun p2 hp2 => k _ _ eP _ _ j3 ⟨p2, p, rfl, SqT.of zad, (zaf hp2 _).seqT hq⟩ (hR3.same (zaf hp2 _)) dj3 (((hS1.trans (Same.x hs2)).trans hS3).trans (Same.x (zaf hp2 _)))⟩
  ·have c5' : ¬ zbF f = true := c5;rw [if_neg c5'] at eP;exact ⟨⟨yat (tl a0).1 δ, (tl a0).2⟩, fun out _ => ⟨zaq (show 1 <= 100000 by decide), kE eP _⟩⟩
def zcn (x : Str) : Option Stm := if x.cps.toList.all zbw = true then (match pStm 40 (zbY x ++ [Str.ofString ""]) with
 | some (S, c :: _) => if c = Str.ofString "" then some S else none
 | _ => none) else none
theorem zg5 (x : Str) : (padS x).cps.toList = padL x.cps.toList := by
 have e : padS x = zbR " " " " (zbR " " " " (zbR " " " " x 40) 41) 44 := rfl;rw [e, zbv, zbv, zbv];exact ziu _
theorem zeI (x : Str) : (zbY x).map (fun r => r.cps.toList) = wG [] x.cps.toList := by
 unfold zbY;rw [zc9, zg5]
 rfl
theorem zek (acc : List Nat) : (∀ p ∈ flushW acc, p = acc) /\ (flushW acc).length <= 1 /\ ((flushW acc).map List.length).sum = acc.length := by
 unfold flushW
 split
 ·rename_i e; subst e; simp
 ·simp
theorem wG_fits : ∀ (l acc : List Nat), (∀ p ∈ wG acc l, ∀ c ∈ p, c ∈ acc \/ c ∈ l) /\ (wG acc l).length <= 2 * l.length + 1 /\ ((wG acc l).map List.length).sum <= acc.length + l.length
 | [], acc => by
  rw [zn0];obtain ⟨f1, f2, f3⟩ := zek acc;exact ⟨fun p hp c hc => .inl (by rw [<- f1 p hp]; exact hc), by simpa using f2, by rw [f3]; simp⟩
 | d :: r, acc => by
  obtain ⟨f1, f2, f3⟩ := zek acc
  by_cases hs : sgn d
  ·obtain ⟨i1, i2, i3⟩ := wG_fits r [];rw [zlv hs];refine ⟨fun p hp c hc => ?_, by simp only [List.length_append, List.length_cons]; omega, by simp only [List.map_append, List.map_cons, List.sum_append, List.sum_cons, f3, List.length_cons, List.length_nil] at i3 ⊢; omega⟩;rcases yay.mp hp with q | q
   ·exact .inl (by rw [<- f1 p q]; exact hc)
   rcases yau.mp q with rfl | q
   ·rw [yah.mp hc]; exact .inr List.mem_cons_self
   ·rcases i1 p q c hc with z | z
    ·cases z
    ·exact .inr (List.mem_cons_of_mem _ z)
  by_cases hb : d = 32
  ·subst hb;obtain ⟨i1, i2, i3⟩ := wG_fits r [];rw [zjH];refine ⟨fun p hp c hc => ?_, by simp only [List.length_append, List.length_cons]; omega, by simp only [List.map_append, List.sum_append, f3, List.length_cons, List.length_nil] at i3 ⊢; omega⟩;rcases yay.mp hp with q | q
   ·exact .inl (by rw [<- f1 p q]; exact hc)
   ·rcases i1 p q c hc with z | z
    ·cases z
    ·exact .inr (List.mem_cons_of_mem _ z)
  ·obtain ⟨i1, i2, i3⟩ := wG_fits r (acc ++ [d]);rw [zn1 hs hb];refine ⟨fun p hp c hc => ?_, by simp only [List.length_cons]; omega, by simp only [List.length_append, List.length_cons, List.length_nil] at i3 ⊢; omega⟩;rcases i1 p hp c hc with z | z
   ·rcases yay.mp z with z | z
    ·exact .inl z
    ·rw [yah.mp z]; exact .inr List.mem_cons_self
   ·exact .inr (List.mem_cons_of_mem _ z)
theorem zg6 (x : Str) : ((zbY x).map fun r => r.length).sum <= x.length /\ (zbY x).length <= 2 * x.length + 1 := by
 obtain ⟨_, i2, i3⟩ := wG_fits x.cps.toList [];rw [<- zeI] at i2 i3;rw [List.map_map] at i3;have e : (List.length ∘ fun r : Str => r.cps.toList) = fun r : Str => r.length := funext fun r => (zbU r).symm;rw [e] at i3;rw [yaf] at i2;rw [zbU];exact ⟨by simpa using i3, i2⟩
theorem zlW {l : List Str} {t : Str} (h : t ∈ l) : t.length <= (l.map fun r => r.length).sum := by
 induction l with
 | nil => cases h
 | cons a l ih =>
  rw [List.map_cons, List.sum_cons];rcases yau.mp h with rfl | h
  ·omega
  ·have := ih h; omega
theorem ziL {x : Str} (h : x.length <= 40000) (hc : ∀ c ∈ x.cps.toList, c < 1114112) : ∀ t ∈ zbY x ++ [Str.ofString ""], TxL t := fun t ht => by
 rcases yay.mp ht with q | q
 ·refine ⟨yat (zlW q) (yat (zg6 x).1 ω), fun c hc' => ?_⟩;have q' : t.cps.toList ∈ wG [] x.cps.toList := by rw [<- zeI]; exact ya6.mpr ⟨t, q, rfl⟩
  rcases (wG_fits x.cps.toList []).1 _ q' c hc' with z | z
  ·cases z
  ·exact hc c z
 ·rw [yah.mp q]; exact tl_lits.2.2.2
theorem zfQ (x : Str) : WF (zbY x ++ [Str.ofString ""]) := ⟨zbY x, rfl, fun r hr => by
 unfold zbY at hr;have := (List.mem_filter.mp hr).2;simpa using this⟩
def zog (K : W.Frag) (D : Defs) : Sp := fun vs H Q E => ∃ x : Str, vs = [.str x] /\ x.length <= 40000 /\ (∀ c ∈ x.cps.toList, c < 1114112) /\
 (∀ S, zcn x = some S -> ∀ v H', RepS K H' S v -> Same H H' -> Q v H') /\ (zcn x = none -> ∀ H', E (.ref D.x_NoStatement) none H')
theorem zlX (T : Tx K mg D) : zhm P w K mg Qd (CXX P w mg) 89 D.a_d7 D.d_d7 ["text"] (zog K D) := by
 have G_d1 := @zhx P w _ _ Qd _ T;have G_b9 := @zlT P w _ _ Qd _ T;have G_c2 := @zfN P w _ _ Qd _ T;have G_a1 : FnOk P w K mg Qd (CXX P w mg) 87 D.a_a1 D.d_a1 ["runs", "room"] (spTS K D 41) := zof (P := P) (w := w) (Qd := Qd) T 41;refine T.F_d7.okX1 sc_d7 (fun vs H Q E h => ?_) (fun cdv A outer s H vs Q E hr h => ?_)
 ·obtain ⟨x, rfl, _⟩ := h; rfl
 obtain ⟨x, rfl, hl, hc, k, kE⟩ := h;have hu := hr.units;have hr_d1 : Room 2 _ := hr.mono δ;have hr_b9 : Room 2 _ := hr.mono δ;have hr_c2 : Room 2 _ := hr.mono δ;have hr_a1 : Room 87 _ := hr.mono δ;refine ⟨_, (zbj (zlt (i := 1) sc_d7.nd ρ (by walk_at "o") (zjD T.mk_Runs G_b9 hr_b9 ρ T.m_Runs T.b_b9 .nil zaJ (zbJ (zdC za7 zaE G_d1 hr_d1 ρ T.m_d1.1 T.F_d1.kp T.m_d1.2.2 .nil (zbJ (PE.up (pv 0)) (PA.up zae))) (PA.up zae))))
  (zbj (PS.up (zar (i := 2) sc_d7.nd ρ (by walk_at "o") (zbt za7 zaE G_a1 hr_a1 ρ T.m_a1.1 T.F_a1.kp T.m_a1.2.2 .nil (zaa (pv 1) (zaa (T.g_MOST_DEEP ρ) zae)))))
  (zbj (PS.up (zco (zcC za7 zaE (pv 1) T.cl_Runs T.h_c2 G_c2 hr_c2 T.b_c2 .nil (zaa (T.g_END ρ) zae))))
  (zcD (PS.up (zan (pv 2))))))), ?_⟩
 walk_at "S";walk_at "";refine ⟨x, rfl,ω, hc, fun hx p H1 s1 hp0 hp1 => ?_, fun hx H' => ⟨_, rfl, kE (by unfold zcn; rw [if_neg (by rw [hx]; decide)]) H'⟩⟩;have er : zcn x = (match pStm 40 (zbY x ++ [Str.ofString ""]) with | some (S, c :: _) => if c = Str.ofString "" then some S else none | _ => none) := by unfold zcn; rw [if_pos hx]
 walk_at "t";intro r dx hr0 hdx hne;have npr : p ≠ r := zas hp1 hr0;have npd : p ≠ dx := zas hp1 hdx;have hlr := (zg6 x).2;refine ⟨r, p, dx, zbY x, rfl, zad, by rw [zaw npr, zaw npd]; exact hp1,ω, fun H2 hR2 hS2 => ⟨rfl, ?_⟩⟩;walk_at "t";refine ⟨r, zbY x ++ [Str.ofString ""], 0, 40, rfl,ω, hR2, by rw [yae, yas]; omega, ziL hl hc, zfQ x, fun S l eS v H3 j rv hR3 dj hS3 => ?_, fun e H' => ⟨_, rfl, kE (by rw [er]; have e' : pStm 40 (zbY x ++ [Str.ofString ""]) = none := e; rw [e']) H'⟩⟩;have eS' : pStm 40 (zbY x ++ [Str.ofString ""]) = some (S, l) := eS;rw [eS'] at er;walk_at "t";have hW : WF l := zeH eS' (zfQ x);obtain ⟨u, l', rfl⟩ := hW.ne;obtain ⟨a3', d3, lt3⟩ := zch dj;have hR3' := hR3;obtain ⟨dx3, l3, a3, b3⟩ := hR3';have tlu : TxL u := ziL hl hc _ (ya1 a3');have er' : zcn x = if u = Str.ofString "" then some S else none := er;refine ⟨r, dx3, _, rfl, a3, rfl, r, _, _, _, u, rfl, hR3, a3', tlu, tl_lits.2.2.2, fun eu H4 hR4 hS4 => ?_, fun eu H' => ⟨_, rfl, kE (by rw [er', if_neg eu]) H'⟩⟩;rw [if_pos eu] at er';walk_at "t";refine k S er' v H4 (RepS.sameX hS4 a3 rv) fun b o hb => ?_;have hb1 := s1 b o hb;have nbr : b ≠ r := zas hb1 hr0;have nbd : b ≠ dx := zas hb1 hdx;exact hS4 b o nbr (hS3 b o nbr (hS2 b o nbr (by rw [zaw nbr, zaw nbd]; exact hb1)))
def numQ (x : Str) : Bool := if x = "" then false else if (4 : Int) < x.length then false else if (⟨#[x.cps.toList.headD 0]⟩ : Str) = "0" /\ ¬ x = "0" then false else x.cps.toList.all fun c => inS ⟨#[c]⟩ "0123456789"
theorem zeJ {x : Str} (h : ¬ x = "") : atI x.cps.toList 0 = some (x.cps.toList.headD 0) := by
 cases q : x.cps.toList with
 | nil => exact absurd (zbp (q.trans rfl)) h
 | cons c r => exact zaI (j := 0) rfl
theorem zfz (T : Tx K mg D) : FnOk P w K mg Qd CX0 1 D.a_b8 D.d_b8 ["text"] (fun vs H Q _ => ∃ x, vs = [.str x] /\ x.length <= 1000 /\ ∀ H', Same H H' -> Q (.bl (numQ x)) H') := by
 refine T.F_b8.ok zfs (fun vs H Q E h => ?_) (fun cdv A outer s H vs Q E hr h => ?_)
 ·obtain ⟨x, rfl, _⟩ := h; rfl
 obtain ⟨x, rfl, hx, k⟩ := h;have hu := hr.units;refine ⟨_, (zac (zaF (PW.pt (zeO (zal (zc4 K hu) (pv 0) zai (zay _)) (zdp (zal zgS (zau (za1 K) ρ T.z_len yap (zaa (pv 0) zae)) (T.g_MOST_FIGURES ρ) (zay _))))) (zah (zan zdO)) zao)
  (zac (zaF (PW.pt (zdq (zal (zc4 K hu) (zbg (ixA K) (pv 0) zag (fun _ _ => rfl)) zai (zay _)) (zcL (zal (zmM hu) (pv 0) zai (zay _))))) (zah (zan zdO)) zao)
  (zah (zan (zau (zfc K ρ) ρ T.z_all ρ (zaa (zeu 1 [] ["sign"] ⟨ρ,ρ,ρ,ρ,ρ,ρ,ρ⟩ ρ (zbS K (pv 0)) (fun _ _ _ _ => zaR (i := 0) (show List.Nodup (["sign"] : List Str) by decide +kernel) ρ (Or.inl ρ) (Or.inr ρ)) (zaG δ) (fun _ _ _ _ => zcr) (fun _ _ _ _ => (zcM (zhX K) (pv 0) (T.g_FIGURES ρ) ρ))) zae)))))), ?_⟩
 walk_at "S";walk_at "";have hz : x.length <= sizeLine := zaq ω;have kf : numQ x = false -> Q (.bl false) H := fun e => by have := k H (Same.refl _); rw [e] at this; exact this
 refine ite2 (fun c => kf (by unfold numQ; rw [if_pos c])) fun c => ⟨hz, ite2 (fun c2 => kf (by unfold numQ; rw [if_neg c, if_pos c2])) fun c2 => ⟨hz, _, zeJ c, ?_⟩⟩
 refine ite2 (fun c3 => ite2 (fun c4 => kf (by unfold numQ; rw [if_neg c, if_neg c2, if_pos ⟨c3, c4⟩])) fun c4 => ?_) fun c3 => ?_
 all_goals
  have hn : numQ x = x.cps.toList.all fun c => inS ⟨#[c]⟩ "0123456789" := by
   unfold numQ;rw [if_neg c, if_neg c2, if_neg (fun z => by first | exact c4 z.2 | exact c3 z.1)]
  have Qe : x.cps.toList.length <= 1000 := by rw [zaA]; exact hx
  refine zgh (fun i acc H2 => H2 = H /\ acc = ((x.cps.toList.take i).map fun c => inS ⟨#[c]⟩ "0123456789").map V.bl) ⟨rfl,ς⟩ (fun i c acc H2 hi hp => ?_) fun acc H2 hp p hn' => ?_
  ·obtain ⟨rfl, rfl⟩ := hp;have hil : i < x.cps.toList.length := (yag.mp hi).1;have ec := (yag.mp hi).2;refine ⟨zcb (by simp only [List.length_map, List.length_take]; omega), ?_⟩;walk_at "T";walk_at "";refine ⟨trivial, ?_⟩;rw [List.take_succ_eq_append_getElem hil, ec, ya0, ya0]; rfl
  ·obtain ⟨rfl, rfl⟩ := hp;rw [List.take_length];walk_at "";refine ⟨_, SqL.of zad, ?_⟩;have := k _ (zaf hn' (.lst ((x.cps.toList.map fun c => inS ⟨#[c]⟩ "0123456789").map V.bl)));rw [hn] at this;rw [List.all_map];exact this
def goodRows (x : Str) : List Str := (Txt.split x ⟨#[10]⟩).filter fun r : Str => !decide (Txt.stripChars r " " = "")
def zkh : Sp := fun vs H Q _ => ∃ z : Str, vs = [.str z] /\ z.length <= 1000000 /\ ∀ p H', Same H H' -> H' p = some (.lst ((goodRows z).map V.str)) -> Q (.ref p) H'
theorem zc0 {x : Str} {c : Nat} {r : Str} (h : r ∈ Txt.split x ⟨#[c]⟩) : r.length <= x.length := by
 have e : Str.join ⟨#[c]⟩ (Txt.split x ⟨#[c]⟩) = x := StrLaws.join_split x ⟨#[c]⟩;have key : ∀ {l : List Str}, r ∈ l -> r.length <= (Str.join ⟨#[c]⟩ l).length := by
  intro l
  induction l with
  | nil => intro h; simp at h
  | cons a l ih =>
   intro h
   by_cases hl : l = []
   ·subst hl;rw [yah.mp h];exact yai _
   ·have e2 := congrArg List.length (zbr c a hl);rw [yae, List.length_cons, zaA, zaA, zaA] at e2;rcases yau.mp h with rfl | h
    ·omega
    ·have := ih h; omega
 have := key h;rw [e] at this;exact this
theorem zhy (T : Tx K mg D) : FnOk P w K mg Qd CX0 1 D.a_c9 D.d_c9 ["text"] zkh := by
 refine T.F_c9.ok zhs (fun vs H Q E h => ?_) (fun cdv A outer s H vs Q E hr h => ?_)
 ·obtain ⟨z, rfl, _⟩ := h; rfl
 obtain ⟨z, rfl, hpl, k⟩ := h;have hu := hr.units;refine ⟨_, (zah (zan (zeu 1 [] ["row"] ⟨ρ,ρ,ρ,ρ,ρ,ρ,ρ⟩ ρ (zbS K (zbP K PySem.F.plainAttrs_str PySem.F.slot_str_split PySem.F.type_str_split zcc (pv 0) (zaa zai zae))) (fun _ _ _ _ => zaR (i := 0) (show List.Nodup (["row"] : List Str) by decide +kernel) ρ (Or.inl ρ) (Or.inr ρ)) (zaG δ) (fun _ _ _ _ => zd1 (zal (zcl K hu) (zbP K PySem.F.plainAttrs_str PySem.F.slot_str_strip PySem.F.type_str_strip zfm (pv 0) (zaa zai zae)) zai (zay _))) (fun _ _ _ _ => (pv 0))))), ?_⟩;walk_at "S";walk_at "";refine ⟨trivial,δ,ω, fun p hp => .inl ⟨⟨_, SqL.of zad⟩, ?_⟩⟩;have hsz : (Txt.split z ⟨#[10]⟩).length <= 1000002 := yat (zbq _ _) ω;refine zbO (xs := (Txt.split z ⟨#[10]⟩).map V.str) (fun i acc Hc => Hc = upd H p (.lst ((Txt.split z ⟨#[10]⟩).map V.str)) /\ acc = (((Txt.split z ⟨#[10]⟩).take i).filter fun r : Str => !decide (Txt.stripChars r " " = "")).map V.str) ⟨rfl, rfl⟩ (fun i acc Hc _ h => h.1 ▸ SqL.of zad) (fun i v acc Hc hv h => ?_) fun acc Hc h p1 hp1 => ?_
 ·obtain ⟨rfl, rfl⟩ := h;rw [yav] at hv;cases hr : (Txt.split z ⟨#[10]⟩)[i]? with
  | none => rw [hr] at hv; cases hv
  | some r =>
   rw [hr] at hv;cases hv;have hi := (yag.mp hr).1;have er := (yag.mp hr).2;have hrl := zc0 (ya1 hr);have e : (Txt.split z ⟨#[10]⟩).take (i + 1) = (Txt.split z ⟨#[10]⟩).take i ++ [r] := by rw [List.take_succ_eq_append_getElem hi, er]
   refine ⟨?_, ?_⟩
   ·rw [yaf];refine Nat.lt_of_le_of_lt (List.length_filter_le _ _) ?_;rw [ya3, sizeLine_eq];omega
   ·walk_at "T";walk_at "";rw [e, List.filter_append];refine ⟨trivial,ω, ite2 (fun c => ?_) fun c => ?_⟩
    ·exact ⟨trivial, by rw [ya0]; simp [c]⟩
    ·exact ⟨trivial, by rw [ya0]; simp [c]⟩
 ·obtain ⟨rfl, rfl⟩ := h;rw [yaf, List.take_length];exact k p1 _ ((zaf hp _).trans (zaf hp1 _)) zad
def Chr (x : Str) : Prop := ∀ c ∈ x.cps.toList, c < 1114112
def numI (x : Str) : Int := if numQ x then ((NumText.digitsVal x.cps.toList : Nat) : Int) else -1
theorem zoh : ∀ c ∈ ("0123456789" : Str).cps.toList, 48 <= c /\ c <= 57 := by decide +kernel
theorem zg7 {x : Str} (h : numQ x = true) : PySem.intText? x = some (numI x) /\ x.length <= 4 := by
 have h0 := h;unfold numQ at h
 by_cases c1 : x = ""
 ·rw [if_pos c1] at h; cases h
 rw [if_neg c1] at h
 by_cases c2 : (4 : Int) < x.length
 ·rw [if_pos c2] at h; cases h
 rw [if_neg c2] at h
 split at h
 ·cases h
 rw [List.all_eq_true] at h;have hne : x.cps.toList ≠ [] := fun e => c1 (zbp (e.trans rfl));have hd : NumText.AllDigits x.cps.toList := fun c hc => zoh c (by have := h c hc; rw [zd2] at this; exact ya7 this);refine ⟨?_,ω⟩;rw [intText_digits hd hne ω];unfold numI;rw [if_pos h0]
def zki : Sp := fun vs H Q _ => ∃ r : Str, vs = [.str r] /\ r.length <= 1000 /\ ∀ H', Same H H' -> Q (.bl (base r (Str.ofString "abcdefghijklmnopqrstuvwxyz"))) H'
theorem zhz (T : Tx K mg D) : FnOk P w K mg Qd CX0 2 D.a_d5 D.d_d5 ["text"] zki := by
 have G_a0 := @zdE P w _ _ Qd _ T;refine T.F_d5.ok zhw (fun vs H Q E h => ?_) (fun cdv A outer s H vs Q E hr h => ?_)
 ·obtain ⟨r, rfl, _⟩ := h; rfl
 obtain ⟨r, rfl, hl, k⟩ := h;have hu := hr.units;have hr_a0 : Room 1 _ := hr.mono δ;refine ⟨_, (zah (zan (YC G_a0 hr_a0 ρ T.m_a0 (zaa (pv 0) (zaa (T.g_SMALL ρ) zae))))), ?_⟩;walk_at "S";walk_at "";exact ⟨r, _, rfl,ω, fun H1 s1 => k H1 s1⟩
def refD (x : Str) : Option Dt := if numQ x = true then some (.int (numI x)) else if zbF x = true then some (.str x) else none
def zlY (D : Defs) (K : W.Frag) : Sp := fun vs H Q E => ∃ x : Str, vs = [.str x] /\ x.length <= 1000 /\ Chr x /\ ∀ H', Same H H' -> (∀ d v, refD x = some d -> RepD K H' d v -> Q v H') /\ (refD x = none -> E (.ref D.x_NoLines) none H')
theorem zfR (T : Tx K mg D) : FnOk P w K mg Qd (CXX P w mg) 3 D.a_c7 D.d_c7 ["run"] (zlY D K) := by
 have G_b8 := @zfz P w _ _ Qd _ T;have G_d4 := @zfM P w _ _ Qd _ T;refine T.F_c7.okX zfL (fun vs H Q E h => ?_) (fun cdv A outer s H vs Q E hr h => ?_)
 ·obtain ⟨x, rfl, _⟩ := h; rfl
 obtain ⟨x, rfl, hx, hc, k⟩ := h;have hu := hr.units;have hr_b8 : Room 1 _ := hr.mono δ;have hr_d4 : Room 2 _ := hr.mono δ;refine ⟨_, (zac (zaF (zc3 (YC G_b8 hr_b8 ρ T.m_b8 (zaa (pv 0) zae))) (zah (zan (zbE zfn ρ T.z_int ρ (zaa (pv 0) zae)))) zao)
  (zac (zaF (zc3 (YC G_d4 hr_d4 ρ T.m_d4 (zaa (pv 0) zae))) (zah (zan (pv 0))) zao)
  (zah (zbs za7 ρ zaE T.x_NoLines PySem.F.excBase_ValueError ρ (zaa (zc6 (zaH zck (zaH (pm_r (pv 0)) zc5))) zae))))), ?_⟩
 walk_at "S";walk_at "";refine ⟨_, rfl, hx, fun H1 s1 => ?_⟩;cases c : numQ x with
 | true =>
  walk_at "t";obtain ⟨n1, n2⟩ := zg7 c;exact ⟨_, n1,ω, (k H1 s1).1 _ _ (by unfold refD; rw [if_pos c]) (.int _)⟩
 | false =>
  walk_at "t";refine ⟨x, rfl,ω, fun H2 s2 => ?_⟩;have k2 := k H2 (s1.trans s2);unfold refD at k2;rw [if_neg (by rw [c]; decide)] at k2;cases c2 : zbF x with
  | true =>
   rw [if_pos c2] at k2;refine ⟨true, congrArg V.bl c2, ?_⟩;rw [if_pos rfl];exact k2.1 _ _ rfl (.str _)
  | false =>
   rw [if_neg (by rw [c2]; decide)] at k2;refine ⟨false, congrArg V.bl c2, ?_⟩;rw [if_neg δ];exact ⟨⟨ω, hc⟩, fun out _ => ⟨by show 1 <= sizeLine; rw [sizeLine_eq]; decide, k2.2 rfl⟩⟩
def stD (p ru : Str) : Option Dt := if ru = "new" then (if p = "" then some .non else none) else (zcn p).map Stm.dt
def zoi (K : W.Frag) (D : Defs) : Sp := fun vs H Q E => ∃ p ru : Str, vs = [.str p, .str ru] /\ p.length <= 1000 /\ Chr p /\ (∀ H' d v, Same H H' -> stD p ru = some d -> RepD K H' d v -> Q v H') /\ (stD p ru = none -> ∀ H', E (.ref D.x_NoLines) none H')
theorem zcX (T : Tx K mg D) : zhm P w K mg Qd (CXX P w mg) 90 D.a_a3 D.d_a3 ["text", "rule"] (zoi K D) := by
 have G_d7 := @zlX P w _ _ Qd _ T;refine T.F_a3.okX1 sc_a3 (fun vs H Q E h => ?_) (fun cdv A outer s H vs Q E hr h => ?_)
 ·obtain ⟨p, ru, rfl, _⟩ := h; rfl
 obtain ⟨p, ru, rfl, hp, hc, k, kE⟩ := h;have hu := hr.units;have hr_d7 : Room 89 _ := hr.mono δ;refine ⟨_, (zbj (PS.up (zaF (zal (zb9 K hu) (pv 1) zai (zay _)) (zac (zaF (zal (zcl K hu) (pv 0) zai (zay _)) (zah (zbs za7 ρ zaE T.x_NoLines PySem.F.excBase_ValueError ρ (zaa zai zae))) zao)
  (zah (zan zc2))) zao))
  (zcD (zlu za7 (fun G Qa E Fn ho hp => (zcD (ziB (zdC Fn ho G_d7 hr_d7 ρ T.m_d7.1 T.F_d7.kp T.m_d7.2.2 .nil (zbJ (PE.up (pv 0)) (PA.up zae)))))) (zlJ (i := 2) za7 zaE sc_a3.nd ρ ρ ρ T.x_NoStatement.1 T.x_NoLines ρ PySem.F.excBase_ValueError ρ (fun Qa e => (zaa (zc6 (zaH zck (zaH (pm_r (pv 0)) zc5))) zae)) zio) zao))), ?_⟩
 walk_at "S";walk_at "";have z1 : ∀ t : Str, [V.str t].length <= sizeLine := fun _ => by show 1 <= sizeLine; rw [sizeLine_eq]; decide
 refine ite2 (fun c1 => ite2 (fun c2 => ⟨z1 _, kE (by unfold stD; rw [if_pos c1, if_neg c2]) _⟩) fun c2 => k _ _ _ (Same.refl _) (by unfold stD; rw [if_pos c1, if_pos (Classical.not_not.mp c2)]) .non) fun c1 => ?_;have es : stD p ru = (zcn p).map Stm.dt := by unfold stD; rw [if_neg c1]
 refine ⟨fun C σ' H' => C = D.x_NoStatement /\ zcn p = none /\ σ' = [some (V.str p), some (V.str ru), none], ⟨p, rfl,ω, hc, fun S e v H' rv sv => k H' _ v sv (by rw [es, e]; rfl) rv.repD, fun e H' => ⟨_, rfl, rfl, e, rfl⟩⟩, ?_⟩
 rintro C σ' H' ⟨rfl, e, rfl⟩
 refine ⟨true, T.v_NoStatement_NoStatement, ?_⟩;rw [if_pos rfl];refine ⟨fun z => ?_, zbT T.x_NoStatement, fun a ha => ⟨_, rfl, .inl ⟨p, rfl,ω, hc⟩, fun out _ => ⟨z1 _, zad, kE (by rw [es, e]; rfl) _⟩⟩⟩;have z' : mg (Str.ofString "NoLines") = some (.ref D.x_NoStatement) := z;rw [show mg (Str.ofString "NoLines") = some (.ref D.x_NoLines) from T.x_NoLines.1] at z';have i1 := T.i_NoLines_NoStatement;have i2 := T.i_NoStatement_NoStatement;rw [Value.ref.inj (Option.some.inj z')] at i1;rw [i1] at i2;cases i2
def runsI (x : Str) : List Str := (Txt.split x " ").filter fun r : Str => !decide (r = "")
def toldS (x : Str) : Str := Txt.lstripChars x (Str.ofString " |")
def levI (x : Str) : Int := Txt.count (Txt.slice x none (some ((x.length : Int) - (toldS x).length))) (Str.ofString "|")
def zfS (l : Int) (p ru : Str) (fs : List Str) : Option Dt := if base ru (Str.ofString "abcdefghijklmnopqrstuvwxyz") = true then (match stD p ru with
 | some d => if fs.all (fun f => (refD f).isSome) = true then some (.tup [.int l, .str ru, d, .tup (fs.map fun f => (refD f).getD .non)]) else none
 | none => none) else none
def ziM (l : Int) (p : Str) : List Str -> Option Dt
 | ru :: fs => zfS l p ru fs
 | [] => none
def zh0 (l : Int) : List Str -> Option Dt
 | [p, q] => ziM l p (runsI q)
 | _ => none
def zbo (x : Str) : Option Dt := zh0 (levI x) (Txt.split (toldS x) (Str.ofString ";"))
theorem zg8 (x : Str) : (toldS x).length <= x.length := by
 have h := zeB x;have := congrArg List.length h;rw [zaA] at this;have h2 := (List.dropWhile_suffix goB (l := x.cps.toList)).length_le;rw [zaA] at h2;show (Txt.lstripChars x (Str.ofString " |")).length <= _;omega
theorem zg9 {x : Str} {d : Nat} (h : d ∈ (toldS x).cps.toList) : d ∈ x.cps.toList := by
 have e : (toldS x).cps.toList = _ := zeB x;rw [e] at h;exact (List.dropWhile_suffix goB).subset h
theorem zdK {q t : Str} (h : t ∈ runsI q) : t.length <= q.length /\ (∀ d ∈ t.cps.toList, d ∈ q.cps.toList) /\ t ≠ "" := by
 obtain ⟨h1, h2⟩ := List.mem_filter.mp h;exact ⟨zc0 (c := 32) h1, fun d hd => zdm (c := 32) h1 hd, by simpa using h2⟩
theorem zf0 {l : List Str} (h : ((l.map V.str).length : Int) = 2) : ∃ p q, l = [p, q] := by
 rw [yaf] at h
 match l, h with
 | [p, q], _ => exact ⟨p, q, rfl⟩
theorem zkj {l : Int} {ps : List Str} (h : ¬ ((ps.map V.str).length : Int) = 2) : zh0 l ps = none := by
 rw [yaf] at h
 match ps, h with
 | [], _ => rfl
 | [_], _ => rfl
 | [p, q], h => exact absurd rfl h
 | _ :: _ :: _ :: _, _ => rfl
theorem zc1 {α : Type} {f : α -> Bool} {l : List α} {j : Nat} (hj : j < l.length) (h : (l.take j).all f = true) (c : f l[j] = true) : (l.take (j + 1)).all f = true := by
 rw [List.take_succ_eq_append_getElem hj, List.all_append, h, List.all_cons, c, List.all_nil]; rfl
theorem zcH {α : Type} {f : α -> Bool} {l : List α} {j : Nat} (hj : j < l.length) (c : f l[j] = false) : l.all f = false := List.all_eq_false.mpr ⟨l[j], List.getElem_mem hj, by rw [c]; exact yam⟩
def zoj (K : W.Frag) (D : Defs) : Sp := fun vs H Q E => ∃ x : Str, vs = [.str x] /\ x.length <= 1000 /\ Chr x /\ (∀ H' d v, Same H H' -> zbo x = some d -> RepD K H' d v -> Q v H') /\ (zbo x = none -> ∀ H', E (.ref D.x_NoLines) none H')
theorem zf1 (T : Tx K mg D) : FnOk P w K mg Qd (CXX P w mg) 91 D.a_c3 D.d_c3 ["row"] (zoj K D) := by
 have G_d0 := @zeg P w _ _ Qd _ T;have G_d5 := @zhz P w _ _ Qd _ T;have G_a3 := @zcX P w _ _ Qd _ T;have G_c7 := @zfR P w _ _ Qd _ T;refine T.F_c3.okX sc_c3 (fun vs H Q E h => ?_) (fun cdv A outer s H vs Q E hr h => ?_)
 ·obtain ⟨x, rfl, _⟩ := h; rfl
 obtain ⟨x, rfl, hx, hc, k, kE⟩ := h;have hu := hr.units;have hr_d0 : Room 1 _ := hr.mono δ;have hr_d5 : Room 2 _ := hr.mono δ;have hr_a3 : Room 90 _ := hr.mono δ;have hr_c7 : Room 3 _ := hr.mono δ;refine ⟨_, (zac (zar (i := 1) sc_c3.nd ρ (by walk_at "o") (zbP K PySem.F.plainAttrs_str PySem.F.slot_str_lstrip PySem.F.type_str_lstrip zhp (pv 0) (zaa zai zae)))
  (zhn (zjE (i := 2) sc_c3.nd ρ (by walk_at "o") (zlG K PySem.F.plainAttrs_str PySem.F.slot_str_count PySem.F.type_str_count zhq (zbh (slB K) (pv 0) zby (zbz (zam zdb (zau (za1 K) ρ T.z_len yap (zaa (pv 0) zae)) (zau (za1 K) ρ T.z_len yap (zaa (pv 1) zae))))) (zaa zai zae)))
  (zbj (PS.up (zar (i := 3) sc_c3.nd ρ (by walk_at "o") (zbP K PySem.F.plainAttrs_str PySem.F.slot_str_split PySem.F.type_str_split zcc (pv 1) (zaa zai zae))))
  (zbj (PS.up (zaF (zal (zcl K hu) (zau (za1 K) ρ T.z_len yap (zaa (pv 3) zae)) zag (zay _)) (zah (zbs za7 ρ zaE T.x_NoLines PySem.F.excBase_ValueError ρ (zaa zai zae))) zao))
  (zbj (PS.up (zar (i := 4) sc_c3.nd ρ (by walk_at "o") (YC G_d0 hr_d0 ρ T.m_d0 (zaa (zbg (ixA K) (pv 3) zag (fun _ _ => rfl)) zae))))
  (zbj (PS.up (zaF (PW.pt (zeO (zal (zb9 K hu) (zau (za1 K) ρ T.z_len yap (zaa (pv 4) zae)) zag (zay _)) (zdp (zdr (zc3 (YC G_d5 hr_d5 ρ T.m_d5 (zaa (zbg (ixA K) (pv 4) zag (fun _ _ => rfl)) zae))))))) (zah (zbs za7 ρ zaE T.x_NoLines PySem.F.excBase_ValueError ρ (zaa zai zae))) zao))
  (zcD (ziB (zlH (zbJ (PE.up (pv 2)) (zbJ (PE.up (zbg (ixA K) (pv 4) zag (fun _ _ => rfl))) (zbJ (zdC za7 zaE G_a3 hr_a3 ρ T.m_a3.1 T.F_a3.kp T.m_a3.2.2 .nil (zbJ (PE.up (zbg (ixA K) (pv 3) zag (fun _ _ => rfl))) (zbJ (PE.up (zbg (ixA K) (pv 4) zag (fun _ _ => rfl))) (PA.up zae)))) (zbJ (PE.up (zbE (zbC K) ρ T.z_tuple ρ (zaa (zg0 1 [] ["run"] za7 zaE ⟨ρ,ρ,ρ,ρ,ρ,ρ,ρ⟩ ρ (zbS K (zbh (slB K) (pv 4) (zbz zag) zby)) (fun _ _ _ _ => zaR (i := 0) (show List.Nodup (["run"] : List Str) by decide +kernel) ρ (Or.inl ρ) (Or.inr ρ)) (zaG δ) (fun _ _ _ _ => zcr) (fun _ _ _ _ => (zfo G_c7 hr_c7 ρ T.m_c7.1 T.F_c7.kp T.m_c7.2.2 .nil (zaa (pv 0) zae)))) zae))) (PA.up zae)))))))))))))), ?_⟩
 walk_at "S";walk_at "";have z1 : ∀ t : Str, [V.str t].length <= sizeLine := fun _ => by show 1 <= sizeLine; rw [sizeLine_eq]; decide
 have hz : x.length <= sizeLine := by rw [sizeLine_eq]; omega
 have htl : (Txt.lstripChars x (Str.ofString " |")).length <= x.length := zg8 x;have e0 : zbo x = zh0 (levI x) (Txt.split (Txt.lstripChars x (Str.ofString " |")) (Str.ofString ";")) := rfl;refine ⟨trivial,ω, hz,ω, hz, trivial, trivial,δ,ω, fun pa hp => ?_⟩;have hin : ∀ r ∈ Txt.split (Txt.lstripChars x (Str.ofString " |")) (Str.ofString ";"), r.length <= 1000 /\ Chr r := fun r hr' => by
  have hr2 : r ∈ Txt.split (toldS x) ⟨#[59]⟩ := hr';exact ⟨by have := zc0 hr2; have := zg8 x; omega, fun c hc' => hc c (zg9 (zdm hr2 hc'))⟩
 generalize Txt.split (Txt.lstripChars x (Str.ofString " |")) (Str.ofString ";") = ps at e0 hin;have sA := zaf hp (.lst (List.map V.str ps));have hA : SqL K (upd H pa (HO.lst (List.map V.str ps))) pa (List.map V.str ps) := SqL.of zad;refine ⟨_, .inl hA, ite2 (fun c => ⟨z1 _, kE (by rw [e0]; exact zkj c) _⟩) fun c => ?_⟩;obtain ⟨p, q, rfl⟩ := zf0 (Classical.not_not.mp c);obtain ⟨p1, p2⟩ := hin p ς;obtain ⟨q1, q2⟩ := hin q ς;have e1 : zbo x = ziM (levI x) p (runsI q) := e0;refine ⟨_, .inl hA, _, i1, _, rfl,ω, fun r0 H1 s1 h0 h1 => ?_⟩;have h1' : H1 r0 = some (.lst ((runsI q).map V.str)) := h1;have hrs : ∀ t ∈ runsI q, t.length <= 1000 /\ Chr t := fun t ht => by
  obtain ⟨t1, t2, _⟩ := zdK ht;exact ⟨ω, fun c hc' => q2 c (t2 c hc')⟩
 have hrl : (runsI q).length <= 1002 := by
  have h2 := zbq q " ";have h3 : (runsI q).length <= (Txt.split q " ").length := List.length_filter_le _ _;omega
 clear h1 h0;generalize runsI q = rs at e1 h1' hrs hrl;have hB : SqL K H1 r0 (rs.map V.str) := SqL.of h1';walk_at "";refine ⟨_, .inl hB, ?_⟩;cases rs with
 | nil =>
  rw [if_pos (show ((List.map V.str ([] : List Str)).length : Int) = 0 from rfl)];exact ⟨z1 _, kE e1 _⟩
 | cons ru fs =>
 rw [if_neg (fun z => by simp at z; omega)];obtain ⟨u1, u2⟩ := hrs ru ς;refine ⟨_, .inl hB, _, i0, ru, rfl,ω, fun H2 s2 => ?_⟩;walk_at "";have e2 : zbo x = zfS (levI x) p ru fs := e1;unfold zfS at e2;cases cb : base ru (Str.ofString "abcdefghijklmnopqrstuvwxyz") with
 | false =>
  rw [if_neg (by rw [cb]; decide)] at e2;rw [if_pos rfl];exact ⟨z1 _, kE e2 _⟩
 | true =>
 rw [if_pos cb] at e2;rw [if_neg (fun z => nomatch z)];have s12 := s1.trans s2;refine ⟨_, .inl (s2.seq hB), _, i0, _, .inl (s12.seq hA), _, i0, _, .inl (s2.seq hB), _, i0, p, ru, rfl,ω, p2, fun H3 d v s3 ed rv => ?_, fun ed H' => ⟨_, rfl, kE (by rw [e2, ed]) H'⟩⟩;rw [ed] at e2;have s13 := s12.trans s3;refine ⟨_, .inl ⟨(s2.trans s3).seq hB, fun q1 hq1 => .inl ⟨⟨_, SqL.of zad⟩, ?_⟩⟩⟩;have ec : cutV (V.str ru :: fs.map V.str) (some 1) none = fs.map V.str := by
  unfold cutV HT.sIx;simp;exact List.take_of_length_le ς
 rw [List.map_cons, ec];have s4 := zaf hq1 (.lst (fs.map V.str));have hfl : fs.length <= 1002 := by simp at hrl; omega
 refine zbO (xs := fs.map V.str) (fun i acc H5 => Same (upd H3 q1 (.lst (fs.map V.str))) H5 /\ RepX K H5 ((fs.take i).map fun f => (refD f).getD .non) acc /\ (fs.take i).all (fun f => (refD f).isSome) = true) ⟨Same.refl _, RepX.nil, rfl⟩ (fun i acc H5 _ hv => hv.1.seq (SqL.of zad)) (fun i y acc H5 hi hv => ?_) fun acc H5 hv p5 hp5 => ?_
 ·obtain ⟨s5, hX, hall⟩ := hv;have hj : i < fs.length := by have := (yag.mp hi).1; simpa using this
  have ev : y = V.str fs[i] := by
   rw [yav, yal hj] at hi;cases hi; rfl
  subst ev;have hxl := hX.1;rw [yaf, ya3] at hxl;obtain ⟨f1, f2⟩ := hrs fs[i] (List.mem_cons_of_mem _ (List.getElem_mem hj));refine ⟨zcb ω, ?_⟩;walk_at "T";walk_at "";refine ⟨fs[i], rfl, f1, f2, fun H6 s6 => ⟨fun d' v' ed' rv' => ⟨s5.trans s6, ?_, ?_⟩, fun en => ⟨_, rfl, kE ?_ _⟩⟩⟩
  ·rw [List.take_succ_eq_append_getElem hj, ya0];refine (hX.same s6).snoc ?_;show RepD K H6 ((refD fs[i]).getD .non) v';rw [ed'];exact rv'
  ·exact zc1 (f := fun f => (refD f).isSome) hj hall (by rw [ed']; rfl)
  ·rw [e2];show (if fs.all (fun f => (refD f).isSome) = true then _ else none) = none;rw [if_neg];rw [zcH (f := fun f => (refD f).isSome) hj (by rw [en]; rfl)]
   decide
 ·obtain ⟨s5, hX, hall⟩ := hv;rw [yaf, List.take_length] at hX hall;have hxl := hX.1;rw [yaf] at hxl;walk_at "";refine ⟨_, .inl ⟨SqL.of zad, fun p6 hp6 => ⟨zaq (show 4 <= 100000 by decide), fun p7 hp7 => ?_⟩⟩⟩;have s56 := ((s4.trans s5).trans (zaf hp5 (.lst acc))).trans ((zaf hp6 (.tup acc)).trans (zaf hp7 (.tup [V.int (levI x), V.str ru, v, V.ref p6])));refine k _ _ _ ((sA.trans s13).trans s56) (by rw [e2]; exact if_pos hall) (RepD.t4 (SqT.of zad) (.int _) (.str _) (rv.same s56) (RepX.tup (hX.same ((zaf hp5 _).trans ((zaf hp6 _).trans (zaf hp7 _)))) ((zaf hp7 _).seqT (SqT.of zad))))
def zlZ (K : W.Frag) (D : Defs) : Sp := fun vs H Q E => ∃ x : Str, vs = [.str x] /\ x.length <= 1000 /\ Chr x /\ ((goodRows x).all (fun r => (zbo r).isSome) = true -> ∀ H' v, Same H H' -> RepD K H' (.tup ((goodRows x).map fun r => (zbo r).getD .non)) v -> Q v H') /\ ((goodRows x).all (fun r => (zbo r).isSome) = false -> ∀ H', E (.ref D.x_NoLines) none H')
theorem zcI (T : Tx K mg D) : FnOk P w K mg Qd (CXX P w mg) 92 D.a_b0 D.d_b0 ["text"] (zlZ K D) := by
 have G_c9 := @zhy P w _ _ Qd _ T;have G_c3 := @zf1 P w _ _ Qd _ T;refine T.F_b0.okX zeD (fun vs H Q E h => ?_) (fun cdv A outer s H vs Q E hr h => ?_)
 ·obtain ⟨x, rfl, _⟩ := h; rfl
 obtain ⟨x, rfl, hx, hc, k, kE⟩ := h;have hu := hr.units;have hr_c9 : Room 1 _ := hr.mono δ;have hr_c3 : Room 91 _ := hr.mono δ;refine ⟨_, (zah (zan (zbE (zbC K) ρ T.z_tuple ρ (zaa (zg0 1 [] ["row"] za7 zaE ⟨ρ,ρ,ρ,ρ,ρ,ρ,ρ⟩ ρ (zbS K (YC G_c9 hr_c9 ρ T.m_c9 (zaa (pv 0) zae))) (fun _ _ _ _ => zaR (i := 0) (show List.Nodup (["row"] : List Str) by decide +kernel) ρ (Or.inl ρ) (Or.inr ρ)) (zaG δ) (fun _ _ _ _ => zcr) (fun _ _ _ _ => (zfo G_c3 hr_c3 ρ T.m_c3.1 T.F_c3.kp T.m_c3.2.2 .nil (zaa (pv 0) zae)))) zae)))), ?_⟩;walk_at "S";walk_at "";refine ⟨_, rfl,ω, fun p H1 s1 h1 => ?_⟩;have hgl : (goodRows x).length <= 1002 := by
  have h2 := zbq x ⟨#[10]⟩;have h3 : (goodRows x).length <= (Txt.split x ⟨#[10]⟩).length := List.length_filter_le _ _;omega
 have hin : ∀ r ∈ goodRows x, r.length <= 1000 /\ Chr r := fun r hr' => by
  have hr2 := (List.mem_filter.mp hr').1;exact ⟨by have := zc0 hr2; omega, fun c hc' => hc c (zdm hr2 hc')⟩
 walk_at "";generalize goodRows x = rs at *;refine .inl ⟨⟨_, SqL.of h1⟩, zbO (xs := rs.map V.str) (fun i acc H5 => Same H1 H5 /\ RepX K H5 ((rs.take i).map fun r => (zbo r).getD .non) acc /\ (rs.take i).all (fun r => (zbo r).isSome) = true) ⟨Same.refl _, RepX.nil, rfl⟩ (fun i acc H5 _ hv => SqL.of (hv.1 _ _ h1)) (fun i y acc H5 hi hv => ?_) fun acc H5 hv p5 hp5 => ?_⟩
 ·obtain ⟨s5, hX, hall⟩ := hv;have hj : i < rs.length := by have := (yag.mp hi).1; simpa using this
  have ev : y = V.str rs[i] := by
   rw [yav, yal hj] at hi;cases hi; rfl
  subst ev;have hxl := hX.1;rw [yaf, ya3] at hxl;obtain ⟨f1, f2⟩ := hin rs[i] (List.getElem_mem hj);refine ⟨zcb ω, ?_⟩;walk_at "T";walk_at "";refine ⟨rs[i], rfl, f1, f2, fun H6 d' v' s6 ed' rv' => ⟨s5.trans s6, ?_, ?_⟩, fun en H6 => ⟨_, rfl, kE ?_ _⟩⟩
  ·rw [List.take_succ_eq_append_getElem hj, ya0];refine (hX.same s6).snoc ?_;show RepD K H6 ((zbo rs[i]).getD .non) v';rw [ed'];exact rv'
  ·exact zc1 (f := fun f => (zbo f).isSome) hj hall (by rw [ed']; rfl)
  ·exact zcH (f := fun f => (zbo f).isSome) hj (by rw [en]; rfl)
 ·obtain ⟨s5, hX, hall⟩ := hv;rw [yaf, List.take_length] at hX hall;walk_at "";have s6 := zaf hp5 (.lst acc);refine ⟨_, .inl ⟨SqL.of zad, fun q hq => k hall _ _ (((s1.trans s5).trans s6).trans (zaf hq _)) ?_⟩⟩;exact RepX.tup (hX.same (s6.trans (zaf hq _))) (SqT.of zad)
theorem zf2 (T : Tx K mg D) : FnOk P w K mg Qd CX0 1 D.a_b5 D.d_b5 ["_law_script", "_law_k"] (znf K) := by
 refine T.F_b5.ok zfu (fun vs H Q E h => ?_) (fun cdv A outer s H vs Q E hr h => ?_)
 ·obtain ⟨a, ns, n, rfl, _⟩ := h; rfl
 obtain ⟨a, ns, n, rfl, hS, h0, k⟩ := h;have hu := hr.units;refine ⟨_, (zac (zaF (zal zgi (pv 1) (zau (za1 K) ρ T.z_len yap (zaa (pv 0) zae)) (zay _)) (zah (zan (zbg (ixA K) (pv 0) (pv 1) (fun _ _ => rfl)))) zao)
  (zah (zan zag))), ?_⟩
 walk_at "S";walk_at "";refine ⟨_, .inl hS, ?_⟩;unfold zfd at k;rw [yaf];refine ite2 (fun c => ?_) fun c => ?_
 ·rw [if_pos c] at k;exact ⟨_, .inl hS, _, zgl h0 c, k⟩
 ·rw [if_neg c] at k; exact k
theorem zh1 (T : Tx K mg D) : FnOk P w K mg Qd CX0 1 D.a_d3 D.d_d3 ["_law_script", "_law_k"] (zpb K) := by
 refine T.F_d3.ok sc_d3 (fun vs H Q E h => ?_) (fun cdv A outer s H vs Q E hr h => ?_)
 ·obtain ⟨a, ns, n, rfl, _⟩ := h; rfl
 obtain ⟨a, ns, n, rfl, hS, h0, h1, k⟩ := h;have hu := hr.units;refine ⟨_, (zac (zar (i := 2) sc_d3.nd ρ (by walk_at "o") zag)
  (zac (zaF (zal zgS (zau (za1 K) ρ T.z_len yap (zaa (pv 0) zae)) zag (zay _)) (zah (zar (i := 2) sc_d3.nd ρ (by walk_at "o") (zbg (ixA K) (pv 0) (zam zaz (pv 1) (zau (za1 K) ρ T.z_len yap (zaa (pv 0) zae))) (fun _ _ => rfl)))) zao)
  (zac (zar (i := 3) sc_d3.nd ρ (by walk_at "o") (zam zaz (zam zbI (zam (zax K) (pv 2) (zam zbI zag (pv 1))) zag) zag))
  (zah (zan (zam zaz (zam (zax K) (zam zbI (pv 3) (pv 3)) (zam zbI zag (pv 3))) zag)))))), ?_⟩
 walk_at "S";walk_at "";have hm : CMul 7919 n := zii;have fin : ∀ c : Int, CMul (c + 7919 * n) 48271 /\ (0 : Int) < 2147483647 /\ CMul ((c + 7919 * n) * 48271 % 2147483647) ((c + 7919 * n) * 48271 % 2147483647) /\ CMul 16807 ((c + 7919 * n) * 48271 % 2147483647) /\ (0 : Int) < 2147483629 /\
   Q (V.int (((c + 7919 * n) * 48271 % 2147483647 * ((c + 7919 * n) * 48271 % 2147483647) + 16807 * ((c + 7919 * n) * 48271 % 2147483647)) % 2147483629)) H := fun c =>
  ⟨zhd,δ, .inl ⟨ω,ω⟩, zii,δ, k _ (yao _ δ) (yak _ δ)⟩
 have hl : (ns.map V.int).length = ns.length := yaf _;refine ⟨_, .inl hS, ite2 (fun c => ?_) fun c => ⟨hm, fin 0⟩⟩;rw [hl] at c;refine ⟨_, .inl hS, by rw [hl]; exact c, _, .inl hS, _, zgl (yao _ (by rw [hl]; omega)) (by rw [hl]; exact yak _ c), hm, ?_⟩;walk_at "";exact fin _
def plainS : Str := "bcdfghjklmnpqrstvwxz0123456789"
theorem zgA : ∀ c ∈ plainS.cps.toList, c ∈ sofS.cps.toList /\ c ≠ 97 := by decide +kernel
theorem zma {f : Str} (hf : f = smallS \/ f = greatS) {j : Int} (hj : j ∈ ([1, 2, 3, 5, 6, 7, 9, 10] : List Int)) : ∃ c, atI f.cps.toList j = some c /\ c ∈ f.cps.toList /\ c ∉ [110, 97, 111, 116, 115] := by
 have all : ∀ j ∈ ([1, 2, 3, 5, 6, 7, 9, 10] : List Int), ((atI smallS.cps.toList j).any fun c => smallS.cps.toList.contains c && !([110, 97, 111, 116, 115] : List Nat).contains c) = true /\ ((atI greatS.cps.toList j).any fun c => greatS.cps.toList.contains c && !([110, 97, 111, 116, 115] : List Nat).contains c) = true := by decide +kernel
 obtain ⟨h1, h2⟩ := all j hj;have fin : ∀ {f : Str}, ((atI f.cps.toList j).any fun c => f.cps.toList.contains c && !([110, 97, 111, 116, 115] : List Nat).contains c) = true -> ∃ c, atI f.cps.toList j = some c /\ c ∈ f.cps.toList /\ c ∉ [110, 97, 111, 116, 115] := fun {f} h => by
  cases e : atI f.cps.toList j with
  | none => rw [e] at h; simp at h
  | some c =>
   rw [e] at h;simp only [Option.any_some, Bool.and_eq_true, List.contains_iff_mem, Bool.not_eq_true'] at h;exact ⟨c, rfl, h.1, by have := h.2; intro z; rw [<- List.contains_iff_mem] at z; rw [z] at this; cases this⟩
 rcases hf with rfl | rfl
 ·exact fin h1
 ·exact fin h2
theorem ziN {f x : Str} {c : Nat} {r : List Nat} (e : x.cps.toList = c :: r) (hc : c ∈ f.cps.toList) (hc' : c ∉ [110, 97, 111, 116, 115]) (hr : ∀ d ∈ r, d ∈ plainS.cps.toList) (hl : r.length <= 7) : Nm f x := by
 refine ⟨c, r, e, hc, fun d hd => (zgA d (hr d hd)).1, hl, fun h => ?_⟩;have key : ∀ z ∈ keptW, (z.cps.toList.headD 0) ∈ [110, 97, 111, 116, 115] \/ (z.cps.toList.tail.headD 0) = 97 := by decide +kernel
 rcases key x h with q | q
 ·rw [e] at q; exact hc' q
 ·rw [e] at q;cases r with
  | nil => simp at q
  | cons d r =>
   have : d = 97 := q;exact (zgA d (hr d ς)).2 this
theorem zde (T : Tx K mg D) : FnOk P w K mg Qd CX0 1 D.a_b6 D.d_b6 ["_law_number", "_law_firsts", "_law_turn"] zj0 := by
 refine T.F_b6.ok sc_b6 (fun vs H Q E h => ?_) (fun cdv A outer s H vs Q E hr h => ?_)
 ·obtain ⟨n, f, t, rfl, _⟩ := h; rfl
 obtain ⟨n, f, t, rfl, hf, k⟩ := h;have hu := hr.units;refine ⟨_, (zac (zar (i := 3) sc_b6.nd ρ (by walk_at "o") zai)
  (zac (zaF (zal (zc4 K hu) (zam zaz (zam zaB (pv 0) zag) zag) zag (zay _)) (zac (zar (i := 4) sc_b6.nd ρ (by walk_at "o") zai)
  (zac (zbB (i := 5) 1 [0, 4] ["_law_k", "_law_number", "_law_plain"] sc_b6.nd ρ ρ ⟨ρ,ρ,ρ,ρ,ρ,ρ,ρ⟩ ρ (zcp ρ T.z_range (zaa zag zae)) (fun _ _ _ _ => zaR (i := 0) (show List.Nodup (["_law_k", "_law_number", "_law_plain"] : List Str) by decide +kernel) ρ (Or.inl ρ) (Or.inr ρ)) (zaG δ) (fun _ _ _ _ => zcr) (fun _ _ _ _ => (zbg (ixA K) (pv 2) (zam zaz (zam (zax K) (zam zaB (pv 1) zag) (zam zbI zag (pv 0))) zag) (fun _ _ => rfl))))
  (zac (zga (zbg (ixA K) (pv 1) (zbg (ixA K) (zbx (zaa zag (zaa zag (zaa zag (zaa zag (zaa zag (zaa zag (zaa zag (zaa zag zae))))))))) (zam zaz (zam zaB (pv 0) zag) zag) (fun _ _ => rfl)) (fun _ _ => rfl)) (zfZ (pv 5) zag zdk))
  (zah (zan (zbP K PySem.F.plainAttrs_str PySem.F.slot_str_join PySem.F.type_str_join (ze0 K) zai (zaa (zbh (slB K) (pv 5) zby (zbz (zam (zax K) zag (zam zaz (pv 2) zag)))) zae))))))) zao)
  (zac (zar (i := 6) sc_b6.nd ρ (by walk_at "o") (zam (zax K) zag (zam zaz (pv 0) zag)))
  (zac (zar (i := 7) sc_b6.nd ρ (by walk_at "o") (zam zaz (zam zaB (pv 0) zag) (pv 6)))
  (zac (zbB (i := 5) 1 [0, 3] ["_law_k", "_law_number", "_law_some"] sc_b6.nd ρ ρ ⟨ρ,ρ,ρ,ρ,ρ,ρ,ρ⟩ ρ (zcp ρ T.z_range (zaa (pv 6) zae)) (fun _ _ _ _ => zaR (i := 0) (show List.Nodup (["_law_k", "_law_number", "_law_some"] : List Str) by decide +kernel) ρ (Or.inl ρ) (Or.inr ρ)) (zaG δ) (fun _ _ _ _ => zcr) (fun _ _ _ _ => (zbg (ixA K) (pv 2) (zam zaz (zam (zax K) (zam zaB (pv 1) zag) (zam zbI zag (pv 0))) zag) (fun _ _ => rfl))))
  (zac (zga (zbg (ixA K) (pv 1) (zam zaz (zam zaB (pv 0) zag) zag) (fun _ _ => rfl)) (zfZ (pv 5) zag zdk))
  (zac (zaF (zal (zc4 K hu) (pv 7) zag (zay _)) (zah (zga (zbg (ixA K) (pv 1) (zam zaz (zam (zax K) (zam zaB (pv 0) zag) (pv 2)) zag) (fun _ _ => rfl)) (zfZ (pv 5) zag zdk))) (zah (zga (zbg (ixA K) (pv 3) (zam zaz (zam (zax K) (zam (zax K) (zam zaB (pv 0) zag) (zam zbI zag (pv 7))) (pv 2)) zag) (fun _ _ => rfl)) (zfZ (pv 5) (pv 7) zdk))))
  (zac (zar (i := 8) sc_b6.nd ρ (by walk_at "o") (zbP K PySem.F.plainAttrs_str PySem.F.slot_str_join PySem.F.type_str_join (ze0 K) zai (zaa (pv 5) zae)))
  (zac (zaF (zal (zhX K) (pv 8) (zbx (zaa zai (zaa zai (zaa zai (zaa zai (zaa zai (zaa zai (zaa zai zae)))))))) ρ) (zah (zan (zam (zax K) (pv 8) zai))) zao)
  (zah (zan (pv 8)))))))))))), ?_⟩
 walk_at "S";walk_at "";have hfl : f.length = 26 := by rcases hf with rfl | rfl <;> decide +kernel
 refine ⟨cdiv,δ, ite2 (fun c0 => ?_) fun c0 => ?_⟩
 ·refine ⟨δ,δ, ?_⟩;refine zcP (fun i acc H2 => H2 = H /\ ∃ cs : List Nat, acc = cs.map (fun c => V.str ⟨#[c]⟩) /\ cs.length = i /\ ∀ c ∈ cs, c ∈ plainS.cps.toList) ⟨rfl, [], rfl, rfl,ς⟩ (fun i acc H2 hi hp => ?_) fun acc H2 hp p hn => ?_
  ·obtain ⟨rfl, cs, rfl, rfl, hcs⟩ := hp;refine ⟨zcb (by rw [yaf]; have : (Int.toNat 8) = 8 := rfl; omega), ?_⟩;walk_at "T";walk_at "";refine ⟨cdiv, zii,δ, zaq (by decide +kernel), zi4 (x := Str.ofString "bcdfghjklmnpqrstvwxz0123456789") δ (by decide +kernel) fun c hc => ⟨trivial, cs ++ [c],ς,ς, fun d hd => ?_⟩⟩;rcases yay.mp hd with q | q
   ·exact hcs d q
   ·rw [yah.mp q]; exact List.mem_of_mem_take hc
  obtain ⟨rfl, cs, rfl, hl, hcs⟩ := hp;have hl8 : cs.length = 8 := hl;refine ⟨zaq δ, fun p1 hp1 => ⟨cdiv,δ, _, .inl (SqL.of zad), ?_⟩⟩;obtain ⟨j, hj, ej⟩ := zng (ts := [1, 2, 3, 5, 6, 7, 9, 10]) (i := n / 64 % 8) (yao _ δ) (yak _ δ);obtain ⟨c, ec, hc, hc'⟩ := zma hf hj;refine ⟨_, ej, ?_⟩;walk_at "";refine ⟨zaq ω, c, ec, ?_⟩;walk_at "t";have hne : p ≠ p1 := zas zad hp1;refine ⟨_, 0, by rw [zaw hne]; exact zad, zgm δ (by rw [yaf]; omega), trivial, ?_⟩;have em : (cs.map fun c => V.str ⟨#[c]⟩).set 0 (V.str ⟨#[c]⟩) = (cs.set 0 c).map fun c => V.str ⟨#[c]⟩ := by simp only [List.map_set]
  rw [em];refine ⟨δ, _, .inl ⟨SqL.of zad, fun q hq => ?_⟩⟩;obtain ⟨m, hm, hm0, hm8⟩ : ∃ m : Nat, 1 + t % 8 = (m : Int) /\ 1 <= m /\ m <= 8 := ⟨(1 + t % 8).toNat,ω,ω,ω⟩
  rw [hm, zkD, <- List.map_take];have s5 : Same H2 (upd (upd (upd (upd H2 p (.lst (cs.map fun c => V.str ⟨#[c]⟩))) p1 (.lst [V.int 1, V.int 2, V.int 3, V.int 5, V.int 6, V.int 7, V.int 9, V.int 10])) p (.lst ((cs.set 0 c).map fun c => V.str ⟨#[c]⟩))) q (.lst (((cs.set 0 c).take m).map fun c => V.str ⟨#[c]⟩))) :=
   (((zaf hn _).trans (zaf hp1 _)).upd hn).trans (zaf hq _)
  generalize hH5 : upd (upd (upd (upd H2 p (.lst (cs.map fun c => V.str ⟨#[c]⟩))) p1 (.lst [V.int 1, V.int 2, V.int 3, V.int 5, V.int 6, V.int 7, V.int 9, V.int 10])) p (.lst ((cs.set 0 c).map fun c => V.str ⟨#[c]⟩))) q (.lst (((cs.set 0 c).take m).map fun c => V.str ⟨#[c]⟩)) = H5 at s5;have Qe : ((cs.set 0 c).take m).length = m := by rw [ya3, List.length_set]; omega
  have hq5 : H5 q = some (.lst (((cs.set 0 c).take m).map fun c => V.str ⟨#[c]⟩)) := by rw [<- hH5, zad]
  have ht : ∃ r, (cs.set 0 c).take m = c :: r /\ ∀ d ∈ r, d ∈ plainS.cps.toList := by
   cases cs with
   | nil => simp at hl8
   | cons d0 cs =>
    obtain ⟨m', rfl⟩ : ∃ m', m = m' + 1 := ⟨m - 1,ω⟩
    exact ⟨cs.take m', rfl, fun d hd => hcs d (List.mem_cons_of_mem _ (List.mem_of_mem_take hd))⟩
  generalize (cs.set 0 c).take m = cs' at Qe hq5 ht;refine ⟨cs'.map fun c => ⟨#[c]⟩, .inl (SqL.of (by rw [hq5, List.map_map]; rfl)), by rw [zcB]; show cs'.length + _ * 0 <= _; omega, ?_⟩;obtain ⟨r, er, hr'⟩ := ht;have ex := zcS cs';refine k _ _ s5 (ziN (c := c) (r := r) (by rw [ex, er]) hc hc' hr' ?_);have := congrArg List.length er;simp at this;omega
 ·have e8 : 0 <= n % 8 := yao _ δ;have e8' : n % 8 < 8 := yak _ δ;generalize hsz : 1 + n % 8 = sz;have hat0 : 0 <= n / 8 % sz := yao _ ω;have hat1 : n / 8 % sz < sz := yak _ ω;generalize n / 8 % sz = pl at hat0 hat1;refine ⟨δ, cdiv,ω,ω,ω, ?_⟩;refine zcP (fun i acc H2 => H2 = H /\ ∃ cs : List Nat, acc = cs.map (fun c => V.str ⟨#[c]⟩) /\ cs.length = i /\ ∀ c ∈ cs, c ∈ sofS.cps.toList) ⟨rfl, [], rfl, rfl,ς⟩ (fun i acc H2 hi hp => ?_) fun acc H2 hp p hn => ?_
  ·obtain ⟨rfl, cs, rfl, rfl, hcs⟩ := hp;refine ⟨zcb (by rw [yaf]; omega), ?_⟩;walk_at "T";walk_at "";refine ⟨cdiv, zii,δ, zaq (by decide +kernel), zi4 (x := Str.ofString "abcdefghijklmnopqrstuvwxyz0123456789") δ (by decide +kernel) fun c hc => ⟨trivial, cs ++ [c],ς,ς, fun d hd => ?_⟩⟩;rcases yay.mp hd with q | q
   ·exact hcs d q
   ·rw [yah.mp q]; exact List.mem_of_mem_take hc
  obtain ⟨rfl, cs, rfl, hl, hcs⟩ := hp;have hl1 : 1 <= cs.length := by omega
  have hl8 : cs.length <= 8 := by omega
  refine ⟨cdiv,δ, zaq ω, zi4 δ ω fun c0 hc0 => ?_⟩;replace hc0 : c0 ∈ f.cps.toList := List.mem_of_mem_take hc0;walk_at "";refine ⟨_, 0, zad, zgm δ (by rw [yaf]; omega), ?_⟩;refine ite2 (fun hpl => ⟨cdiv,δ, zaq ω, zi4 δ ω fun c1 hc1 => ?_⟩) fun hpl => ⟨cdiv, zii,δ, zaq (by decide +kernel), zi4 (x := Str.ofString "abcdefghijklmnopqrstuvwxyz0123456789") δ (by decide +kernel) fun c1 hc1 => ?_⟩
  all_goals (replace hc1 := List.mem_of_mem_take hc1)
  all_goals (walk_at "t")
  ·refine ⟨_, 0, zad, zgm δ (by rw [List.length_set, yaf]; omega), trivial, ?_⟩;have g := znh (f := f) (c0 := c0) hl1 hl8 hcs hc1;have em : ((cs.map fun c => V.str ⟨#[c]⟩).set 0 (V.str ⟨#[c0]⟩)).set 0 (V.str ⟨#[c1]⟩) = ((cs.set 0 c0).set 0 c1).map fun c => V.str ⟨#[c]⟩ := by simp only [List.map_set]
   have Qe : ((cs.set 0 c0).set 0 c1).length <= 8 := by simpa using hl8
   generalize (cs.set 0 c0).set 0 c1 = cs' at g em Qe;simp only [zh4, em];have s5 : Same H2 (upd H2 p (HO.lst (cs'.map fun c => V.str ⟨#[c]⟩))) := zaf hn _;generalize hH5 : upd H2 p (HO.lst (cs'.map fun c => V.str ⟨#[c]⟩)) = H5 at s5;clear em;refine ⟨cs'.map fun c => ⟨#[c]⟩, .inl (SqL.of (by rw [<- hH5, zad, List.map_map]; rfl)), by rw [zcB]; show cs'.length + _ * 0 <= _; omega, (by show 7 <= sizeLine; decide), fun p1 hp1 => ?_⟩;have ex := zcS cs';generalize Txt.join "" (cs'.map fun c => (⟨#[c]⟩ : Str)) = x at ex;have hx8 : x.length <= 8 := by rw [<- zaA, ex]; exact Qe
   have s6 := s5.trans (zaf hp1 (.lst (keptW.map V.str)));refine ⟨_, .inl (SqL.of zad), rfl, zff keptW, ?_⟩;have ei : inV (V.str x) [V.str (Str.ofString "not"), V.str (Str.ofString "and"), V.str (Str.ofString "or"), V.str (Str.ofString "then"), V.str (Str.ofString "all"), V.str (Str.ofString "some"), V.str (Str.ofString "false")] = decide (x ∈ keptW) := zdl x keptW;rw [ei];refine ite2 (fun c => ?_) fun c => ?_
   ·exact ⟨zaq (by have : (Str.ofString "0").length = 1 := rfl; omega), k _ _ s6 (zfg g ex (ya7 c) rfl)⟩
   ·exact k _ _ s6 (zgn g ex fun q => c (ya9 q))
  ·refine ⟨_, pl.toNat, zad, zgm hat0 (by rw [List.length_set, yaf]; omega), trivial, ?_⟩;have g := zni (f := f) (c0 := c0) (j := pl.toNat) ω hl1 hl8 hcs hc0 hc1;have em : ((cs.map fun c => V.str ⟨#[c]⟩).set 0 (V.str ⟨#[c0]⟩)).set pl.toNat (V.str ⟨#[c1]⟩) = ((cs.set 0 c0).set pl.toNat c1).map fun c => V.str ⟨#[c]⟩ := by simp only [List.map_set]
   have Qe : ((cs.set 0 c0).set pl.toNat c1).length <= 8 := by simpa using hl8
   generalize (cs.set 0 c0).set pl.toNat c1 = cs' at g em Qe;simp only [zh4, em];have s5 : Same H2 (upd H2 p (HO.lst (cs'.map fun c => V.str ⟨#[c]⟩))) := zaf hn _;generalize hH5 : upd H2 p (HO.lst (cs'.map fun c => V.str ⟨#[c]⟩)) = H5 at s5;clear em;refine ⟨cs'.map fun c => ⟨#[c]⟩, .inl (SqL.of (by rw [<- hH5, zad, List.map_map]; rfl)), by rw [zcB]; show cs'.length + _ * 0 <= _; omega, (by show 7 <= sizeLine; decide), fun p1 hp1 => ?_⟩;have ex := zcS cs';generalize Txt.join "" (cs'.map fun c => (⟨#[c]⟩ : Str)) = x at ex;have hx8 : x.length <= 8 := by rw [<- zaA, ex]; exact Qe
   have s6 := s5.trans (zaf hp1 (.lst (keptW.map V.str)));refine ⟨_, .inl (SqL.of zad), rfl, zff keptW, ?_⟩;have ei : inV (V.str x) [V.str (Str.ofString "not"), V.str (Str.ofString "and"), V.str (Str.ofString "or"), V.str (Str.ofString "then"), V.str (Str.ofString "all"), V.str (Str.ofString "some"), V.str (Str.ofString "false")] = decide (x ∈ keptW) := zdl x keptW;rw [ei];refine ite2 (fun c => ?_) fun c => ?_
   ·exact ⟨zaq (by have : (Str.ofString "0").length = 1 := rfl; omega), k _ _ s6 (zfg g ex (ya7 c) rfl)⟩
   ·exact k _ _ s6 (zgn g ex fun q => c (ya9 q))
def spTn : Sp := fun vs H Q _ => ∃ n t, vs = [.int n, .int t] /\ ∀ x H', Same H H' -> Nm smallS x -> Q (.str x) H'
theorem zcx (T : Tx K mg D) : FnOk P w K mg Qd CX0 2 D.a_a5 D.d_a5 ["_law_base", "_law_turn"] spTn := by
 have G_b6 := @zde P w _ _ Qd _ T;refine T.F_a5.ok zdD (fun vs H Q E h => ?_) (fun cdv A outer s H vs Q E hr h => ?_)
 ·obtain ⟨n, t, rfl, _⟩ := h; rfl
 obtain ⟨n, t, rfl, k⟩ := h;have hu := hr.units;have hr_b6 : Room 1 _ := hr.mono δ;refine ⟨_, (zah (zan (YC G_b6 hr_b6 ρ T.m_b6 (zaa (zam zaB (pv 0) zag) (zaa zai (zaa (pv 1) zae)))))), ?_⟩;walk_at "S";walk_at "";exact ⟨cdiv, _, _, _, rfl, .inl rfl, k⟩
theorem ziO (T : Tx K mg D) : FnOk P w K mg Qd CX0 3 D.a_d6 D.d_d6 ["_law_base", "_law_turn"] spTn := by
 have G_b6 := @zde P w _ _ Qd _ T;have G_a5 := @zcx P w _ _ Qd _ T;refine T.F_d6.ok ziG (fun vs H Q E h => ?_) (fun cdv A outer s H vs Q E hr h => ?_)
 ·obtain ⟨n, t, rfl, _⟩ := h; rfl
 obtain ⟨n, t, rfl, k⟩ := h;have hu := hr.units;have hr_b6 : Room 1 _ := hr.mono δ;have hr_a5 : Room 2 _ := hr.mono δ;refine ⟨_, (zac (zaF (zal (zc4 K hu) (zam zaz (zam zaB (pv 0) zag) zag) zag (zay _)) (zah (zan (YC G_a5 hr_a5 ρ T.m_a5 (zaa (pv 0) (zaa (pv 1) zae))))) zao)
  (zah (zan (YC G_b6 hr_b6 ρ T.m_b6 (zaa (zam zaB (pv 0) zag) (zaa zai (zaa (pv 1) zae))))))), ?_⟩
 walk_at "S";walk_at "";refine ⟨cdiv,δ, ite2 (fun c => ?_) fun c => ?_⟩
 ·exact ⟨_, _, rfl, k⟩
 ·exact ⟨cdiv, _, _, _, rfl, .inl rfl, k⟩
theorem za2 {a b : TS} {Dd : Ends} {σ : St} {H : Hp} (R : St -> Hp -> Prop) (ha : ∀ N : St -> Hp -> Prop, (∀ σ' H', R σ' H' -> N σ' H') -> a { Dd with nx := N } σ H) (hb : ∀ σ' H', R σ' H' -> b Dd σ' H') : tSeq a b Dd σ H := ha _ hb
theorem zbf (a b : Str) : (a ++ b).cps.toList = a.cps.toList ++ b.cps.toList := by rw [Str.cps_append, Array.toList_append]
def Pl (x : Str) : Prop := ∀ c ∈ x.cps.toList, c < 1114112 /\ c ≠ 41
theorem Pl.app {x y : Str} (hx : Pl x) (hy : Pl y) : Pl (x ++ y) := fun c hc => by
 rw [zbf] at hc;rcases yay.mp hc with h | h
 ·exact hx c h
 ·exact hy c h
theorem pl_lits : Pl (Str.ofString " ") /\ Pl (Str.ofString " ; ") /\ Pl (Str.ofString "\n") /\ Pl (Str.ofString "") := by unfold Pl; decide
theorem zmb : ∀ c ∈ sofS.cps.toList, cls c <= 8 /\ c < 1114112 /\ c ≠ 41 := by decide +kernel
theorem ziP : ∀ c ∈ smallS.cps.toList, cls c <= 8 /\ c < 1114112 /\ c ≠ 41 := by decide +kernel
structure WdOk (x : Str) : Prop where
 cl : ∀ c ∈ x.cps.toList, cls c <= 8
 ne : x.cps.toList ≠ []
 nt : x.cps.toList ≠ [110, 111, 116]
 pl : Pl x
 len : x.length <= 8
theorem zok {x : Str} (h : Nm smallS x) : WdOk x /\ x.cps.toList ≠ [97, 108, 108] /\ x.cps.toList ≠ [115, 111, 109, 101] := by
 have hl := h.len.1;obtain ⟨c, r, e, hc, hr, _, hk⟩ := h;have all : ∀ d ∈ x.cps.toList, cls d <= 8 /\ d < 1114112 /\ d ≠ 41 := fun d hd => by
  rw [e] at hd;rcases yau.mp hd with rfl | hd
  ·exact ziP _ hc
  ·exact zmb d (hr d hd)
 have kept : ∀ y : Str, y ∈ keptW -> x.cps.toList ≠ y.cps.toList := fun y hy z => hk (zbp z ▸ hy);exact ⟨⟨fun d hd => (all d hd).1, by rw [e]; simp, kept "not" (by simp [keptW]), fun d hd => (all d hd).2, hl⟩, kept "all" (by simp [keptW]), kept "some" (by simp [keptW])⟩
structure LfOk (x : Str) : Prop where
 run : bRun 0 x.cps.toList < 44 /\ bst (bRun 0 x.cps.toList) 10 = 41
 pl : Pl x
 len : x.length <= 16
structure RwOk (x : Str) (n : Nat) : Prop where
 run : bRun 0 x.cps.toList < 44 /\ bst (bRun 0 x.cps.toList) 10 = 43 /\ bst (bRun 0 x.cps.toList) 13 = 0
 pl : Pl x
 len : x.length <= n
def preS : List Str := ["", "not ", "not not ", ""]
theorem zol : ∀ x ∈ preS, (bRun 0 x.cps.toList = 0 \/ bRun 0 x.cps.toList = 38 \/ bRun 0 x.cps.toList = 39) /\ x.length <= 8 /\ ∀ c ∈ x.cps.toList, c < 1114112 /\ c ≠ 41 := by decide +kernel
theorem zmc {x y : Str} (hx : x ∈ preS) (hy : WdOk y) (h2 : y.cps.toList ≠ [97, 108, 108]) (h3 : y.cps.toList ≠ [115, 111, 109, 101]) : LfOk (x ++ y) := by
 obtain ⟨q, l, p⟩ := zol x hx;refine ⟨?_, Pl.app p hy.pl, by rw [Str.length_append]; have := hy.len; omega⟩;rw [zbf, zbK ω];exact zjZ hy.cl q hy.ne hy.nt h2 h3
theorem zgB : ∀ n, bRun 0 (bars n) = 0
 | 0 => rfl
 | n + 1 => by
  have e : bars (n + 1) = [124, 32] ++ bars n := by simp [bars, List.replicate_succ]
  have e2 : bRun 0 [124, 32] = 0 := by decide +kernel
  rw [e, zbK (by rw [e2]; decide), e2];exact zgB n
theorem zmd (n : Nat) : ∀ c ∈ bars n, c < 1114112 /\ c ≠ 41 := fun c hc => by
 unfold bars at hc;obtain ⟨l, hl, hc⟩ := List.mem_flatten.mp hc;rw [List.eq_of_mem_replicate hl] at hc;simp only [List.mem_cons, List.not_mem_nil, or_false] at hc;omega
theorem zcJ {q c : Nat} {l : List Nat} (h : bst q (cls c) < 44) : bRun q (c :: l) = bRun (bst q (cls c)) l := by
 show (if bst q (cls c) = 127 then 127 else _) = _;rw [if_neg ω]
theorem ziQ {n : Nat} {x r : Str} (hn : n <= 3) (hx : LfOk x) (hr : WdOk r) : RwOk (zbQ (Str.ofString "| ") n ++ x ++ Str.ofString " ; " ++ r) 40 := by
 have hb := zgB n;obtain ⟨q1, q2⟩ := hx.run;have e : (zbQ (Str.ofString "| ") n ++ x ++ Str.ofString " ; " ++ r).cps.toList = bars n ++ (x.cps.toList ++ (32 :: 59 :: 32 :: r.cps.toList)) := by
  rw [zbf, zbf, zbf, zee];simp [show (Str.ofString " ; ").cps.toList = [32, 59, 32] from rfl]
 have hrun : bRun 0 (zbQ (Str.ofString "| ") n ++ x ++ Str.ofString " ; " ++ r).cps.toList = bRun 43 r.cps.toList := by
  rw [e, zbK (by rw [hb]; decide), hb, zbK ω, zcJ (by rw [show cls 32 = 10 from rfl, q2]; decide), show cls 32 = 10 from rfl, q2, zcJ (by decide +kernel), show bst 41 (cls 59) = 42 by decide +kernel, zcJ (by decide +kernel), show bst 42 (cls 32) = 43 by decide +kernel]
 have tl : (zbQ (Str.ofString "| ") n).length <= 6 := by
  have := zec (Str.ofString "| ") n;have h2 : (Str.ofString "| ").length = 2 := rfl;rw [this, h2]; omega
 refine ⟨by rw [hrun]; exact ziF hr.cl hr.ne hr.nt, Pl.app (Pl.app (Pl.app (fun c hc => zmd n c (by rw [<- zee]; exact hc)) hx.pl) ?_) hr.pl, ?_⟩
 ·exact pl_lits.2.1
 ·rw [Str.length_append, Str.length_append, Str.length_append];have := hx.len;have := hr.len;have h3 : (Str.ofString " ; ").length = 3 := rfl;omega
theorem zkk {x r : Str} {n : Nat} (hx : RwOk x n) (hr : WdOk r) : RwOk (x ++ Str.ofString " " ++ r) (n + 9) := by
 obtain ⟨q1, q2, q3⟩ := hx.run;have hrun : bRun 0 (x ++ Str.ofString " " ++ r).cps.toList = bRun 43 r.cps.toList := by
  rw [zbf, zbf, show (Str.ofString " ").cps.toList = [32] from rfl, List.append_assoc, List.singleton_append, zbK ω, zcJ (by rw [show cls 32 = 10 from rfl, q2]; decide), show cls 32 = 10 from rfl, q2]
 refine ⟨by rw [hrun]; exact ziF hr.cl hr.ne hr.nt, Pl.app (Pl.app hx.pl pl_lits.1) hr.pl, ?_⟩;rw [Str.length_append, Str.length_append];have := hx.len;have := hr.len;have h3 : (Str.ofString " ").length = 1 := rfl;omega
theorem zme {x : Str} {n : Nat} (hx : RwOk x n) : bRun 0 (x ++ Str.ofString "\n").cps.toList = 0 /\ Pl (x ++ Str.ofString "\n") /\ (x ++ Str.ofString "\n").length <= n + 1 := by
 obtain ⟨q1, q2, q3⟩ := hx.run;refine ⟨?_, Pl.app hx.pl pl_lits.2.2.1, ?_⟩
 ·rw [zbf, show (Str.ofString "\n").cps.toList = [10] from rfl, zbK ω, zcJ (by rw [show cls 10 = 13 from rfl, q3]; decide), show cls 10 = 13 from rfl, q3]
  rfl
 ·rw [Str.length_append];have := hx.len;have h3 : (Str.ofString "\n").length = 1 := rfl;omega
def ruS : List Str := ["new", "guess", "case", "given", "again", "both", "then", "some", "false", "x1"]
def litS : List Str := ruS ++ ([Str.ofString "0", Str.ofString "7", Str.ofString "10", Str.ofString "9999", Str.ofString "c0"] : List Str)
theorem zmf : ∀ x ∈ litS, (∀ c ∈ x.cps.toList, cls c <= 8 /\ c < 1114112 /\ c ≠ 41) /\ x.cps.toList ≠ [] /\ x.cps.toList ≠ [110, 111, 116] /\ x.length <= 8 := by decide +kernel
theorem zdL {x : Str} (h : x ∈ litS) : WdOk x := by
 obtain ⟨h1, h2, h3, h4⟩ := zmf x h;exact ⟨fun c hc => (h1 c hc).1, h2, h3, fun c hc => (h1 c hc).2, h4⟩
def zmg : Sp := fun vs H Q _ => ∃ n b : Int, vs = [.int n, .int b] /\ 0 <= n /\ ∀ (x : Str) H', Same H H' -> bRun 0 x.cps.toList = 0 -> Pl x -> x.length <= 68 -> Q (.str x) H'
theorem zfT (T : Tx K mg D) : FnOk P w K mg Qd CX0 4 D.a_c5 D.d_c5 ["_law_number", "_law_base"] zmg := by
 have G_d6 := @ziO P w _ _ Qd _ T;have G_a5 := @zcx P w _ _ Qd _ T;refine T.F_c5.ok sc_c5 (fun vs H Q E h => ?_) (fun cdv A outer s H vs Q E hr h => ?_)
 ·obtain ⟨n, b, rfl, _⟩ := h; rfl
 obtain ⟨n, b, rfl, n0, k⟩ := h;have hu := hr.units;have hr_d6 : Room 3 _ := hr.mono δ;have hr_a5 : Room 2 _ := hr.mono δ;refine ⟨_, (zac (zar (i := 2) sc_c5.nd ρ (by walk_at "o") (zbx (zaa zai (zaa zai (zaa zai (zaa zai (zaa zai (zaa zai (zaa zai (zaa zai (zaa zai (zaa zai zae))))))))))))
  (zac (zar (i := 3) sc_c5.nd ρ (by walk_at "o") (zbg (ixA K) (pv 2) (zam zaz (pv 0) zag) (fun _ _ => rfl)))
  (zac (zar (i := 4) sc_c5.nd ρ (by walk_at "o") (zbg (ixA K) (zbx (zaa zai (zaa zai (zaa zai (zaa zai zae))))) (zam zaz (zam zaB (pv 0) zag) zag) (fun _ _ => rfl)))
  (zac (zar (i := 4) sc_c5.nd ρ (by walk_at "o") (zam (zax K) (pv 4) (zbg (ixA K) (zbx (zaa zai (zaa (YC G_d6 hr_d6 ρ T.m_d6 (zaa (pv 1) (zaa (zam zaz (zam zaB (pv 0) zag) zag) zae))) zae))) (zam zaz (zam zaB (pv 0) zag) zag) (fun _ _ => rfl))))
  (zac (zaF (zal (zc4 K hu) (pv 3) zai (zay _)) (zah (zar (i := 4) sc_c5.nd ρ (by walk_at "o") zai)) zao)
  (zac (zar (i := 5) sc_c5.nd ρ (by walk_at "o") (zbx (zaa zai (zaa zai (zaa zai (zaa zai (zaa (YC G_a5 hr_a5 ρ T.m_a5 (zaa (pv 1) (zaa zag zae))) (zaa zai zae))))))))
  (zac (zar (i := 6) sc_c5.nd ρ (by walk_at "o") (zam (zax K) (zam (zax K) (zam (zax K) (zam zlh zai (zam zaz (zam zaB (pv 0) zag) zag)) (pv 4)) zai) (pv 3)))
  (zac (zdS PassesOwn.never ρ (zcp ρ T.z_range (zaa (zam zaz (zam zaB (pv 0) zag) zag) zae)) (zaR (i := 7) sc_c5.nd ρ (by walk_at "o"))
   (zah (zar (i := 6) sc_c5.nd ρ (by walk_at "o") (zam (zax K) (zam (zax K) (pv 6) zai) (zbg (ixA K) (pv 5) (zam zaz (zam zaB (zam zaB (pv 0) zag) (zbg (ixA K) (zbx (zaa zag (zaa zag (zaa zag zae)))) (pv 7) (fun _ _ => rfl))) zag) (fun _ _ => rfl))))))
  (zah (zan (zam (zax K) (pv 6) zai))))))))))), ?_⟩
 walk_at "S";refine za2 (fun σ' H' => Same H H' /\ ∃ p, H' p = some (.lst (ruS.map V.str)) /\ σ' = [some (.int n), some (.int b), some (.ref p), none, none, none, none, none]) (fun N hN => ?_) fun σ' H1 hv => ?_
 ·walk_at "";exact ⟨zaq δ, fun p hp => hN _ _ ⟨zaf hp _, p, zad, rfl⟩⟩
 obtain ⟨s1, p, hp1, rfl⟩ := hv;refine za2 (fun σ' H' => H' = H1 /\ ∃ ru, ru ∈ ruS /\ σ' = [some (.int n), some (.int b), some (.ref p), some (.str ru), none, none, none, none]) (fun N hN => ?_) fun σ' H' hv => ?_
 ·walk_at "";obtain ⟨z, hz, ez⟩ := zj3 (ts := ruS) (i := n % 10) (yao _ δ) (yak _ δ);exact ⟨δ, _, .inl (SqL.of hp1), _, ez, hN _ _ ⟨rfl, z, hz, rfl⟩⟩
 obtain ⟨rfl, ru, hru, rfl⟩ := hv;refine za2 (fun σ' H2 => Same H H2 /\ ∃ x, x ∈ preS /\ σ' = [some (.int n), some (.int b), some (.ref p), some (.str ru), some (.str x), none, none, none]) (fun N hN => ?_) fun σ' H2 hv => ?_
 ·walk_at "";obtain ⟨z, hz, ez⟩ := zj3 (ts := preS) (i := n / 10 % 4) (yao _ δ) (yak _ δ);exact ⟨zaq δ, fun q hq => ⟨cdiv,δ, _, .inl (SqL.of zad), _, ez, hN _ _ ⟨s1.trans (zaf hq _), z, hz, rfl⟩⟩⟩
 obtain ⟨s2, x, hx, rfl⟩ := hv;refine za2 (fun σ' H3 => Same H H3 /\ ∃ y, LfOk y /\ σ' = [some (.int n), some (.int b), some (.ref p), some (.str ru), some (.str y), none, none, none]) (fun N hN => ?_) fun σ' H3 hv => ?_
 ·walk_at "";refine ⟨cdiv,δ, b, _, rfl, fun y H3 s3 hy => ?_⟩;walk_at "";refine ⟨zaq (show 2 <= 100000 by decide), fun q hq => ⟨cdiv,δ, _, .inl (SqL.of zad), ?_⟩⟩;obtain ⟨z, hz, ez⟩ := zj3 (ts := [Str.ofString "false", y]) (i := n / 120 % 2) (yao _ δ) (yak _ δ);have hz' : WdOk z /\ z.cps.toList ≠ [97, 108, 108] /\ z.cps.toList ≠ [115, 111, 109, 101] := by
   simp only [List.mem_cons, List.not_mem_nil, or_false] at hz;rcases hz with rfl | rfl
   ·exact ⟨zdL (by simp [litS, ruS]),δ,δ⟩
   ·exact zok hy
  refine ⟨_, ez, ?_⟩;walk_at "";have hl := zmc hx hz'.1 hz'.2.1 hz'.2.2;have := hl.len;exact ⟨zaq (by rw [<- Str.length_append]; omega), hN _ _ ⟨(s2.trans s3).trans (zaf hq _), _, hl, rfl⟩⟩
 obtain ⟨s3, y, hy, rfl⟩ := hv;refine za2 (fun σ' H' => H' = H3 /\ ∃ y, LfOk y /\ σ' = [some (.int n), some (.int b), some (.ref p), some (.str ru), some (.str y), none, none, none]) (fun N hN => ?_) fun σ' H' hv => ?_
 ·walk_at "";exact ite2 (fun _ => hN _ _ ⟨rfl, _, ⟨by decide +kernel, pl_lits.2.2.2,δ⟩, rfl⟩) fun _ => hN _ _ ⟨rfl, y, hy, rfl⟩
 clear hy y;obtain ⟨rfl, y, hy, rfl⟩ := hv;refine za2 (fun σ' H4 => Same H H4 /\ ∃ (q : Addr) (rs : List Str), H4 q = some (.lst (rs.map V.str)) /\ rs.length = 6 /\ (∀ r ∈ rs, WdOk r) /\ σ' = [some (.int n), some (.int b), some (.ref p), some (.str ru), some (.str y), some (.ref q), none, none]) (fun N hN => ?_) fun σ' H4 hv => ?_
 ·walk_at "";refine ⟨b, _, rfl, fun z H4 s4 hz => ⟨zaq (show 6 <= 100000 by decide), fun q hq => hN _ _ ⟨(s3.trans s4).trans (zaf hq _), q, [Str.ofString "0", Str.ofString "7", Str.ofString "10", Str.ofString "9999", z, Str.ofString "c0"], zad, rfl, fun r hr' => ?_, rfl⟩⟩⟩;simp only [List.mem_cons, List.not_mem_nil, or_false] at hr';rcases hr' with rfl | rfl | rfl | rfl | rfl | rfl
  ·exact zdL (by simp [litS, ruS])
  ·exact zdL (by simp [litS, ruS])
  ·exact zdL (by simp [litS, ruS])
  ·exact zdL (by simp [litS, ruS])
  ·exact (zok hz).1
  ·exact zdL (by simp [litS, ruS])
 obtain ⟨s4, q, rs, hq, hrl, hrs, rfl⟩ := hv;have hruw : WdOk ru := zdL (List.mem_append_left _ hru);refine za2 (fun σ' H' => H' = H4 /\ ∃ z, RwOk z 40 /\ σ' = [some (.int n), some (.int b), some (.ref p), some (.str ru), some (.str y), some (.ref q), some (.str z), none]) (fun N hN => ?_) fun σ' HB hv => ?_
 ·walk_at "";have h1 := yao (n / 240) (show (4 : Int) ≠ 0 by decide);have h2 := yak (n / 240) (show (0 : Int) < 4 by decide);have hb := ziQ (n := (n / 240 % 4).toNat) (x := y) (r := ru) ω hy hruw;have hbl := hb.len;rw [Str.length_append] at hbl;have hbl2 := hbl;rw [Str.length_append] at hbl2;have hbl3 := hbl2;rw [Str.length_append] at hbl3;exact ⟨cdiv,δ,ω,ω,δ, zaq ω, zaq ω, zaq ω, hN _ _ ⟨rfl, _, hb, rfl⟩⟩
 obtain ⟨rfl, z, hz, rfl⟩ := hv;have h1 := yao (n / 960) (show (4 : Int) ≠ 0 by decide);have h2 := yak (n / 960) (show (0 : Int) < 4 by decide);walk_at "";refine ⟨cdiv,δ,ω,ω, ?_⟩;refine zea (fun i σ H' => Same HB H' /\ ∃ (z : Str) (u : Option V), RwOk z (40 + 9 * i) /\ σ = [some (.int n), some (.int b), some (.ref p), some (.str ru), some (.str y), some (.ref q), some (.str z), u]) ⟨Same.refl _, z, _, hz, rfl⟩ (fun i σ H5 hi hv => ?_) fun σ H5 hv => ?_
 ·obtain ⟨s5, z, u, hz, rfl⟩ := hv;rw [zcR];simp only [Int.zero_add, List.set_cons_zero, List.set_cons_succ];walk_at "";have hzl := hz.len;have hi3 : i < 3 := by omega
  obtain ⟨d, hd, ed⟩ := zng (ts := [1, 6, 36]) (i := (i : Int)) ω (by show (i : Int) < 3; omega);refine ⟨zaq (by have : (Str.ofString " ").length = 1 := rfl; omega), cdiv, zaq (show 3 <= 100000 by decide), fun p1 hp1 => ⟨_, .inl (SqL.of zad), _, ed, ?_⟩⟩;have hcd : CDiv (n / 3840) d := by
   simp only [List.mem_cons, List.not_mem_nil, or_false] at hd;rcases hd with rfl | rfl | rfl <;> exact cdiv
  have m0 := yao (n / 3840 / d) (show (6 : Int) ≠ 0 by decide);have m1 := yak (n / 3840 / d) (show (0 : Int) < 6 by decide);obtain ⟨r, hr', er⟩ := zj3 (ts := rs) (i := n / 3840 / d % 6) m0 (by rw [hrl]; exact m1);walk_at "";refine ⟨hcd,δ, _, .inl (SqL.of ((zaf hp1 _) _ _ (s5 _ _ hq))), _, er, ?_⟩;walk_at "";have hm := zkk hz (hrs r hr');have hml := hm.len;exact ⟨zaq (by rw [<- Str.length_append]; omega), s5.trans (zaf hp1 _), _, _, hm, rfl⟩
 ·obtain ⟨s5, z, u, hz, rfl⟩ := hv;walk_at "";obtain ⟨e1, e2, e3⟩ := zme hz;have hzl := hz.len;have : (Str.ofString "\n").length = 1 := rfl;exact ⟨zaq ω, k _ _ (s4.trans s5) e1 e2 ω⟩
theorem signs_ok : (∀ c ∈ (Str.ofString " 0123456789abcdefghijklmnopqrstuvwxyzAZ\n;;||.-( ").cps.toList, c < 1114112 /\ c ≠ 41) /\ (∀ c ∈ (Str.ofString "\t+_ 0;").cps.toList, c < 1114112 /\ c ≠ 41) /\ (Str.ofString " 0123456789abcdefghijklmnopqrstuvwxyzAZ\n;;||.-( ").cps.toList.length = 48 /\ (Str.ofString "\t+_ 0;").cps.toList.length = 6 := by decide +kernel
theorem ziR {t : Str} {i : Int} {n : Nat} (hn : t.cps.toList.length = n) (h0 : 0 <= i) (h1 : i < n) (hc : ∀ c ∈ t.cps.toList, c < 1114112 /\ c ≠ 41) : ∃ c, atI t.cps.toList i = some c /\ c < 1114112 /\ c ≠ 41 := by
 obtain ⟨j, rfl⟩ : ∃ j : Nat, i = j := ⟨i.toNat,ω⟩
 have hj : j < t.cps.toList.length := by omega
 exact ⟨_, zaI (yal hj), hc _ (List.getElem_mem hj)⟩
def zkl : Sp := fun vs H Q _ => ∃ (x : Str) (n : Int), vs = [.str x, .int n] /\ x.length <= 900 /\ Pl x /\ ∀ (y : Str) H', Same H H' -> y.length <= x.length + 1 -> Pl y -> Ed 1 x.cps.toList y.cps.toList -> Q (.str y) H'
theorem zfU (T : Tx K mg D) : FnOk P w K mg Qd CX0 1 D.a_c6 D.d_c6 ["_law_text", "_law_cell"] zkl := by
 refine T.F_c6.ok sc_c6 (fun vs H Q E h => ?_) (fun cdv A outer s H vs Q E hr h => ?_)
 ·obtain ⟨x, n, rfl, _⟩ := h; rfl
 obtain ⟨x, n, rfl, hx, hcx, k⟩ := h;have hu := hr.units;refine ⟨_, (zac (zar (i := 2) sc_c6.nd ρ (by walk_at "o") (zam zaz (zam zaz (zam zbI (pv 1) zag) zag) zag))
  (zac (zar (i := 3) sc_c6.nd ρ (by walk_at "o") (zam zaz (zam zaz (zam zbI (pv 1) zag) zag) (zam (zax K) (zau (za1 K) ρ T.z_len yap (zaa (pv 0) zae)) zag)))
  (zac (zar (i := 4) sc_c6.nd ρ (by walk_at "o") (zbg (ixA K) zai (zam zaz (zam zaz (zam zbI (pv 1) zag) zag) zag) (fun _ _ => rfl)))
  (zac (zaF (zal (zc4 K hu) (zam zaz (zam zaz (zam zbI (pv 1) zag) zag) zag) zag (zay _)) (zah (zar (i := 4) sc_c6.nd ρ (by walk_at "o") (zbg (ixA K) zai (zam zaz (zam zaz (zam zbI (pv 1) zag) zag) zag) (fun _ _ => rfl)))) zao)
  (zac (zaF (zal (zc4 K hu) (pv 2) zag (zay _)) (zah (zan (zam (zax K) (zam (zax K) (zbh (slB K) (pv 0) zby (zbz (pv 3))) (pv 4)) (zbh (slB K) (pv 0) (zbz (pv 3)) zby)))) zao)
  (zac (zaF (zal (zc4 K hu) (pv 2) zag (zay _)) (zah (zan (zam (zax K) (zam (zax K) (zbh (slB K) (pv 0) zby (zbz (pv 3))) (pv 4)) (zbh (slB K) (pv 0) (zbz (zam (zax K) (pv 3) zag)) zby)))) zao)
  (zah (zan (zam (zax K) (zbh (slB K) (pv 0) zby (zbz (pv 3))) (zbh (slB K) (pv 0) (zbz (zam (zax K) (pv 3) zag)) zby)))))))))), ?_⟩
 walk_at "S";obtain ⟨a, ha, ea⟩ : ∃ a : Nat, a <= x.length /\ n * 48271 % 10009 % ((x.length : Int) + 1) = (a : Int) := by
  have h1 := yao (n * 48271 % 10009) (show (x.length : Int) + 1 ≠ 0 by omega);have h2 := yak (n * 48271 % 10009) (show (0 : Int) < (x.length : Int) + 1 by omega);exact ⟨(n * 48271 % 10009 % ((x.length : Int) + 1)).toNat,ω,ω⟩
 refine za2 (fun σ' H' => H' = H /\ ∃ wy : Int, σ' = [some (.str x), some (.int n), some (.int wy), none, none]) (fun N hN => ?_) fun σ' H1 hv => ?_
 ·walk_at "";exact ⟨zhd,δ,δ, hN _ _ ⟨rfl, _, rfl⟩⟩
 obtain ⟨rfl, wy, rfl⟩ := hv;refine za2 (fun σ' H' => H' = H1 /\ σ' = [some (.str x), some (.int n), some (.int wy), some (.int (a : Int)), none]) (fun N hN => ?_) fun σ' H1 hv => ?_
 ·walk_at "";rw [ea];exact ⟨zhd,δ, zaq ω,ω, hN _ _ ⟨rfl, rfl⟩⟩
 obtain ⟨rfl, rfl⟩ := hv;refine za2 (fun σ' H' => H' = H1 /\ ∃ c : Nat, σ' = [some (.str x), some (.int n), some (.int wy), some (.int (a : Int)), some (.str ⟨#[c]⟩)] /\ c < 1114112 /\ c ≠ 41) (fun N hN => ?_) fun σ' H1 hv => ?_
 ·walk_at "";obtain ⟨c, hc1, hc2⟩ := ziR (i := n * 48271 % 10037 % 48) signs_ok.2.2.1 (yao _ δ) (yak _ δ) signs_ok.1;exact ⟨zhd,δ,δ, zaq δ, c, hc1, hN _ _ ⟨rfl, _, rfl, hc2⟩⟩
 obtain ⟨rfl, c, rfl, hcz⟩ := hv;refine za2 (fun σ' H' => H' = H1 /\ ∃ c : Nat, σ' = [some (.str x), some (.int n), some (.int wy), some (.int (a : Int)), some (.str ⟨#[c]⟩)] /\ c < 1114112 /\ c ≠ 41) (fun N hN => ?_) fun σ' H1 hv => ?_
 ·walk_at "";obtain ⟨c', hc1, hc2⟩ := ziR (i := n * 48271 % 10037 % 6) signs_ok.2.2.2 (yao _ δ) (yak _ δ) signs_ok.2.1;exact ⟨zhd,δ,δ, ite2 (fun _ => ⟨zhd,δ,δ, zaq δ, c', hc1, hN _ _ ⟨rfl, _, rfl, hc2⟩⟩) fun _ => hN _ _ ⟨rfl, _, rfl, hcz⟩⟩
 clear hcz c;obtain ⟨rfl, c, rfl, hcz⟩ := hv;walk_at "";have t1 := zgk x a;have t2 := zcy x a;have t3 := zcy x (a + 1);rw [show ((a + 1 : Nat) : Int) = (a : Int) + 1 by omega] at t3;have hlx := zaA x;have l1 : (Txt.slice x none (some (a : Int))).length = a := by rw [<- zaA, t1, ya3]; omega
 have l2 : (Txt.slice x (some (a : Int)) none).length = x.length - a := by rw [<- zaA, t2, List.length_drop, hlx]
 have l3 : (Txt.slice x (some ((a : Int) + 1)) none).length = x.length - (a + 1) := by rw [<- zaA, t3, List.length_drop, hlx]
 have lz : (⟨#[c]⟩ : Str).length = 1 := rfl;have h1 : Pl (Txt.slice x none (some (a : Int))) := fun d hd => hcx d (List.mem_of_mem_take (t1 ▸ hd));have h2 : Pl (Txt.slice x (some (a : Int)) none) := fun d hd => hcx d (List.mem_of_mem_drop (t2 ▸ hd));have h3 : Pl (Txt.slice x (some ((a : Int) + 1)) none) := fun d hd => hcx d (List.mem_of_mem_drop (t3 ▸ hd));have hz : Pl ⟨#[c]⟩ := fun d hd => by
  have : d = c := by simpa using hd
  rw [this]; exact hcz
 have hz1 : x.length <= sizeLine := zaq ω;have ex : x.cps.toList = x.cps.toList.take a ++ x.cps.toList.drop a := (List.take_append_drop a _).symm;have ed : (a = x.length /\ x.cps.toList.drop a = [] /\ x.cps.toList.drop (a + 1) = []) \/ ∃ d, x.cps.toList.drop a = d :: x.cps.toList.drop (a + 1) := by
  by_cases c : a < x.cps.toList.length
  ·exact .inr ⟨_, List.drop_eq_getElem_cons c⟩
  ·exact .inl ⟨ω, List.drop_eq_nil_of_le ω, List.drop_eq_nil_of_le ω⟩
 refine ite2 (fun _ => ⟨hz1, zaq ω, hz1, zaq (by rw [Str.length_append]; omega), k _ _ (Same.refl _) (by rw [Str.length_append, Str.length_append]; omega) (Pl.app (Pl.app h1 hz) h2) ?_⟩) fun _ => ?_
 ·rw [zbf, zbf, t1, t2, List.append_assoc]
  conv => lhs; rw [ex]
  exact Ed.put _ _ c
 refine ite2 (fun _ => ⟨hz1, zaq ω, hz1, zaq (by rw [Str.length_append]; omega), k _ _ (Same.refl _) (by rw [Str.length_append, Str.length_append]; omega) (Pl.app (Pl.app h1 hz) h3) ?_⟩) fun _ => ?_
 ·rw [zbf, zbf, t1, t3, List.append_assoc]
  conv => lhs; rw [ex]
  rcases ed with ⟨_, e1, e2⟩ | ⟨d, e1⟩
  ·rw [e1, e2]; exact Ed.put _ _ c
  ·rw [e1]; exact Ed.change _ _ c d
 refine ⟨hz1, hz1, zaq ω, k _ _ (Same.refl _) (by rw [Str.length_append]; omega) (Pl.app h1 h3) ?_⟩;rw [zbf, t1, t3]
 conv => lhs; rw [ex]
 rcases ed with ⟨_, e1, e2⟩ | ⟨d, e1⟩
 ·rw [e1, e2]; exact Ed.refl 1 _
 ·rw [e1]; exact Ed.take _ _ d
def oddS : List Str := ["", " \n\n", "p", "p ;", "; new c", "p ; new c", "; guess", "| ; new", "p ; Guess", "p ; guess 01", "p ; use 1 A", "p ; use -1", "p ; use 12345", "p ; use then", "p ; use 1a", "p ;; guess", "p | ; guess", "p ; guess ;", "p q ; guess", "not ; guess", "||p;given", "p ; abcdefghi", "p\t; guess", "p ;\tguess", "\tp ; guess", "p ; use +1", "p ; use 1_0", "p ; use 1\t2"]
theorem zom : ∀ y ∈ oddS, y.length <= 100 /\ (∀ c ∈ y.cps.toList, c < 1114112 /\ c ≠ 41) /\ ziD 0 0 y.cps.toList = true := by decide +kernel
theorem zeK (T : Tx K mg D) : FnOk P w K mg Qd CX0 1 D.a_a9 D.d_a9 ["_law_cell"] (fun vs H Q _ => ∃ n : Int, vs = [.int n] /\ ∀ (y : Str) H', Same H H' -> y.length <= 100 -> Pl y -> Fine y.cps.toList -> Q (.str y) H') := by
 refine T.F_a9.ok sc_a9 (fun vs H Q E h => ?_) (fun cdv A outer s H vs Q E hr h => ?_)
 ·obtain ⟨n, rfl, _⟩ := h; rfl
 obtain ⟨n, rfl, k⟩ := h;have hu := hr.units;refine ⟨_, (zac (zar (i := 1) sc_a9.nd ρ (by walk_at "o") (zbx (zaa zai (zaa zai (zaa zai (zaa zai (zaa zai (zaa zai (zaa zai (zaa zai (zaa zai (zaa zai zae))))))))))))
  (zac (zar (i := 1) sc_a9.nd ρ (by walk_at "o") (zam (zax K) (pv 1) (zbx (zaa zai (zaa zai (zaa zai (zaa zai (zaa zai (zaa zai zae)))))))))
  (zac (zar (i := 1) sc_a9.nd ρ (by walk_at "o") (zam (zax K) (pv 1) (zbx (zaa zai (zaa zai zae)))))
  (zac (zar (i := 1) sc_a9.nd ρ (by walk_at "o") (zam (zax K) (pv 1) (zbx (zaa zai (zaa zai (zaa zai (zaa zai (zaa zai (zaa zai zae)))))))))
  (zac (zar (i := 1) sc_a9.nd ρ (by walk_at "o") (zam (zax K) (pv 1) (zbx (zaa zai zae))))
  (zac (zar (i := 1) sc_a9.nd ρ (by walk_at "o") (zam (zax K) (pv 1) (zbx (zaa zai (zaa zai (zaa zai zae))))))
  (zah (zan (zbg (ixA K) (pv 1) (zam zaz (pv 0) zag) (fun _ _ => rfl)))))))))), ?_⟩
 walk_at "S";walk_at "";refine ⟨zaq δ, fun p hp => ?_⟩;refine ⟨zaq δ, fun p1 hp1 => ⟨_, _, .inl ⟨zez hp1 zad, zad, zaq δ, fun r1 hr1 => ?_⟩⟩⟩;refine ⟨zaq δ, fun p2 hp2 => ⟨_, _, .inl ⟨zez hp2 zad, zad, zaq δ, fun r2 hr2 => ?_⟩⟩⟩;refine ⟨zaq δ, fun p3 hp3 => ⟨_, _, .inl ⟨zez hp3 zad, zad, zaq δ, fun r3 hr3 => ?_⟩⟩⟩;refine ⟨zaq δ, fun p4 hp4 => ⟨_, _, .inl ⟨zez hp4 zad, zad, zaq δ, fun r4 hr4 => ?_⟩⟩⟩;refine ⟨zaq δ, fun p5 hp5 => ⟨_, _, .inl ⟨zez hp5 zad, zad, zaq δ, fun r5 hr5 => ?_⟩⟩⟩;obtain ⟨j, hj, ej⟩ : ∃ j : Nat, j < 28 /\ n % 28 = (j : Int) := ⟨(n % 28).toNat,ω,ω⟩
 have hj' : j < oddS.length := hj;rw [ej];refine ⟨δ, oddS.map V.str, .inl (SqL.of zad), _, zaI (j := j) (by rw [yav, yal hj']; rfl), ?_⟩;obtain ⟨y1, y2, y3⟩ := zom oddS[j] (List.getElem_mem hj');refine k oddS[j] _ ?_ y1 y2 (zlM y3);exact (((((((((((zaf hp _).trans (zaf hp1 _)).trans (zaf hr1 _)).trans (zaf hp2 _)).trans (zaf hr2 _)).trans (zaf hp3 _)).trans (zaf hr3 _)).trans (zaf hp4 _)).trans (zaf hr4 _)).trans (zaf hp5 _)).trans (zaf hr5 _))
def smS : Str := Str.ofString "abcdefghijklmnopqrstuvwxyz"
def soS : Str := Str.ofString "abcdefghijklmnopqrstuvwxyz0123456789"
theorem zdM {x : Str} : base x smS = (decide (0 < x.length) && decide (x.length < 9) && inS ⟨#[x.cps.toList.headD 0]⟩ smS && x.cps.toList.all fun c => inS ⟨#[c]⟩ soS) := by
 unfold base
 by_cases c : x = ""
 ·subst c; decide +kernel
 rw [if_neg c];have hl : 0 < x.length := Nat.pos_of_ne_zero fun e => c (zbp (by
  have : x.cps.toList.length = 0 := by rw [zaA]; exact e
  rw [List.eq_nil_of_length_eq_zero this]; rfl))
 by_cases c8 : (8 : Int) < x.length
 ·rw [if_pos c8, ya8 (show ¬ x.length < 9 by omega)]; simp
 rw [if_neg c8, ya9 hl, ya9 (show x.length < 9 by omega)];cases e : x.cps.toList with
 | nil => exact absurd (zbp (e.trans rfl)) c
 | cons d r =>
  have es : (Txt.slice x (some 1) none).cps.toList = r := by
   have := zcy x 1;rw [e] at this;simpa using this
  have sub : inS ⟨#[d]⟩ smS = true -> inS ⟨#[d]⟩ soS = true := fun h => by
   rw [zd2] at h ⊢;have : ∀ d ∈ smS.cps.toList, d ∈ soS.cps.toList := by decide +kernel
   exact ya9 (this d (ya7 h))
  show (if inS ⟨#[d]⟩ smS = true then zdd x else false) = (inS ⟨#[d]⟩ smS && (inS ⟨#[d]⟩ soS && r.all fun c => inS ⟨#[c]⟩ soS));cases c1 : inS ⟨#[d]⟩ smS with
  | false => rfl
  | true =>
   rw [sub c1];show zdd x = (r.all fun c => inS ⟨#[c]⟩ soS);unfold zdd;rw [es]
   rfl
def zon : Sp := fun vs H Q _ => ∃ r : Str, vs = [.str r] /\ r.length <= 9000 /\ ∀ H', Same H H' -> Q (.bl (base r (Str.ofString "abcdefghijklmnopqrstuvwxyz"))) H'
theorem zdf (T : Tx K mg D) : FnOk P w K mg Qd CX0 1 D.a_b7 D.d_b7 ["_law_word_here"] zon := by
 refine T.F_b7.ok sc_b7 (fun vs H Q E h => ?_) (fun cdv A outer s H vs Q E hr h => ?_)
 ·obtain ⟨x, rfl, _⟩ := h; rfl
 obtain ⟨x, rfl, hx, k⟩ := h;have hu := hr.units;refine ⟨_, (zac (zaF (PW.pt (zeO (zdr (zjj zgi zgi zag (zau (za1 K) ρ T.z_len yap (zaa (pv 0) zae)) zag)) (zdp (zal (zb1 K hu) (zbg (ixA K) (pv 0) zag (fun _ _ => rfl)) zai ρ)))) (zah (zan zdO)) zao)
  (zac (zdS PassesOwn.never ρ (zbS K (pv 0)) (zaR (i := 1) sc_b7.nd ρ (by walk_at "o"))
   (zah (zaF (zal (zb1 K hu) (pv 1) zai ρ) (zah (zan zdO)) zao)))
  (zah (zan zdO)))), ?_⟩
 walk_at "S";walk_at "";have hz : x.length <= sizeLine := by rw [sizeLine_eq]; omega
 have kf : base x smS = false -> Q (.bl false) H := fun e => by have q : Q (.bl (base x smS)) H := k H (Same.refl _); rw [e] at q; exact q
 refine ⟨hz, ite2 (fun c1 => ite2 (fun c2 => kf (by rw [zdM, ya8 (show ¬ x.length < 9 by omega)]; simp)) fun c2 => ⟨hz, ?_⟩) fun c1 => kf (by rw [zdM, ya8 (show ¬ 0 < x.length by omega)]; simp)⟩;have hne : ¬ x = "" := fun e => by rw [e] at c1; exact absurd c1 δ
 refine ⟨_, zeJ hne, ite2 (fun c3 => kf (by rw [zdM, show inS ⟨#[x.cps.toList.headD 0]⟩ smS = false from c3]; simp)) fun c3 => ?_⟩;have c3' : inS ⟨#[x.cps.toList.headD 0]⟩ smS = true := by
  cases e : inS ⟨#[x.cps.toList.headD 0]⟩ smS with
  | true => rfl
  | false => exact absurd e c3
 have eb : base x smS = x.cps.toList.all fun c => inS ⟨#[c]⟩ soS := by rw [zdM, c3', ya9 (show 0 < x.length by omega), ya9 (show x.length < 9 by omega)]; rfl
 refine zex (fun i σ H' => H' = H /\ (∃ u, σ = [some (.str x), u]) /\ (x.cps.toList.take i).all (fun c => inS ⟨#[c]⟩ soS) = true) ⟨rfl, ⟨_, rfl⟩, rfl⟩ (fun i c σ H' hi hv => ?_) fun σ H' hv => ?_
 ·obtain ⟨rfl, ⟨u, rfl⟩, hall⟩ := hv;rw [zcR];simp only [List.set_cons_zero, List.set_cons_succ];walk_at "";obtain ⟨hj, ej⟩ := yag.mp hi;refine ite2 (fun c4 => kf (by rw [eb]; exact zcH hj (by rw [ej]; exact c4))) fun c4 => ⟨trivial, ⟨_, rfl⟩, zc1 hj hall (by
   rw [ej];cases e : inS ⟨#[c]⟩ soS with
   | true => rfl
   | false => exact absurd e c4)⟩
 ·obtain ⟨rfl, ⟨u, rfl⟩, hall⟩ := hv;rw [List.take_length] at hall;walk_at "";have q : Q (.bl (base x smS)) _ := k _ (Same.refl _);rw [eb, hall] at q;exact q
theorem zdg (T : Tx K mg D) : FnOk P w K mg Qd CX0 2 D.a_b4 D.d_b4 ["_law_word_here"] (fun vs H Q _ => ∃ x : Str, vs = [.str x] /\ x.length <= 9000 /\ ∀ H', Same H H' -> Q (.bl (zbF x)) H') := by
 have G_b7 := @zdf P w _ _ Qd _ T;refine T.F_b4.ok zfv (fun vs H Q E h => ?_) (fun cdv A outer s H vs Q E hr h => ?_)
 ·obtain ⟨x, rfl, _⟩ := h; rfl
 obtain ⟨x, rfl, hx, k⟩ := h;have hu := hr.units;have hr_b7 : Room 1 _ := hr.mono δ;refine ⟨_, (zah (zan (zeQ (YC G_b7 hr_b7 ρ T.m_b7 (zaa (pv 0) zae)) (zeP (zcM (zb1 K hu) (pv 0) (zbx (zaa zai (zaa zai (zaa zai (zaa zai (zaa zai (zaa zai (zaa zai zae)))))))) ρ))))), ?_⟩;walk_at "S";walk_at "";refine ⟨x, rfl, hx, fun H1 s1 => ⟨_, rfl, ?_⟩⟩;cases c : base x (Str.ofString "abcdefghijklmnopqrstuvwxyz") with
 | false =>
  rw [if_neg δ];have q := k H1 s1;rw [show zbF x = false by unfold zbF; rw [show base x "abcdefghijklmnopqrstuvwxyz" = false from c]; rfl] at q;exact q
 | true =>
  rw [if_pos rfl];refine ⟨zaq δ, fun p hp => .inl ⟨_, _, rfl, .inl (SqL.of zad), rfl,δ, ?_⟩⟩;have q := k _ (s1.trans (zaf hp (.lst zeF)));unfold zbF at q;rw [show base x "abcdefghijklmnopqrstuvwxyz" = true from c, Bool.true_and] at q;exact q
theorem ziS {x : Str} (h : ¬ x = "") : numQ x = (decide (x.length <= 4) && !(decide ((⟨#[x.cps.toList.headD 0]⟩ : Str) = "0") && decide (1 < x.length)) && x.cps.toList.all fun c => inS ⟨#[c]⟩ "0123456789") := by
 have hl : 0 < x.length := Nat.pos_of_ne_zero fun e => h (zbp (by
  have : x.cps.toList.length = 0 := by rw [zaA]; exact e
  rw [List.eq_nil_of_length_eq_zero this]; rfl))
 unfold numQ;rw [if_neg h]
 by_cases c4 : (4 : Int) < x.length
 ·rw [if_pos c4, ya8 (show ¬ x.length <= 4 by omega)]; rfl
 rw [if_neg c4, ya9 (show x.length <= 4 by omega)]
 by_cases c0 : (⟨#[x.cps.toList.headD 0]⟩ : Str) = "0"
 ·rw [ya9 c0]
  by_cases c1 : 1 < x.length
  ·rw [if_pos ⟨c0, fun z => by rw [z] at c1; exact absurd c1 δ⟩, ya9 c1]; rfl
  ·have e1 : x.length = 1 := by omega
   have ex : x = "0" := zbp (by
    have hx1 : x.cps.toList.length = 1 := by rw [zaA]; exact e1
    obtain ⟨d, hd⟩ := List.length_eq_one_iff.mp hx1;rw [hd] at c0 ⊢;have := congrArg (fun s : Str => s.cps.toList) c0;exact this)
   rw [if_neg (fun z => z.2 ex), ya8 c1]; rfl
 ·rw [if_neg (fun z => c0 z.1), ya8 c0]; rfl
def refL (x : Str) : Dt := (refD x).getD (.int (-1))
theorem zh2 {x : Str} (h : x.cps.toList.all (fun c => inS ⟨#[c]⟩ "0123456789") = true) : zbF x = false := by
 unfold zbF;cases c : base x "abcdefghijklmnopqrstuvwxyz" with
 | false => rfl
 | true =>
  exfalso
  have c' : base x smS = true := c;rw [zdM] at c';simp only [Bool.and_eq_true, decide_eq_true_eq] at c';cases e : x.cps.toList with
  | nil => have := zaA x; rw [e] at this; simp at this; omega
  | cons d r =>
   rw [e] at c' h;have h1 := c'.1.2;have h2 : inS ⟨#[d]⟩ "0123456789" = true := by
    rw [List.all_cons, Bool.and_eq_true] at h;exact h.1
   have h1' : inS ⟨#[d]⟩ smS = true := h1;rw [zd2] at h1' h2;have : ∀ d ∈ smS.cps.toList, d ∉ ("0123456789" : Str).cps.toList := by decide +kernel
   exact this d (ya7 h1') (ya7 h2)
def zmh (K : W.Frag) : Sp := fun vs H Q _ => ∃ x : Str, vs = [.str x] /\ ¬ x = "" /\ x.length <= 1000 /\ ∀ H' v, Same H H' -> RepD K H' (refL x) v -> Q v H'
theorem zfV (T : Tx K mg D) : FnOk P w K mg Qd CX0 3 D.a_c8 D.d_c8 ["_law_word_here"] (zmh K) := by
 have G_b4 := @zdg P w _ _ Qd _ T;refine T.F_c8.ok sc_c8 (fun vs H Q E h => ?_) (fun cdv A outer s H vs Q E hr h => ?_)
 ·obtain ⟨x, rfl, _⟩ := h; rfl
 obtain ⟨x, rfl, hne, hx, k⟩ := h;have hu := hr.units;have hr_b4 : Room 2 _ := hr.mono δ;refine ⟨_, (zac (zdS PassesOwn.never ρ (zbS K (pv 0)) (zaR (i := 1) sc_c8.nd ρ (by walk_at "o"))
   (zah (zaF (zal (zb1 K hu) (pv 1) zai ρ) (zac (zaF (zc3 (YC G_b4 hr_b4 ρ T.m_b4 (zaa (pv 0) zae))) (zah (zan (pv 0))) zao)
  (zah (zan (zkM zhA zag)))) zao)))
  (zac (zaF (PW.pt (zeO (zal zgS (zau (za1 K) ρ T.z_len yap (zaa (pv 0) zae)) zag (zay _)) (zdp (PW.pt (zdq (zal (zb9 K hu) (zbg (ixA K) (pv 0) zag (fun _ _ => rfl)) zai (zay _)) (zcL (zal zgS (zau (za1 K) ρ T.z_len yap (zaa (pv 0) zae)) zag (zay _)))))))) (zah (zan (zkM zhA zag))) zao)
  (zah (zan (zbE zfn ρ T.z_int ρ (zaa (pv 0) zae)))))), ?_⟩
 walk_at "S";walk_at "";have hz : x.length <= sizeLine := by rw [sizeLine_eq]; omega
 have fl : ∀ {t : Str}, refD x = none -> ∀ H', Same H H' -> Q (.int (-1)) H' := fun e H' s' => k H' _ s' (by unfold refL; rw [e]; exact .int _);refine zex (fun i σ H' => H' = H /\ (∃ u, σ = [some (.str x), u]) /\ (x.cps.toList.take i).all (fun c => inS ⟨#[c]⟩ "0123456789") = true) ⟨rfl, ⟨_, rfl⟩, rfl⟩ (fun i c σ H' hi hv => ?_) fun σ H' hv => ?_
 ·obtain ⟨rfl, ⟨u, rfl⟩, hall⟩ := hv;rw [zcR];simp only [List.set_cons_zero, List.set_cons_succ];walk_at "";obtain ⟨hj, ej⟩ := yag.mp hi;refine ite2 (fun c4 => ?_) fun c4 => ⟨trivial, ⟨_, rfl⟩, zc1 hj hall (by
   rw [ej];cases e : inS ⟨#[c]⟩ "0123456789" with
   | true => rfl
   | false => exact absurd e c4)⟩
  have hn : numQ x = false := by rw [ziS hne, zcH hj (by rw [ej]; exact c4)]; simp
  refine ⟨x, rfl,ω, fun H1 s1 => ?_⟩;walk_at "t";refine ite2 (fun cw => ?_) fun cw => ⟨1, rfl, fl (t := x) (by unfold refD; rw [if_neg (by rw [hn]; decide), if_neg cw]) H1 s1⟩
  exact k H1 _ s1 (by unfold refL refD; rw [if_neg (by rw [hn]; decide), if_pos cw]; exact .str _)
 ·obtain ⟨rfl, ⟨u, rfl⟩, hall⟩ := hv;rw [List.take_length] at hall;have hw := zh2 hall;have hnum := ziS hne;rw [hall, Bool.and_true] at hnum;have no : numQ x = false -> refD x = none := fun e => by unfold refD; rw [if_neg (by rw [e]; decide), if_neg (by rw [hw]; decide)]
  have yes : numQ x = true -> ∃ n, intText? x = some n /\ x.length <= 640 /\ Q (V.int n) H' := fun e => by
   obtain ⟨n1, n2⟩ := zg7 e;exact ⟨_, n1,ω, k H' _ (Same.refl _) (by unfold refL refD; rw [if_pos e]; exact .int _)⟩
  walk_at "";refine ⟨hz, ite2 (fun c4 => ⟨1, rfl, fl (t := x) (no (by rw [hnum, ya8 (show ¬ x.length <= 4 by omega)]; rfl)) _ (Same.refl _)⟩) fun c4 => ⟨hz, _, zeJ hne, ite2 (fun c0 => ⟨hz, ite2 (fun c1 => ⟨1, rfl, fl (t := x) (no (by rw [hnum, ya9 (show x.length <= 4 by omega), ya9 c0, ya9 (show 1 < x.length by omega)]; rfl)) _ (Same.refl _)⟩) fun c1 => yes (by rw [hnum, ya9 (show x.length <= 4 by omega), ya8 (show ¬ 1 < x.length by omega)]; simp)⟩) fun c0 => yes (by rw [hnum, ya9 (show x.length <= 4 by omega), ya8 c0]; rfl)⟩⟩
def negN : Nat -> Stm -> Stm
 | 0, S => S
 | n + 1, S => .neg (negN n S)
def stB (l : Str) : Option Stm := if l = "false" then some .fls else if zbF l = true then some (.is l []) else none
def stW (ini : List Str) (l : Str) : Option Stm := if ini.all (fun t : Str => decide (t = "not")) = true then (stB l).map (fun S => negN ini.length S) else none
def stL (ws : List Str) : Option Stm := if ws = [] then none else stW ws.dropLast (ws.getD (ws.length - 1) "")
def zkI (K : W.Frag) (H : Hp) : Option Stm -> V -> Prop
 | none, x => x = .non
 | some S, x => RepS K H S x
def zoo (K : W.Frag) : Sp := fun vs H Q _ => ∃ (a : Addr) (ws : List Str), vs = [.ref a] /\ SqL K H a (ws.map V.str) /\ ws.length <= 9000 /\ (∀ t ∈ ws, t.length <= 9000) /\ ∀ H' v, Same H H' -> zkI K H' (stL ws) v -> Q v H'
theorem zgC (xs : List V) {a : Nat} (ha : a <= xs.length) : cutV xs (some (a : Int)) none = xs.drop a := by
 unfold cutV;rw [HT.sIx_nat, HT.sIx_none, Nat.min_eq_left ha];exact List.take_of_length_le ς
theorem zcY (T : Tx K mg D) : FnOk P w K mg Qd CX0 3 D.a_a4 D.d_a4 ["_law_words"] (zoo K) := by
 have G_b4 := @zdg P w _ _ Qd _ T;refine T.F_a4.ok sc_a4 (fun vs H Q E h => ?_) (fun cdv A outer s H vs Q E hr h => ?_)
 ·obtain ⟨a, ws, rfl, _⟩ := h; rfl
 obtain ⟨a, ws, rfl, hA, hl, ht, k⟩ := h;have hu := hr.units;have hr_b4 : Room 2 _ := hr.mono δ;refine ⟨_, (zac (zaF (zal (zb9 K hu) (zau (za1 K) ρ T.z_len yap (zaa (pv 0) zae)) zag (zay _)) (zah (zan zc2)) zao)
  (zac (zar (i := 1) sc_a4.nd ρ (by walk_at "o") (zci (zaa zai (zaa (zbg (ixA K) (pv 0) (zam zdb (zau (za1 K) ρ T.z_len yap (zaa (pv 0) zae)) zag) (fun _ _ => rfl)) (zaa (zci zae) zae)))))
  (zac (zaF (zal (zb9 K hu) (zbg (ixA K) (pv 0) (zam zdb (zau (za1 K) ρ T.z_len yap (zaa (pv 0) zae)) zag) (fun _ _ => rfl)) zai (zay _)) (zah (zar (i := 1) sc_a4.nd ρ (by walk_at "o") (zci (zaa zai zae)))) (zah (zaF (zdr (zc3 (YC G_b4 hr_b4 ρ T.m_b4 (zaa (zbg (ixA K) (pv 0) (zam zdb (zau (za1 K) ρ T.z_len yap (zaa (pv 0) zae)) zag) (fun _ _ => rfl)) zae)))) (zah (zan zc2)) zao)))
  (zac (zdS PassesOwn.never ρ (zbS K (zbh (slB K) (pv 0) zby (zbz (zam zdb (zau (za1 K) ρ T.z_len yap (zaa (pv 0) zae)) zag)))) (zaR (i := 2) sc_a4.nd ρ (by walk_at "o"))
   (zac (zaF (zal (zcl K hu) (pv 2) zai (zay _)) (zah (zan zc2)) zao)
  (zah (zar (i := 1) sc_a4.nd ρ (by walk_at "o") (zci (zaa zai (zaa (pv 1) zae)))))))
  (zah (zan (pv 1))))))), ?_⟩
 walk_at "S";refine za2 (fun σ' H' => H' = H /\ ¬ ws = [] /\ σ' = [some (.ref a), none, none]) (fun N hN => ?_) fun σ' H1 hv => ?_
 ·walk_at "";refine ⟨_, .inl hA, ite2 (fun c => ?_) fun c => hN _ _ ⟨rfl, fun z => c (by rw [z]; rfl), rfl⟩⟩;have ew : ws = [] := List.eq_nil_of_length_eq_zero (by rw [yaf] at c; omega);exact k _ _ (Same.refl _) (by unfold stL; rw [if_pos ew]; exact rfl)
 obtain ⟨rfl, hne, rfl⟩ := hv;have hpos : 0 < ws.length := List.length_pos_iff.mpr hne;have eL : stL ws = stW ws.dropLast (ws.getD (ws.length - 1) "") := by unfold stL; rw [if_neg hne]
 have ei : (((ws.map V.str).length : Nat) : Int) - 1 = ((ws.length - 1 : Nat) : Int) := by rw [yaf]; omega
 have hlast : ws.getD (ws.length - 1) "" ∈ ws := by
  rw [List.getD_eq_getElem?_getD, yal ω];exact List.getElem_mem _
 have hat : atI (ws.map V.str) ((ws.length - 1 : Nat) : Int) = some (.str (ws.getD (ws.length - 1) "")) := zaI (zgx ω);have hll := ht _ hlast;generalize ws.getD (ws.length - 1) "" = l at eL hat hll;clear hlast;refine za2 (fun σ' H' => Same H1 H' /\ ∃ v, RepS K H' (.is l []) v /\ σ' = [some (.ref a), some v, none]) (fun N hN => ?_) fun σ' H2 hv => ?_
 ·walk_at "";refine ⟨_, .inl hA, _, .inl hA, _, by rw [ei]; exact hat, zaq (show 0 <= 100000 by decide), fun p hp => ⟨zaq (show 3 <= 100000 by decide), fun p1 hp1 => hN _ _ ⟨(zaf hp _).trans (zaf hp1 _), _, ⟨p1, p, rfl, SqT.of zad, (zaf hp1 _).seqT (SqT.of zad)⟩, rfl⟩⟩⟩
 obtain ⟨s2, v, rv, rfl⟩ := hv;have hA2 := s2.seq hA;refine za2 (fun σ' H' => Same H1 H' /\ ∃ S v, stB l = some S /\ RepS K H' S v /\ σ' = [some (.ref a), some v, none]) (fun N hN => ?_) fun σ' H3 hv => ?_
 ·walk_at "";refine ⟨_, .inl hA2, _, .inl hA2, _, by rw [ei]; exact hat, ?_⟩;walk_at "";refine ite2 (fun c => ⟨zaq (show 1 <= 100000 by decide), fun p hp => hN _ _ ⟨s2.trans (zaf hp _), _, _, if_pos c, ⟨p, rfl, SqT.of zad⟩, rfl⟩⟩) fun c => ?_;refine ⟨_, .inl hA2, _, .inl hA2, _, by rw [ei]; exact hat, l, rfl, hll, fun H3 s3 => ?_⟩;walk_at "t";refine ite2 (fun cw => ?_) fun cw => ?_
  ·exact k _ _ (s2.trans s3) (by
    have : stB l = none := by unfold stB; rw [if_neg c, if_neg (by rw [cw]; decide)]
    rw [eL]; unfold stW; rw [this]
    split <;> rfl)
  ·have cw' : zbF l = true := by
    cases e : zbF l with
    | true => rfl
    | false => exact absurd e cw
   exact hN _ _ ⟨s2.trans s3, _, _, by unfold stB; rw [if_neg c, if_pos cw'], rv.same s3, rfl⟩
 obtain ⟨s3, S, v', eS, rS, rfl⟩ := hv;clear rv;have hA3 := s3.seq hA;walk_at "";refine ⟨_, .inl hA3, _, .inl ⟨hA3, fun q hq => ?_⟩⟩;rw [ei, zkD, <- List.map_take, <- List.dropLast_eq_take];have s4 := zaf hq (.lst (ws.dropLast.map V.str));refine .inl ⟨⟨_, SqL.of zad⟩, zia (xs := ws.dropLast.map V.str) (fun i σ H' => Same (upd H3 q (.lst (ws.dropLast.map V.str))) H' /\ (ws.dropLast.take i).all (fun t : Str => decide (t = "not")) = true /\ ∃ v u, RepS K H' (negN i S) v /\ σ = [some (.ref a), some v, u]) ⟨Same.refl _, rfl, _, _, rS.same s4, rfl⟩ (fun i σ H' _ hv => hv.1.seq (SqL.of zad)) (fun i y σ H' hi hv => ?_) fun σ H' hv => ?_⟩
 ·obtain ⟨s5, hall, v, u, rv, rfl⟩ := hv;have hj : i < ws.dropLast.length := by have := (yag.mp hi).1; simpa using this
  have ev : y = V.str ws.dropLast[i] := by
   rw [yav, yal hj] at hi;cases hi; rfl
  subst ev;rw [zcR];simp only [List.set_cons_zero, List.set_cons_succ];walk_at "";refine ite2 (fun c => ?_) fun c => ⟨zaq (show 2 <= 100000 by decide), fun p hp => ⟨s5.trans (zaf hp _), zc1 hj hall (ya9 (Classical.not_not.mp c)), _, _, ⟨p, v, rfl, SqT.of zad, rv.same (zaf hp _)⟩, rfl⟩⟩
  exact k _ _ ((s3.trans s4).trans s5) (by
   rw [eL]; unfold stW;rw [if_neg (by rw [zcH hj (ya8 c)]; decide)];exact rfl)
 ·obtain ⟨s5, hall, v, u, rv, rfl⟩ := hv;rw [yaf] at hall rv;rw [List.take_length] at hall;walk_at "";exact k _ _ ((s3.trans s4).trans s5) (by
   rw [eL]; unfold stW;rw [if_pos hall, eS];exact rv)
def leftT (p : Str) : List Str := runsI (Txt.replace p (Str.ofString "|") (Str.ofString " | "))
def zf3 (t : Str) : Bool := decide (t = Str.ofString "|")
def Qf (ws : List Str) : Nat := (ws.takeWhile zf3).length
def zfW (l : Nat) (ru : Str) (fs rest : List Str) : Option Dt := if base ru smS = true then (if fs.all (fun f => (refD f).isSome) = true then (if ru = Str.ofString "new" then (if rest = [] then some (.tup [.int l, .str ru, .non, .tup (fs.map refL)]) else none) else (stL rest).map fun S => .tup [.int l, .str ru, S.dt, .tup (fs.map refL)]) else none) else none
def zkm (ls : List Str) : List Str -> Option Dt
 | ru :: fs => zfW (Qf ls) ru fs (ls.drop (Qf ls))
 | [] => none
def ziT : List Str -> Option Dt
 | [p, q] => zkm (leftT p) (runsI q)
 | _ => none
def zdQ (x : Str) : Option Dt := ziT (Txt.split x (Str.ofString ";"))
theorem zkn {ps : List Str} (h : ¬ ((ps.map V.str).length : Int) = 2) : ziT ps = none := by
 rw [yaf] at h
 match ps, h with
 | [], _ => rfl
 | [_], _ => rfl
 | [p, q], h => exact absurd rfl h
 | _ :: _ :: _ :: _, _ => rfl
theorem zgD (x : Str) : (Txt.replace x (Str.ofString "|") (Str.ofString " | ")).length <= 3 * x.length := zis x 124
theorem zop (ws : List Str) : Qf ws <= ws.length := (List.takeWhile_sublist _).length_le
theorem zgE : ∀ {ws : List Str} {n : Nat}, (ws.take n).all zf3 = true -> n <= ws.length -> (∀ h : n < ws.length, zf3 ws[n] = false) -> Qf ws = n
 | [], n, _, h, _ => by simp at h; subst h; rfl
 | t :: ws, 0, _, _, h => by
  have := h ς;unfold Qf;rw [List.takeWhile_cons, if_neg (by rw [show zf3 t = false from this]; decide)]
  rfl
 | t :: ws, n + 1, ha, hn, h => by
  rw [List.take_succ_cons, List.all_cons, Bool.and_eq_true] at ha;have ih := zgE (ws := ws) (n := n) ha.2 (by simpa using hn) fun h' => h (by simpa using h');unfold Qf at ih ⊢;rw [List.takeWhile_cons, if_pos ha.1, List.length_cons, ih]
theorem zko (fs : List Str) : decide (Dt.int (-1) ∈ fs.map refL) = !(fs.all fun f => (refD f).isSome) := by
 cases c : fs.all fun f => (refD f).isSome with
 | true =>
  refine ya8 fun h => ?_;obtain ⟨f, hf, e⟩ := ya6.mp h;have := List.all_eq_true.mp c f hf;unfold refL refD at e;unfold refD at this
  by_cases c1 : numQ f = true
  ·rw [if_pos c1] at e;have e' : Dt.int (numI f) = .int (-1) := e;have := Dt.int.inj e';unfold numI at this;rw [if_pos c1] at this;omega
  ·rw [if_neg c1] at e this
   by_cases c2 : zbF f = true
   ·rw [if_pos c2] at e; cases e
   ·rw [if_neg c2] at this; cases this
 | false =>
  refine ya9 ?_;rw [List.all_eq_false] at c;obtain ⟨f, hf, e⟩ := c;refine ya6.mpr ⟨f, hf, ?_⟩;unfold refL;cases e2 : refD f with
  | none => rfl
  | some d => rw [e2] at e; exact absurd rfl e
theorem deps_le {b : Nat} : ∀ {l : List Dt}, (∀ d ∈ l, Dt.dep d <= b) -> Dt.deps l <= b
 | [], _ => yaq _
 | d :: l, h => by
  have h1 := h d ς;have h2 := deps_le (l := l) fun e he => h e (List.mem_cons_of_mem _ he);simp only [Dt.deps];omega
theorem zkp (f : Str) : Dt.dep (refL f) = 0 := by
 unfold refL refD
 split
 ·rfl
 ·split <;> rfl
theorem zgF (fs : List Str) : Dt.deps (fs.map refL) <= 0 := deps_le fun d hd => by
 obtain ⟨f, _, rfl⟩ := ya6.mp hd;rw [zkp f]; omega
theorem zgG {K : W.Frag} {H : Hp} {a : Addr} {ts : List Str} (h : SqL K H a (ts.map V.str)) : RepD K H (.lst (ts.map Dt.str)) (.ref a) :=
 .lst h ς fun j d x h1 h2 => by
  rw [yav] at h1 h2;cases e : ts[j]? with
  | none => rw [e] at h1; cases h1
  | some t => rw [e] at h1 h2; cases h1; cases h2; exact .str t
theorem zkq (ts : List Str) : Dt.deps (ts.map Dt.str) <= 0 := deps_le fun d hd => by
 obtain ⟨f, _, rfl⟩ := ya6.mp hd;exact yai _
theorem zel {xs : List Str} {a : Addr} {σ : St} {H : Hp} {Q : VK} (hA : SqL K H a (xs.map V.str)) (hl : xs.length <= 9000) (hq : ∀ p, H p = none -> Q (.ref p) (upd H p (.lst ((xs.filter fun r : Str => !decide (r = "")).map V.str)))) : zhb (Itl K a) 1 [] (zeo 0) (zji (tOp (rNeC K) (tVar 0) (tC (V.str (Str.ofString ""))))) (tVar 0) σ H Q := by
 refine zbO (xs := xs.map V.str) (fun i acc Hc => Hc = H /\ acc = ((xs.take i).filter fun r : Str => !decide (r = "")).map V.str) ⟨rfl, rfl⟩ (fun i acc Hc _ h => h.1 ▸ hA) (fun i v acc Hc hv h => ?_) fun acc Hc h p1 hp1 => ?_
 ·obtain ⟨rfl, rfl⟩ := h;have hj : i < xs.length := by have := (yag.mp hv).1; simpa using this
  have ev : v = V.str xs[i] := by
   rw [yav, yal hj] at hv;cases hv; rfl
  subst ev;refine ⟨?_, ?_⟩
  ·rw [yaf];refine Nat.lt_of_le_of_lt (List.length_filter_le _ _) ?_;rw [ya3, sizeLine_eq];omega
  ·walk_at "T";walk_at "";rw [List.take_succ_eq_append_getElem hj, List.filter_append];refine ite2 (fun c => ?_) fun c => ?_
   ·exact ⟨trivial, by rw [ya0]; simp [c]⟩
   ·exact ⟨trivial, by rw [ya0]; simp [c]⟩
 ·obtain ⟨rfl, rfl⟩ := h;rw [yaf, List.take_length];exact hq p1 hp1
def zkr (K : W.Frag) : Sp := fun vs H Q _ => ∃ x : Str, vs = [.str x] /\ x.length <= 1000 /\ ∀ H' v, Same H H' -> RepD K H' ((zdQ x).getD .non) v -> Q v H'
theorem zf4 (T : Tx K mg D) : FnOk P w K mg Qd CX0 4 D.a_c1 D.d_c1 ["_law_row"] (zkr K) := by
 have G_b7 := @zdf P w _ _ Qd _ T;have G_c8 := @zfV P w _ _ Qd _ T;have G_a4 := @zcY P w _ _ Qd _ T;refine T.F_c1.ok sc_c1 (fun vs H Q E h => ?_) (fun cdv A outer s H vs Q E hr h => ?_)
 ·obtain ⟨x, rfl, _⟩ := h; rfl
 obtain ⟨x, rfl, hx, k⟩ := h;have hu := hr.units;have hr_b7 : Room 1 _ := hr.mono δ;have hr_c8 : Room 3 _ := hr.mono δ;have hr_a4 : Room 3 _ := hr.mono δ;refine ⟨_, (zac (zar (i := 1) sc_c1.nd ρ (by walk_at "o") (zbP K PySem.F.plainAttrs_str PySem.F.slot_str_split PySem.F.type_str_split zcc (pv 0) (zaa zai zae)))
  (zac (zaF (zal (zcl K hu) (zau (za1 K) ρ T.z_len yap (zaa (pv 1) zae)) zag (zay _)) (zah (zan zc2)) zao)
  (zac (zbB (i := 2) 1 [] ["_law_word_here"] sc_c1.nd ρ ρ ⟨ρ,ρ,ρ,ρ,ρ,ρ,ρ⟩ ρ (zbS K (zbP K PySem.F.plainAttrs_str PySem.F.slot_str_split PySem.F.type_str_split zcc (zbg (ixA K) (pv 1) zag (fun _ _ => rfl)) (zaa zai zae))) (fun _ _ _ _ => zaR (i := 0) (show List.Nodup (["_law_word_here"] : List Str) by decide +kernel) ρ (Or.inl ρ) (Or.inr ρ)) (zaG δ) (fun _ _ _ _ => zd1 (zal (zcl K hu) (pv 0) zai (zay _))) (fun _ _ _ _ => (pv 0)))
  (zac (zar (i := 3) sc_c1.nd ρ (by walk_at "o") (zbP K PySem.F.plainAttrs_str PySem.F.slot_str_split PySem.F.type_str_split zcc (zjX (zlN (ixA K) (pv 1) (fun _ _ => rfl)) δ δ) (zaa zai zae)))
  (zac (zbB (i := 3) 1 [] ["_law_word_here"] sc_c1.nd ρ ρ ⟨ρ,ρ,ρ,ρ,ρ,ρ,ρ⟩ ρ (zbS K (pv 3)) (fun _ _ _ _ => zaR (i := 0) (show List.Nodup (["_law_word_here"] : List Str) by decide +kernel) ρ (Or.inl ρ) (Or.inr ρ)) (zaG δ) (fun _ _ _ _ => zd1 (zal (zcl K hu) (pv 0) zai (zay _))) (fun _ _ _ _ => (pv 0)))
  (zac (zar (i := 4) sc_c1.nd ρ (by walk_at "o") zag)
  (zac (zgb PassesOwn.never (PW.pt (zdq (zal zgi (pv 4) (zau (za1 K) ρ T.z_len yap (zaa (pv 3) zae)) (zay _)) (zcL (zal (zb9 K hu) (zbg (ixA K) (pv 3) (pv 4) (fun _ _ => rfl)) zai (zay _))))) (zah (zar (i := 4) sc_c1.nd ρ (by walk_at "o") (zam (zax K) (pv 4) zag))))
  (zac (zaF (PW.pt (zeO (zal (zb9 K hu) (zau (za1 K) ρ T.z_len yap (zaa (pv 2) zae)) zag (zay _)) (zdp (zdr (zc3 (YC G_b7 hr_b7 ρ T.m_b7 (zaa (zbg (ixA K) (pv 2) zag (fun _ _ => rfl)) zae))))))) (zah (zan zc2)) zao)
  (zac (zbB (i := 5) 1 [] ["_law_word_here"] sc_c1.nd ρ ρ ⟨ρ,ρ,ρ,ρ,ρ,ρ,ρ⟩ ρ (zbS K (zbh (slB K) (pv 2) (zbz zag) zby)) (fun _ _ _ _ => zaR (i := 0) (show List.Nodup (["_law_word_here"] : List Str) by decide +kernel) ρ (Or.inl ρ) (Or.inr ρ)) (zaG δ) (fun _ _ _ _ => zcr) (fun _ _ _ _ => (YC G_c8 hr_c8 ρ T.m_c8 (zaa (pv 0) zae))))
  (zac (zaF (zal (zgv K hu) (zkM zhA zag) (pv 5) ρ) (zah (zan zc2)) zao)
  (zac (zar (i := 6) sc_c1.nd ρ (by walk_at "o") (YC G_a4 hr_a4 ρ T.m_a4 (zaa (zbh (slB K) (pv 3) (zbz (pv 4)) zby) zae)))
  (zac (zaF (PW.pt (zdq (zal (zb9 K hu) (zbg (ixA K) (pv 2) zag (fun _ _ => rfl)) zai (zay _)) (zcL (zal (zb9 K hu) (zbh (slB K) (pv 3) (zbz (pv 4)) zby) (zbx zae) (zay _))))) (zah (zan (zci (zaa (pv 4) (zaa zai (zaa zc2 (zaa (zbE (zbC K) ρ T.z_tuple ρ (zaa (pv 5) zae)) zae))))))) zao)
  (zac (zaF (PW.pt (zeO (zal (zb9 K hu) (zbg (ixA K) (pv 2) zag (fun _ _ => rfl)) zai (zay _)) (zdp (zmw (zmv (pv 6)))))) (zah (zan zc2)) zao)
  (zah (zan (zci (zaa (pv 4) (zaa (zbg (ixA K) (pv 2) zag (fun _ _ => rfl)) (zaa (pv 6) (zaa (zbE (zbC K) ρ T.z_tuple ρ (zaa (pv 5) zae)) zae)))))))))))))))))))), ?_⟩
 walk_at "S";have kn : zdQ x = none -> ∀ H', Same H H' -> Q .non H' := fun e H' s' => k H' _ s' (by rw [e]; exact .non);have e0 : zdQ x = ziT (Txt.split x (Str.ofString ";")) := rfl;have hin : ∀ r ∈ Txt.split x (Str.ofString ";"), r.length <= 1000 := fun r hr' => by
  have hr2 : r ∈ Txt.split x ⟨#[59]⟩ := hr';have := zc0 hr2;omega
 refine za2 (fun σ' H' => Same H H' /\ ∃ p, H' p = some (.lst ((Txt.split x (Str.ofString ";")).map V.str)) /\ σ' = [some (.str x), some (.ref p), none, none, none, none, none]) (fun N hN => ?_) fun σ' H1 hv => ?_
 ·walk_at "";exact ⟨trivial,δ,ω, fun p hp => hN _ _ ⟨zaf hp _, p, zad, rfl⟩⟩
 generalize Txt.split x (Str.ofString ";") = ps at e0 hin hv;obtain ⟨s1, a1, h1, rfl⟩ := hv;have hA : SqL K H1 a1 (ps.map V.str) := SqL.of h1;refine za2 (fun σ' H' => H' = H1 /\ (∃ p q, ps = [p, q]) /\ σ' = [some (.str x), some (.ref a1), none, none, none, none, none]) (fun N hN => ?_) fun σ' H' hv => ?_
 ·walk_at "";exact ⟨_, .inl hA, ite2 (fun c => kn (by rw [e0]; exact zkn c) _ s1) fun c => hN _ _ ⟨rfl, zf0 (Classical.not_not.mp c), rfl⟩⟩
 obtain ⟨rfl, ⟨p, q, rfl⟩, rfl⟩ := hv;have p1 := hin p ς;have q1 := hin q ς;refine za2 (fun σ' H2 => Same H H2 /\ H2 a1 = some (.lst ([p, q].map V.str)) /\ ∃ a2, H2 a2 = some (.lst ((runsI q).map V.str)) /\ σ' = [some (.str x), some (.ref a1), some (.ref a2), none, none, none, none]) (fun N hN => ?_) fun σ' H2 hv => ?_
 ·walk_at "";refine ⟨_, .inl hA, _, i1, ?_⟩;walk_at "";refine ⟨trivial,δ,ω, fun b hb => .inl ⟨⟨_, SqL.of zad⟩, zel (SqL.of zad) (by have := zbq q (Str.ofString " "); omega) fun c hc => hN _ _ ⟨(s1.trans (zaf hb _)).trans (zaf hc _), (zaf hc _) _ _ ((zaf hb _) _ _ h1), c, zad, rfl⟩⟩⟩
 obtain ⟨s2, h1', a2, h2, rfl⟩ := hv;have hrs : ∀ t ∈ runsI q, t.length <= 1000 /\ ¬ t = "" := fun t ht => by
  obtain ⟨t1, t2, t3⟩ := zdK ht;exact ⟨ω, t3⟩
 have hrl : (runsI q).length <= 1002 := by
  have h2 := zbq q " ";have h3 : (runsI q).length <= (Txt.split q " ").length := List.length_filter_le _ _;omega
 have e1 : zdQ x = zkm (leftT p) (runsI q) := e0;generalize runsI q = rs at e1 h2 hrs hrl;refine za2 (fun σ' H3 => Same H2 H3 /\ ∃ a3, H3 a3 = some (.lst ((Txt.split (Txt.replace p (Str.ofString "|") (Str.ofString " | ")) (Str.ofString " ")).map V.str)) /\ σ' = [some (.str x), some (.ref a1), some (.ref a2), some (.ref a3), none, none, none]) (fun N hN => ?_) fun σ' H3 hv => ?_
 ·walk_at "";have hrp := zgD p;exact ⟨_, .inl (SqL.of h1'), _, i0, p, rfl,ω, trivial,δ,ω, fun b hb => hN _ _ ⟨zaf hb _, b, zad, rfl⟩⟩
 obtain ⟨s3, a3, h3, rfl⟩ := hv;have hrp := zgD p;refine za2 (fun σ' H4 => Same H2 H4 /\ ∃ a4, H4 a4 = some (.lst ((leftT p).map V.str)) /\ σ' = [some (.str x), some (.ref a1), some (.ref a2), some (.ref a4), none, none, none]) (fun N hN => ?_) fun σ' H4 hv => ?_
 ·walk_at "";exact .inl ⟨⟨_, SqL.of h3⟩, zel (SqL.of h3) (by have := zbq (Txt.replace p (Str.ofString "|") (Str.ofString " | ")) (Str.ofString " "); omega) fun c hc => hN _ _ ⟨s3.trans (zaf hc _), c, zad, rfl⟩⟩
 obtain ⟨s4, a4, h4, rfl⟩ := hv;clear h3 s3 a3;have hll : (leftT p).length <= 3002 := by
  have h2 := zbq (Txt.replace p (Str.ofString "|") (Str.ofString " | ")) " ";have h3 : (leftT p).length <= (Txt.split (Txt.replace p (Str.ofString "|") (Str.ofString " | ")) " ").length := List.length_filter_le _ _;omega
 have hlt : ∀ t ∈ leftT p, t.length <= 3000 := fun t ht => by
  obtain ⟨t1, _⟩ := zdK ht;omega
 generalize leftT p = ls at e1 h4 hll hlt;have hC : SqL K H4 a4 (ls.map V.str) := SqL.of h4;have hB : SqL K H4 a2 (rs.map V.str) := SqL.of (s4 _ _ h2);have sH := s2.trans s4;refine za2 (fun σ' H' => H' = H4 /\ σ' = [some (.str x), some (.ref a1), some (.ref a2), some (.ref a4), some (.int 0), none, none]) (fun N hN => ?_) fun σ' H' hv => ?_
 ·walk_at "";exact hN _ _ ⟨rfl, rfl⟩
 obtain ⟨rfl, rfl⟩ := hv;refine za2 (fun σ' H5 => H5 = H' /\ σ' = [some (.str x), some (.ref a1), some (.ref a2), some (.ref a4), some (.int (Qf ls)), none, none]) (fun N hN => ?_) fun σ' H5 hv => ?_
 ·walk_at "";refine ⟨fun m σ H5 => ∃ n : Nat, m = ls.length - n /\ n <= ls.length /\ (ls.take n).all zf3 = true /\ H5 = H' /\ σ = [some (.str x), some (.ref a1), some (.ref a2), some (.ref a4), some (.int n), none, none], ⟨_, 0, rfl, yaq _, rfl, rfl, rfl⟩, ?_⟩
  rintro m σ H5 ⟨n, rfl, hn, hall, rfl, rfl⟩
  walk_at "";refine ⟨_, .inl hC, ?_⟩;rw [yaf];refine ite2 (fun c => ?_) fun c => ?_
  ·have hj : n < ls.length := by omega
   refine ⟨_, .inl hC, _, zaI (zgx hj), ?_⟩;have eg : ls.getD n "" = ls[n] := by rw [List.getD_eq_getElem?_getD, yal hj]; rfl
   rw [eg];walk_at "";refine ite2 (fun c2 => ⟨fun σ' H6 => H6 = H5 /\ σ' = [some (.str x), some (.ref a1), some (.ref a2), some (.ref a4), some (.int ((n + 1 : Nat) : Int)), none, none], fun σ' H6 hN' => ⟨ls.length - (n + 1),ω, n + 1, rfl, hj, zc1 hj hall (ya9 c2), hN'.1, hN'.2⟩, rfl, ?_⟩) fun c2 => ?_
   ·rw [show ((n + 1 : Nat) : Int) = (n : Int) + 1 by omega]
   ·refine hN _ _ ⟨rfl, ?_⟩;rw [zgE hall hn fun h => ya8 c2]
  ·refine hN _ _ ⟨rfl, ?_⟩;rw [zgE hall hn fun h => absurd h ω]
 obtain ⟨rfl, rfl⟩ := hv;have hlv := zop ls;have e2 : zdQ x = zkm ls rs := e1;refine za2 (fun σ' H6 => Same H5 H6 /\ (∃ ru fs, rs = ru :: fs /\ base ru smS = true) /\ σ' = [some (.str x), some (.ref a1), some (.ref a2), some (.ref a4), some (.int (Qf ls)), none, none]) (fun N hN => ?_) fun σ' H6 hv => ?_
 ·walk_at "";refine ⟨_, .inl hB, ?_⟩;cases rs with
  | nil =>
   rw [if_pos (show ((List.map V.str ([] : List Str)).length : Int) = 0 from rfl)];exact kn e2 _ sH
  | cons ru fs =>
  rw [if_neg (fun z => by simp at z; omega)];obtain ⟨u1, _⟩ := hrs ru ς;refine ⟨_, .inl hB, _, i0, ru, rfl,ω, fun H6 s6 => ?_⟩;walk_at "";refine ite2 (fun cb => kn (by rw [e2]; show zfW _ _ _ _ = none; unfold zfW; rw [if_neg (by rw [show base ru smS = false from cb]; decide)]) _ (sH.trans s6)) fun cb => hN _ _ ⟨s6, ⟨ru, fs, rfl, ?_⟩, rfl⟩;cases e : base ru smS with
  | true => rfl
  | false => exact absurd e cb
 obtain ⟨s6, ⟨ru, fs, rfl, hru⟩, rfl⟩ := hv;have hB6 := s6.seq hB;have hC6 := s6.seq hC;have e3 : zdQ x = zfW (Qf ls) ru fs (ls.drop (Qf ls)) := e2;unfold zfW at e3;rw [if_pos hru] at e3;have hfl : fs.length <= 1001 := by simp at hrl; omega
 refine za2 (fun σ' H7 => Same H6 H7 /\ ∃ a5 acc, H7 a5 = some (.lst acc) /\ RepX K H7 (fs.map refL) acc /\ σ' = [some (.str x), some (.ref a1), some (.ref a2), some (.ref a4), some (.int (Qf ls)), some (.ref a5), none]) (fun N hN => ?_) fun σ' H7 hv => ?_
 ·walk_at "";refine ⟨_, .inl ⟨hB6, fun q1 hq1 => .inl ⟨⟨_, SqL.of zad⟩, ?_⟩⟩⟩;have ec : cutV (V.str ru :: fs.map V.str) (some 1) none = fs.map V.str := by
   unfold cutV HT.sIx;simp;exact List.take_of_length_le ς
  rw [List.map_cons, ec];have sq := zaf hq1 (.lst (fs.map V.str));refine zbO (xs := fs.map V.str) (fun i acc H8 => Same (upd H6 q1 (.lst (fs.map V.str))) H8 /\ RepX K H8 ((fs.take i).map refL) acc) ⟨Same.refl _, RepX.nil⟩ (fun i acc H8 _ hv => hv.1.seq (SqL.of zad)) (fun i y acc H8 hi hv => ?_) fun acc H8 hv p5 hp5 => ?_
  ·obtain ⟨s8, hX⟩ := hv;have hj : i < fs.length := by have := (yag.mp hi).1; simpa using this
   have ev : y = V.str fs[i] := by
    rw [yav, yal hj] at hi;cases hi; rfl
   subst ev;have hxl := hX.1;rw [yaf, ya3] at hxl;obtain ⟨f1, f2⟩ := hrs fs[i] (List.mem_cons_of_mem _ (List.getElem_mem hj));refine ⟨zcb ω, ?_⟩;walk_at "T";walk_at "";refine ⟨fs[i], rfl, f2, f1, fun H9 v9 s9 rv9 => ⟨s8.trans s9, ?_⟩⟩;rw [List.take_succ_eq_append_getElem hj, ya0];exact (hX.same s9).snoc rv9
  ·obtain ⟨s8, hX⟩ := hv;rw [yaf, List.take_length] at hX;exact hN _ _ ⟨(sq.trans s8).trans (zaf hp5 _), p5, acc, zad, hX.same (zaf hp5 _), rfl⟩
 obtain ⟨s7, a5, acc, h5, hX, rfl⟩ := hv;have hxl := hX.1;rw [yaf] at hxl;have hD : SqL K H7 a5 acc := SqL.of h5;have hB7 := s7.seq hB6;have hC7 := s7.seq hC6;have sH7 := (sH.trans s6).trans s7;refine za2 (fun σ' H8 => H8 = H7 /\ fs.all (fun f => (refD f).isSome) = true /\ σ' = [some (.str x), some (.ref a1), some (.ref a2), some (.ref a4), some (.int (Qf ls)), some (.ref a5), none]) (fun N hN => ?_) fun σ' H8 hv => ?_
 ·walk_at "";refine ⟨1, rfl, .inr ⟨.int (-1), fs.map refL, .int _, .inr (.lst hD hX.1 hX.2), yat (zgF fs) δ, _, rfl, ?_⟩⟩;rw [show (if false = true then !decide (Dt.int (-1) ∈ List.map refL fs) else decide (Dt.int (-1) ∈ List.map refL fs)) = decide (Dt.int (-1) ∈ List.map refL fs) from rfl, zko];cases c : fs.all (fun f => (refD f).isSome) with
  | true => exact hN _ _ ⟨rfl, c, rfl⟩
  | false => exact kn (by rw [e3, if_neg (by rw [c]; decide)]) _ sH7
 obtain ⟨rfl, hall, rfl⟩ := hv;rw [if_pos hall] at e3;refine za2 (fun σ' H9 => Same H8 H9 /\ ∃ v, zkI K H9 (stL (ls.drop (Qf ls))) v /\ σ' = [some (.str x), some (.ref a1), some (.ref a2), some (.ref a4), some (.int (Qf ls)), some (.ref a5), some v]) (fun N hN => ?_) fun σ' H9 hv => ?_
 ·walk_at "";refine ⟨_, .inl ⟨hC7, fun q1 hq1 => ?_⟩⟩;rw [zgC _ (by rw [yaf]; exact hlv), <- List.map_drop];exact ⟨q1, _, rfl, SqL.of zad, by rw [List.length_drop]; omega, fun t ht' => yat (hlt t (List.mem_of_mem_drop ht')) δ, fun H9 v s9 rv => hN _ _ ⟨(zaf hq1 _).trans s9, v, rv, rfl⟩⟩
 obtain ⟨s9, v, rv, rfl⟩ := hv;have hB9 := s9.seq hB7;have hC9 := s9.seq hC7;have hD9 := s9.seq hD;have hX9 := hX.same s9;have sH9 := sH7.trans s9;generalize hrest : ls.drop (Qf ls) = rest at e3 rv;refine za2 (fun σ' H10 => Same H9 H10 /\ ¬ (ru = Str.ofString "new" /\ rest = []) /\ σ' = [some (.str x), some (.ref a1), some (.ref a2), some (.ref a4), some (.int (Qf ls)), some (.ref a5), some v]) (fun N hN => ?_) fun σ' H10 hv => ?_
 ·walk_at "";refine ⟨_, .inl hB9, _, i0, ?_⟩;walk_at "";refine ite2 (fun c => ⟨_, .inl ⟨hC9, fun q1 hq1 => ⟨zaq (show 0 <= 100000 by decide), fun q2 hq2 => ?_⟩⟩⟩) fun c => hN _ _ ⟨Same.refl _, fun z => c z.1, rfl⟩;rw [zgC _ (by rw [yaf]; exact hlv), <- List.map_drop, hrest] at hq2 ⊢;have sq := (zaf hq1 (.lst (rest.map V.str))).trans (zaf hq2 (.lst []));refine ⟨_, _, zgG (ts := rest) (SqL.of ((zaf hq2 _) _ _ zad)), zgG (ts := []) (SqL.of zad), ?_, ?_⟩
  ·simp only [Dt.dep];have := zkq rest;omega
  ·have ed : (Dt.lst (rest.map Dt.str) = Dt.lst (([] : List Str).map Dt.str)) ↔ rest = [] := ⟨fun z => by
    have := Dt.lst.inj z;simpa using this, fun z => by rw [z]⟩
   refine ite2 (fun c2 => ?_) fun c2 => hN _ _ ⟨sq, fun z => c2 (ed.mpr z.2), rfl⟩;have c2' := ed.mp c2;rw [if_pos c, if_pos c2'] at e3;refine ⟨_, .inl ⟨sq.seq hD9, fun p6 hp6 => ⟨zaq (show 4 <= 100000 by decide), fun p7 hp7 => ?_⟩⟩⟩;have s67 := (zaf hp6 (.tup acc)).trans (zaf hp7 (.tup [V.int (Qf ls), V.str (Str.ofString "new"), V.non, V.ref p6]));refine k _ _ ((sH9.trans sq).trans s67) ?_;rw [e3, c];exact RepD.t4 (SqT.of zad) (.int _) (.str _) .non (RepX.tup (hX9.same (sq.trans s67)) ((zaf hp7 _).seqT (SqT.of zad)))
 obtain ⟨s10, hnn, rfl⟩ := hv;have hB10 := s10.seq hB9;have sH10 := sH9.trans s10;refine za2 (fun σ' H11 => H11 = H10 /\ ¬ ru = Str.ofString "new" /\ (∃ S, stL rest = some S /\ RepS K H10 S v) /\ σ' = [some (.str x), some (.ref a1), some (.ref a2), some (.ref a4), some (.int (Qf ls)), some (.ref a5), some v]) (fun N hN => ?_) fun σ' H11 hv => ?_
 ·walk_at "";refine ⟨_, .inl hB10, _, i0, ?_⟩;walk_at "";refine ite2 (fun c => kn (by rw [e3, if_pos c, if_neg (fun z => hnn ⟨c, z⟩)]) _ sH10) fun c => ?_;cases es : stL rest with
  | none =>
   rw [es] at rv;have ev : v = .non := rv;rw [if_pos ev];exact kn (by rw [e3, if_neg c, es]; rfl) _ sH10
  | some S =>
   rw [es] at rv;have rS : RepS K H9 S v := rv;have hne : ¬ v = .non := by
    rintro rfl
    cases S <;> (obtain ⟨_, h⟩ := rS; first | exact nomatch h.1 | (obtain ⟨_, h⟩ := h; first | exact nomatch h.1 | (obtain ⟨_, h⟩ := h; exact nomatch h.1)))
   rw [if_neg hne];exact hN _ _ ⟨rfl, c, ⟨S, es, rS.same s10⟩, rfl⟩
 obtain ⟨rfl, hru2, ⟨S, es, rS⟩, rfl⟩ := hv;walk_at "";refine ⟨_, .inl hB10, _, i0, ?_⟩;walk_at "t";refine ⟨_, .inl ⟨s10.seq hD9, fun p6 hp6 => ⟨zaq (show 4 <= 100000 by decide), fun p7 hp7 => ?_⟩⟩⟩;have s67 := (zaf hp6 (.tup acc)).trans (zaf hp7 (.tup [V.int (Qf ls), V.str ru, v, V.ref p6]));refine k _ _ (sH10.trans s67) ?_;rw [e3, if_neg hru2, es];exact RepD.t4 (SqT.of zad) (.int _) (.str _) (rS.repD.same s67) (RepX.tup (hX9.same (s10.trans s67)) ((zaf hp7 _).seqT (SqT.of zad)))
theorem zeL {l m : List Str} (h : l.map (fun r => r.cps.toList) = m.map (fun r => r.cps.toList)) : l = m := by
 induction l generalizing m with
 | nil => cases m with
  | nil => rfl
  | cons _ _ => simp at h
 | cons a l ih => cases m with
  | nil => simp at h
  | cons b m => simp only [List.map_cons, List.cons.injEq] at h; rw [zbp h.1, ih h.2]
theorem zmi {x : Str} {ts : List Str} (h : wG [] x.cps.toList = ts.map fun r => r.cps.toList) : zbY x = ts := by
 apply zeL;unfold zbY;rw [zc9, zg5];exact h
theorem zf5 {x : Str} {S : Stm} (h : zcn x = some S) : zdi S /\ S.deep <= 40 /\ zbY x = toks S /\ x.cps.toList.all zbw = true := by
 unfold zcn at h
 split at h
 ·rename_i hx
  cases e : pStm 40 (zbY x ++ [Str.ofString ""]) with
  | none => rw [e] at h; cases h
  | some p =>
   obtain ⟨S', l⟩ := p;rw [e] at h;cases l with
   | nil => cases h
   | cons c l =>
    have h' : (if c = Str.ofString "" then some S' else none) = some S := h
    by_cases hc : c = Str.ofString ""
    ·rw [if_pos hc] at h';cases h';obtain ⟨k1, k2, k3⟩ := zfP _ _ _ _ e;refine ⟨k1, k2, ?_, hx⟩;have hw := zeH e (zfQ x);obtain ⟨rs, e2, k4⟩ := hw;cases rs with
     | nil =>
      obtain ⟨_, rfl⟩ := List.cons.inj e2;rw [hc] at k3;exact List.append_cancel_right k3
     | cons r rs => exact absurd (hc.symm.trans (List.cons.inj e2).1).symm (k4 r List.mem_cons_self)
    ·rw [if_neg hc] at h'; cases h'
 ·cases h
def putB (l : List Nat) : List Nat := putC 124 [32, 124, 32] l
theorem zcK (c : Nat) (l : List Nat) : putB (c :: l) = (if c = 124 then [32, 124, 32] else [c]) ++ putB l := by
 have e : putB ([c] ++ l) = putB [c] ++ putB l := zcd _ _ _ _;rw [show c :: l = [c] ++ l from rfl, e]
 congr 1
 by_cases h : c = 124
 ·subst h; rfl
 ·rw [if_neg h]; simp [putB, putC, h]
theorem zf6 {c : Nat} (h : c ≠ 32) (acc r : List Nat) : wd acc (c :: r) = wd (acc ++ [c]) r := by rw [wd, if_neg h]
theorem zgH : ∀ (u l : List Nat), (∀ c ∈ u, c = 32 \/ c = 124) -> wd [] (putB (u ++ l)) = List.replicate (u.count 124) [124] ++ wd [] (putB l)
 | [], l, _ => rfl
 | c :: u, l, h => by
  have ih := zgH u l fun d hd => h d (List.mem_cons_of_mem _ hd);rw [List.cons_append, zcK];rcases h c List.mem_cons_self with rfl | rfl
  ·rw [if_neg δ, List.singleton_append, zbL, ih, List.count_cons_of_ne δ]
   rfl
  ·rw [if_pos rfl];show wd [] (32 :: 124 :: 32 :: putB (u ++ l)) = _;rw [zbL, zf6 δ, zbL, ih, List.count_cons_self, List.replicate_succ]
   rfl
theorem zkJ : ∀ (l acc : List Nat), acc ≠ [] -> ∃ w ws, wd acc l = (acc ++ w) :: ws
 | [], acc, h => ⟨[], [], by rw [wd]; unfold flushW; rw [if_neg h, List.append_nil]⟩
 | c :: l, acc, h => by
  by_cases hc : c = 32
  ·subst hc;refine ⟨[], wd [] l, ?_⟩;rw [zbL]; unfold flushW; rw [if_neg h, List.append_nil]; rfl
  ·obtain ⟨w, ws, e⟩ := zkJ l (acc ++ [c]) ς;exact ⟨c :: w, ws, by rw [zf6 hc, e]; simp⟩
theorem zem {c : Nat} (h1 : c ≠ 32) (h2 : c ≠ 124) (l : List Nat) : ∃ w ws, wd [] (putB (c :: l)) = (c :: w) :: ws := by
 rw [zcK, if_neg h2, List.singleton_append, zf6 h1];exact zkJ _ _ ς
theorem ziU : ∀ {l : List Nat}, 124 ∉ l -> putB l = l
 | [], _ => rfl
 | c :: l, h => by
  rw [zcK, if_neg (fun e => h (by rw [e]; exact List.mem_cons_self)), ziU fun z => h (List.mem_cons_of_mem _ z)]
  rfl
theorem zbG (p : Str) : (leftT p).map (fun r => r.cps.toList) = wd [] (putB p.cps.toList) := by
 unfold leftT runsI;rw [zc9];rw [show Str.ofString "|" = (⟨#[124]⟩ : Str) from rfl, zd7]
 rfl
theorem zgI : ∀ {l : List Nat}, 124 ∈ l -> ∃ u v, putB l = u ++ 32 :: 124 :: 32 :: v
 | c :: l, h => by
  rw [zcK]
  by_cases hc : c = 124
  ·exact ⟨[], putB l, by rw [if_pos hc]; rfl⟩
  ·obtain ⟨u, v, e⟩ := zgI (l := l) (by
    rcases yau.mp h with h | h
    ·exact absurd h.symm hc
    ·exact h)
   exact ⟨c :: u, v, by rw [if_neg hc, e]; rfl⟩
theorem ziV : ∀ (u v acc : List Nat), [124] ∈ wd acc (u ++ 32 :: 124 :: 32 :: v)
 | [], v, acc => by
  rw [List.nil_append, zbL, zf6 δ, zbL];simp [flushW]
 | c :: u, v, acc => by
  rw [List.cons_append]
  by_cases hc : c = 32
  ·subst hc;rw [zbL];exact List.mem_append_right _ (ziV u v [])
  ·rw [zf6 hc];exact ziV u v _
theorem zks {p : Str} (h : 124 ∈ p.cps.toList) : Str.ofString "|" ∈ leftT p := by
 obtain ⟨u, v, e⟩ := zgI h;have : [124] ∈ (leftT p).map (fun r => r.cps.toList) := by
  rw [zbG, e];exact ziV u v []
 obtain ⟨t, ht, et⟩ := ya6.mp this;have : t = Str.ofString "|" := zbp et;rw [<- this]; exact ht
theorem zh3 {p : Str} (h : 124 ∉ p.cps.toList) : (leftT p).map (fun r => r.cps.toList) = wd [] p.cps.toList := by rw [zbG, ziU h]
theorem zkt {l : List Nat} {c : Nat} (h : c ∈ l) : c ∈ padL l := by
 unfold padL;refine List.mem_flatMap.mpr ⟨c, h, ?_⟩
 split <;> simp
theorem zfX : ∀ {l : List Nat}, (∀ c ∈ l, ¬ sgn c) -> padL l = l
 | [], _ => rfl
 | c :: l, h => by
  show (if sgn c then [32, c, 32] else [c]) ++ padL l = _;rw [if_neg (h c List.mem_cons_self), zfX fun d hd => h d (List.mem_cons_of_mem _ hd)]
  rfl
theorem zpt {l : List Nat} {c : Nat} (h : c ∈ l) (h2 : c ≠ 32) : ∃ t ∈ wG [] l, c ∈ t := zjT h2 (.inr (zkt h))
theorem zoq : ∀ c ∈ smallS.cps.toList, cls c <= 9 := by decide +kernel
theorem sof9 : ∀ c ∈ sofS.cps.toList, cls c <= 9 := by decide +kernel
theorem zkK : ∀ c ∈ greatS.cps.toList, cls c = 9 := by decide +kernel
theorem zcZ {f x : Str} (h : base x f = true) : ∃ c r, x.cps.toList = c :: r /\ c ∈ f.cps.toList /\ ∀ d ∈ r, d ∈ sofS.cps.toList := by
 unfold base at h
 split at h
 ·cases h
 rename_i h0
 split at h
 ·cases h
 split at h
 ·rename_i hh
  cases e : x.cps.toList with
  | nil => exact absurd (zbp (e.trans rfl)) h0
  | cons c r =>
   refine ⟨c, r, rfl, ?_, fun d hd => ?_⟩
   ·rw [zd2, e] at hh; simpa using hh
   ·unfold zdd at h;have es : (Txt.slice x (some 1) none).cps.toList = r := by
     have := zcy x 1;rw [e] at this;simpa using this
    rw [es, List.all_eq_true] at h;have := h d hd;rw [zd2] at this;exact ya7 this
 ·cases h
theorem zen {x : Str} (h : zbF x = true) : base x smallS = true /\ x ∉ keptW := by
 unfold zbF at h;rw [Bool.and_eq_true] at h;refine ⟨h.1, fun z => ?_⟩;have e : inV (V.str x) zeF = decide (x ∈ keptW) := zdl x keptW;rw [e, ya9 z] at h;cases h.2
theorem ziW {x : Str} (h : zbF x = true) : ∀ c ∈ x.cps.toList, cls c <= 9 := fun c hc => by
 obtain ⟨d, r, e, hd, hr⟩ := zcZ (zen h).1;rw [e] at hc;rcases yau.mp hc with rfl | hc
 ·exact zoq _ hd
 ·exact sof9 c (hr c hc)
theorem zgJ {x : Str} (h : letB x = true) : (∀ c ∈ x.cps.toList, cls c <= 9) /\ ∃ c r, x.cps.toList = c :: r /\ cls c = 9 := by
 obtain ⟨d, r, e, hd, hr⟩ := zcZ (f := greatS) h;refine ⟨fun c hc => ?_, d, r, e, zkK d hd⟩;rw [e] at hc;rcases yau.mp hc with rfl | hc
 ·exact Nat.le_of_eq (zkK _ hd)
 ·exact sof9 c (hr c hc)
theorem lits9 : (∀ c ∈ (Str.ofString "false").cps.toList, cls c <= 9) /\ (∀ c ∈ (Str.ofString "not").cps.toList, cls c <= 9) /\ ∀ q, ∀ c ∈ (qtx q).cps.toList, cls c <= 9 := ⟨δ,δ, fun q => by cases q <;> decide⟩
theorem zdN : ∀ {S : Stm}, zdi S -> Str.ofString ")" ∉ toks S -> ∀ t ∈ toks S, ∀ c ∈ t.cps.toList, cls c <= 9
 | .is w us, h, n, t, ht, c, hc => by
  by_cases hu : us = []
  ·subst hu;have : t = w := by simpa [toks] using ht
   subst this;exact ziW h.1 c hc
  ·exfalso
   apply n;show _ ∈ w :: (if us = [] then [] else _);rw [if_neg hu];simp
 | .fls, _, _, t, ht, c, hc => by
  rw [yah.mp ht] at hc;exact lits9.1 c hc
 | .neg A, h, n, t, ht, c, hc => by
  rcases yau.mp ht with rfl | ht
  ·exact lits9.2.1 c hc
  ·exact zdN (S := A) h (fun z => n (List.mem_cons_of_mem _ z)) t ht c hc
 | .bi o A B, h, n, t, ht, c, hc => by
  exfalso
  apply n;simp [toks]
 | .qu q X A, h, n, t, ht, c, hc => by
  rcases yau.mp ht with rfl | ht
  ·exact lits9.2.2 q c hc
  rcases yau.mp ht with rfl | ht
  ·exact (zgJ h.1).1 c hc
  ·exact zdN (S := A) h.2 (fun z => n (List.mem_cons_of_mem _ (List.mem_cons_of_mem _ z))) t ht c hc
theorem ziX (S : Stm) : ∃ t ts, toks S = t :: ts := by cases S <;> exact ⟨_, _, rfl⟩
theorem zor : ∀ {S : Stm}, zdi S -> Str.ofString ")" ∉ toks S -> ∃ k B, S = negN k B /\ toks S = List.replicate k (Str.ofString "not") ++ toks B /\ (B = .fls \/ (∃ w, B = .is w [] /\ zbF w = true) \/ ∃ q X A, B = .qu q X A /\ letB X = true)
 | .is w us, h, n => by
  by_cases hu : us = []
  ·subst hu;exact ⟨0, _, rfl, rfl, .inr (.inl ⟨w, rfl, h.1⟩)⟩
  ·exfalso
   apply n;show _ ∈ w :: (if us = [] then [] else _);rw [if_neg hu];simp
 | .fls, _, _ => ⟨0, _, rfl, rfl, .inl rfl⟩
 | .neg A, h, n => by
  obtain ⟨k, B, e1, e2, h3⟩ := zor (S := A) h fun z => n (List.mem_cons_of_mem _ z);exact ⟨k + 1, B, by rw [e1]; rfl, by show _ :: toks A = _; rw [e2]; rfl, h3⟩
 | .bi o A B, h, n => by
  exfalso
  apply n;simp [toks]
 | .qu q X A, h, n => ⟨0, _, rfl, rfl, .inr (.inr ⟨q, X, A, rfl, h.1⟩)⟩
theorem zf7 (n : Nat) (f : Str) (l : List Str) : pStm (n + 1) (f :: l) = if f = Str.ofString "false" then some (.fls, l) else if f = Str.ofString "not" then (pStm n l).map fun p => (.neg p.1, p.2) else if f = qtx true then pQ true (pStm n) l else if f = qtx false then pQ false (pStm n) l
  else if f = Str.ofString "(" then pMid (pStm n) (pStm n l) else if zbF f = true then (zcm l).map fun p => (.is f p.1, p.2) else none := zcW
theorem zgK {l : Str} (h : zbF l = true) : l ≠ Str.ofString "false" /\ l ≠ Str.ofString "not" /\ l ≠ qtx true /\ l ≠ qtx false /\ l ≠ Str.ofString "(" := by
 refine ⟨?_, ?_, ?_, ?_, ?_⟩ <;> (rintro rfl; exact absurd h (by decide +kernel))
theorem zmj {l : Str} {B : Stm} (h : stB l = some B) (n : Nat) : pStm (n + 1) [l, Str.ofString ""] = some (B, [Str.ofString ""]) := by
 rw [zf7];unfold stB at h
 by_cases c : l = Str.ofString "false"
 ·rw [if_pos c];rw [if_pos (show l = "false" from c)] at h;cases h; rfl
 ·rw [if_neg c];rw [if_neg (show ¬ l = "false" from c)] at h
  by_cases cw : zbF l = true
  ·rw [if_pos cw] at h;cases h;obtain ⟨_, n1, n2, n3, n4⟩ := zgK cw;rw [if_neg n1, if_neg n2, if_neg n3, if_neg n4, if_pos cw, zdG δ]
   rfl
  ·rw [if_neg cw] at h; cases h
theorem zgL {l : Str} {B : Stm} (h : stB l = some B) : ∀ (k n : Nat), k < n -> pStm n (List.replicate k (Str.ofString "not") ++ [l, Str.ofString ""]) = some (negN k B, [Str.ofString ""])
 | 0, n + 1, _ => zmj h n
 | k + 1, n + 1, hk => by
  rw [List.replicate_succ, List.cons_append, zf7, if_neg δ, if_pos rfl, zgL h k n ω]
  rfl
theorem ziY {l : Str} {B : Stm} (h : stB l = some B) (k : Nat) : stL (List.replicate k (Str.ofString "not") ++ [l]) = some (negN k B) := by
 unfold stL;rw [if_neg ς];have e1 : (List.replicate k (Str.ofString "not") ++ [l]).dropLast = List.replicate k (Str.ofString "not") := by simp
 have e2 : (List.replicate k (Str.ofString "not") ++ [l]).getD ((List.replicate k (Str.ofString "not") ++ [l]).length - 1) "" = l := by
  rw [List.getD_eq_getElem?_getD];simp
 rw [e1, e2];unfold stW;rw [if_pos (List.all_eq_true.mpr fun t ht => ya9 (List.eq_of_mem_replicate ht)), h, List.length_replicate]
 rfl
theorem zgM {ws : List Str} {S : Stm} (h : stL ws = some S) : ∃ k l B, ws = List.replicate k (Str.ofString "not") ++ [l] /\ stB l = some B /\ S = negN k B := by
 unfold stL at h
 split at h
 ·cases h
 rename_i hne
 have hpos : 0 < ws.length := List.length_pos_iff.mpr hne;have e2 : ws.getD (ws.length - 1) "" = ws.getLast hne := by
  rw [List.getD_eq_getElem?_getD, yal ω, List.getLast_eq_getElem]
  rfl
 rw [e2] at h;unfold stW at h
 split at h
 ·rename_i ha
  cases eb : stB (ws.getLast hne) with
  | none => rw [eb] at h; cases h
  | some B =>
   rw [eb] at h;cases h;refine ⟨ws.dropLast.length, ws.getLast hne, B, ?_, eb, rfl⟩;have : ws.dropLast = List.replicate ws.dropLast.length (Str.ofString "not") := List.eq_replicate_iff.mpr ⟨rfl, fun t ht => ya7 (List.all_eq_true.mp ha t ht)⟩;rw [<- this, List.dropLast_concat_getLast]
 ·cases h
theorem zos {ws : List Str} (h : Str.ofString "|" ∈ ws) : stL ws = none := by
 cases e : stL ws with
 | none => rfl
 | some S =>
  obtain ⟨k, l, B, rfl, eb, _⟩ := zgM e
  exfalso
  rcases yay.mp h with h | h
  ·have := List.eq_of_mem_replicate h;exact absurd this δ
  ·rw [<- yah.mp h] at eb;have : stB (Str.ofString "|") = none := by
    unfold stB;rw [if_neg δ, if_neg (by decide +kernel)]
   rw [this] at eb; cases eb
theorem zot : zbw 124 = false := by decide +kernel
theorem ok_sof : (∀ c ∈ sofS.cps.toList, zbw c = true /\ cls c <= 9 /\ ¬ sgn c) /\ (∀ c ∈ smallS.cps.toList, zbw c = true /\ cls c <= 9 /\ ¬ sgn c) /\ zbw 32 = true /\ (∀ c ∈ (Str.ofString "false").cps.toList, zbw c = true /\ cls c <= 9 /\ ¬ sgn c) /\ (∀ c ∈ (Str.ofString "not").cps.toList, zbw c = true /\ cls c <= 9 /\ ¬ sgn c) := by
 unfold sgn; decide +kernel
theorem zf8 {l : Str} {B : Stm} (h : stB l = some B) : ∀ c ∈ l.cps.toList, zbw c = true /\ cls c <= 9 /\ ¬ sgn c := fun c hc => by
 unfold stB at h
 by_cases cf : l = "false"
 ·rw [cf] at hc; exact ok_sof.2.2.2.1 c hc
 ·rw [if_neg cf] at h
  by_cases cw : zbF l = true
  ·obtain ⟨d, r, e, hd, hr⟩ := zcZ (zen cw).1;rw [e] at hc;rcases yau.mp hc with rfl | hc
   ·exact ok_sof.2.1 _ hd
   ·exact ok_sof.1 c (hr c hc)
  ·rw [if_neg cw] at h; cases h
theorem zmk {c : Nat} (h : cls c <= 10) : ¬ sgn c := fun z => by
 rcases z with rfl | rfl | rfl <;> exact absurd h δ
theorem ziZ (k : Nat) : (List.replicate k (Str.ofString "not")).map (fun r : Str => r.cps.toList) = List.replicate k notL := by rw [List.map_replicate]; rfl
theorem zpu {u q : List Nat} {p : Str} (f : Fine (u ++ (p.cps.toList ++ 59 :: q))) (hu : ∀ c ∈ u, c = 32 \/ c = 124) (hp : Pl p) : stL (leftT p) = zcn p := by
 by_cases hb : 124 ∈ p.cps.toList
 ·rw [zos (zks hb)];unfold zcn;rw [if_neg (fun z => by have := List.all_eq_true.mp z 124 hb; rw [zot] at this; cases this)]
 have W := zh3 hb;cases e : zcn p with
 | some S =>
  obtain ⟨tk, dp, rn, ok⟩ := zf5 e;have hG := zeI p;rw [rn] at hG;have n41 : Str.ofString ")" ∉ toks S := fun z => by
   have h1 : [41] ∈ wG [] p.cps.toList := by rw [<- hG]; exact ya6.mpr ⟨_, z, rfl⟩
   rcases (wG_fits p.cps.toList []).1 _ h1 41 ς with h | h
   ·cases h
   ·exact (hp 41 h).2 rfl
  have hcl := zdN tk n41;have hc10 : ∀ c ∈ p.cps.toList, cls c <= 10 := fun c hc => by
   by_cases h32 : c = 32
   ·subst h32; decide
   ·obtain ⟨t, ht, hct⟩ := zpt hc h32;rw [<- hG] at ht;obtain ⟨y, hy, rfl⟩ := ya6.mp ht;exact yat (hcl y hy c hct) δ
  have hwd : wd [] p.cps.toList = (toks S).map fun r => r.cps.toList := by
   have : wG [] p.cps.toList = wd [] p.cps.toList := by unfold wG; rw [zfX fun c hc => zmk (hc10 c hc)]
   rw [<- this]; exact hG.symm
  have hws : leftT p = toks S := zeL (W.trans hwd);obtain ⟨k, B, e1, e2, h3⟩ := zor tk n41;rw [hws, e2, e1];rcases h3 with rfl | ⟨w', rfl, hw'⟩ | ⟨q', X, A, rfl, hX⟩
  ·exact ziY (by unfold stB; rw [if_pos rfl]) k
  ·exact ziY (by unfold stB; rw [if_neg (zgK hw').1, if_pos hw']) k
  ·exfalso
   obtain ⟨t, ts, eA⟩ := ziX A;have hwd2 : wd [] p.cps.toList = List.replicate k notL ++ ((qtx q').cps.toList :: X.cps.toList :: t.cps.toList :: ts.map fun r => r.cps.toList) := by
    rw [hwd, e2, ya0, ziZ];show _ ++ List.map _ (qtx q' :: X :: toks A) = _;rw [eA]; rfl
   refine zjV f hu hc10 (fun w hw c hc => ?_) (Qw := (qtx q').cps.toList) ?_ (zgJ hX).2 k hwd2
   ·rw [hwd] at hw;obtain ⟨y, hy, rfl⟩ := ya6.mp hw;exact hcl y hy c hc
   ·cases q'
    ·exact .inr rfl
    ·exact .inl rfl
 | none =>
  cases e2 : stL (leftT p) with
  | none => rfl
  | some S =>
   exfalso
   obtain ⟨k, l, B, ew, eb, rfl⟩ := zgM e2;have hsg : ∀ c ∈ p.cps.toList, zbw c = true /\ ¬ sgn c := fun c hc => by
    by_cases h32 : c = 32
    ·subst h32; exact ⟨ok_sof.2.2.1,δ⟩
    ·obtain ⟨t, ht, hct⟩ := zjT (acc := []) h32 (.inr hc);rw [<- W] at ht;obtain ⟨y, hy, rfl⟩ := ya6.mp ht;rw [ew] at hy;rcases yay.mp hy with hy | hy
     ·rw [List.eq_of_mem_replicate hy] at hct;exact ⟨(ok_sof.2.2.2.2 c hct).1, (ok_sof.2.2.2.2 c hct).2.2⟩
     ·rw [yah.mp hy] at hct;exact ⟨(zf8 eb c hct).1, (zf8 eb c hct).2.2⟩
   have hrun : zbY p = leftT p := zmi (by unfold wG; rw [zfX fun c hc => (hsg c hc).2]; exact W.symm);have hk : k <= 5 := zjW f hu (ws := [l.cps.toList]) k (by rw [<- W, ew, ya0, ziZ]; rfl);have hs : zcn p = some (negN k B) := by
    unfold zcn;rw [if_pos (List.all_eq_true.mpr fun c hc => (hsg c hc).1), hrun, ew, List.append_assoc];show (match pStm 40 (List.replicate k (Str.ofString "not") ++ [l, Str.ofString ""]) with
     | some (S, c :: _) => if c = Str.ofString "" then some S else none
     | _ => none) = _
    rw [zgL eb k 40 ω];exact if_pos rfl
   rw [hs] at e; cases e
theorem zou {n : Nat} {ts : List Str} (h : ∀ t l, ts = t :: l -> zf3 t = false) : Qf (List.replicate n (Str.ofString "|") ++ ts) = n /\ (List.replicate n (Str.ofString "|") ++ ts).drop n = ts := by
 have hl : (List.replicate n (Str.ofString "|")).length = n := List.length_replicate;refine ⟨zgE ?_ ?_ ?_, ?_⟩
 ·have : (List.replicate n (Str.ofString "|") ++ ts).take n = List.replicate n (Str.ofString "|") := by
   rw [List.take_append_of_le_length ω, List.take_of_length_le ω]
  rw [this];exact List.all_eq_true.mpr fun t ht => ya9 (List.eq_of_mem_replicate ht)
 ·rw [yae]; omega
 ·intro hn;cases ts with
  | nil => rw [yae, hl] at hn; simp at hn
  | cons t l =>
   have e : (List.replicate n (Str.ofString "|") ++ t :: l)[n] = t := by
    rw [List.getElem_append_right ω];simp
   rw [e];exact h t l rfl
 ·rw [List.drop_append_of_le_length ω, List.drop_of_length_le ω, List.nil_append]
theorem zja {l : List Nat} {c : Nat} {r : List Nat} (h : l.dropWhile goB = c :: r) : c ≠ 32 /\ c ≠ 124 := by
 have := List.head?_dropWhile_not goB l;rw [h] at this;have h2 : goB c = false := by simpa using this
 unfold goB at h2;rw [Bool.or_eq_false_iff] at h2;exact ⟨of_decide_eq_false h2.1, of_decide_eq_false h2.2⟩
theorem zjb : ∀ {l : List Nat}, ∀ c ∈ l.takeWhile goB, c = 32 \/ c = 124
 | [], c, hc => by cases hc
 | d :: l, c, hc => by
  rw [List.takeWhile_cons] at hc;cases h : goB d with
  | false => rw [h] at hc; cases hc
  | true =>
   rw [h, if_pos rfl] at hc;rcases yau.mp hc with rfl | hc
   ·unfold goB at h;rw [Bool.or_eq_true] at h;rcases h with h | h
    ·exact .inl (ya7 h)
    ·exact .inr (ya7 h)
   ·exact zjb c hc
theorem zjc {fs : List Str} (h : fs.all (fun f => (refD f).isSome) = true) : fs.map refL = fs.map fun f => (refD f).getD .non := List.map_congr_left fun f hf => by
 have := List.all_eq_true.mp h f hf;unfold refL;cases e : refD f with
 | none => rw [e] at this; cases this
 | some d => rfl
theorem zml (x : Str) : levI x = (((x.cps.toList.takeWhile goB).count 124 : Nat) : Int) := by
 unfold levI;have ht : (toldS x).cps.toList = x.cps.toList.dropWhile goB := zeB x;have e := List.takeWhile_append_dropWhile (p := goB) (l := x.cps.toList);have l1 := congrArg List.length e;rw [yae, <- ht, zaA, zaA] at l1;have el : ((x.length : Int) - (toldS x).length) = (((x.cps.toList.takeWhile goB).length : Nat) : Int) := by omega
 rw [el, show Str.ofString "|" = (⟨#[124]⟩ : Str) from rfl, ziA, zgk];have h3 : (x.cps.toList.takeWhile goB ++ x.cps.toList.dropWhile goB).take (x.cps.toList.takeWhile goB).length = x.cps.toList.takeWhile goB := List.take_left;rw [e] at h3;rw [h3]
theorem zmm {r : Str} (f : Fine r.cps.toList) (hp : Pl r) : zdQ r = zbo r := by
 have ht : (toldS r).cps.toList = r.cps.toList.dropWhile goB := zeB r;have e := List.takeWhile_append_dropWhile (p := goB) (l := r.cps.toList);have hjoin : Str.join ⟨#[59]⟩ (Txt.split (toldS r) ⟨#[59]⟩) = toldS r := StrLaws.join_split (toldS r) ⟨#[59]⟩;have hfree := StrLaws.split_free (toldS r) 59;have hne := ze4 (toldS r) ⟨#[59]⟩;have hlv := zml r;have hu := zjb (l := r.cps.toList);have hdr := @zja r.cps.toList;have hmem : ∀ c ∈ (toldS r).cps.toList, c < 1114112 /\ c ≠ 41 := fun c hc => hp c (zg9 hc);have hD : zbo r = zh0 (levI r) (Txt.split (toldS r) ⟨#[59]⟩) := rfl;rw [<- ht] at e hdr;generalize hU : r.cps.toList.takeWhile goB = u at *;generalize htd : toldS r = td at *;cases hs : Txt.split td ⟨#[59]⟩ with
 | nil => exact absurd hs hne
 | cons p rest =>
  rw [hs] at hjoin hfree hD;have hL : Txt.split r ⟨#[59]⟩ = (ofL u ++ p) :: rest := by
   have er : r = Str.join ⟨#[59]⟩ ((ofL u ++ p) :: rest) := zbp (by
    cases rest with
    | nil =>
     have h1 : Str.join ⟨#[59]⟩ [p] = p := rfl;have h2 : Str.join ⟨#[59]⟩ [ofL u ++ p] = ofL u ++ p := rfl;rw [h2, zbf, ze8, <- e, <- hjoin, h1]
    | cons q rest =>
     rw [zbr 59 _ ς, zbf, ze8, <- e, <- hjoin, zbr 59 _ ς];simp)
   conv => lhs; rw [er]
   refine zjG 59 ς fun y hy => ?_;rcases yau.mp hy with rfl | hy
   ·rw [zbf, ze8];intro z;rcases yay.mp z with z | z
    ·have := hu 59 z; omega
    ·exact hfree p ς z
   ·exact hfree y (List.mem_cons_of_mem _ hy)
  have hLL : zdQ r = ziT ((ofL u ++ p) :: rest) := by
   show ziT (Txt.split r (Str.ofString ";")) = _;rw [show Str.ofString ";" = (⟨#[59]⟩ : Str) from rfl, hL]
  rw [hLL, hD]
  match rest, hjoin with
  | [], _ => rfl
  | _ :: _ :: _, _ => rfl
  | [q], hjoin =>
   have etd : td.cps.toList = p.cps.toList ++ 59 :: q.cps.toList := by
    rw [<- hjoin, zbr 59 p ς]; rfl
   show zkm (leftT (ofL u ++ p)) (runsI q) = ziM (levI r) p (runsI q);cases hq : runsI q with
   | nil => rfl
   | cons ru fs =>
    have hPl : Pl p := fun c hc => hmem c (by rw [etd]; simp [hc]);have hf : Fine (u ++ (p.cps.toList ++ 59 :: q.cps.toList)) := by rw [<- etd, e]; exact f
    have hst := zpu hf hu hPl;have hfirst : ∀ t l, leftT p = t :: l -> zf3 t = false := fun t l el => by
     cases ep : p.cps.toList with
     | nil =>
      have h1 := zbG p;rw [el, ep] at h1;have : wd [] (putB []) = [] := rfl;rw [this] at h1; cases h1
     | cons c w =>
      obtain ⟨c1, c2⟩ := hdr (c := c) (r := w ++ 59 :: q.cps.toList) (by rw [etd, ep]; rfl);obtain ⟨w', ws, e2⟩ := zem c1 c2 w;have h1 := zbG p;rw [el, ep, e2] at h1;have h2 := (List.cons.inj h1).1;unfold zf3;refine ya8 fun z => ?_;rw [z] at h2;have : (124 : Nat) = c := (List.cons.inj h2).1;exact c2 this.symm
    have hleft : leftT (ofL u ++ p) = List.replicate (u.count 124) (Str.ofString "|") ++ leftT p := zeL (by
     rw [zbG, zbf, ze8, zgH u _ hu, ya0, List.map_replicate, zbG]
     rfl)
    obtain ⟨k1, k2⟩ := zou (n := u.count 124) hfirst;have hempty : leftT p = [] ↔ p = "" := by
     constructor
     ·intro z;cases ep : p.cps.toList with
      | nil => exact zbp ep
      | cons c w =>
       obtain ⟨c1, c2⟩ := hdr (c := c) (r := w ++ 59 :: q.cps.toList) (by rw [etd, ep]; rfl);obtain ⟨w', ws, e2⟩ := zem c1 c2 w;have h1 := zbG p;rw [z, ep, e2] at h1;cases h1
     ·intro z;subst z;exact zeL (zbG "")
    show zfW (Qf (leftT (ofL u ++ p))) ru fs ((leftT (ofL u ++ p)).drop (Qf (leftT (ofL u ++ p)))) = zfS (levI r) p ru fs;rw [hleft, k1, k2, hlv];unfold zfW zfS stD
    by_cases cb : base ru smS = true
    ·rw [if_pos cb, if_pos (show base ru (Str.ofString "abcdefghijklmnopqrstuvwxyz") = true from cb)]
     by_cases ca : fs.all (fun f => (refD f).isSome) = true
     ·rw [if_pos ca, zjc ca]
      by_cases cn : ru = Str.ofString "new"
      ·rw [if_pos cn, if_pos (show ru = "new" from cn)]
       by_cases ce : p = ""
       ·rw [if_pos (hempty.mpr ce), if_pos ce];exact (if_pos ca).symm
       ·rw [if_neg (fun z => ce (hempty.mp z)), if_neg ce]
      ·rw [if_neg cn, if_neg (show ¬ ru = "new" from cn), hst];cases zcn p with
       | none => rfl
       | some S => exact (if_pos ca).symm
     ·rw [if_neg ca]
      split
      ·rw [if_neg ca]
      ·rfl
    ·rw [if_neg cb, if_neg (show ¬ base ru (Str.ofString "abcdefghijklmnopqrstuvwxyz") = true from cb)]
theorem zku (r : Str) : Dt.dep ((zbo r).getD .non) <= 45 := by
 unfold zbo zh0
 split
 ·rename_i p q _
  unfold ziM
  split
  ·rename_i ru fs _
   unfold zfS
   split
   ·cases es : stD p ru with
    | none => exact yaq _
    | some d =>
     show Dt.dep ((if fs.all (fun f => (refD f).isSome) = true then some _ else none : Option Dt).getD .non) <= 45
     split
     ·rename_i ca
      have hd : Dt.dep d <= 42 := by
       unfold stD at es
       split at es
       ·split at es
        ·cases es; exact yaq _
        ·cases es
       ·cases er : zcn p with
        | none => rw [er] at es; cases es
        | some S =>
         rw [er] at es;cases es;have h1 := Stm.dep_dt S;have h2 := (zf5 er).2.1;omega
      have hr : Dt.deps (fs.map fun f => (refD f).getD .non) <= 0 := by rw [<- zjc ca]; exact zgF fs
      show Dt.dep (.tup [_, _, d, .tup _]) <= 45;simp only [Dt.dep, Dt.deps];omega
     ·exact yaq _
   ·exact yaq _
  ·exact yaq _
 ·exact yaq _
def zpv (C : Addr) : Sp := fun vs H Q _ => ∃ e, vs = [.ref e] /\ H e = some (ExcO e C) /\ ∀ H', Same H H' -> Q (.bl true) H'
theorem zda (T : Tx K mg D) : zjA P w K mg Qd 1 D.a_a2 D.d_a2 ["_law_e"] (zpv D.x_NoLines) := by
 refine T.F_a2.okH sc_a2 (fun vs H Q E h => ?_) (fun cdv A outer s H vs Q hr h => ?_)
 ·obtain ⟨e, rfl, _⟩ := h; rfl
 obtain ⟨e, rfl, he, h⟩ := h;have hu : (A.deeper (PyProof.Rows.envOfC "_law_of_one_class" (zab za0) s.heap.objs.size D.a_a2 cdv)).units + 64 < cLine := by have := hr.un; omega
 refine ⟨_, (zac (zar (i := 1) sc_a2.nd ρ (by walk_at "o") (zbx (zaa (zau (zbD K) ρ T.z_isinstance ρ (zaa (pv 0) (zaa (zaQ (v := .ref D.x_NoBox) ρ T.x_NoBox.1 rfl) zae))) (zaa (zau (zbD K) ρ T.z_isinstance ρ (zaa (pv 0) (zaa (zaQ (v := .ref D.x_NoLines) ρ T.x_NoLines.1 rfl) zae))) (zaa (zau (zbD K) ρ T.z_isinstance ρ (zaa (pv 0) (zaa (zaQ (v := .ref D.x_NoName) ρ T.x_NoName.1 rfl) zae))) (zaa (zau (zbD K) ρ T.z_isinstance ρ (zaa (pv 0) (zaa (zaQ (v := .ref D.x_NoStatement) ρ T.x_NoStatement.1 rfl) zae))) zae))))))
  (zac (zar (i := 1) sc_a2.nd ρ (by walk_at "o") (zam (zax K) (pv 1) (zbx (zaa (zau (zbD K) ρ T.z_isinstance ρ (zaa (pv 0) (zaa (zaQ (v := .ref D.x_NotShut) ρ T.x_NotShut.1 rfl) zae))) (zaa (zau (zbD K) ρ T.z_isinstance ρ (zaa (pv 0) (zaa (zaQ (v := .ref D.x_NoWorld) ρ T.x_NoWorld.1 rfl) zae))) zae)))))
  (zah (zan (zeQ (zau (zbD K) ρ T.z_isinstance ρ (zaa (pv 0) (zaa (zh6 (v := .ty "ValueError") ρ T.z_ValueError ρ ρ) zae))) (zeP (zcM (zc4 K hu) (zbP K PySem.F.plainAttrs_list PySem.F.slot_list_count PySem.F.type_list_count (zi2 K) (pv 1) (zaa zdO zae)) zag (zay _)))))))), ?_⟩
 walk_at "S";walk_at "";refine ⟨e, _, D.x_NoLines, false, rfl, he, zbT T.x_NoLines, .inl ⟨_, rfl, T.i_NoLines_NoBox⟩, ?_⟩;refine ⟨e, _, D.x_NoLines, true, rfl, he, zbT T.x_NoLines, .inl ⟨_, rfl, T.i_NoLines_NoLines⟩, ?_⟩;refine ⟨e, _, D.x_NoLines, false, rfl, he, zbT T.x_NoLines, .inl ⟨_, rfl, T.i_NoLines_NoName⟩, ?_⟩;refine ⟨e, _, D.x_NoLines, false, rfl, he, zbT T.x_NoLines, .inl ⟨_, rfl, T.i_NoLines_NoStatement⟩, ?_⟩;refine ⟨zaq δ, fun p hp => ?_⟩;have he1 := zez hp (o := .lst [V.bl false, V.bl true, V.bl false, V.bl false]) he;refine ⟨e, _, D.x_NoLines, false, rfl, he1, zbT T.x_NoLines, .inl ⟨_, rfl, T.i_NoLines_NotShut⟩, ?_⟩;refine ⟨e, _, D.x_NoLines, false, rfl, he1, zbT T.x_NoLines, .inl ⟨_, rfl, T.i_NoLines_NoWorld⟩, ?_⟩;refine ⟨zaq δ, fun p1 hp1 => ⟨_, _, .inl ⟨zez hp1 zad, zad, zaq δ, fun r hr' => ?_⟩⟩⟩;have he2 := zez hr' (o := .lst ([V.bl false, V.bl true, V.bl false, V.bl false] ++ [V.bl false, V.bl false])) (zez hp1 (o := .lst [V.bl false, V.bl false]) he1);refine ⟨e, _, D.x_NoLines, true, rfl, he2, zbT T.x_NoLines, .inr ⟨_, rfl, T.i_NoLines_ValueError⟩, ?_⟩;walk_at "t";refine ⟨⟨_, SqL.of zad⟩, _, SqL.of zad, rfl, rfl, ?_⟩;exact h _ (((zaf hp _).trans (zaf hp1 _)).trans (zaf hr' _))
def zkv : Sp := fun vs H Q _ => ∃ x : Str, vs = [.str x] /\ x.length <= 1000 /\ Chr x /\ (goodRows x).all (fun r => (zbo r).isSome) = false /\ ∀ H', Q (.bl true) H'
theorem zf9 (T : Tx K mg D) : FnOk P w K mg Qd CX0 93 D.a_b3 D.d_b3 ["_law_text"] zkv := by
 have G_b0 := @zcI P w _ _ Qd _ T;have G_a2 := @zda P w _ _ Qd _ T;refine T.F_b3.ok sc_b3 (fun vs H Q E h => ?_) (fun cdv A outer s H vs Q E hr h => ?_)
 ·obtain ⟨x, rfl, _⟩ := h; rfl
 obtain ⟨x, rfl, hx, hc, ha, k⟩ := h;have hu := hr.units;have hr_b0 : Room 92 _ := hr.mono δ;have hr_a2 {v : Option Value} : RoomH 1 ((A.deeper (PyProof.Rows.envOfC "_law_refused" (zab zaP) s.heap.objs.size D.a_b3 cdv)).mark v) := ((hr.mono (by decide : 1 <= 92)).h).mark _;refine ⟨_, (zac (zar (i := 1) sc_b3.nd ρ (by walk_at "o") zdO)
  (zac (zk9 (Fnc.wish za7 _) (fun G Qa E Fn ho hp => (zah (zco (zbt Fn ho G_b0 hr_b0 ρ T.m_b0.1 T.F_b0.kp T.m_b0.2.2 .nil (zaa (pv 0) zae))))) (znt (Fnc.wish za7 _) ρ T.x_NoLines.1 (fun Qa e => (zah (zar (i := 1) sc_b3.nd ρ (by walk_at "o") zdO))) zio) zao)
  (zac (zk9 (Fnc.wish za7 _) (fun G Qa E Fn ho hp => (zah (zco (zbt Fn ho G_b0 hr_b0 ρ T.m_b0.1 T.F_b0.kp T.m_b0.2.2 .nil (zaa (pv 0) zae))))) (zoP (i := 2) (Fnc.wish za7 _) sc_b3.nd ρ ρ ρ T.x_BoxError.1 (fun Qa e => (zah (zan (zeQ (pv 1) (zeP (zjC G_a2 hr_a2 ρ T.m_a2.1 T.F_a2.kp T.m_a2.2.2 .nil (zaa (pv 2) zae))))))) zio) zao)
  (zah (zan zdO))))), ?_⟩
 walk_at "S";walk_at "";have no : ∀ {p : Prop}, (goodRows x).all (fun r => (zbo r).isSome) = true -> p := fun z => absurd z (by rw [ha]; decide);refine ⟨fun C σ' H' => C = D.x_NoLines /\ σ' = [some (.str x), some (.bl false), none], ⟨x, rfl, hx, hc, fun z => no z, fun _ H' => ⟨_, rfl, rfl, rfl⟩⟩, fun C σ' H' ⟨e1, e3⟩ => ?_⟩;subst e1 e3;refine ⟨true, T.v_NoLines_NoLines, ?_⟩;rw [if_pos rfl];walk_at "";refine ⟨fun C σ2 H2 => C = D.x_NoLines /\ σ2 = [some (.str x), some (.bl true), none], ⟨x, rfl, hx, hc, fun z => no z, fun _ H2 => ⟨_, rfl, rfl, rfl⟩⟩, fun C σ2 H2 ⟨e1, e3⟩ => ?_⟩;subst e1 e3;refine ⟨true, T.v_NoLines_BoxError, ?_⟩;rw [if_pos rfl];intro e he;walk_at "";exact ⟨e, rfl, zad, fun H' _ => k _⟩
theorem zeM : ∀ rs : List Str, (Txt.join (Str.ofString "") rs).cps.toList = (rs.map fun r => r.cps.toList).flatten := fun rs => by
 have e : Txt.join (Str.ofString "") rs = Str.join (Str.ofString "") rs := StrLaws.glued_eq_join _ _;rw [e]
 induction rs with
 | nil => rfl
 | cons a l ih =>
  cases l with
  | nil => show a.cps.toList = _; simp
  | cons b l =>
   show (a ++ Str.ofString "" ++ Str.join (Str.ofString "") (b :: l)).cps.toList = _;rw [zbf, zbf, ih (StrLaws.glued_eq_join _ _)];simp [show (Str.ofString "").cps.toList = [] from rfl]
theorem zgN : ∀ rs : List Str, (∀ r ∈ rs, bRun 0 r.cps.toList = 0) -> bRun 0 (rs.map fun r => r.cps.toList).flatten = 0
 | [], _ => rfl
 | r :: rs, h => by
  have h1 := h r ς;rw [List.map_cons, List.flatten_cons, zbK (by rw [h1]; decide), h1];exact zgN rs fun x hx => h x (List.mem_cons_of_mem _ hx)
theorem zkw {x r : Str} (f : Fine x.cps.toList) (hp : Pl x) (h : r ∈ goodRows x) : Fine r.cps.toList /\ Pl r := by
 have hr := (List.mem_filter.mp h).1;obtain ⟨u, v, e, hu⟩ := ziE hr;rw [e] at f;exact ⟨(f.row hu).pre, fun c hc => hp c (zdm hr hc)⟩
theorem zkx {r : Str} : zbo r ≠ some .non := by
 unfold zbo zh0
 split
 ·unfold ziM
  split
  ·unfold zfS
   split
   ·split
    ·split
     ·intro h; cases h
     ·intro h; cases h
    ·intro h; cases h
   ·intro h; cases h
  ·intro h; cases h
 ·intro h; cases h
theorem zmn (rs : List Str) : decide (Dt.non ∈ rs.map fun r => (zbo r).getD .non) = !(rs.all fun r => (zbo r).isSome) := by
 cases c : rs.all fun r => (zbo r).isSome with
 | true =>
  refine ya8 fun h => ?_;obtain ⟨f, hf, e⟩ := ya6.mp h;have := List.all_eq_true.mp c f hf;cases e2 : zbo f with
  | none => rw [e2] at this; cases this
  | some d =>
   rw [e2] at e;have : d = .non := e;rw [this] at e2;exact zkx e2
 | false =>
  refine ya9 ?_;rw [List.all_eq_false] at c;obtain ⟨f, hf, e⟩ := c;refine ya6.mpr ⟨f, hf, ?_⟩;cases e2 : zbo f with
  | none => rfl
  | some d => rw [e2] at e; exact absurd rfl e
theorem zgO {m : Nat} : ∀ rs : List Str, (∀ r ∈ rs, r.length <= m) -> (rs.map fun r => r.length).sum <= m * rs.length
 | [], _ => by simp
 | r :: rs, h => by
  have h1 := h r ς;have h2 := zgO rs fun x hx => h x (List.mem_cons_of_mem _ hx);rw [List.map_cons, List.sum_cons, List.length_cons, Nat.mul_succ];omega
theorem zjd (rs : List Str) : (Txt.join (Str.ofString "") rs).length = (rs.map fun r => r.length).sum := by
 rw [<- zaA, zeM, List.length_flatten, List.map_map]
 congr 1
theorem ok_law (T : Tx K mg D) : FnOk P w K mg Qd CX0 99 D.a_d8 D.d_d8 ["_law_script"] (zib K) := by
 have G_b5 := @zf2 P w _ _ Qd _ T;have G_d3 := @zh1 P w _ _ Qd _ T;have G_c5 := @zfT P w _ _ Qd _ T;have G_c6 := @zfU P w _ _ Qd _ T;have G_a9 := @zeK P w _ _ Qd _ T;have G_c1 := @zf4 P w _ _ Qd _ T;have G_b3 := @zf9 P w _ _ Qd _ T;have G_b0 := @zcI P w _ _ Qd _ T;refine T.F_d8.ok sc_d8 (fun vs H Q E h => ?_) (fun cdv A outer s H vs Q E hr h => ?_)
 ·obtain ⟨a, ns, rfl, _⟩ := h; rfl
 obtain ⟨a, ns, rfl, hS, hl, k⟩ := h;have hu := hr.units;have hr_b5 : Room 1 _ := hr.mono δ;have hr_d3 : Room 1 _ := hr.mono δ;have hr_c5 : Room 4 _ := hr.mono δ;have hr_c6 : Room 1 _ := hr.mono δ;have hr_a9 : Room 1 _ := hr.mono δ;have hr_c1 : Room 4 _ := hr.mono δ;have hr_b3 : Room 93 _ := hr.mono δ;have hr_b0 : Room 92 _ := hr.mono δ;refine ⟨_, (zac (zar (i := 1) sc_d8.nd ρ (by walk_at "o") (YC G_d3 hr_d3 ρ T.m_d3 (zaa (pv 0) (zaa zag zae))))
  (zac (zbB (i := 2) 1 [0, 1] ["_law_k", "_law_script", "_law_base"] sc_d8.nd ρ ρ ⟨ρ,ρ,ρ,ρ,ρ,ρ,ρ⟩ ρ (zcp ρ T.z_range (zaa (zam (zax K) zag (zam zaz (YC G_b5 hr_b5 ρ T.m_b5 (zaa (pv 0) (zaa zag zae))) zag)) zae)) (fun _ _ _ _ => zaR (i := 0) (show List.Nodup (["_law_k", "_law_script", "_law_base"] : List Str) by decide +kernel) ρ (Or.inl ρ) (Or.inr ρ)) (zaG δ) (fun _ _ _ _ => zcr) (fun _ _ _ _ => (YC G_c5 hr_c5 ρ T.m_c5 (zaa (YC G_d3 hr_d3 ρ T.m_d3 (zaa (pv 1) (zaa (zam (zax K) zag (pv 0)) zae))) (zaa (pv 2) zae)))))
  (zac (zar (i := 3) sc_d8.nd ρ (by walk_at "o") (zbP K PySem.F.plainAttrs_str PySem.F.slot_str_join PySem.F.type_str_join (ze0 K) zai (zaa (pv 2) zae)))
  (zac (zdS PassesOwn.never ρ (zcp ρ T.z_range (zaa (zam (zax K) zag (zam zaz (YC G_b5 hr_b5 ρ T.m_b5 (zaa (pv 0) (zaa zag zae))) zag)) zae)) (zaR (i := 4) sc_d8.nd ρ (by walk_at "o"))
   (zah (zar (i := 3) sc_d8.nd ρ (by walk_at "o") (YC G_c6 hr_c6 ρ T.m_c6 (zaa (pv 3) (zaa (YC G_d3 hr_d3 ρ T.m_d3 (zaa (pv 0) (zaa (zam (zax K) zag (pv 4)) zae))) zae))))))
  (zac (zaF (zal (zb9 K hu) (zam zaz (YC G_b5 hr_b5 ρ T.m_b5 (zaa (pv 0) (zaa zag zae))) zag) zag (zay _)) (zah (zar (i := 3) sc_d8.nd ρ (by walk_at "o") (YC G_a9 hr_a9 ρ T.m_a9 (zaa (zam zaB (YC G_b5 hr_b5 ρ T.m_b5 (zaa (pv 0) (zaa zag zae))) zag) zae)))) zao)
  (zac (zbB (i := 5) 1 [] ["_law_row"] sc_d8.nd ρ ρ ⟨ρ,ρ,ρ,ρ,ρ,ρ,ρ⟩ ρ (zbS K (zbP K PySem.F.plainAttrs_str PySem.F.slot_str_split PySem.F.type_str_split zcc (pv 3) (zaa zai zae))) (fun _ _ _ _ => zaR (i := 0) (show List.Nodup (["_law_row"] : List Str) by decide +kernel) ρ (Or.inl ρ) (Or.inr ρ)) (zaG δ) (fun _ _ _ _ => zd1 (zal (zcl K hu) (zbP K PySem.F.plainAttrs_str PySem.F.slot_str_strip PySem.F.type_str_strip zfm (pv 0) (zaa zai zae)) zai (zay _))) (fun _ _ _ _ => (YC G_c1 hr_c1 ρ T.m_c1 (zaa (pv 0) zae))))
  (zac (zaF (zal (zgv K hu) zc2 (pv 5) ρ) (zah (zan (YC G_b3 hr_b3 ρ T.m_b3 (zaa (pv 3) zae)))) zao)
  (zac (zar (i := 6) sc_d8.nd ρ (by walk_at "o") (zav G_b0 hr_b0 ρ T.m_b0.1 T.F_b0.kp T.m_b0.2.2 .nil zpj (zaa (pv 3) zae)))
  (zah (zan (zeQ (zau (zhf K "tuple") ρ T.z_isinstance ρ (zaa (pv 6) (zaa (zh6 (v := .ty "tuple") ρ T.z_tuple ρ ρ) zae))) (zeP (zcM (zb9 K hu) (pv 6) (zbE (zbC K) ρ T.z_tuple ρ (zaa (pv 5) zae)) (zay _)))))))))))))), ?_⟩
 walk_at "S";refine za2 (fun σ' H' => H' = H /\ ∃ b : Int, σ' = [some (.ref a), some (.int b), none, none, none, none, none]) (fun N hN => ?_) fun σ' H1 hv => ?_
 ·walk_at "";refine ⟨a, ns, 3, rfl, hS,δ,δ, fun n _ _ => hN _ _ ⟨rfl, n, rfl⟩⟩
 obtain ⟨rfl, b, rfl⟩ := hv;refine za2 (fun σ' H2 => Same H1 H2 /\ ∃ (p : Addr) (rs : List Str), H2 p = some (.lst (rs.map V.str)) /\ rs.length <= 4 /\ (∀ r ∈ rs, bRun 0 r.cps.toList = 0 /\ Pl r /\ r.length <= 68) /\ σ' = [some (.ref a), some (.int b), some (.ref p), none, none, none, none]) (fun N hN => ?_) fun σ' H2 hv => ?_
 ·walk_at "";refine ⟨a, ns, 0, rfl, hS,δ, ?_⟩;walk_at "";have h1 := yao (zfd ns 0) (show (4 : Int) ≠ 0 by decide);have h2 := yak (zfd ns 0) (show (0 : Int) < 4 by decide);refine ⟨δ,ω,ω, ?_⟩;refine zcP (fun i acc H2 => Same H1 H2 /\ ∃ rs : List Str, acc = rs.map V.str /\ rs.length = i /\ ∀ r ∈ rs, bRun 0 r.cps.toList = 0 /\ Pl r /\ r.length <= 68) ⟨Same.refl _, [], rfl, rfl,ς⟩ (fun i acc H2 hi hp => ?_) fun acc H2 hp p hn => ?_
  ·obtain ⟨s2, rs, rfl, hl2, hrs⟩ := hp;refine ⟨zcb (by rw [yaf]; omega), ?_⟩;simp only [za8, List.replicate_succ, List.replicate_zero, List.map_cons, List.map_nil, List.nil_append, List.cons_append, List.getElem?_cons_zero, List.getElem?_cons_succ, Option.join_some, L2.start, List.map_cons, List.map_nil, List.length_cons, List.length_nil, Nat.reduceAdd, Nat.reduceSub, List.replicate_succ, List.replicate_zero, List.cons_append, List.nil_append, List.append_nil, Nat.zero_add, Nat.sub_self];walk_at "";refine ⟨a, ns, _, rfl, s2.seq hS,ω,ω, fun n n0 _ => ⟨n, b, rfl, n0, fun r H3 s3 h1 h2 h3 => ⟨s2.trans s3, rs ++ [r],ς, by simp [hl2], fun y hy => ?_⟩⟩⟩;rcases yay.mp hy with hy | hy
   ·exact hrs y hy
   ·rw [yah.mp hy]; exact ⟨h1, h2, h3⟩
  ·obtain ⟨s2, rs, rfl, hl2, hrs⟩ := hp;exact hN _ _ ⟨s2.trans (zaf hn _), p, rs, zad,ω, hrs, rfl⟩
 obtain ⟨s2, p, rs, h2, rl, hrs, rfl⟩ := hv;refine za2 (fun σ' H3 => H3 = H2 /\ ∃ x : Str, bRun 0 x.cps.toList = 0 /\ Pl x /\ x.length <= 272 /\ σ' = [some (.ref a), some (.int b), some (.ref p), some (.str x), none, none, none]) (fun N hN => ?_) fun σ' H3 hv => ?_
 ·walk_at "";have hm := zgO (m := 68) rs fun r hr' => (hrs r hr').2.2;have hj := zjd rs;have hm2 : 68 * rs.length <= 272 := by omega
  refine ⟨trivial, rs, .inl (SqL.of h2), by rw [show (Str.ofString "").length = 0 from rfl]; omega, hN _ _ ⟨rfl, _, ?_, fun c hc => ?_,ω, rfl⟩⟩
  ·rw [zeM]; exact zgN rs fun r hr' => (hrs r hr').1
  ·rw [zeM] at hc;obtain ⟨l, hl', hc⟩ := List.mem_flatten.mp hc;obtain ⟨r, hr', rfl⟩ := ya6.mp hl';exact (hrs r hr').2.1 c hc
 obtain ⟨rfl, x0, q0, q1, q2, rfl⟩ := hv;refine za2 (fun σ' H4 => Same H1 H4 /\ ∃ (x : Str) (u : Option V), Fine x.cps.toList /\ Pl x /\ x.length <= 274 /\ σ' = [some (.ref a), some (.int b), some (.ref p), some (.str x), u, none, none]) (fun N hN => ?_) fun σ' H4 hv => ?_
 ·walk_at "";refine ⟨a, ns, 1, rfl, s2.seq hS,δ, ?_⟩;walk_at "";have h1 := yao (zfd ns 1) (show (2 : Int) ≠ 0 by decide);have h2 := yak (zfd ns 1) (show (0 : Int) < 2 by decide);refine ⟨δ,ω,ω, ?_⟩;refine zea (fun i σ H' => Same H1 H' /\ ∃ (x : Str) (u : Option V), Ed i x0.cps.toList x.cps.toList /\ Pl x /\ x.length <= 272 + i /\ σ = [some (.ref a), some (.int b), some (.ref p), some (.str x), u, none, none]) ⟨s2, x0, _, Ed.refl 0 _, q1, q2, rfl⟩ (fun i σ H4 hi hv => ?_) fun σ H4 hv => ?_
  ·obtain ⟨s4, x, u, he, hpl, hxl, rfl⟩ := hv;rw [zcR];simp only [Int.zero_add, List.set_cons_zero, List.set_cons_succ];walk_at "";refine ⟨a, ns, _, rfl, s4.seq hS,ω,ω, fun n _ _ => ⟨x, n, rfl,ω, hpl, fun y H5 s5 yl yp ye => ⟨s4.trans s5, y, _, he.one ye, yp,ω, rfl⟩⟩⟩
  ·obtain ⟨s4, x, u, he, hpl, hxl, rfl⟩ := hv;have hn : (1 + zfd ns 1 % 2).toNat = 1 \/ (1 + zfd ns 1 % 2).toNat = 2 := by omega
   have he2 : Ed 2 x0.cps.toList x.cps.toList := by
    rcases hn with e | e
    ·rw [e] at he; exact he.more
    ·rw [e] at he; exact he
   exact hN _ _ ⟨s4, x, u, he2.fine (by rw [q0]; decide), hpl,ω, rfl⟩
 obtain ⟨s4, x1, u, f1, q3, q4, rfl⟩ := hv;refine za2 (fun σ' H5 => Same H1 H5 /\ ∃ (x : Str) (u : Option V), Fine x.cps.toList /\ Pl x /\ x.length <= 274 /\ σ' = [some (.ref a), some (.int b), some (.ref p), some (.str x), u, none, none]) (fun N hN => ?_) fun σ' H5 hv => ?_
 ·walk_at "";refine ⟨a, ns, 2, rfl, s4.seq hS,δ, ?_⟩;walk_at "";refine ⟨δ, ite2 (fun _ => ?_) fun _ => hN _ _ ⟨s4, x1, u, f1, q3, q4, rfl⟩⟩;refine ⟨a, ns, 2, rfl, s4.seq hS,δ, ?_⟩;walk_at "";exact ⟨cdiv, fun y H5 s5 yl yp yf => hN _ _ ⟨s4.trans s5, y, u, yf, yp,ω, rfl⟩⟩
 clear f1 q3 q4 x1;obtain ⟨s5, x, u, fx, px, lx, rfl⟩ := hv;refine za2 (fun σ' H6 => Same H5 H6 /\ ∃ (d : Addr) (acc : List V), H6 d = some (.lst acc) /\ RepX K H6 ((goodRows x).map fun r => (zbo r).getD .non) acc /\ σ' = [some (.ref a), some (.int b), some (.ref p), some (.str x), u, some (.ref d), none]) (fun N hN => ?_) fun σ' H6 hv => ?_
 ·walk_at "";refine ⟨trivial,δ,ω, fun p1 hp1 => .inl ⟨⟨_, SqL.of zad⟩, ?_⟩⟩;rw [show Str.ofString "\n" = (⟨#[10]⟩ : Str) from rfl];have hsz : (Txt.split x ⟨#[10]⟩).length <= 1002 := yat (zbq _ _) ω;have hpart : ∀ r ∈ Txt.split x ⟨#[10]⟩, r.length <= 1000 := fun r hr' => by have := zc0 hr'; omega
  have eg : (goodRows x).map (fun r => (zbo r).getD .non) = (goodRows x).map fun r => (zdQ r).getD .non := List.map_congr_left fun r hr' => by
   obtain ⟨g1, g2⟩ := zkw fx px hr';rw [zmm g1 g2]
  have ex : goodRows x = (Txt.split x ⟨#[10]⟩).filter fun r : Str => !decide (Txt.stripChars r " " = "") := rfl;rw [eg, ex] at hN;generalize Txt.split x ⟨#[10]⟩ = ps at hN hsz hpart;have s1 := zaf hp1 (.lst (ps.map V.str));refine zbO (xs := ps.map V.str) (fun i acc Hc => Same (upd H5 p1 (.lst (ps.map V.str))) Hc /\ RepX K Hc (((ps.take i).filter fun r : Str => !decide (Txt.stripChars r " " = "")).map fun r => (zdQ r).getD .non) acc) ⟨Same.refl _, RepX.nil⟩ (fun i acc Hc _ h => h.1.seq (SqL.of zad)) (fun i v acc Hc hv h => ?_) fun acc Hc h p2 hp2 => ?_
  ·obtain ⟨sc, hX⟩ := h;have hj : i < ps.length := by have := (yag.mp hv).1; simpa using this
   have ev : v = V.str ps[i] := by
    rw [yav, yal hj] at hv;cases hv; rfl
   subst ev;have hrl := hpart ps[i] (List.getElem_mem hj);have hxl := hX.1;rw [yaf] at hxl;have hfl := List.length_filter_le (fun r : Str => !decide (Txt.stripChars r " " = "")) (ps.take i);rw [ya3] at hfl;refine ⟨zcb ω, ?_⟩;walk_at "T";walk_at "";rw [List.take_succ_eq_append_getElem hj, List.filter_append];refine ⟨trivial,ω, ite2 (fun c => ?_) fun c => ?_⟩
   ·refine ⟨ps[i], rfl, hrl, fun H7 v7 s7 rv => ⟨sc.trans s7, ?_⟩⟩;rw [ya0];have c' : ¬ Txt.stripChars ps[i] " " = "" := c;have e1 : List.filter (fun r : Str => !decide (Txt.stripChars r " " = "")) [ps[i]] = [ps[i]] := by
     rw [List.filter_cons_of_pos (by rw [ya8 c']; rfl)]; rfl
    rw [e1];exact (hX.same s7).snoc rv
   ·have c' : Txt.stripChars ps[i] " " = "" := Classical.not_not.mp c;have e1 : List.filter (fun r : Str => !decide (Txt.stripChars r " " = "")) [ps[i]] = [] := by
     rw [List.filter_cons_of_neg (by rw [ya9 c']; decide)]; rfl
    rw [e1, List.append_nil];exact ⟨sc, hX⟩
  ·obtain ⟨sc, hX⟩ := h;rw [yaf, List.take_length] at hX;exact hN _ _ ⟨(s1.trans sc).trans (zaf hp2 _), p2, acc, zad, hX.same (zaf hp2 _), rfl⟩
 obtain ⟨s6, d, acc, h6, hX, rfl⟩ := hv;walk_at "";have hchr : Chr x := fun c hc => (px c hc).1;have hdep : Dt.deps ((goodRows x).map fun r => (zbo r).getD .non) <= 45 := deps_le fun d' hd' => by
  obtain ⟨r, _, rfl⟩ := ya6.mp hd';exact zku r
 refine .inr ⟨.non, (goodRows x).map (fun r => (zbo r).getD .non), .non, .inr (.lst (SqL.of h6) hX.1 hX.2),ω, _, rfl, ?_⟩;rw [show (if false = true then !decide (Dt.non ∈ (goodRows x).map fun r => (zbo r).getD .non) else decide (Dt.non ∈ (goodRows x).map fun r => (zbo r).getD .non)) = decide (Dt.non ∈ (goodRows x).map fun r => (zbo r).getD .non) from rfl, zmn];cases ca : (goodRows x).all (fun r => (zbo r).isSome) with
 | false => exact ⟨x, rfl,ω, hchr, ca, fun H' => k _⟩
 | true =>
  refine ⟨x, rfl,ω, hchr, fun _ H7 v s7 rv => ?_, fun z => absurd z (by rw [ca]; decide)⟩;obtain ⟨b1, xs, rfl, hT, _⟩ := rv.toT;walk_at "t";refine ⟨_, true, .tup hT, rfl, ?_⟩;rw [if_pos rfl];refine ⟨acc, .inl ⟨s7.seq (SqL.of h6), fun l hl' => ⟨_, _, rv.same (zaf hl' _), RepX.tup (hX.same (s7.trans (zaf hl' _))) (SqT.of zad), ?_, ?_⟩⟩⟩
  ·show Dt.dep (.tup _) <= 60;simp only [Dt.dep];omega
  ·rw [ya9 rfl];exact k _
end
local macro_rules | `(tactic| walk_at "b1") => `(tactic| exact fun _ _ _ _ _ _ us hl => match us, hl with | [_], _ => rfl)
local macro_rules | `(tactic| walk_at "b2") => `(tactic| exact fun _ _ _ _ _ _ us hl => match us, hl with | [_, _], _ => rfl)
abbrev LK (K : W.Frag) (f : Addr) (oc : Value) (od : Option Addr) (n q : Str) (s : Stmt) (kV dc pm : Value) (an : Option Addr) (cd ct : Value) (sl : Array (Option Value)) : Prop := K.lookup f = some ⟨oc, od, .func (W.fnOf n q (zak s) (zaj s) (zab s) .none kV dc pm an cd ct), sl⟩
abbrev NI (K : W.Frag) (n : Str) (f : Addr) : Prop := W.nsIn K mainGlobals n = some (some (.ref f))
abbrev CI (K : W.Frag) (c : Value) (n : Str) : Prop := W.codeIn K c n = true
abbrev KI (K : W.Frag) (f : Addr) : Prop := W.keepIn K (.ref f) = true
abbrev TL (K : W.Frag) (a : Addr) (d : Option Addr) (x : Array Value) (n : Nat) (s : Array (Option Value)) : Prop := K.lookup a = some ⟨.type "tuple", d, .seq x n, s⟩
theorem all_mk {l : W.OpenLaw} {w : World} {K : W.Frag} {h : Heap} {mg : Str -> Option Value} {fa : Addr} (X : K.In h) (G : h.Ns mainGlobals mg) (hfa : mg "law" = some (.ref fa)) 
  {oC_Runs : Addr} (oa_Runs : NI K "Runs" oC_Runs)
  (a0 : NI K "rows_in" f0) (l0 : LK K f0 oc0 od0 "rows_in" "rows_in" zb2 kV0 dc0 pm0 an0 cd0 ct0 sl0) (c0 : CI K cd0 "rows_in") (k0 : KI K f0)
  (a1 : NI K "runs_in" f1) (l1 : LK K f1 oc1 od1 "runs_in" "runs_in" zb3 kV1 dc1 pm1 an1 cd1 ct1 sl1) (c1 : CI K cd1 "runs_in") (k1 : KI K f1)
  (a2 : NI K "is_number" f2) (l2 : LK K f2 oc2 od2 "is_number" "is_number" zaS kV2 dc2 pm2 an2 cd2 ct2 sl2) (c2 : CI K cd2 "is_number") (k2 : KI K f2)
  (a3 : NI K "begins_and_goes_on" f3) (l3 : LK K f3 oc3 od3 "begins_and_goes_on" "begins_and_goes_on" zat kV3 dc3 pm3 an3 cd3 ct3 sl3) (c3 : CI K cd3 "begins_and_goes_on") (k3 : KI K f3)
  (a4 : NI K "is_name" f4) (l4 : LK K f4 oc4 od4 "is_name" "is_name" zb4 kV4 dc4 pm4 an4 cd4 ct4 sl4) (c4 : CI K cd4 "is_name") (k4 : KI K f4)
  (a5 : NI K "is_letter" f5) (l5 : LK K f5 oc5 od5 "is_letter" "is_letter" zaT kV5 dc5 pm5 an5 cd5 ct5 sl5) (c5 : CI K cd5 "is_letter") (k5 : KI K f5)
  (a6 : NI K "is_word" f6) (l6 : LK K f6 oc6 od6 "is_word" "is_word" zb5 kV6 dc6 pm6 an6 cd6 ct6 sl6) (c6 : CI K cd6 "is_word") (k6 : KI K f6)
  (a7 : NI K "runs_of" f7) (l7 : LK K f7 oc7 od7 "runs_of" "runs_of" zb6 kV7 dc7 pm7 an7 cd7 ct7 sl7) (c7 : CI K cd7 "runs_of") (k7 : KI K f7)
  (a8 : NI K "read" f8) (l8 : LK K f8 oc8 od8 "read" "read" zcG kV8 dc8 pm8 an8 cd8 ct8 sl8) (c8 : CI K cd8 "read") (k8 : KI K f8)
  (a9 : NI K "take_statement" f9) (l9 : LK K f9 oc9 od9 "take_statement" "take_statement" za3 kV9 dc9 pm9 an9 cd9 ct9 sl9) (c9 : CI K cd9 "take_statement") (k9 : KI K f9)
  (a10 : NI K "take_letter" f10) (l10 : LK K f10 oc10 od10 "take_letter" "take_letter" zaC kV10 dc10 pm10 an10 cd10 ct10 sl10) (c10 : CI K cd10 "take_letter") (k10 : KI K f10)
  (a11 : NI K "take_pair" f11) (l11 : LK K f11 oc11 od11 "take_pair" "take_pair" zaU kV11 dc11 pm11 an11 cd11 ct11 sl11) (c11 : CI K cd11 "take_pair") (k11 : KI K f11)
  (a12 : NI K "take_terms" f12) (l12 : LK K f12 oc12 od12 "take_terms" "take_terms" zaL kV12 dc12 pm12 an12 cd12 ct12 sl12) (c12 : CI K cd12 "take_terms") (k12 : KI K f12)
  (a13 : NI K "take_term" f13) (l13 : LK K f13 oc13 od13 "take_term" "take_term" zaV kV13 dc13 pm13 an13 cd13 ct13 sl13) (c13 : CI K cd13 "take_term") (k13 : KI K f13)
  (a14 : NI K "read_lines" f14) (l14 : LK K f14 oc14 od14 "read_lines" "read_lines" zaM kV14 dc14 pm14 an14 cd14 ct14 sl14) (c14 : CI K cd14 "read_lines") (k14 : KI K f14)
  (a15 : NI K "read_line" f15) (l15 : LK K f15 oc15 od15 "read_line" "read_line" zaW kV15 dc15 pm15 an15 cd15 ct15 sl15) (c15 : CI K cd15 "read_line") (k15 : KI K f15)
  (a16 : NI K "is_rule" f16) (l16 : LK K f16 oc16 od16 "is_rule" "is_rule" zb7 kV16 dc16 pm16 an16 cd16 ct16 sl16) (c16 : CI K cd16 "is_rule") (k16 : KI K f16)
  (a17 : NI K "read_statement" f17) (l17 : LK K f17 oc17 od17 "read_statement" "read_statement" za4 kV17 dc17 pm17 an17 cd17 ct17 sl17) (c17 : CI K cd17 "read_statement") (k17 : KI K f17)
  (a18 : NI K "read_ref" f18) (l18 : LK K f18 oc18 od18 "read_ref" "read_ref" zbk kV18 dc18 pm18 an18 cd18 ct18 sl18) (c18 : CI K cd18 "read_ref") (k18 : KI K f18)
  (a19 : NI K "_law_cell_at" f19) (l19 : LK K f19 oc19 od19 "_law_cell_at" "_law_cell_at" zaX kV19 dc19 pm19 an19 cd19 ct19 sl19) (c19 : CI K cd19 "_law_cell_at") (k19 : KI K f19)
  (a20 : NI K "_law_mixed" f20) (l20 : LK K f20 oc20 od20 "_law_mixed" "_law_mixed" zb8 kV20 dc20 pm20 an20 cd20 ct20 sl20) (c20 : CI K cd20 "_law_mixed") (k20 : KI K f20)
  (a21 : NI K "_law_name_by" f21) (l21 : LK K f21 oc21 od21 "_law_name_by" "_law_name_by" zaY kV21 dc21 pm21 an21 cd21 ct21 sl21) (c21 : CI K cd21 "_law_name_by") (k21 : KI K f21)
  (a22 : NI K "_law_thing_name" f22) (l22 : LK K f22 oc22 od22 "_law_thing_name" "_law_thing_name" za9 kV22 dc22 pm22 an22 cd22 ct22 sl22) (c22 : CI K cd22 "_law_thing_name") (k22 : KI K f22)
  (a23 : NI K "_law_word" f23) (l23 : LK K f23 oc23 od23 "_law_word" "_law_word" zbM kV23 dc23 pm23 an23 cd23 ct23 sl23) (c23 : CI K cd23 "_law_word") (k23 : KI K f23)
  (a24 : NI K "_law_row_by" f24) (l24 : LK K f24 oc24 od24 "_law_row_by" "_law_row_by" zbl kV24 dc24 pm24 an24 cd24 ct24 sl24) (c24 : CI K cd24 "_law_row_by") (k24 : KI K f24)
  (a25 : NI K "_law_spoilt" f25) (l25 : LK K f25 oc25 od25 "_law_spoilt" "_law_spoilt" zbm kV25 dc25 pm25 an25 cd25 ct25 sl25) (c25 : CI K cd25 "_law_spoilt") (k25 : KI K f25)
  (a26 : NI K "_law_odd_text" f26) (l26 : LK K f26 oc26 od26 "_law_odd_text" "_law_odd_text" zaN kV26 dc26 pm26 an26 cd26 ct26 sl26) (c26 : CI K cd26 "_law_odd_text") (k26 : KI K f26)
  (a27 : NI K "_law_is_word" f27) (l27 : LK K f27 oc27 od27 "_law_is_word" "_law_is_word" zaZ kV27 dc27 pm27 an27 cd27 ct27 sl27) (c27 : CI K cd27 "_law_is_word") (k27 : KI K f27)
  (a28 : NI K "_law_is_name" f28) (l28 : LK K f28 oc28 od28 "_law_is_name" "_law_is_name" zba kV28 dc28 pm28 an28 cd28 ct28 sl28) (c28 : CI K cd28 "_law_is_name") (k28 : KI K f28)
  (a29 : NI K "_law_ref_in" f29) (l29 : LK K f29 oc29 od29 "_law_ref_in" "_law_ref_in" zbn kV29 dc29 pm29 an29 cd29 ct29 sl29) (c29 : CI K cd29 "_law_ref_in") (k29 : KI K f29)
  (a30 : NI K "_law_statement_in" f30) (l30 : LK K f30 oc30 od30 "_law_statement_in" "_law_statement_in" za5 kV30 dc30 pm30 an30 cd30 ct30 sl30) (c30 : CI K cd30 "_law_statement_in") (k30 : KI K f30)
  (a31 : NI K "_law_line_in" f31) (l31 : LK K f31 oc31 od31 "_law_line_in" "_law_line_in" zbb kV31 dc31 pm31 an31 cd31 ct31 sl31) (c31 : CI K cd31 "_law_line_in") (k31 : KI K f31)
  (a32 : NI K "_law_of_one_class" f32) (l32 : LK K f32 oc32 od32 "_law_of_one_class" "_law_of_one_class" za0 kV32 dc32 pm32 an32 cd32 ct32 sl32) (c32 : CI K cd32 "_law_of_one_class") (k32 : KI K f32)
  (a33 : NI K "_law_refused" f33) (l33 : LK K f33 oc33 od33 "_law_refused" "_law_refused" zaP kV33 dc33 pm33 an33 cd33 ct33 sl33) (c33 : CI K cd33 "_law_refused") (k33 : KI K f33)
  (a34 : NI K "law" f34) (l34 : LK K f34 oc34 od34 "law" "law" zeC kV34 dc34 pm34 an34 cd34 ct34 sl34) (c34 : CI K cd34 "law") (k34 : KI K f34)
  (a35 : W.findIn K (.ref oC_Runs) "__init__" = some (some (.ref f35))) (i35 : W.isFn K (.ref f35) = true) (l35 : LK K f35 oc35 od35 "__init__" "Runs.__init__" zbc kV35 dc35 pm35 an35 cd35 ct35 sl35) (c35 : CI K cd35 "Runs.__init__") (k35 : KI K f35)
  (a36 : W.findIn K (.ref oC_Runs) "ahead" = some (some (.ref f36))) (i36 : W.isFn K (.ref f36) = true) (l36 : LK K f36 oc36 od36 "ahead" "Runs.ahead" zaO kV36 dc36 pm36 an36 cd36 ct36 sl36) (c36 : CI K cd36 "Runs.ahead") (k36 : KI K f36)
  (a37 : W.findIn K (.ref oC_Runs) "take" = some (some (.ref f37))) (i37 : W.isFn K (.ref f37) = true) (l37 : LK K f37 oc37 od37 "take" "Runs.take" zbd kV37 dc37 pm37 an37 cd37 ct37 sl37) (c37 : CI K cd37 "Runs.take") (k37 : KI K f37)
  (a38 : W.findIn K (.ref oC_Runs) "want" = some (some (.ref f38))) (i38 : W.isFn K (.ref f38) = true) (l38 : LK K f38 oc38 od38 "want" "Runs.want" zbe kV38 dc38 pm38 an38 cd38 ct38 sl38) (c38 : CI K cd38 "Runs.want") (k38 : KI K f38)
  (g0 : W.nsIn K mainGlobals "FIGURES" = some (some (.str "0123456789" t0)))
  (g1 : W.nsIn K mainGlobals "MOST_FIGURES" = some (some (.int 4 t1)))
  (g2 : W.nsIn K mainGlobals "SMALL" = some (some (.str "abcdefghijklmnopqrstuvwxyz" t2)))
  (g3 : W.nsIn K mainGlobals "GREAT" = some (some (.str "ABCDEFGHIJKLMNOPQRSTUVWXYZ" t3)))
  (g4 : W.nsIn K mainGlobals "SMALL_OR_FIGURE" = some (some (.str "abcdefghijklmnopqrstuvwxyz0123456789" t4)))
  (g5 : W.nsIn K mainGlobals "KEPT_WORDS" = some (some (.ref p5))) (q5 : TL K p5 dd5 #[Value.str "not" u5_0, Value.str "and" u5_1, Value.str "or" u5_2, Value.str "then" u5_3, Value.str "all" u5_4, Value.str "some" u5_5, Value.str "false" u5_6] nn5 ss5)
  (g6 : W.nsIn K mainGlobals "MOST_SIGNS" = some (some (.int 8 t6)))
  (g7 : W.nsIn K mainGlobals "PAIRS" = some (some (.ref p7))) (q7 : TL K p7 dd7 #[Value.str "and" u7_0, Value.str "or" u7_1, Value.str "then" u7_2] nn7 ss7)
  (g8 : W.nsIn K mainGlobals "QUANTIFIERS" = some (some (.ref p8))) (q8 : TL K p8 dd8 #[Value.str "all" u8_0, Value.str "some" u8_1] nn8 ss8)
  (g9 : W.nsIn K mainGlobals "RUN_SIGNS" = some (some (.str "abcdefghijklmnopqrstuvwxyzABCDEFGHIJKLMNOPQRSTUVWXYZ0123456789" t9)))
  (g10 : W.nsIn K mainGlobals "SINGLE_SIGNS" = some (some (.str "()," t10)))
  (g11 : W.nsIn K mainGlobals "END" = some (some (.str "" t11)))
  (g12 : W.nsIn K mainGlobals "MOST_TERMS" = some (some (.int 3 t12)))
  (g13 : W.nsIn K mainGlobals "MOST_DEEP" = some (some (.int 40 t13)))
  (og_Runs : W.plainGet K oC_Runs Str.empty = true) (oh_Runs : W.hasDictIn K oC_Runs = true) (op_Runs : W.plainOver K oC_Runs = true) (os_Runs : W.findIn K (.ref oC_Runs) "__setattr__" = some (some (.builtin "object.__setattr__"))) (om_Runs : W.makesIn K oC_Runs = true) (ok_Runs : W.keepIn K (.ref oC_Runs) = true)
  (on_Runs_runs : W.findIn K (.ref oC_Runs) "runs" = some none)
  (on_Runs_place : W.findIn K (.ref oC_Runs) "place" = some none)
  {xnm0 xq0 : Str} {xC0 xN0 : Addr} {xbs0 : List Value} {xh0 : Bool} {xsn0 : List Str} {xsu0 : List Value} {xab0 : Bool} {xco0 : Option Bool} {xdd0 xod0 : Option Addr} {xka0 xkb0 xkc0 xkd0 xke0 : Option Value} {xoc0 : Value} {xes0 : List DictEntry} {xep0 : Nat} {xsl0 : Array (Option Value)}
  (xa0 : W.nsIn K mainGlobals "BoxError" = some (some (.ref xC0))) (xl0 : K.lookup xC0 = some (excClassObj xnm0 xq0 xC0 xN0 xbs0 ([.type "ValueError", .type "Exception", .type "BaseException", .type "object"]) xh0 xsn0 xsu0 xab0 xco0 xdd0 xka0 xkb0 xkc0 xkd0 xke0 "ValueError.__new__"))
  (xn0 : K.lookup xN0 = some ⟨xoc0, xod0, .dict (List.toArray xes0) xep0, xsl0⟩) (xy0 : (xes0.all fun e => match e.key with | .str _ _ => true | _ => false) = true) (xp0 : W.nsIn K xN0 "__init__" = some none) (xr0 : W.nsIn K xN0 "__getattribute__" = some none) (xu0 : W.nsIn K xN0 "__getattr__" = some none) (xv0 : W.nsIn K xN0 "__class__" = some none)
  {xnm1 xq1 : Str} {xC1 xN1 : Addr} {xbs1 : List Value} {xh1 : Bool} {xsn1 : List Str} {xsu1 : List Value} {xab1 : Bool} {xco1 : Option Bool} {xdd1 xod1 : Option Addr} {xka1 xkb1 xkc1 xkd1 xke1 : Option Value} {xoc1 : Value} {xes1 : List DictEntry} {xep1 : Nat} {xsl1 : Array (Option Value)}
  (xa1 : W.nsIn K mainGlobals "NoStatement" = some (some (.ref xC1))) (xl1 : K.lookup xC1 = some (excClassObj xnm1 xq1 xC1 xN1 xbs1 (Value.ref xC0 :: [.type "ValueError", .type "Exception", .type "BaseException", .type "object"]) xh1 xsn1 xsu1 xab1 xco1 xdd1 xka1 xkb1 xkc1 xkd1 xke1 "ValueError.__new__"))
  (xn1 : K.lookup xN1 = some ⟨xoc1, xod1, .dict (List.toArray xes1) xep1, xsl1⟩) (xy1 : (xes1.all fun e => match e.key with | .str _ _ => true | _ => false) = true) (xp1 : W.nsIn K xN1 "__init__" = some none) (xr1 : W.nsIn K xN1 "__getattribute__" = some none) (xu1 : W.nsIn K xN1 "__getattr__" = some none) (xv1 : W.nsIn K xN1 "__class__" = some none)
  {xnm2 xq2 : Str} {xC2 xN2 : Addr} {xbs2 : List Value} {xh2 : Bool} {xsn2 : List Str} {xsu2 : List Value} {xab2 : Bool} {xco2 : Option Bool} {xdd2 xod2 : Option Addr} {xka2 xkb2 xkc2 xkd2 xke2 : Option Value} {xoc2 : Value} {xes2 : List DictEntry} {xep2 : Nat} {xsl2 : Array (Option Value)}
  (xa2 : W.nsIn K mainGlobals "NoName" = some (some (.ref xC2))) (xl2 : K.lookup xC2 = some (excClassObj xnm2 xq2 xC2 xN2 xbs2 (Value.ref xC0 :: [.type "ValueError", .type "Exception", .type "BaseException", .type "object"]) xh2 xsn2 xsu2 xab2 xco2 xdd2 xka2 xkb2 xkc2 xkd2 xke2 "ValueError.__new__"))
  (xn2 : K.lookup xN2 = some ⟨xoc2, xod2, .dict (List.toArray xes2) xep2, xsl2⟩) (xy2 : (xes2.all fun e => match e.key with | .str _ _ => true | _ => false) = true) (xp2 : W.nsIn K xN2 "__init__" = some none) (xr2 : W.nsIn K xN2 "__getattribute__" = some none) (xu2 : W.nsIn K xN2 "__getattr__" = some none) (xv2 : W.nsIn K xN2 "__class__" = some none)
  {xnm3 xq3 : Str} {xC3 xN3 : Addr} {xbs3 : List Value} {xh3 : Bool} {xsn3 : List Str} {xsu3 : List Value} {xab3 : Bool} {xco3 : Option Bool} {xdd3 xod3 : Option Addr} {xka3 xkb3 xkc3 xkd3 xke3 : Option Value} {xoc3 : Value} {xes3 : List DictEntry} {xep3 : Nat} {xsl3 : Array (Option Value)}
  (xa3 : W.nsIn K mainGlobals "NoWorld" = some (some (.ref xC3))) (xl3 : K.lookup xC3 = some (excClassObj xnm3 xq3 xC3 xN3 xbs3 (Value.ref xC0 :: [.type "ValueError", .type "Exception", .type "BaseException", .type "object"]) xh3 xsn3 xsu3 xab3 xco3 xdd3 xka3 xkb3 xkc3 xkd3 xke3 "ValueError.__new__"))
  (xn3 : K.lookup xN3 = some ⟨xoc3, xod3, .dict (List.toArray xes3) xep3, xsl3⟩) (xy3 : (xes3.all fun e => match e.key with | .str _ _ => true | _ => false) = true) (xp3 : W.nsIn K xN3 "__init__" = some none) (xr3 : W.nsIn K xN3 "__getattribute__" = some none) (xu3 : W.nsIn K xN3 "__getattr__" = some none) (xv3 : W.nsIn K xN3 "__class__" = some none)
  {xnm4 xq4 : Str} {xC4 xN4 : Addr} {xbs4 : List Value} {xh4 : Bool} {xsn4 : List Str} {xsu4 : List Value} {xab4 : Bool} {xco4 : Option Bool} {xdd4 xod4 : Option Addr} {xka4 xkb4 xkc4 xkd4 xke4 : Option Value} {xoc4 : Value} {xes4 : List DictEntry} {xep4 : Nat} {xsl4 : Array (Option Value)}
  (xa4 : W.nsIn K mainGlobals "NoBox" = some (some (.ref xC4))) (xl4 : K.lookup xC4 = some (excClassObj xnm4 xq4 xC4 xN4 xbs4 (Value.ref xC0 :: [.type "ValueError", .type "Exception", .type "BaseException", .type "object"]) xh4 xsn4 xsu4 xab4 xco4 xdd4 xka4 xkb4 xkc4 xkd4 xke4 "ValueError.__new__"))
  (xn4 : K.lookup xN4 = some ⟨xoc4, xod4, .dict (List.toArray xes4) xep4, xsl4⟩) (xy4 : (xes4.all fun e => match e.key with | .str _ _ => true | _ => false) = true) (xp4 : W.nsIn K xN4 "__init__" = some none) (xr4 : W.nsIn K xN4 "__getattribute__" = some none) (xu4 : W.nsIn K xN4 "__getattr__" = some none) (xv4 : W.nsIn K xN4 "__class__" = some none)
  {xnm5 xq5 : Str} {xC5 xN5 : Addr} {xbs5 : List Value} {xh5 : Bool} {xsn5 : List Str} {xsu5 : List Value} {xab5 : Bool} {xco5 : Option Bool} {xdd5 xod5 : Option Addr} {xka5 xkb5 xkc5 xkd5 xke5 : Option Value} {xoc5 : Value} {xes5 : List DictEntry} {xep5 : Nat} {xsl5 : Array (Option Value)}
  (xa5 : W.nsIn K mainGlobals "NoLines" = some (some (.ref xC5))) (xl5 : K.lookup xC5 = some (excClassObj xnm5 xq5 xC5 xN5 xbs5 (Value.ref xC0 :: [.type "ValueError", .type "Exception", .type "BaseException", .type "object"]) xh5 xsn5 xsu5 xab5 xco5 xdd5 xka5 xkb5 xkc5 xkd5 xke5 "ValueError.__new__"))
  (xn5 : K.lookup xN5 = some ⟨xoc5, xod5, .dict (List.toArray xes5) xep5, xsl5⟩) (xy5 : (xes5.all fun e => match e.key with | .str _ _ => true | _ => false) = true) (xp5 : W.nsIn K xN5 "__init__" = some none) (xr5 : W.nsIn K xN5 "__getattribute__" = some none) (xu5 : W.nsIn K xN5 "__getattr__" = some none) (xv5 : W.nsIn K xN5 "__class__" = some none)
  {xnm6 xq6 : Str} {xC6 xN6 : Addr} {xbs6 : List Value} {xh6 : Bool} {xsn6 : List Str} {xsu6 : List Value} {xab6 : Bool} {xco6 : Option Bool} {xdd6 xod6 : Option Addr} {xka6 xkb6 xkc6 xkd6 xke6 : Option Value} {xoc6 : Value} {xes6 : List DictEntry} {xep6 : Nat} {xsl6 : Array (Option Value)}
  (xa6 : W.nsIn K mainGlobals "NotShut" = some (some (.ref xC6))) (xl6 : K.lookup xC6 = some (excClassObj xnm6 xq6 xC6 xN6 xbs6 (Value.ref xC0 :: [.type "ValueError", .type "Exception", .type "BaseException", .type "object"]) xh6 xsn6 xsu6 xab6 xco6 xdd6 xka6 xkb6 xkc6 xkd6 xke6 "ValueError.__new__"))
  (xn6 : K.lookup xN6 = some ⟨xoc6, xod6, .dict (List.toArray xes6) xep6, xsl6⟩) (xy6 : (xes6.all fun e => match e.key with | .str _ _ => true | _ => false) = true) (xp6 : W.nsIn K xN6 "__init__" = some none) (xr6 : W.nsIn K xN6 "__getattribute__" = some none) (xu6 : W.nsIn K xN6 "__getattr__" = some none) (xv6 : W.nsIn K xN6 "__class__" = some none)
  (xm_NoStatement_NoStatement : W.mroIn K xC1 (.ref xC1) = some true) (xi_NoStatement_NoStatement : W.kitOne K (.ref xC1) (.ref xC1) = some true)
  (xm_NoStatement_NoLines : W.mroIn K xC1 (.ref xC5) = some false) (xi_NoStatement_NoLines : W.kitOne K (.ref xC1) (.ref xC5) = some false)
  (xm_NoStatement_BoxError : W.mroIn K xC1 (.ref xC0) = some true) (xi_NoStatement_BoxError : W.kitOne K (.ref xC1) (.ref xC0) = some true)
  (xm_NoStatement_NoBox : W.mroIn K xC1 (.ref xC4) = some false) (xi_NoStatement_NoBox : W.kitOne K (.ref xC1) (.ref xC4) = some false)
  (xm_NoStatement_NoName : W.mroIn K xC1 (.ref xC2) = some false) (xi_NoStatement_NoName : W.kitOne K (.ref xC1) (.ref xC2) = some false)
  (xm_NoStatement_NotShut : W.mroIn K xC1 (.ref xC6) = some false) (xi_NoStatement_NotShut : W.kitOne K (.ref xC1) (.ref xC6) = some false)
  (xm_NoStatement_NoWorld : W.mroIn K xC1 (.ref xC3) = some false) (xi_NoStatement_NoWorld : W.kitOne K (.ref xC1) (.ref xC3) = some false)
  (xm_NoLines_NoStatement : W.mroIn K xC5 (.ref xC1) = some false) (xi_NoLines_NoStatement : W.kitOne K (.ref xC5) (.ref xC1) = some false)
  (xm_NoLines_NoLines : W.mroIn K xC5 (.ref xC5) = some true) (xi_NoLines_NoLines : W.kitOne K (.ref xC5) (.ref xC5) = some true)
  (xm_NoLines_BoxError : W.mroIn K xC5 (.ref xC0) = some true) (xi_NoLines_BoxError : W.kitOne K (.ref xC5) (.ref xC0) = some true)
  (xm_NoLines_NoBox : W.mroIn K xC5 (.ref xC4) = some false) (xi_NoLines_NoBox : W.kitOne K (.ref xC5) (.ref xC4) = some false)
  (xm_NoLines_NoName : W.mroIn K xC5 (.ref xC2) = some false) (xi_NoLines_NoName : W.kitOne K (.ref xC5) (.ref xC2) = some false)
  (xm_NoLines_NotShut : W.mroIn K xC5 (.ref xC6) = some false) (xi_NoLines_NotShut : W.kitOne K (.ref xC5) (.ref xC6) = some false)
  (xm_NoLines_NoWorld : W.mroIn K xC5 (.ref xC3) = some false) (xi_NoLines_NoWorld : W.kitOne K (.ref xC5) (.ref xC3) = some false)
  (xi_NoStatement_ValueError : W.kitOne K (.ref xC1) (.type "ValueError") = some true)
  (xi_NoLines_ValueError : W.kitOne K (.ref xC5) (.type "ValueError") = some true)
  (z_ValueError : W.nsIn K mainGlobals "ValueError" = some none)
  (z_all : W.nsIn K mainGlobals "all" = some none)
  (z_int : W.nsIn K mainGlobals "int" = some none)
  (z_isinstance : W.nsIn K mainGlobals "isinstance" = some none)
  (z_len : W.nsIn K mainGlobals "len" = some none)
  (z_range : W.nsIn K mainGlobals "range" = some none)
  (z_tuple : W.nsIn K mainGlobals "tuple" = some none)
  (OK : ∀ (P : Program) (D : Defs) (base : Heap), Tx K mg D -> FnOk P w K mg base CX0 99 D.a_d8 D.d_d8 ["_law_script"] (zib K)) :
  ∃ fd : FuncData, (∀ (s : Shared) (v : Value), BindsTo s fd ⟨[v], []⟩ [("_law_script", v)]) /\ ∀ base : Heap, K.In base -> base.Ns mainGlobals mg -> FnOk l.prog w K mg base CX0 99 fa fd ["_law_script"] (zib K) := by
 have e := hfa.symm.trans (W.mg_of X G a34);cases e;have F0 := za6 (st := zb2) l0 c0 k0;have F1 := za6 (st := zb3) l1 c1 k1;have F2 := za6 (st := zaS) l2 c2 k2;have F3 := za6 (st := zat) l3 c3 k3;have F4 := za6 (st := zb4) l4 c4 k4;have F5 := za6 (st := zaT) l5 c5 k5;have F6 := za6 (st := zb5) l6 c6 k6;have F7 := za6 (st := zb6) l7 c7 k7;have F8 := za6 (st := zcG) l8 c8 k8;have F9 := za6 (st := za3) l9 c9 k9;have F10 := za6 (st := zaC) l10 c10 k10;have F11 := za6 (st := zaU) l11 c11 k11;have F12 := za6 (st := zaL) l12 c12 k12;have F13 := za6 (st := zaV) l13 c13 k13;have F14 := za6 (st := zaM) l14 c14 k14;have F15 := za6 (st := zaW) l15 c15 k15;have F16 := za6 (st := zb7) l16 c16 k16;have F17 := za6 (st := za4) l17 c17 k17;have F18 := za6 (st := zbk) l18 c18 k18;have F19 := za6 (st := zaX) l19 c19 k19;have F20 := za6 (st := zb8) l20 c20 k20;have F21 := za6 (st := zaY) l21 c21 k21;have b21 := F21.binds (ps := ["_law_number", "_law_firsts", "_law_turn"]) fun _ _ _ _ _ _ us hl => match us, hl with | [_, _, _], _ => rfl
 have F22 := za6 (st := za9) l22 c22 k22;have F23 := za6 (st := zbM) l23 c23 k23;have F24 := za6 (st := zbl) l24 c24 k24;have F25 := za6 (st := zbm) l25 c25 k25;have F26 := za6 (st := zaN) l26 c26 k26;have F27 := za6 (st := zaZ) l27 c27 k27;have F28 := za6 (st := zba) l28 c28 k28;have F29 := za6 (st := zbn) l29 c29 k29;have F30 := za6 (st := za5) l30 c30 k30;have F31 := za6 (st := zbb) l31 c31 k31;have F32 := za6 (st := za0) l32 c32 k32;have F33 := za6 (st := zaP) l33 c33 k33;have F34 := za6 (st := zeC) l34 c34 k34;have F35 := za6 (st := zbc) l35 c35 k35;have F36 := za6 (st := zaO) l36 c36 k36;have F37 := za6 (st := zbd) l37 c37 k37;have F38 := za6 (st := zbe) l38 c38 k38;have T : Tx K mg ⟨f0, _, f1, _, f2, _, f3, _, f4, _, f5, _, f6, _, f7, _, f8, _, f9, _, f10, _, f11, _, f12, _, f13, _, f14, _, f15, _, f16, _, f17, _, f18, _, f19, _, f20, _, f21, _, f22, _, f23, _, f24, _, f25, _, f26, _, f27, _, f28, _, f29, _, f30, _, f31, _, f32, _, f33, _, f34, _, f35, _, f36, _, f37, _, f38, _, p5, p7, p8, xC0, xC1, xC2, xC3, xC4, xC5, xC6, oC_Runs⟩ := ⟨F0, ⟨W.mg_of X G a0, k0, F0.binds (by walk_at "b1")⟩, F1, ⟨W.mg_of X G a1, k1, F1.binds (by walk_at "b1")⟩, F2, ⟨W.mg_of X G a2, k2, F2.binds (by walk_at "b1")⟩, F3, ⟨W.mg_of X G a3, k3, F3.binds (by walk_at "b2")⟩, F4, ⟨W.mg_of X G a4, k4, F4.binds (by walk_at "b1")⟩, F5, ⟨W.mg_of X G a5, k5, F5.binds (by walk_at "b1")⟩, F6, ⟨W.mg_of X G a6, k6, F6.binds (by walk_at "b1")⟩, F7, ⟨W.mg_of X G a7, k7, F7.binds (by walk_at "b1")⟩, F8, ⟨W.mg_of X G a8, k8, F8.binds (by walk_at "b1")⟩, F9, ⟨W.mg_of X G a9, k9, F9.binds (by walk_at "b2")⟩, F10, ⟨W.mg_of X G a10, k10, F10.binds (by walk_at "b1")⟩, F11, ⟨W.mg_of X G a11, k11, F11.binds (by walk_at "b2")⟩, F12, ⟨W.mg_of X G a12, k12, F12.binds (by walk_at "b1")⟩, F13, ⟨W.mg_of X G a13, k13, F13.binds (by walk_at "b1")⟩, F14, ⟨W.mg_of X G a14, k14, F14.binds (by walk_at "b1")⟩, F15, ⟨W.mg_of X G a15, k15, F15.binds (by walk_at "b1")⟩, F16, ⟨W.mg_of X G a16, k16, F16.binds (by walk_at "b1")⟩, F17, ⟨W.mg_of X G a17, k17, F17.binds (by walk_at "b2")⟩, F18, ⟨W.mg_of X G a18, k18, F18.binds (by walk_at "b1")⟩, F19, ⟨W.mg_of X G a19, k19, F19.binds (by walk_at "b2")⟩, F20, ⟨W.mg_of X G a20, k20, F20.binds (by walk_at "b2")⟩, F21, ⟨W.mg_of X G a21, k21, b21⟩, F22, ⟨W.mg_of X G a22, k22, F22.binds (by walk_at "b2")⟩, F23, ⟨W.mg_of X G a23, k23, F23.binds (by walk_at "b2")⟩, F24, ⟨W.mg_of X G a24, k24, F24.binds (by walk_at "b2")⟩, F25, ⟨W.mg_of X G a25, k25, F25.binds (by walk_at "b2")⟩, F26, ⟨W.mg_of X G a26, k26, F26.binds (by walk_at "b1")⟩, F27, ⟨W.mg_of X G a27, k27, F27.binds (by walk_at "b1")⟩, F28, ⟨W.mg_of X G a28, k28, F28.binds (by walk_at "b1")⟩, F29, ⟨W.mg_of X G a29, k29, F29.binds (by walk_at "b1")⟩, F30, ⟨W.mg_of X G a30, k30, F30.binds (by walk_at "b1")⟩, F31, ⟨W.mg_of X G a31, k31, F31.binds (by walk_at "b1")⟩, F32, ⟨W.mg_of X G a32, k32, F32.binds (by walk_at "b1")⟩, F33, ⟨W.mg_of X G a33, k33, F33.binds (by walk_at "b1")⟩, F34, ⟨W.mg_of X G a34, k34, F34.binds (by walk_at "b1")⟩, F35, ⟨a35, i35, k35⟩, F35.binds (by walk_at "b2"), F36, ⟨a36, i36, k36⟩, F36.binds (by walk_at "b1"), F37, ⟨a37, i37, k37⟩, F37.binds (by walk_at "b1"), F38, ⟨a38, i38, k38⟩, F38.binds (by walk_at "b2"), ⟨_, W.mg_of X G g0⟩, ⟨_, W.mg_of X G g1⟩, ⟨_, W.mg_of X G g2⟩, ⟨_, W.mg_of X G g3⟩, ⟨_, W.mg_of X G g4⟩, W.mg_of X G g5, fun H => .inr ⟨_, _, _, q5, rfl, rfl, (by show 7 <= sizeLine; decide), (.cons ⟨_, rfl⟩ (.cons ⟨_, rfl⟩ (.cons ⟨_, rfl⟩ (.cons ⟨_, rfl⟩ (.cons ⟨_, rfl⟩ (.cons ⟨_, rfl⟩ (.cons ⟨_, rfl⟩ .nil)))))))⟩, ⟨_, W.mg_of X G g6⟩, W.mg_of X G g7, fun H => .inr ⟨_, _, _, q7, rfl, rfl, (by show 3 <= sizeLine; decide), (.cons ⟨_, rfl⟩ (.cons ⟨_, rfl⟩ (.cons ⟨_, rfl⟩ .nil)))⟩, W.mg_of X G g8, fun H => .inr ⟨_, _, _, q8, rfl, rfl, (by show 2 <= sizeLine; decide), (.cons ⟨_, rfl⟩ (.cons ⟨_, rfl⟩ .nil))⟩, ⟨_, W.mg_of X G g9⟩, ⟨_, W.mg_of X G g10⟩, ⟨_, W.mg_of X G g11⟩, ⟨_, W.mg_of X G g12⟩, ⟨_, W.mg_of X G g13⟩, W.mg_none_of X G z_ValueError, W.mg_none_of X G z_all, W.mg_none_of X G z_int, W.mg_none_of X G z_isinstance, W.mg_none_of X G z_len, W.mg_none_of X G z_range, W.mg_none_of X G z_tuple, zoR (W.mg_of X G xa0) xl0 ⟨⟨_, _, _, _, _, xn0, xy0⟩, xp0, xr0, xu0, xv0⟩, zhl (W.mg_of X G xa1) xl1 ⟨⟨_, _, _, _, _, xn1, xy1⟩, xp1, xr1, xu1, xv1⟩ xl0 ⟨⟨_, _, _, _, _, xn0, xy0⟩, xp0, xr0, xu0, xv0⟩, zhl (W.mg_of X G xa2) xl2 ⟨⟨_, _, _, _, _, xn2, xy2⟩, xp2, xr2, xu2, xv2⟩ xl0 ⟨⟨_, _, _, _, _, xn0, xy0⟩, xp0, xr0, xu0, xv0⟩, zhl (W.mg_of X G xa3) xl3 ⟨⟨_, _, _, _, _, xn3, xy3⟩, xp3, xr3, xu3, xv3⟩ xl0 ⟨⟨_, _, _, _, _, xn0, xy0⟩, xp0, xr0, xu0, xv0⟩, zhl (W.mg_of X G xa4) xl4 ⟨⟨_, _, _, _, _, xn4, xy4⟩, xp4, xr4, xu4, xv4⟩ xl0 ⟨⟨_, _, _, _, _, xn0, xy0⟩, xp0, xr0, xu0, xv0⟩, zhl (W.mg_of X G xa5) xl5 ⟨⟨_, _, _, _, _, xn5, xy5⟩, xp5, xr5, xu5, xv5⟩ xl0 ⟨⟨_, _, _, _, _, xn0, xy0⟩, xp0, xr0, xu0, xv0⟩, zhl (W.mg_of X G xa6) xl6 ⟨⟨_, _, _, _, _, xn6, xy6⟩, xp6, xr6, xu6, xv6⟩ xl0 ⟨⟨_, _, _, _, _, xn0, xy0⟩, xp0, xr0, xu0, xv0⟩, W.mg_of X G oa_Runs, ⟨og_Runs, oh_Runs, op_Runs, os_Runs⟩, ⟨om_Runs, a35, i35, ok_Runs⟩, on_Runs_runs, on_Runs_place, zb0 xl1 xl1 rfl xm_NoStatement_NoStatement, xi_NoStatement_NoStatement, zb0 xl1 xl5 rfl xm_NoStatement_NoLines, xi_NoStatement_NoLines, zb0 xl1 xl0 rfl xm_NoStatement_BoxError, xi_NoStatement_BoxError, zb0 xl1 xl4 rfl xm_NoStatement_NoBox, xi_NoStatement_NoBox, zb0 xl1 xl2 rfl xm_NoStatement_NoName, xi_NoStatement_NoName, zb0 xl1 xl6 rfl xm_NoStatement_NotShut, xi_NoStatement_NotShut, zb0 xl1 xl3 rfl xm_NoStatement_NoWorld, xi_NoStatement_NoWorld, zb0 xl5 xl1 rfl xm_NoLines_NoStatement, xi_NoLines_NoStatement, zb0 xl5 xl5 rfl xm_NoLines_NoLines, xi_NoLines_NoLines, zb0 xl5 xl0 rfl xm_NoLines_BoxError, xi_NoLines_BoxError, zb0 xl5 xl4 rfl xm_NoLines_NoBox, xi_NoLines_NoBox, zb0 xl5 xl2 rfl xm_NoLines_NoName, xi_NoLines_NoName, zb0 xl5 xl6 rfl xm_NoLines_NotShut, xi_NoLines_NotShut, zb0 xl5 xl3 rfl xm_NoLines_NoWorld, xi_NoLines_NoWorld, xi_NoStatement_ValueError, xi_NoLines_ValueError⟩
 exact ⟨_, fun s v => .of_eq rfl, fun base _ _ => OK l.prog _ base T⟩
theorem walk {l : W.OpenLaw} {q : Program} {loose : List Str} {XP : (Str -> Option Value) -> Heap -> Prop} {YP : World -> Heap -> Prop} {d : DefRec} {K : Params -> W.Frag} (hn : l.most = some 63) (hdf : d.params.defaults = [])
  (hY : ∀ (w : World) (h : Heap), YP w h -> (K w.params).In h)
  (F : ∀ (w : World) (mg : Str -> Option Value) (fa : Addr) (h : Heap), (K w.params).In h -> h.Ns mainGlobals mg -> mg d.name = some (.ref fa) ->
   ∃ fd : FuncData, (∀ (s : Shared) (u : Value), BindsTo s fd ⟨[u], []⟩ [("_law_script", u)]) /\ ∀ base : Heap, (K w.params).In base -> base.Ns mainGlobals mg -> FnOk l.prog w (K w.params) mg base CX0 99 fa fd ["_law_script"] (zib (K w.params))) :
  W.WalkO q loose XP YP l.row.toRowW d [] (fun f vs => PySem.call f vs) :=
 L2.walk_of (n := 63) (k := 99) (x := "_law_script") (CX := fun _ => CX0) (sp := fun w => zib (K w.params)) hn δ hdf ⟨rfl,δ,δ, rfl⟩ hY F (fun _ _ a ns hl _ hS => ⟨a, ns, rfl, hS, hl, fun _ => rfl⟩) fun _ _ _ _ _ z => z
end K27
namespace PySem.W.Fast
def tw11917014672215303632 := 0
def tw15902931300539331478 := 0
def tw10016324757250836027 := 0
def tw13626165368876453704 := 0
def tw17312777516008147072 := 0
def tw14528416179474200547 := 0
def tw4582529646492812300 := 0
def tw13955452846367890261 := 0
def tw11629848582220797459 := 0
def tw1330963021347810417 := 0
def tw15337100499920445520 := 0
def tw2062717401534465710 := 0
def tw4331379411376454315 := 0
def tw16104648032030468088 := 0
def tw1138892102459640442 := 0
def tw1808389034328491309 := 0
def tw2413754152635770984 := 0
def tw7901103086006682109 := 0
def tw1001118861496566672 := 0
def tw6846951702045674845 := 0
def tw16142396277439676879 := 0
def tw11190835981746775746 := 0
def tw14853173878382332713 := 0
def tw7856950210505576559 := 0
def tw5491694359831299882 := 0
def tw7429004587279151275 := 0
def tw6937158510593395834 := 0
def tw10911301173896565546 := 0
def tw2785309668946925229 := 0
def tw9246754810846870608 := 0
def tw6165260107517118887 := 0
def tw17065006038316642662 := 0
def tw9193703931728791140 := 0
def tw9647278728622929500 := 0
def tw15045495839509554112 := 0
def tw1656940635899234590 := 0
def tw1182485336851518935 := 0
def tw12720905226418608961 := 0
def tw1918890758375310077 := 0
def tw5095964791762245949 := 0
def tw13182846632155678410 := 0
def tw6257001099630327502 := 0
def tw17624792943738276634 := 0
def tw9652823193685103339 := 0
def tw9147438414069393984 := 0
def tw10772800838993919280 := 0
def tw8062791473167828897 := 0
def tw4241603022451547187 := 0
def tw11237508676732675417 := 0
def tw14551029217215748216 := 0
def tw16549472327138157205 := 0
def tw7643033968917466335 := 0
def tw3568228938625498055 := 0
def tw10155184910080360613 := 0
def tw9203971158159623915 := 0
def tw3053839881493287987 := 0
def tw8404522011968246779 := 0
def tw5433210692720688733 := 0
def tw184142820734785801 := 0
def tw8842670891016753316 := 0
def tw15736528329290026519 := 0
def tw961600539716572471 := 0
def tw9237171268159957558 := 0
def tw1899812017350327574 := 0
def tw2391338851330710787 := 0
def tw10298251160895869387 := 0
def tw8169100153617225544 := 0
def tw14689617933644720132 := 0
def tw6268753898368553623 := 0
def tw10270309266096004509 := 0
def tw6196473922905521625 := 0
def tw13011234715227807883 := 0
def tw14471850894050976923 := 0
def tw11629882364871072225 := 0
def tw7086474542257725142 := 0
def tw15795595082834754707 := 0
def tw12513105793455822877 := 0
def tw1646211550616595666 := 0
def tw6268625234763725119 := 0
def tw862255477973992245 := 0
def tw10805468125376743610 := 0
def tw11241972902725891900 := 0
def tw17967664925777532040 := 0
def tw5417517561662808618 := 0
def tw10942461073089960050 := 0
def tw13391454663985071826 := 0
def tw18282723811249983808 := 0
def tw9090056215153569940 := 0
def tw4268451932423532150 := 0
def tw13900385698215311602 := 0
def tw2589184655510492554 := 0
def tw4702951367422890586 := 0
def tw247005908359687965 := 0
def tw8919004122263290538 := 0
def tw15937403412048132515 := 0
def tw14810503829303476313 := 0
def tw12349444061220570358 := 0
def tw3340138060999673880 := 0
def tw7530176029997044235 := 0
def tw11957602873015678642 := 0
def tw12762950301516253257 := 0
def tw12616953765935572161 := 0
def tw9798304513801686247 := 0
def tw3381064844894799576 := 0
def tw4542640908313359089 := 0
def tw230443899343590672 := 0
def tw5764222165381112198 := 0
def tw3335406341975919238 := 0
def tw8505696810119451797 := 0
def tw14759773282274768963 := 0
def tw1292968491000940640 := 0
def tw13006838151322776745 := 0
def tw17636252024969291406 := 0
def tw8991704178954223554 := 0
def tw6041390483240939494 := 0
def tw16821171980380757208 := 0
def tw425018151182005074 := 0
def tw1138213437345899694 := 0
def tw698707791666115073 := 0
def tw6339799206076625451 := 0
def tw12361418199428527217 := 0
def tw3375815892312006301 := 0
def tw18046881013945949405 := 0
def tw16853051550496342042 := 0
def tw10699523819606855514 := 0
def tw3953150794114146982 := 0
def tw7173376246158510539 := 0
def tw8505162301700154249 := 0
def tw6346027882796119473 := 0
def tw17858038776694393757 := 0
def tw1034774957262520967 := 0
def tw6193966070534060792 := 0
def tw5844573426171931567 := 0
def tw16489995836086409419 := 0
def tw5119147629566932767 := 0
def tw902699698775764678 := 0
def tw11289070783881241147 := 0
def tw3661034299419248986 := 0
def tw17121593541719946203 := 0
def tw2248496220952215691 := 0
def tw7834483529311018477 := 0
end PySem.W.Fast
open PySem PySem.W PyProof.Rows
set_option maxRecDepth 100000 in
set_option maxHeartbeats 0 in
theorem PySem.Challenge.cw_boxproof_k27_texts_of_lines_read_holds : PySem.Challenge.rw_boxproof_k27_texts_of_lines_read.Holds := by
 w_on; o_law; k_head; (case hw => w_witness2)
 k_fill
 refine K27.walk (l := PySem.Challenge.rw_boxproof_k27_texts_of_lines_read) rfl rfl (fun w h Y => W.kIn_of Y) ?F
 case F =>
  intro w mg fa h KX G hmg;refine' K27.all_mk KX G hmg ?Xoa_Runs ?Xa0 ?Xl0 ?Xc0 ?Xk0 ?Xa1 ?Xl1 ?Xc1 ?Xk1 ?Xa2 ?Xl2 ?Xc2 ?Xk2 ?Xa3 ?Xl3 ?Xc3 ?Xk3 ?Xa4 ?Xl4 ?Xc4 ?Xk4 ?Xa5 ?Xl5 ?Xc5 ?Xk5 ?Xa6 ?Xl6 ?Xc6 ?Xk6 ?Xa7 ?Xl7 ?Xc7 ?Xk7 ?Xa8 ?Xl8 ?Xc8 ?Xk8 ?Xa9 ?Xl9 ?Xc9 ?Xk9 ?Xa10 ?Xl10 ?Xc10 ?Xk10 ?Xa11 ?Xl11 ?Xc11 ?Xk11 ?Xa12 ?Xl12 ?Xc12 ?Xk12 ?Xa13 ?Xl13 ?Xc13 ?Xk13 ?Xa14 ?Xl14 ?Xc14 ?Xk14 ?Xa15 ?Xl15 ?Xc15 ?Xk15 ?Xa16 ?Xl16 ?Xc16 ?Xk16 ?Xa17 ?Xl17 ?Xc17 ?Xk17 ?Xa18 ?Xl18 ?Xc18 ?Xk18 ?Xa19 ?Xl19 ?Xc19 ?Xk19 ?Xa20 ?Xl20 ?Xc20 ?Xk20 ?Xa21 ?Xl21 ?Xc21 ?Xk21 ?Xa22 ?Xl22 ?Xc22 ?Xk22 ?Xa23 ?Xl23 ?Xc23 ?Xk23 ?Xa24 ?Xl24 ?Xc24 ?Xk24 ?Xa25 ?Xl25 ?Xc25 ?Xk25 ?Xa26 ?Xl26 ?Xc26 ?Xk26 ?Xa27 ?Xl27 ?Xc27 ?Xk27 ?Xa28 ?Xl28 ?Xc28 ?Xk28 ?Xa29 ?Xl29 ?Xc29 ?Xk29 ?Xa30 ?Xl30 ?Xc30 ?Xk30 ?Xa31 ?Xl31 ?Xc31 ?Xk31 ?Xa32 ?Xl32 ?Xc32 ?Xk32 ?Xa33 ?Xl33 ?Xc33 ?Xk33 ?Xa34 ?Xl34 ?Xc34 ?Xk34 ?Xa35 ?Xi35 ?Xl35 ?Xc35 ?Xk35 ?Xa36 ?Xi36 ?Xl36 ?Xc36 ?Xk36 ?Xa37 ?Xi37 ?Xl37 ?Xc37 ?Xk37 ?Xa38 ?Xi38 ?Xl38 ?Xc38 ?Xk38 ?Xg0 ?Xg1 ?Xg2 ?Xg3 ?Xg4 ?Xg5 ?Xq5 ?Xg6 ?Xg7 ?Xq7 ?Xg8 ?Xq8 ?Xg9 ?Xg10 ?Xg11 ?Xg12 ?Xg13 ?Xog_Runs ?Xoh_Runs ?Xop_Runs ?Xos_Runs ?Xom_Runs ?Xok_Runs ?Xon_Runs_runs ?Xon_Runs_place ?Xxa0 ?Xxl0 ?Xxn0 ?Xxy0 ?Xxp0 ?Xxr0 ?Xxu0 ?Xxv0 ?Xxa1 ?Xxl1 ?Xxn1 ?Xxy1 ?Xxp1 ?Xxr1 ?Xxu1 ?Xxv1 ?Xxa2 ?Xxl2 ?Xxn2 ?Xxy2 ?Xxp2 ?Xxr2 ?Xxu2 ?Xxv2 ?Xxa3 ?Xxl3 ?Xxn3 ?Xxy3 ?Xxp3 ?Xxr3 ?Xxu3 ?Xxv3 ?Xxa4 ?Xxl4 ?Xxn4 ?Xxy4 ?Xxp4 ?Xxr4 ?Xxu4 ?Xxv4 ?Xxa5 ?Xxl5 ?Xxn5 ?Xxy5 ?Xxp5 ?Xxr5 ?Xxu5 ?Xxv5 ?Xxa6 ?Xxl6 ?Xxn6 ?Xxy6 ?Xxp6 ?Xxr6 ?Xxu6 ?Xxv6 ?Xxm_NoStatement_NoStatement ?Xxi_NoStatement_NoStatement ?Xxm_NoStatement_NoLines ?Xxi_NoStatement_NoLines ?Xxm_NoStatement_BoxError ?Xxi_NoStatement_BoxError ?Xxm_NoStatement_NoBox ?Xxi_NoStatement_NoBox ?Xxm_NoStatement_NoName ?Xxi_NoStatement_NoName ?Xxm_NoStatement_NotShut ?Xxi_NoStatement_NotShut ?Xxm_NoStatement_NoWorld ?Xxi_NoStatement_NoWorld ?Xxm_NoLines_NoStatement ?Xxi_NoLines_NoStatement ?Xxm_NoLines_NoLines ?Xxi_NoLines_NoLines ?Xxm_NoLines_BoxError ?Xxi_NoLines_BoxError ?Xxm_NoLines_NoBox ?Xxi_NoLines_NoBox ?Xxm_NoLines_NoName ?Xxi_NoLines_NoName ?Xxm_NoLines_NotShut ?Xxi_NoLines_NotShut ?Xxm_NoLines_NoWorld ?Xxi_NoLines_NoWorld ?Xxi_NoStatement_ValueError ?Xxi_NoLines_ValueError ?Xz_ValueError ?Xz_all ?Xz_int ?Xz_isinstance ?Xz_len ?Xz_range ?Xz_tuple ?XOK
  case Xoa_Runs|Xa0|Xa1|Xa2|Xa3|Xa4|Xa5|Xa6|Xa7|Xa8|Xa9|Xa10|Xa11|Xa12|Xa13|Xa14|Xa15|Xa16|Xa17|Xa18|Xa19|Xa20|Xa21|Xa22|Xa23|Xa24|Xa25|Xa26|Xa27|Xa28|Xa29|Xa30|Xa31|Xa32|Xa33|Xa34=>(unfold K27.NI;k_is)
  case Xa35|Xa36|Xa37|Xa38=>k_is
  case Xl0|Xl1|Xl2|Xl3|Xl4|Xl5|Xl6|Xl7|Xl8|Xl9|Xl10|Xl11|Xl12|Xl13|Xl14|Xl15|Xl16|Xl17|Xl18|Xl19|Xl20|Xl21|Xl22|Xl23|Xl24|Xl25|Xl26|Xl27|Xl28|Xl29|Xl30|Xl31|Xl32|Xl33|Xl34|Xl35|Xl36|Xl37|Xl38=>(unfold K27.LK;k_is)
  case Xc0|Xc1|Xc2|Xc3|Xc4|Xc5|Xc6|Xc7|Xc8|Xc9|Xc10|Xc11|Xc12|Xc13|Xc14|Xc15|Xc16|Xc17|Xc18|Xc19|Xc20|Xc21|Xc22|Xc23|Xc24|Xc25|Xc26|Xc27|Xc28|Xc29|Xc30|Xc31|Xc32|Xc33|Xc34|Xc35|Xc36|Xc37|Xc38=>(unfold K27.CI;k_is)
  case Xk0|Xk1|Xk2|Xk3|Xk4|Xk5|Xk6|Xk7|Xk8|Xk9|Xk10|Xk11|Xk12|Xk13|Xk14|Xk15|Xk16|Xk17|Xk18|Xk19|Xk20|Xk21|Xk22|Xk23|Xk24|Xk25|Xk26|Xk27|Xk28|Xk29|Xk30|Xk31|Xk32|Xk33|Xk34|Xk35|Xk36|Xk37|Xk38=>(unfold K27.KI;k_is)
  case Xi35|Xi36|Xi37|Xi38|Xg0|Xg1|Xg2|Xg3|Xg4|Xg5|Xg6|Xg7|Xg8|Xg9|Xg10|Xg11|Xg12|Xg13|Xog_Runs|Xoh_Runs|Xop_Runs|Xos_Runs|Xom_Runs|Xok_Runs|Xon_Runs_runs|Xon_Runs_place|Xxa0|Xxl0|Xxn0|Xxp0|Xxr0|Xxu0|Xxv0|Xxa1|Xxl1|Xxn1|Xxp1|Xxr1|Xxu1|Xxv1|Xxa2|Xxl2|Xxn2|Xxp2|Xxr2|Xxu2|Xxv2|Xxa3|Xxl3|Xxn3|Xxp3|Xxr3|Xxu3|Xxv3|Xxa4|Xxl4|Xxn4|Xxp4|Xxr4|Xxu4|Xxv4|Xxa5|Xxl5|Xxn5|Xxp5|Xxr5|Xxu5|Xxv5|Xxa6|Xxl6|Xxn6|Xxp6|Xxr6|Xxu6|Xxv6|Xxm_NoStatement_NoStatement|Xxm_NoStatement_NoLines|Xxm_NoStatement_BoxError|Xxm_NoStatement_NoBox|Xxm_NoStatement_NoName|Xxm_NoStatement_NotShut|Xxm_NoStatement_NoWorld|Xxm_NoLines_NoStatement|Xxm_NoLines_NoLines|Xxm_NoLines_BoxError|Xxm_NoLines_NoBox|Xxm_NoLines_NoName|Xxm_NoLines_NotShut|Xxm_NoLines_NoWorld|Xz_ValueError|Xz_all|Xz_int|Xz_isinstance|Xz_len|Xz_range|Xz_tuple=>k_is
  case Xq5|Xq7|Xq8=>(unfold K27.TL;k_is)
  (case Xxy0 => rfl)
  (case Xxy1 => rfl)
  (case Xxy2 => rfl)
  (case Xxy3 => rfl)
  (case Xxy4 => rfl)
  (case Xxy5 => rfl)
  (case Xxy6 => rfl)
  (case Xxi_NoStatement_NoStatement => kit_is)
  (case Xxi_NoStatement_NoLines => kit_is)
  (case Xxi_NoStatement_BoxError => kit_is)
  (case Xxi_NoStatement_NoBox => kit_is)
  (case Xxi_NoStatement_NoName => kit_is)
  (case Xxi_NoStatement_NotShut => kit_is)
  (case Xxi_NoStatement_NoWorld => kit_is)
  (case Xxi_NoLines_NoStatement => kit_is)
  (case Xxi_NoLines_NoLines => kit_is)
  (case Xxi_NoLines_BoxError => kit_is)
  (case Xxi_NoLines_NoBox => kit_is)
  (case Xxi_NoLines_NoName => kit_is)
  (case Xxi_NoLines_NotShut => kit_is)
  (case Xxi_NoLines_NoWorld => kit_is)
  (case Xxi_NoStatement_ValueError => kit_is)
  (case Xxi_NoLines_ValueError => kit_is)
  case XOK => exact fun P D base T => K27.ok_law T
#print axioms PySem.Challenge.cw_boxproof_k27_texts_of_lines_read_holds