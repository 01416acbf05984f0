import PyProof.Rows.All
import Wide.All
import OpenK.AllK
import Wide.FinOn
import Lean
import PyProof.EqAt
import PyProof.EqKinds
import PyProof.TupleCall
import PyProof.StrCalls
import PyProof.StrCalls2
import PyProof.FitsReplace
import PyProof.StrOps2
import PyProof.StrCalls6
import PyProof.ToksMono
import PyProof.StationsW
import PyProof.PassesOwn
import PyProof.Rows.CatchOwn
import PyProof.Rows.CatchBare
import PyProof.Rows.Own
import PyProof.ExcAttrAll.ValueError
import PyProof.ExcBaseAll.ValueError
import KE.RegKIsAll
import PyProof.FString4
import PyProof.StrLawsRepr
import PyProof.StrLawsReplace
import PyProof.NeKinds
import PyProof.ConsumeWalk
import PyProof.SumWalkG
import PyProof.ListRange
import KE.KTab
import PyProof.EnumFor
import PyProof.EnumStmt
import PyProof.EnumMake
import PyProof.TupleIter
import PyProof.ZipIter
import PyProof.Rows.ZipGen
import PyProof.MeetsDict
import PyProof.DictList
import PyProof.FactsAll.dict
import PyProof.DictIter
import PyProof.DictWalks
import PyProof.MeetsDictList
import PyProof.Rows.SortShellK
import PyProof.Rows.SortStr
import PyProof.FactsAll.tuple_2
import PyProof.DictRoadsH
import PyProof.AutoListH
import PyProof.Conv_int_bool
import PyProof.Rows.StrCut
import KE.KIntText
import PySem.Challenge.RW_boxproof_k17_texts_of_worlds_read
set_option Elab.async false
set_option linter.all false
set_option maxRecDepth 100000
set_option maxHeartbeats 4000000
set_option compiler.extract_closed false
abbrev ZQ := PySem.Value -> PySem.Shared -> Prop
abbrev ZP := List (PySem.Addr × PySem.Obj)
theorem ω {p : Prop} (h : p := by omega) : p := h
theorem δ {p : Prop} (h : p := by decide) : p := h
theorem ς {p : Prop} (h : p := by simp) : p := h
theorem ρ {p : Prop} (h : p := by rfl) : p := h
namespace L2
open PySem PySem.Spec PyProof.Rows
def _root_.yaa := @wpAny_bind
def _root_.yab := @wpAny_pure
def _root_.yac := @Heap.get?_push_of_some
def _root_.yad := @List.size_toArray
def _root_.yae := @List.length_append
def _root_.yaf := @List.length_map
def _root_.yag := @List.getElem?_eq_some_iff
def _root_.yah := @List.mem_singleton
def _root_.yai := @Nat.le_refl
def _root_.yaj := @Heap.get?_push_size
def _root_.yak := @Int.emod_lt_of_pos
def _root_.yal := @List.getElem?_eq_getElem
def _root_.yam := @Bool.false_ne_true
def _root_.yan := @Heap.lt_size
def _root_.yao := @Int.emod_nonneg
def _root_.yap := @PySem.boot_len
def _root_.yaq := @Nat.zero_le
def _root_.yar := @PySem.F.plainAttrs_list
def _root_.yas := @List.length_singleton
def _root_.yat := @Nat.le_trans
def _root_.yau := @List.mem_cons
def _root_.yav := @List.getElem?_map
def _root_.yaw := @PySem.F.type_list_append
def _root_.yax := @Classical.byContradiction
def _root_.yay := @List.mem_append
def _root_.ya0 := @List.map_append
def _root_.ya1 := @List.mem_of_getElem?
def _root_.ya3 := @List.length_take
def _root_.ya4 := @Int.toNat_natCast
def _root_.ya5 := @List.getElem?_append_left
def _root_.ya6 := @List.mem_map
def _root_.ya7 := @of_decide_eq_true
def _root_.ya8 := @decide_eq_false
def _root_.ya9 := @decide_eq_true
abbrev Key := Sum Int Str
def keyIs : Key -> Value -> Bool
 | .inl k, v => Value.isInt k v
 | .inr x, v => Value.isStrOf x v
def keyH (w : World) : Key -> Int
 | .inl k => hashInt k
 | .inr x => hashStr w x
theorem keyIs_shape : ∀ {k : Key} {v : Value}, keyIs k v = true -> (∃ i t, k = Sum.inl i /\ v = Value.int i t) \/ (∃ x t, k = Sum.inr x /\ v = Value.str x t)
 | .inl i, v, h => by
  obtain ⟨t, e⟩ := Value.isInt_shape (k := i) (v := v) h;exact .inl ⟨i, t, rfl, e⟩
 | .inr x, v, h => by
  obtain ⟨t, e⟩ := Value.isStrOf_shape (x := x) (v := v) h;exact .inr ⟨x, t, rfl, e⟩
theorem zgV (x : Str) (t : Tok) : keyIs (.inr x) (.str x t) = true := by simp [keyIs, Value.isStrOf]
theorem zl7 (a b : Int) : decide ((Sum.inl a : Key) = Sum.inl b) = (a == b) := by
 by_cases e : a = b
 ·subst e; simp
 ·have h : ¬ (Sum.inl a : Key) = Sum.inl b := fun q => e (Sum.inl.inj q);rw [ya8 h];exact (beq_eq_false_iff_ne.mpr e).symm
theorem zl8 (a b : Str) : decide ((Sum.inr a : Key) = Sum.inr b) = decide (a = b) := by
 by_cases e : a = b
 ·subst e; simp
 ·have h : ¬ (Sum.inr a : Key) = Sum.inr b := fun q => e (Sum.inr.inj q);rw [ya8 h, ya8 e]
theorem zl9 (a : Int) (b : Str) : decide ((Sum.inl a : Key) = Sum.inr b) = false := ya8 (fun q => nomatch q)
theorem zlA (a : Str) (b : Int) : decide ((Sum.inr a : Key) = Sum.inl b) = false := ya8 (fun q => nomatch q)
def mixKind (prog : Program) (w : World) : PySem.KeyKind prog w Key where
 is := keyIs
 hash := keyH w
 inj := fun v a b ha hb => by
  rcases keyIs_shape ha with ⟨i, t, rfl, rfl⟩ | ⟨x, t, rfl, rfl⟩
  ·rcases keyIs_shape hb with ⟨j, u, rfl, e⟩ | ⟨y, u, rfl, e⟩
   ·injection e with e1 _; rw [e1]
   ·exact nomatch e
  ·rcases keyIs_shape hb with ⟨j, u, rfl, e⟩ | ⟨y, u, rfl, e⟩
   ·exact nomatch e
   ·injection e with e1 _; rw [e1]
 byValue := fun k v h => by
  rcases keyIs_shape h with ⟨i, t, rfl, rfl⟩ | ⟨x, t, rfl, rfl⟩ <;> rfl
 pyHash := fun hv h => by
  rcases keyIs_shape hv with ⟨i, t, rfl, rfl⟩ | ⟨x, t, rfl, rfl⟩
  ·exact wpAny_pyHash_int h
  ·exact wpAny_pyHash_str h
 eqBool := fun hu hv h => by
  rcases keyIs_shape hu with ⟨i, t, rfl, rfl⟩ | ⟨x, t, rfl, rfl⟩
  ·rcases keyIs_shape hv with ⟨j, u, rfl, rfl⟩ | ⟨y, u, rfl, rfl⟩
   ·rw [zl7] at h; exact wpAny_eqBool_int h
   ·rw [zl9] at h; exact SeqAt.EqAt.int_str i t y u _ _ _ _ h
  ·rcases keyIs_shape hv with ⟨j, u, rfl, rfl⟩ | ⟨y, u, rfl, rfl⟩
   ·rw [zlA] at h; exact SeqAt.EqAt.str_int x t j u _ _ _ _ h
   ·rw [zl8] at h; exact wpAny_eqBool_str h
 «strs» := fun k x t v h => by
  rcases keyIs_shape h with ⟨i, u, rfl, e⟩ | ⟨y, u, rfl, e⟩
  ·exact nomatch e
  ·injection e with e1 _
   subst e1;cases v <;> rfl
theorem zdk (prog : Program) (w : World) (x : Str) (t : Tok) : (mixKind prog w).is (.inr x) (.str x t) = true := zgV x t
inductive V where
 | non | bl (b : Bool) | int (i : Int) | str (x : Str) | byt (b : Array UInt8) | flt (b : UInt64) | ref (a : Addr) | ty (n : String)
 deriving DecidableEq
def RelV : V -> Value -> Prop
 | .non, u => u = Value.none
 | .bl b, u => u = Value.bool b
 | .int i, u => ∃ t, u = Value.int i t
 | .str x, u => ∃ t, u = Value.str x t
 | .byt b, u => ∃ t, u = Value.bytes b t
 | .flt b, u => ∃ t, u = Value.float b t
 | .ref a, u => u = Value.ref a
 | .ty n, u => u = Value.type n
abbrev Vals : List V -> List Value -> Prop := Paired RelV
theorem Vals.length {xs : List V} {us : List Value} (r : Vals xs us) : xs.length = us.length := Paired.length r
theorem Vals.get : ∀ {xs : List V} {us : List Value} {i : Nat} {x : V}, Vals xs us -> xs[i]? = some x -> ∃ u, us[i]? = some u /\ RelV x u
 | _, _, _, _, .nil, e => by simp at e
 | _, _, 0, _, .cons r _, e => by simp at e; subst e; exact ⟨_, rfl, r⟩
 | _, _, i + 1, x, .cons _ t, e => by
  obtain ⟨u, h1, h2⟩ := Vals.get (i := i) (x := x) t (by simpa using e);exact ⟨u, by simpa using h1, h2⟩
theorem Vals.set {x : V} {u : Value} (r : RelV x u) : ∀ {xs : List V} {us : List Value} (i : Nat), Vals xs us -> Vals (xs.set i x) (us.set i u)
 | _, _, _, .nil => .nil
 | _, _, 0, .cons _ t => .cons r t
 | _, _, i + 1, .cons q t => .cons q (Vals.set r i t)
theorem Vals.append : ∀ {xs ys : List V} {us ws : List Value}, Vals xs us -> Vals ys ws -> Vals (xs ++ ys) (us ++ ws)
 | _, _, _, _, .nil, s => s
 | _, _, _, _, .cons r t, s => .cons r (Vals.append t s)
theorem Vals.take : ∀ {xs : List V} {us : List Value} (n : Nat), Vals xs us -> Vals (xs.take n) (us.take n)
 | _, _, 0, _ => .nil
 | _, _, _ + 1, .nil => .nil
 | _, _, n + 1, .cons r t => .cons r (Vals.take n t)
theorem Vals.drop : ∀ {xs : List V} {us : List Value} (n : Nat), Vals xs us -> Vals (xs.drop n) (us.drop n)
 | _, _, 0, r => r
 | _, _, _ + 1, .nil => .nil
 | _, _, n + 1, .cons _ t => Vals.drop n t
def RelO : Option V -> Option Value -> Prop
 | some v, some u => RelV v u
 | none, none => True
 | _, _ => False
def KV {κ : Type} : List (κ × V) -> List (κ × Value) -> Prop := Paired fun (p : κ × V) (q : κ × Value) => p.1 = q.1 /\ RelV p.2 q.2
def kV : Key -> V
 | .inl i => .int i
 | .inr x => .str x
inductive HO where
 | lst (xs : List V)
 | tup (xs : List V)
 | dK (kvs : List (Key × V)) | dT (kvs : List (List Key × V))
 | set (S : Int -> Bool) (n : Nat)
 | ins (C dx : Addr) (fs : List (Str × V))
 | own (x : Addr)
 | xd (fs : List (Str × V))
 | met (f x : Addr)
 | rng (lo hi : Int)
 | frz (o : Obj) (u : HO)
 | tbl (ps : Array Value)
 | ext (φ : Heap -> Prop)
abbrev Hp := Addr -> Option HO
def upd (H : Hp) (a : Addr) (o : HO) : Hp := fun b => if b = a then some o else H b
theorem zae {H : Hp} {a : Addr} {o : HO} : upd H a o a = some o := by unfold upd; rw [if_pos rfl]
theorem za6 {H : Hp} {a b : Addr} {o : HO} (h : b ≠ a) : upd H a o b = H b := by unfold upd; rw [if_neg h]
theorem zgW {H : Hp} {a : Addr} {o u : HO} : upd (upd H a o) a u = upd H a u := by
 funext b; unfold upd; split <;> rfl
theorem zaF {H : Hp} {a b : Addr} {o : HO} (h : H a = some o) (h' : H b = none) : a ≠ b := by
 intro e; subst e; rw [h] at h'; cases h'
section
variable (P : Program) (w : World)
def ObjOk (H : Hp) (h : Heap) (a : Addr) : HO -> Prop
 | .lst xs => xs.length <= sizeLine /\ ∃ (its : List Value) (n : Nat), Vals xs its /\ h.get? a = some { cls := .type "list", data := .seq its.toArray n }
 | .tup xs => xs.length <= sizeLine /\ ∃ its : List Value, Vals xs its /\ IsTup h a its.toArray
 | .dK kvs => kvs.length <= sizeLine /\ (a == sysModules) = false /\ ∃ vs, KV kvs vs /\ h.DictOf (mixKind P w) a vs
 | .dT kvs => kvs.length <= sizeLine /\ (a == sysModules) = false /\ ∃ xs : List (List Key × Addr × Value),
   Paired (fun (p : List Key × V) (q : List Key × Addr × Value) => p.1 = q.1 /\ H q.2.1 = some (.tup (p.1.map kV)) /\ RelV p.2 q.2.2) kvs xs /\
   ∃ o es ep, h.get? a = some o /\ o.ExactDict /\ o.data = .dict es ep /\ es.toList = xs.map (entryOfKey (tupleKind (mixKind P w))) /\ (xs.map (·.1)).Nodup
 | .set S n => h.SetOf (intKind P w) a S n
 | .ins C dx fs => H dx = some (.own a) /\ fs.length <= 1000 /\ dx ≠ a /\ h.get? a = some (W.instObj C dx) /\
   ∃ mA, h.Ns1 dx mA /\ (∀ f, RelO (fs.lookup f) (mA f)) /\ PySem.Within mA (fs.map (·.1))
 | .own _ => ∃ o, h.get? a = some o
 | .xd fs => ∃ mA, h.Ns1 a mA /\ ∀ f, RelO (fs.lookup f) (mA f)
 | .rng lo hi => ∃ t u v, h.get? a = some { cls := .type "range", data := .fields #[.int lo t, .int hi u, .int 1 v] }
 | .frz o u => h.get? a = some o /\ ObjOk H h a u
 | .tbl ps => h.get? a = some { cls := .none, data := .fields ps }
 | .met f x => h.get? a = some (W.methodObj (.ref f) (.ref x))
 | .ext φ => φ h /\ (∃ o, h.get? a = some o) /\ ∀ h1 h2 : Heap, φ h1 -> (∀ o, h1.get? a = some o -> h2.get? a = some o) -> φ h2
def HOk (H : Hp) (h : Heap) : Prop := ∀ a o, H a = some o -> ObjOk P w H h a o
end
section
variable {P : Program} {w : World} {H H' : Hp} {h h' : Heap} {a : Addr} {o : HO}
theorem ObjOk.lt (x : ObjOk P w H h a o) : a < h.objs.size := by
 cases o with
 | lst xs => obtain ⟨_, _, _, _, e⟩ := x; exact yan e
 | tup xs => obtain ⟨_, _, _, p⟩ := x; exact p.lt
 | dK kvs => obtain ⟨_, _, _, _, o, _, _, e, _⟩ := x; exact yan e
 | dT kvs => obtain ⟨_, _, _, _, o, _, _, e, _⟩ := x; exact yan e
 | set S n => obtain ⟨o, _, _, _, e, _⟩ := x; exact yan e
 | ins C dx fs => obtain ⟨_, _, _, e, _⟩ := x; exact yan e
 | own y => obtain ⟨_, e⟩ := x; exact yan e
 | xd fs => obtain ⟨_, ⟨_, _, _, e, _⟩, _⟩ := x; exact yan e
 | rng lo hi => obtain ⟨_, _, _, e⟩ := x; exact yan e
 | frz ob u => obtain ⟨e, _⟩ := x; exact yan e
 | tbl ps => exact yan (show h.get? a = some _ from x)
 | met f y => exact yan (show h.get? a = some _ from x)
 | ext φ => obtain ⟨_, ⟨_, e⟩, _⟩ := x; exact yan e
theorem Paired.mapP {α β : Type} {F G : α -> β -> Prop} : ∀ {l₁ : List α} {l₂ : List β}, Paired F l₁ l₂ -> (∀ a b, F a b -> G a b) -> Paired G l₁ l₂
 | _, _, .nil, _ => .nil
 | _, _, .cons r t, f => .cons (f _ _ r) (Paired.mapP t f)
theorem ObjOk.stay (x : ObjOk P w H h a o) (k : ∀ b u, (b = a \/ H b = some (.own a)) -> h.get? b = some u -> h'.get? b = some u)
  (ho : ∀ b, H b = some (.own a) -> H' b = some (.own a)) (ht : ∀ b xs, H b = some (.tup xs) -> H' b = some (.tup xs)) : ObjOk P w H' h' a o := by
 induction o with
 | lst xs => obtain ⟨z, its, n, r, e⟩ := x; exact ⟨z, its, n, r, k _ _ (.inl rfl) e⟩
 | tup xs => obtain ⟨z, its, r, ob, e, c⟩ := x; exact ⟨z, its, r, ob, k _ _ (.inl rfl) e, c⟩
 | dK kvs => obtain ⟨z, y, vs, r, ob, es, ep, e, c⟩ := x; exact ⟨z, y, vs, r, ob, es, ep, k _ _ (.inl rfl) e, c⟩
 | dT kvs =>
  obtain ⟨z, y, xs, r, ob, es, ep, e, c⟩ := x;exact ⟨z, y, xs, Paired.mapP r fun p q z => ⟨z.1, ht _ _ z.2.1, z.2.2⟩, ob, es, ep, k _ _ (.inl rfl) e, c⟩
 | set S n => obtain ⟨ob, es, ep, t, e, c⟩ := x; exact ⟨ob, es, ep, t, k _ _ (.inl rfl) e, c⟩
 | ins C dx fs =>
  obtain ⟨d, z, ne, e, mA, ⟨od, es, ep, e2, c⟩, r⟩ := x;exact ⟨ho _ d, z, ne, k _ _ (.inl rfl) e, mA, ⟨od, es, ep, k _ _ (.inr d) e2, c⟩, r⟩
 | own y => obtain ⟨ob, e⟩ := x; exact ⟨ob, k _ _ (.inl rfl) e⟩
 | xd fs => obtain ⟨mA, ⟨od, es, ep, e, c⟩, r⟩ := x; exact ⟨mA, ⟨od, es, ep, k _ _ (.inl rfl) e, c⟩, r⟩
 | rng lo hi => obtain ⟨t, u, v, e⟩ := x; exact ⟨t, u, v, k _ _ (.inl rfl) e⟩
 | frz ob u ih => obtain ⟨e, q⟩ := x; exact ⟨k _ _ (.inl rfl) e, ih q⟩
 | tbl ps =>
  have e : h.get? a = some { cls := .none, data := .fields ps } := x;show h'.get? a = some { cls := .none, data := .fields ps };exact k a _ (.inl rfl) e
 | met f y =>
  have e : h.get? a = some (W.methodObj (.ref f) (.ref y)) := x;show h'.get? a = some (W.methodObj (.ref f) (.ref y));exact k a _ (.inl rfl) e
 | ext φ => obtain ⟨p, ⟨o, e⟩, st⟩ := x; exact ⟨st _ _ p fun o q => k _ _ (.inl rfl) q, ⟨o, k _ _ (.inl rfl) e⟩, st⟩
theorem HOk.lt (x : HOk P w H h) (e : H a = some o) : a < h.objs.size := (x a o e).lt
theorem HOk.fresh (x : HOk P w H h) (e : h.objs.size <= a) : H a = none := by
 cases q : H a with
 | none => rfl
 | some u => exact absurd (Nat.lt_of_lt_of_le (x.lt q) e) (Nat.lt_irrefl _)
theorem HOk.kept (x : HOk P w H h) (k : ∀ b u, h.get? b = some u -> h'.get? b = some u) : HOk P w H h' := fun a o e =>
 (x a o e).stay (fun b u _ q => k b u q) (fun _ q => q) fun _ _ q => q
theorem HOk.laid (x : HOk P w H h) (k : ∀ b u, h.get? b = some u -> h'.get? b = some u) (hp : h.objs.size <= a) (new : ObjOk P w (upd H a o) h' a o) : HOk P w (upd H a o) h' := fun b u e => by
 have hn := x.fresh hp
 by_cases hb : b = a
 ·subst hb; rw [zae] at e; cases e; exact new
 ·rw [za6 hb] at e;exact (x b u e).stay (fun c v _ q => k c v q) (fun c q => by rw [za6 (zaF q hn)]; exact q) fun c xs q => by rw [za6 (zaF q hn)]; exact q
end
def Rd (H : Hp) (a : Addr) (u : HO) : Prop := H a = some u \/ ∃ o, H a = some (.frz o u)
theorem Rd.ok {P : Program} {w : World} {H : Hp} {h : Heap} {a : Addr} {u : HO} (r : Rd H a u) (x : HOk P w H h) : ObjOk P w H h a u := by
 rcases r with r | ⟨o, r⟩
 ·exact x a u r
 ·obtain ⟨_, q⟩ := x a _ r;exact q
def Mut : Option HO -> Prop
 | some (.lst _) => True
 | some (.dK _) => True
 | some (.dT _) => True
 | some (.set _ _) => True
 | some (.ins _ _ _) => True
 | some (.ext _) => True
 | _ => False
section
variable {P : Program} {w : World} {H : Hp} {h h' : Heap} {x e : Addr} {o' : HO}
theorem HOk.write (ok : HOk P w H h) (mu : Mut (H x)) (he : e = x \/ H e = some (.own x)) (k : ∀ b u, b ≠ e -> h.get? b = some u -> h'.get? b = some u) (heo : ∃ u, h'.get? e = some u)
  (new : ObjOk P w (upd H x o') h' x o') : HOk P w (upd H x o') h' := fun b u q => by
 have nown : ∀ c y, H c = some (.own y) -> c ≠ x := fun c y r z => by subst z; rw [r] at mu; exact mu
 have ntup : ∀ c xs, H c = some (.tup xs) -> c ≠ x := fun c xs r z => by subst z; rw [r] at mu; exact mu
 by_cases hb : b = x
 ·subst hb; rw [zae] at q; cases q; exact new
 ·rw [za6 hb] at q
  by_cases hbe : b = e
  ·have q' : H b = some (.own x) := by
    rcases he with z | z
    ·exact absurd (hbe.trans z) hb
    ·rw [hbe]; exact z
   rw [q] at q'; cases q';obtain ⟨v, hv⟩ := heo;exact ⟨v, by rw [hbe]; exact hv⟩
  ·refine (ok b u q).stay (fun c v hc r => k c v ?_ r) (fun c r => by rw [za6 (nown c b r)]; exact r) fun c xs r => by rw [za6 (ntup c xs r)]; exact r
   rcases hc with rfl | hc
   ·exact hbe
   ·rintro rfl
    rcases he with z | z
    ·exact nown c b hc z
    ·rw [hc] at z; cases z; exact hb rfl
end
structure Un (fs ex : List Addr) (H H' : Hp) (h h' : Heap) : Prop where
 keep : ∀ b o, h.get? b = some o -> H b = none -> b ∉ fs -> b ∉ ex -> h'.get? b = some o
 slot : ∀ b o, h.get? b = some o -> H b = none -> b ∈ fs -> b ∉ ex -> ∃ sl, h'.get? b = some { o with slots := sl }
 free : ∀ b o, h.get? b = some o -> H b = none -> b ∉ ex -> H' b = none
 there : ∀ b o, h.get? b = some o -> b ∉ ex -> ∃ o', h'.get? b = some o'
 tups : ∀ b xs, H b = some (.tup xs) -> H' b = some (.tup xs)
 frzs : ∀ b o u, H b = some (.frz o u) -> H' b = some (.frz o u)
 tbls : ∀ b ps, H b = some (.tbl ps) -> ∃ more, H' b = some (.tbl (ps ++ more))
section
variable {fs fs' ex ex' : List Addr} {H H1 H2 : Hp} {h h1 h2 h' : Heap} {a x e : Addr} {o : HO}
theorem Un.any (u : Un fs ex H H1 h h1) {b : Addr} {ob : Obj} (q : h.get? b = some ob) (n : H b = none) (hx : b ∉ ex) : ∃ sl, h1.get? b = some { ob with slots := sl } := by
 by_cases hb : b ∈ fs
 ·exact u.slot b ob q n hb hx
 ·exact ⟨ob.slots, u.keep b ob q n hb hx⟩
theorem Un.kept (k : ∀ b u, h.get? b = some u -> h'.get? b = some u) : Un fs ex H H h h' :=
 ⟨fun b ob q _ _ _ => k b ob q, fun b ob q _ _ _ => ⟨ob.slots, k b ob q⟩, fun _ _ _ n _ => n, fun b ob q _ => ⟨ob, k b ob q⟩, fun _ _ q => q, fun _ _ _ q => q, fun _ ps q => ⟨#[], by rw [q]; simp⟩⟩
theorem Un.refl : Un fs ex H H h h := Un.kept fun _ _ q => q
theorem Un.laid (k : ∀ b u, h.get? b = some u -> h'.get? b = some u) (hp : h.objs.size <= a) (hn : H a = none) : Un fs ex H (upd H a o) h h' where
 keep := fun b u q _ _ _ => k b u q
 slot := fun b u q _ _ _ => ⟨u.slots, k b u q⟩
 free := fun b u q n _ => by rw [za6 (Nat.ne_of_lt (Nat.lt_of_lt_of_le (yan q) hp))]; exact n
 there := fun b u q _ => ⟨u, k b u q⟩
 tups := fun b xs q => by rw [za6 (zaF q hn)]; exact q
 frzs := fun b u xs q => by rw [za6 (zaF q hn)]; exact q
 tbls := fun b ps q => ⟨#[], by rw [za6 (zaF q hn), q]; simp⟩
theorem Un.write (mu : Mut (H x)) (he : e = x \/ H e = some (.own x)) (k : ∀ b u, b ≠ e -> h.get? b = some u -> h'.get? b = some u) (heo : ∃ u, h'.get? e = some u) : Un fs ex H (upd H x o) h h' := by
 have hx : ∀ b, H b = none -> b ≠ x := fun b n z => by subst z; rw [n] at mu; exact mu
 have hb : ∀ b, H b = none -> b ≠ e := fun b n z => by
  subst z;rcases he with r | r
  ·exact hx b n r
  ·rw [n] at r; cases r
 have hm : ∀ b u, H b = some u -> ¬ Mut (some u) -> b ≠ x := fun b u q nm z => by subst z; rw [q] at mu; exact nm mu
 refine ⟨fun b u q n _ _ => k b u (hb b n) q, fun b u q n _ _ => ⟨u.slots, k b u (hb b n) q⟩, fun b u q n _ => by rw [za6 (hx b n)]; exact n, fun b u q _ => ?_,
  fun b xs q => by rw [za6 (hm b _ q fun z => z)]; exact q, fun b u xs q => by rw [za6 (hm b _ q fun z => z)]; exact q, fun b ps q => ⟨#[], by rw [za6 (hm b _ q fun z => z), q]; simp⟩⟩
 by_cases hbe : b = e
 ·subst hbe; exact heo
 ·exact ⟨u, k b u hbe q⟩
end
def trk (h : Heap) (H : Hp) : List Addr := (List.range h.objs.size).filter fun a => (H a).isSome
def hidT (h : Heap) (H : Hp) : Heap := W.hideAll h (trk h H)
theorem zgX (h : Heap) (H : Hp) : (hidT h H).objs.size = h.objs.size := W.hideAll_size _ _
theorem ziM {h : Heap} {H : Hp} {b : Addr} {o : Obj} (e : h.get? b = some o) (n : H b = none) : (hidT h H).get? b = some o :=
 W.hideAll_get _ e fun hm => by
  have q : (H b).isSome = true := (List.mem_filter.mp hm).2;rw [n] at q; simp at q
theorem zkr {h : Heap} {H : Hp} {b : Addr} {o : Obj} (e : (hidT h H).get? b = some o) : h.get? b = some o /\ H b = none := by
 have e' : h.get? b = some o := W.of_hideAll (trk h H) e;refine ⟨e', ?_⟩;cases q : H b with
 | none => rfl
 | some x =>
  have hm : b ∈ trk h H := List.mem_filter.mpr ⟨List.mem_range.mpr (yan e'), by simp [q]⟩;have z : (hidT h H).get? b = none := W.hideAll_none (trk h H) hm;rw [z] at e; cases e
structure Mod (K : W.Frag) (mg : Str -> Option Value) (base : Heap) : Prop where
 kin : K.In base
 glob : base.Ns mainGlobals mg
 blt : ∃ mb, base.Ns builtinsNs mb /\ ∀ x : Str, x ≠ "__name__" -> mb x = bootBuiltins x
 nolimit : base.NoLimit
structure Cx where
 prog : Program
 w : World
 K : W.Frag
 mg : Str -> Option Value
 base : Heap
 A : Around
 N : List Str
 s₀ : Shared
 H₀ : Hp
 env : Env
 outer : List Env
 stack : List Env
 ex : List Addr
 fn : Str -> Bool
 calm : Bool
 pn : ZP
 xe : ZQ
def frs (l : List Env) : List Addr := l.filterMap (·.frame)
abbrev Cx.fs (X : Cx) : List Addr := frs X.outer
def Vis (sc : Scope) (x : Str) : Prop := sc.names.lookup x = some .local \/ sc.names.lookup x = some .cell \/ sc.names.lookup x = some .free
def Loc (sc : Scope) (x : Str) : Prop := sc.names.lookup x = some .local \/ sc.names.lookup x = some .cell
def Look (env : Env) (h : Heap) (m : Str -> Option Value) (x : Str) (u : Value) : Prop :=
 (env.kindOf x = some .local /\ m x = some u) \/ ((env.kindOf x = some .cell \/ env.kindOf x = some .free) /\ ∃ c, env.cells.lookup x = some c /\ h.IsCell c (some u))
structure Cx.Ok (X : Cx) : Prop where
 mod : Mod X.K X.mg X.base
 kind : X.env.scope.kind = .function
 glob : X.env.globals = mainGlobals
 blt : X.env.builtins = builtinsNs
 above : X.s₀.heap.objs.size <= X.env.locals
 inj : ∀ x y c, X.env.cells.lookup x = some c -> X.env.cells.lookup y = some c -> x = y
 has : ∀ x, (X.env.kindOf x = some .cell \/ X.env.kindOf x = some .free) -> ∃ c, X.env.cells.lookup x = some c
 cab : ∀ x c, X.fn x = true -> X.env.cells.lookup x = some c -> X.s₀.heap.objs.size <= c
 hd : X.calm = true -> X.A.handled = none
 frames : X.A.frames = some X.stack
 stk : X.stack = X.outer \/ (X.stack = X.env :: X.outer /\ X.env.frame = some X.env.locals)
 exf : ∀ b ∈ X.ex, b ≠ X.env.locals /\ ∀ x c, X.env.cells.lookup x = some c -> c ≠ b
 bs : ∀ b o, X.base.get? b = some o -> X.s₀.heap.get? b = some o /\ X.H₀ b = none
 bsz : X.base.objs.size <= X.s₀.heap.objs.size
 noex : ∀ b o, X.base.get? b = some o -> b ∉ X.ex
 exfs : ∀ b ∈ X.ex, b ∉ X.fs
 funs : X.s₀.heap.FunFrames X.base X.outer
 frf : ∀ b ∈ X.fs, X.H₀ b = none
structure Inv (X : Cx) (Qa : ZP) (σ : List (Option V)) (H : Hp) (s : Shared) : Prop where
 ok : X.Ok
 os : s.os = X.s₀.os
 bare : AllBare s.gens
 base : Un X.fs X.ex X.H₀ H X.s₀.heap s.heap
 loc : ∃ m, s.heap.Ns X.env.locals m /\ ∀ (i : Nat) (x : Str) (v : V), X.N[i]? = some x -> σ[i]? = some (some v) -> Vis X.env.scope x -> ∃ u, RelV v u /\ Look X.env s.heap m x u
 cell : ∀ x c, X.env.cells.lookup x = some c -> ∃ v, s.heap.IsCell c v
 free : H X.env.locals = none
 freeC : ∀ x c, X.env.cells.lookup x = some c -> H c = none
 pin : ∀ p ∈ X.pn ++ Qa, s.heap.get? p.1 = some p.2 /\ H p.1 = none /\ p.1 ≠ X.env.locals /\ p.1 ∉ X.fs /\ ∀ v, p.2.data ≠ .cell v
 hok : HOk X.prog X.w H s.heap
 len : σ.length = X.N.length
section
variable {X : Cx} {Qa : ZP} {σ : List (Option V)} {H H' : Hp} {s : Shared} {h' : Heap}
theorem Cx.Ok.nofr (ok : X.Ok) {b : Addr} {o : Obj} (e : X.base.get? b = some o) : b ∉ X.fs := fun hb => by
 have := (ok.funs.mem hb).1;rw [e] at this; cases this
theorem Inv.bs (I : Inv X Qa σ H s) : ∀ b o, X.base.get? b = some o -> s.heap.get? b = some o /\ H b = none := fun b o e =>
 ⟨I.base.keep b o (I.ok.bs b o e).1 (I.ok.bs b o e).2 (I.ok.nofr e) (I.ok.noex b o e), I.base.free b o (I.ok.bs b o e).1 (I.ok.bs b o e).2 (I.ok.noex b o e)⟩
theorem Inv.bk (I : Inv X Qa σ H s) : ∀ b o, X.base.get? b = some o -> s.heap.get? b = some o := fun b o e => (I.bs b o e).1
theorem Inv.mod (I : Inv X Qa σ H s) : Mod X.K X.mg X.base := I.ok.mod
theorem Inv.kIn (I : Inv X Qa σ H s) : X.K.In s.heap := I.ok.mod.kin.keeps I.bk
theorem Inv.fr (I : Inv X Qa σ H s) : ∃ m, Fr X.base X.env.locals s.heap m :=
 let ⟨m, hn, _⟩ := I.loc
 ⟨m, hn, I.bk, yat I.ok.bsz I.ok.above⟩
theorem Inv.lt (I : Inv X Qa σ H s) : X.env.locals < s.heap.objs.size := let ⟨_, hn, _⟩ := I.loc; hn.lt
theorem Inv.sz (I : Inv X Qa σ H s) : X.s₀.heap.objs.size <= s.heap.objs.size := yat I.ok.above (Nat.le_of_lt I.lt)
theorem Inv.nofs (I : Inv X Qa σ H s) {a : Addr} (h : s.heap.objs.size <= a) : a ∉ X.fs := fun hb => by
 obtain ⟨_, o, ho, _⟩ := I.ok.funs.mem hb;exact absurd (Nat.lt_of_lt_of_le (yan ho) (yat I.sz h)) (Nat.lt_irrefl _)
theorem Inv.cne (I : Inv X Qa σ H s) : ∀ x c, X.env.cells.lookup x = some c -> c ≠ X.env.locals := fun x c e z => by
 obtain ⟨v, o, ho, hd⟩ := I.cell x c e;obtain ⟨m, ⟨o', es, ep, ho', hd', _⟩, _⟩ := I.loc;rw [z, ho'] at ho; cases ho; rw [hd'] at hd; cases hd
theorem Inv.funs (I : Inv X Qa σ H s) : s.heap.FunFrames X.base X.outer := by
 have all : ∀ (l : List Env), (∀ b ∈ frs l, b ∈ X.fs) -> X.s₀.heap.FunFrames X.base l -> s.heap.FunFrames X.base l := by
  intro l
  induction l with
  | nil => intro _ _; trivial
  | cons env r ih =>
   intro hs hl;obtain ⟨hk, ⟨L, o, hf, hn, ho, hd⟩, hr⟩ := hl;have hL : L ∈ X.fs := hs L (by unfold frs; rw [List.filterMap_cons, hf]; exact List.mem_cons_self);obtain ⟨sl, e⟩ := I.base.slot L o ho (I.ok.frf L hL) hL fun z => I.ok.exfs L z hL;exact ⟨hk, ⟨L, _, hf, hn, e, hd⟩, ih (fun b hb => hs b (by unfold frs; rw [List.filterMap_cons, hf]; exact List.mem_cons_of_mem _ hb)) hr⟩
 exact all X.outer (fun _ hb => hb) I.ok.funs
theorem Inv.stack (I : Inv X Qa σ H s) : s.heap.FunFrames X.base X.stack := by
 rcases I.ok.stk with e | ⟨e, hf⟩
 ·rw [e]; exact I.funs
 ·rw [e];obtain ⟨m, hn, _⟩ := I.loc;refine .cons (by rw [I.ok.kind]; decide) hf hn ?_ I.funs;exact Heap.get?_none_of_le (yat I.ok.bsz I.ok.above)
theorem Inv.stkSub (I : Inv X Qa σ H s) : ∀ b ∈ frs X.stack, b ∈ X.env.locals :: X.fs := fun b hb => by
 rcases I.ok.stk with e | ⟨e, hf⟩
 ·rw [e] at hb; exact List.mem_cons_of_mem _ hb
 ·rw [e] at hb;unfold frs at hb;rw [List.filterMap_cons, hf] at hb;exact hb
theorem Inv.stkFree (I : Inv X Qa σ H s) : ∀ b ∈ frs X.stack, H b = none := fun b hb => by
 rcases yau.mp (I.stkSub b hb) with e | hb
 ·rw [e]; exact I.free
 ·obtain ⟨_, o, ho, _⟩ := I.ok.funs.mem hb;exact I.base.free b o ho (I.ok.frf b hb) fun z => I.ok.exfs b z hb
theorem Inv.step {g' : Array GenState} {t' : Nat} {d' : Drawn} {ch : List Addr} (I : Inv X Qa σ H s)
  (hch : ∀ b ∈ ch, (b ∈ X.ex \/ X.s₀.heap.objs.size <= b) /\ b ≠ X.env.locals /\ (∀ x c, X.env.cells.lookup x = some c -> c ≠ b) /\ ∀ p ∈ X.pn ++ Qa, p.1 ≠ b)
  (keep : ∀ b o, b ≠ X.env.locals -> b ∉ X.fs -> b ∉ ch -> s.heap.get? b = some o -> H b = none -> h'.get? b = some o)
  (slot : ∀ b o, b ≠ X.env.locals -> b ∈ X.fs -> b ∉ ch -> s.heap.get? b = some o -> H b = none -> ∃ sl, h'.get? b = some { o with slots := sl }) (free : ∀ b o, b ∉ ch -> s.heap.get? b = some o -> H b = none -> H' b = none)
  (there : ∀ b o, b ∉ ch -> s.heap.get? b = some o -> ∃ o', h'.get? b = some o')
  (tups : ∀ b xs, H b = some (.tup xs) -> H' b = some (.tup xs)) (frzs : ∀ b o u, H b = some (.frz o u) -> H' b = some (.frz o u)) (tbls : ∀ b ps, H b = some (.tbl ps) -> ∃ more, H' b = some (.tbl (ps ++ more)))
  (ns : ∀ m, s.heap.Ns X.env.locals m -> h'.Ns X.env.locals m) (hok : HOk X.prog X.w H' h') (hg : AllBare g') :
  Inv X Qa σ H' { s with heap := h', gens := g', drawn := d', toks := t' } := by
 have neL : ∀ b o, X.s₀.heap.get? b = some o -> b ≠ X.env.locals := fun b o e => Nat.ne_of_lt (Nat.lt_of_lt_of_le (yan e) I.ok.above);have neC : ∀ b o, X.s₀.heap.get? b = some o -> b ∉ X.ex -> b ∉ ch := fun b o e hx hb => by
  rcases (hch b hb).1 with z | z
  ·exact hx z
  ·exact absurd (Nat.lt_of_lt_of_le (yan e) z) (Nat.lt_irrefl _)
 have cellK : ∀ x c, X.env.cells.lookup x = some c -> ∀ v, s.heap.IsCell c v -> h'.IsCell c v := fun x c e v ⟨o, ho, hd⟩ => by
  have nch : c ∉ ch := fun z => (hch c z).2.2.1 x c e rfl
  by_cases hc : c ∈ X.fs
  ·obtain ⟨sl, q⟩ := slot c o (I.cne x c e) hc nch ho (I.freeC x c e);exact ⟨_, q, hd⟩
  ·exact ⟨o, keep c o (I.cne x c e) hc nch ho (I.freeC x c e), hd⟩
 refine ⟨I.ok, I.os, hg, ⟨fun b o e n hb hx => ?_, fun b o e n hb hx => ?_, fun b o e n hx => ?_, fun b o e hx => ?_, fun b xs e => tups b xs (I.base.tups b xs e), fun b o xs e => frzs b o xs (I.base.frzs b o xs e), fun b ps e => ?_⟩, ?_, fun x c e => ?_, ?_, fun x c e => ?_, fun p hp => ?_, hok, I.len⟩
 ·exact keep b o (neL b o e) hb (neC b o e hx) (I.base.keep b o e n hb hx) (I.base.free b o e n hx)
 ·obtain ⟨sl, e1⟩ := I.base.slot b o e n hb hx;obtain ⟨sl', e2⟩ := slot b _ (neL b o e) hb (neC b o e hx) e1 (I.base.free b o e n hx);exact ⟨sl', e2⟩
 ·obtain ⟨o', e1⟩ := I.base.there b o e hx;exact free b o' (neC b o e hx) e1 (I.base.free b o e n hx)
 ·obtain ⟨o', e1⟩ := I.base.there b o e hx;exact there b o' (neC b o e hx) e1
 ·obtain ⟨m1, e1⟩ := I.base.tbls b ps e;obtain ⟨m2, e2⟩ := tbls b _ e1;exact ⟨m1 ++ m2, by rw [e2, Array.append_assoc]⟩
 ·obtain ⟨m, hn, hl⟩ := I.loc;refine ⟨m, ns m hn, fun i x v e1 e2 e3 => ?_⟩;obtain ⟨u, r, l⟩ := hl i x v e1 e2 e3;refine ⟨u, r, ?_⟩;rcases l with l | ⟨k, c, e, z⟩
  ·exact .inl l
  ·exact .inr ⟨k, c, e, cellK x c e _ z⟩
 ·obtain ⟨v, z⟩ := I.cell x c e;exact ⟨v, cellK x c e v z⟩
 ·obtain ⟨m, ⟨o, _, _, ho, _⟩, _⟩ := I.loc;exact free _ o (fun z => (hch _ z).2.1 rfl) ho I.free
 ·obtain ⟨v, o, ho, hd⟩ := I.cell x c e;exact free c o (fun z => (hch c z).2.2.1 x c e rfl) ho (I.freeC x c e)
 ·obtain ⟨e, n, ne, nf, d⟩ := I.pin p hp;have nch : p.1 ∉ ch := fun z => (hch p.1 z).2.2.2 p hp rfl;exact ⟨keep p.1 p.2 ne nf nch e n, free p.1 p.2 nch e n, ne, nf, d⟩
theorem Inv.un {t' : Nat} (I : Inv X Qa σ H s) (u : Un X.fs [] H H' s.heap h') (hok : HOk X.prog X.w H' h') : Inv X Qa σ H' { s with heap := h', toks := t' } := by
 obtain ⟨m, ⟨o, es, ep, ho, r⟩, _⟩ := id I.loc;obtain ⟨sl, hL⟩ := u.any ho I.free ς;exact I.step (g' := s.gens) (d' := s.drawn) (ch := []) (fun _ z => nomatch z) (fun b o _ hb _ e n => u.keep b o e n hb ς) (fun b o _ hb _ e n => u.slot b o e n hb ς) (fun b o _ e n => u.free b o e n ς) (fun b o _ e => u.there b o e ς) u.tups u.frzs u.tbls (fun m' hm => by
  obtain ⟨o', es', ep', ho', r'⟩ := hm;rw [ho] at ho'; cases ho';exact ⟨_, es', ep', hL, r'⟩) hok I.bare
theorem Inv.call {g' : Array GenState} {t' : Nat} {d' : Drawn} {ch : List Addr} (I : Inv X Qa σ H s) (u : Un (frs X.stack) ch H H' s.heap h') (hok : HOk X.prog X.w H' h') (hg : AllBare g')
  (hch : ∀ b ∈ ch, (b ∈ X.ex \/ X.s₀.heap.objs.size <= b) /\ b ≠ X.env.locals /\ (∀ x c, X.env.cells.lookup x = some c -> c ≠ b) /\ ∀ p ∈ X.pn ++ Qa, p.1 ≠ b) :
  Inv X Qa σ H' { s with heap := h', gens := g', drawn := d', toks := t' } := by
 obtain ⟨m, ⟨o, es, ep, ho, r⟩, _⟩ := id I.loc;obtain ⟨sl, hL⟩ := u.any ho I.free fun z => (hch _ z).2.1 rfl;exact I.step (ch := ch) hch (fun b o hL hb hc e n => u.keep b o e n (fun z => (yau.mp (I.stkSub b z)).elim hL hb) hc) (fun b o _ _ hc e n => u.any e n hc) (fun b o hc e n => u.free b o e n hc) (fun b o hc e => u.there b o e hc) u.tups u.frzs u.tbls (fun m' hm => by
  obtain ⟨o', es', ep', ho', r'⟩ := hm;rw [ho] at ho'; cases ho';exact ⟨_, es', ep', hL, r'⟩) hok hg
theorem Inv.turned {t' : Nat} {it : Addr} (I : Inv X Qa σ H s) (k : ∀ b o, b ≠ it -> s.heap.get? b = some o -> h'.get? b = some o) (hn : H it = none) (hL : it ≠ X.env.locals)
  (h1 : it ∈ X.ex \/ X.s₀.heap.objs.size <= it) (h2 : ∀ x c, X.env.cells.lookup x = some c -> c ≠ it) (h3 : ∀ p ∈ X.pn ++ Qa, p.1 ≠ it) : Inv X Qa σ H { s with heap := h', toks := t' } := by
 have nit : ∀ b u, H b = some u -> b ≠ it := fun b u e z => by rw [z, hn] at e; cases e
 refine I.step (g' := s.gens) (d' := s.drawn) (ch := [it]) (fun b hb => ?_) (fun b o _ _ hc e _ => k b o (fun z => hc (by simp [z])) e) (fun b o _ _ hc e _ => ⟨o.slots, k b o (fun z => hc (by simp [z])) e⟩) (fun _ _ _ _ n => n)
  (fun b o hc e => ⟨o, k b o (fun z => hc (by simp [z])) e⟩) (fun _ _ e => e) (fun _ _ _ e => e) (fun b ps e => ⟨#[], by rw [e]; simp⟩) (fun m hm => ?_) (fun b u e => ?_) I.bare
 ·have e : b = it := by simpa using hb
  subst e;exact ⟨h1, hL, h2, h3⟩
 ·obtain ⟨o, es, ep, ho, r⟩ := hm;exact ⟨o, es, ep, k _ o (Ne.symm hL) ho, r⟩
 ·refine (I.hok b u e).stay (fun c v hc q => k c v ?_ q) (fun _ q => q) fun _ _ q => q;rcases hc with z | z
  ·rw [z]; exact nit b u e
  ·exact nit c _ z
theorem Inv.tok (I : Inv X Qa σ H s) (t : Nat) : Inv X Qa σ H { s with toks := t } := I.un (h' := s.heap) (t' := t) Un.refl I.hok
theorem Inv.kept {t' : Nat} (I : Inv X Qa σ H s) (k : ∀ b u, s.heap.get? b = some u -> h'.get? b = some u) : Inv X Qa σ H { s with heap := h', toks := t' } := I.un (Un.kept k) (I.hok.kept k)
theorem Inv.laid {a : Addr} {o : HO} {t' : Nat} (I : Inv X Qa σ H s) (k : ∀ b u, s.heap.get? b = some u -> h'.get? b = some u) (hp : s.heap.objs.size <= a) (new : ObjOk X.prog X.w (upd H a o) h' a o) :
  Inv X Qa σ (upd H a o) { s with heap := h', toks := t' } := I.un (Un.laid k hp (I.hok.fresh hp)) (I.hok.laid k hp new)
theorem Inv.write {x e : Addr} {o : HO} {t' : Nat} (I : Inv X Qa σ H s) (mu : Mut (H x)) (he : e = x \/ H e = some (.own x)) (k : ∀ b u, b ≠ e -> s.heap.get? b = some u -> h'.get? b = some u) (heo : ∃ u, h'.get? e = some u)
  (new : ObjOk X.prog X.w (upd H x o) h' x o) : Inv X Qa σ (upd H x o) { s with heap := h', toks := t' } := I.un (Un.write mu he k heo) (I.hok.write mu he k heo new)
theorem Inv.weak {σ' : List (Option V)} (I : Inv X Qa σ H s) (hl : σ'.length = σ.length) (w : ∀ (i : Nat) v, σ'[i]? = some (some v) -> σ[i]? = some (some v)) : Inv X Qa σ' H s :=
 ⟨I.ok, I.os, I.bare, I.base, let ⟨m, hn, hl'⟩ := I.loc; ⟨m, hn, fun i x v e1 e2 e3 => hl' i x v e1 (w i v e2) e3⟩, I.cell, I.free, I.freeC, I.pin, I.hok, hl.trans I.len⟩
theorem Inv.pins_of {pins' : ZP} (I : Inv X Qa σ H s) (h : ∀ p ∈ pins', s.heap.get? p.1 = some p.2 /\ H p.1 = none /\ p.1 ≠ X.env.locals /\ p.1 ∉ X.fs /\ ∀ v, p.2.data ≠ .cell v) : Inv X pins' σ H s :=
 ⟨I.ok, I.os, I.bare, I.base, I.loc, I.cell, I.free, I.freeC, fun p hp => (yay.mp hp).elim (fun z => I.pin p (List.mem_append_left _ z)) (h p), I.hok, I.len⟩
theorem zea {N : List Str} (hN : N.Nodup) {i j : Nat} {x : Str} (a : N[i]? = some x) (b : N[j]? = some x) : i = j := by
 obtain ⟨h1, e1⟩ := yag.mp a;obtain ⟨h2, e2⟩ := yag.mp b;exact (List.getElem_inj hN).mp (e1.trans e2.symm)
theorem ze4 {M : Model} {A : Around} {E : ZQ} {i : Nat} {x : Str} {v : V} {u : Value} {Q : Unit -> Shared -> Prop} (I : Inv X Qa σ H s) (hN : X.N.Nodup) (hi : X.N[i]? = some x) (hx : Loc X.env.scope x) (r : RelV v u)
  (h : ∀ s', Inv X Qa (σ.set i (some v)) H s' -> (∃ a, Heap.SameBut a s.heap s'.heap /\ (a = X.env.locals \/ X.env.cells.lookup x = some a)) -> Q () s') (hf : X.fn x = true \/ X.env.scope.names.lookup x = some .local := by first | exact .inl rfl | exact .inr rfl | assumption) : wpAny M A (storeName X.env x u) Q E s := by
 obtain ⟨m, hn, hl⟩ := id I.loc;have hcls : (X.env.scope.kind == .class || (X.env.scope.kind == .module && X.env.locals != X.env.globals)) = false := by rw [I.ok.kind]; rfl
 have hiσ : i < σ.length := by rw [I.len]; exact (yag.mp hi).1
 have cne := I.cne;have tracked : ∀ {a : Addr} {h' : Heap}, (∃ o, s.heap.get? a = some o /\ H a = none) -> Heap.SameBut a s.heap h' -> HOk X.prog X.w H h' := fun {a h'} ha hs b ob e => by
  obtain ⟨_, _, hfree⟩ := ha;refine (I.hok b ob e).stay (fun c w' hc q => (hs.2 c ?_).trans q) (fun _ q => q) fun _ _ q => q
  rintro rfl
  rcases hc with rfl | hc
  ·rw [hfree] at e; cases e
  ·rw [hfree] at hc; cases hc
 rcases hx with hk | hk
 ·refine wpAny_storeName_local hk hn (fun h' hn' hs => ?_) hcls;obtain ⟨oL, _, _, hoL, _⟩ := id hn;refine h _ ⟨I.ok, I.os, I.bare, ⟨fun b o e n hb hx => ?_, fun b o e n hb hx => ?_, I.base.free, fun b o e hx => ?_, I.base.tups, I.base.frzs, I.base.tbls⟩, ⟨_, hn', fun j y v' e1 e2 e3 => ?_⟩, fun y c e => ?_, I.free, I.freeC, fun p hp => ?_, tracked ⟨oL, hoL, I.free⟩ hs, by simpa using I.len⟩ ⟨_, hs, .inl rfl⟩
  ·exact (hs.2 b (Nat.ne_of_lt (Nat.lt_of_lt_of_le (yan e) I.ok.above))).trans (I.base.keep b o e n hb hx)
  ·obtain ⟨sl, e1⟩ := I.base.slot b o e n hb hx;exact ⟨sl, (hs.2 b (Nat.ne_of_lt (Nat.lt_of_lt_of_le (yan e) I.ok.above))).trans e1⟩
  ·obtain ⟨o', e1⟩ := I.base.there b o e hx;exact ⟨o', (hs.2 b (Nat.ne_of_lt (Nat.lt_of_lt_of_le (yan e) I.ok.above))).trans e1⟩
  ·by_cases hj : j = i
   ·subst hj;rw [hi] at e1; cases e1;rw [List.getElem?_set_self hiσ] at e2;cases e2;exact ⟨u, r, .inl ⟨hk,ς⟩⟩
   ·rw [List.getElem?_set_ne (Ne.symm hj)] at e2;obtain ⟨u', r', q⟩ := hl j y v' e1 e2 e3;refine ⟨u', r', ?_⟩;rcases q with ⟨k, e⟩ | ⟨k, c, e, z⟩
    ·refine .inl ⟨k, ?_⟩;have : y ≠ x := fun e => hj (zea hN e1 (e ▸ hi));simp [this, e]
    ·exact .inr ⟨k, c, e, z.sameBut hs (cne y c e)⟩
  ·obtain ⟨w', z⟩ := I.cell y c e;exact ⟨w', z.sameBut hs (cne y c e)⟩
  ·obtain ⟨e, n, ne, nf, d⟩ := I.pin p hp;exact ⟨(hs.2 p.1 ne).trans e, n, ne, nf, d⟩
 ·have hfn : X.fn x = true := by
   rcases hf with z | z
   ·exact z
   ·rw [z] at hk; cases hk
  obtain ⟨c, hc⟩ := I.ok.has x (.inl hk);obtain ⟨w', z⟩ := I.cell x c hc;refine wpAny_storeName_cell I.ok.kind hk hc z (fun h' hc' hs => ?_);obtain ⟨oc, hoc, hocd⟩ := id z;refine h { s with heap := h' } ⟨I.ok, I.os, I.bare, ⟨fun b o e n hb hx => ?_, fun b o e n hb hx => ?_, I.base.free, fun b o e hx => ?_, I.base.tups, I.base.frzs, I.base.tbls⟩, ⟨m, hn.sameBut hs (Ne.symm (cne x c hc)), fun j y v' e1 e2 e3 => ?_⟩, fun y c' e => ?_, I.free, I.freeC, fun p hp => ?_, tracked ⟨oc, hoc, I.freeC x c hc⟩ hs, by simpa using I.len⟩ ⟨c, hs, .inr hc⟩
  ·exact (hs.2 b (Nat.ne_of_lt (Nat.lt_of_lt_of_le (yan e) (I.ok.cab x c hfn hc)))).trans (I.base.keep b o e n hb hx)
  ·obtain ⟨sl, e1⟩ := I.base.slot b o e n hb hx;exact ⟨sl, (hs.2 b (Nat.ne_of_lt (Nat.lt_of_lt_of_le (yan e) (I.ok.cab x c hfn hc)))).trans e1⟩
  ·obtain ⟨o', e1⟩ := I.base.there b o e hx;exact ⟨o', (hs.2 b (Nat.ne_of_lt (Nat.lt_of_lt_of_le (yan e) (I.ok.cab x c hfn hc)))).trans e1⟩
  ·by_cases hj : j = i
   ·subst hj;rw [hi] at e1; cases e1;rw [List.getElem?_set_self hiσ] at e2;cases e2;exact ⟨u, r, .inr ⟨.inl hk, c, hc, hc'⟩⟩
   ·rw [List.getElem?_set_ne (Ne.symm hj)] at e2;obtain ⟨u', r', q⟩ := hl j y v' e1 e2 e3;refine ⟨u', r', ?_⟩;rcases q with q | ⟨k, c', e, z'⟩
    ·exact .inl q
    ·refine .inr ⟨k, c', e, z'.sameBut hs ?_⟩
     rintro rfl
     exact hj (zea hN e1 (I.ok.inj _ _ _ e hc ▸ hi))
  ·by_cases hcc : c' = c
   ·subst hcc; exact ⟨_, hc'⟩
   ·obtain ⟨w2, z2⟩ := I.cell y c' e;exact ⟨w2, z2.sameBut hs hcc⟩
  ·obtain ⟨e, n, ne, nf, d⟩ := I.pin p hp;refine ⟨(hs.2 p.1 ?_).trans e, n, ne, nf, d⟩;intro q;rw [q, hoc] at e;have q' : oc = p.2 := Option.some.inj e;exact d w' (by rw [<- q']; exact hocd)
theorem zcZ {M : Model} {A : Around} {E : ZQ} {i : Nat} {x : Str} {v : V} {u : Value} {Q : Unit -> Shared -> Prop} (I : Inv X Qa σ H s) (hN : X.N.Nodup) (hi : X.N[i]? = some x) (hx : Loc X.env.scope x) (r : RelV v u)
  (h : ∀ s', Inv X Qa (σ.set i (some v)) H s' -> Q () s') (hf : X.fn x = true \/ X.env.scope.names.lookup x = some .local := by first | exact .inl rfl | exact .inr rfl | assumption) : wpAny M A (storeName X.env x u) Q E s :=
 ze4 I hN hi hx r (fun s' I' _ => h s' I') hf
theorem Inv.call' {s' : Shared} {ch : List Addr} (I : Inv X Qa σ H s) (ho : s'.os = s.os) (u : Un (frs X.stack) ch H H' s.heap s'.heap) (hok : HOk X.prog X.w H' s'.heap) (hg : AllBare s'.gens)
  (hch : ∀ b ∈ ch, (b ∈ X.ex \/ X.s₀.heap.objs.size <= b) /\ b ≠ X.env.locals /\ (∀ x c, X.env.cells.lookup x = some c -> c ≠ b) /\ ∀ p ∈ X.pn ++ Qa, p.1 ≠ b) : Inv X Qa σ H' s' := by
 obtain ⟨h', g', d', t', o'⟩ := s';have e : o' = s.os := ho;subst e;exact I.call (g' := g') (t' := t') (d' := d') u hok hg hch
end
abbrev XK := Value -> Option Addr -> Hp -> Prop
abbrev St := List (Option V)
abbrev VK := V -> Hp -> Prop
abbrev TE := St -> Hp -> VK -> Prop
abbrev TT := St -> Hp -> (Bool -> Hp -> Prop) -> Prop
abbrev TA := St -> Hp -> (List V -> Hp -> Prop) -> Prop
structure Ends where
 nx : St -> Hp -> Prop
 rt : VK
 bk : St -> Hp -> Prop := fun _ _ => False
 ct : St -> Hp -> Prop := fun _ _ => False
abbrev TS := Ends -> St -> Hp -> Prop
def EP (X : Cx) (Qa : ZP) (σ : St) (Q : VK) (u : Value) (s' : Shared) : Prop := ∃ v H', Inv X Qa σ H' s' /\ RelV v u /\ Q v H'
def TP (X : Cx) (Qa : ZP) (σ : St) (Q : Bool -> Hp -> Prop) (b : Bool) (s' : Shared) : Prop := ∃ H', Inv X Qa σ H' s' /\ Q b H'
def AP (X : Cx) (Qa : ZP) (σ : St) (Q : List V -> Hp -> Prop) (us : List Value) (s' : Shared) : Prop := ∃ vs H', Inv X Qa σ H' s' /\ Vals vs us /\ Q vs H'
def SP (X : Cx) (Qa : ZP) (D : Ends) (f : Flow) (s' : Shared) : Prop :=
 match f with
 | .next => ∃ σ' H', Inv X Qa σ' H' s' /\ D.nx σ' H'
 | .brk => ∃ σ' H', Inv X Qa σ' H' s' /\ D.bk σ' H'
 | .cont => ∃ σ' H', Inv X Qa σ' H' s' /\ D.ct σ' H'
 | .ret u => ∃ v σ' H', Inv X Qa σ' H' s' /\ RelV v u /\ D.rt v H'
def PE (X : Cx) (e : Expr) (t : TE) : Prop :=
 ∀ (Qa : ZP) (s : Shared) (σ : St) (H : Hp) (Q : VK), Inv X Qa σ H s -> t σ H Q -> wpAny (model X.prog X.w) X.A (eval e X.env) (EP X Qa σ Q) X.xe s
def PT (X : Cx) (e : Expr) (t : TT) : Prop :=
 ∀ (Qa : ZP) (s : Shared) (σ : St) (H : Hp) (Q : Bool -> Hp -> Prop), Inv X Qa σ H s -> t σ H Q -> wpAny (model X.prog X.w) X.A (isTrue e X.env (eval e X.env)) (TP X Qa σ Q) X.xe s
def PW (X : Cx) (e : Expr) (t : TT) : Prop :=
 ∀ (whole : Sem Value) (Qa : ZP) (s : Shared) (σ : St) (H : Hp) (Q : Bool -> Hp -> Prop), Inv X Qa σ H s -> t σ H Q -> wpAny (model X.prog X.w) X.A (isTrue e X.env whole) (TP X Qa σ Q) X.xe s
theorem PW.pt {X : Cx} {e : Expr} {t : TT} (h : PW X e t) : PT X e t := h _
def PA (X : Cx) (es : List Expr) (t : TA) : Prop :=
 ∀ (pos : Pos) (Qa : ZP) (s : Shared) (σ : St) (H : Hp) (Q : List V -> Hp -> Prop), Inv X Qa σ H s -> t σ H Q -> wpAny (model X.prog X.w) X.A (spliced (backTo pos (starEach es X.env))) (AP X Qa σ Q) X.xe s
def PS (X : Cx) (st : Stmt) (t : TS) : Prop :=
 ∀ (Qa : ZP) (s : Shared) (σ : St) (H : Hp) (D : Ends), Inv X Qa σ H s -> t D σ H -> wpAny (model X.prog X.w) X.A (exec st X.env) (SP X Qa D) X.xe s
def PSs (X : Cx) (st : List Stmt) (t : TS) : Prop :=
 ∀ (Qa : ZP) (s : Shared) (σ : St) (H : Hp) (D : Ends), Inv X Qa σ H s -> t D σ H -> wpAny (model X.prog X.w) X.A (execs st X.env) (SP X Qa D) X.xe s
theorem thn {α : Type} {t : Sem α} {Q Q' : α -> Shared -> Prop} {M : Model} {A : Around} {E : ZQ} {s : Shared} (h : wpAny M A t Q E s) (hQ : ∀ a s, Q a s -> Q' a s) : wpAny M A t Q' E s := wpAny_mono h hQ fun _ _ x => x
section
variable {X : Cx}
theorem bin {a b : Expr} {ta tb : TE} (ha : PE X a ta) (hb : PE X b tb) {Qa : ZP} {s : Shared} {σ : St} {H : Hp} {R : V -> V -> Hp -> Prop} (I : Inv X Qa σ H s) (h : ta σ H fun x H1 => tb σ H1 fun y H2 => R x y H2)
  {α : Type} {Q : α -> Shared -> Prop} {f : Value -> Value -> Sem α}
  (hf : ∀ v u s2 x y H2, Inv X Qa σ H2 s2 -> RelV x v -> RelV y u -> R x y H2 -> wpAny (model X.prog X.w) X.A (f v u) Q X.xe s2) :
  wpAny (model X.prog X.w) X.A (eval a X.env) (fun v s₁ => wpAny (model X.prog X.w) X.A (eval b X.env) (fun u s₂ => wpAny (model X.prog X.w) X.A (f v u) Q X.xe s₂) X.xe s₁) X.xe s := by
 refine thn (ha Qa s σ H _ I h) fun v s1 ⟨x, H1, I1, r1, q1⟩ => ?_;refine thn (hb Qa s1 σ H1 _ I1 q1) fun u s2 ⟨y, H2, I2, r2, q2⟩ => ?_;exact hf v u s2 x y H2 I2 r1 r2 q2
def tVar (i : Nat) : TE := fun σ H Q => ∃ v, σ[i]? = some (some v) /\ Q v H
def tC (v : V) : TE := fun _ H Q => Q v H
theorem zlB {i : Nat} {x : Str} {pos : Pos} (hN : X.N[i]? = some x) (hv : Vis X.env.scope x) (hd : (x == ("__debug__" : Str)) = false := by decide) (hcd : (x == ("__classdict__" : Str)) = false := by decide) : PE X (.Name x pos) (tVar i) := by
 intro Qa s σ H Q I h;obtain ⟨v, e, h⟩ := h;obtain ⟨m, hn, hl⟩ := I.loc;obtain ⟨u, r, l⟩ := hl i x v hN e hv;have fin : EP X Qa σ Q u s := ⟨v, H, I, r, h⟩
 rcases l with ⟨hk, hm⟩ | ⟨hk, c, hc, hcell⟩
 ·exact wpAny_Name (wpAny_loadName_local I.ok.kind hk hn hm fin) hd
 ·rcases hk with hk | hk
  ·exact wpAny_Name (wpAny_loadName_cell I.ok.kind hk hc hcell fin) hd
  ·exact wpAny_Name (wpAny_loadName_free I.ok.kind hk hc hcell fin hcd) hd
theorem zab {i j pos} : PE X (.Constant (.int i) j pos) (tC (.int i)) := fun _ _ _ H _ I h => wpAny_Constant_int ⟨.int i, H, I.tok _, ⟨_, rfl⟩, h⟩
theorem zbU {b j pos} : PE X (.Constant (.bool b) j pos) (tC (.bl b)) := fun _ _ _ H _ I h => Constant_bool ⟨.bl b, H, I, rfl, h⟩
theorem zgY {j pos} : PE X (.Constant .none j pos) (tC .non) := fun _ _ _ H _ I h => Constant_none ⟨.non, H, I, rfl, h⟩
theorem zal {x j pos} : PE X (.Constant (.str x) j pos) (tC (.str x)) := fun _ _ _ H _ I h => Calls.Constant_str ⟨.str x, H, I.tok _, ⟨_, rfl⟩, h⟩
def Gl (X : Cx) (x : Str) : Prop := X.env.kindOf x = some .globalImplicit
theorem zcx {E : ZQ} {Qa : ZP} {s : Shared} {σ : St} {H : Hp} {x : Str} {u : Value} {pos : Pos} {Q : ZQ} (I : Inv X Qa σ H s) (hg : Gl X x) (hm : X.mg x = some u) (h : Q u s)
  (hd : (x == ("__debug__" : Str)) = false := by decide) : wpAny (model X.prog X.w) X.A (eval (.Name x pos) X.env) Q E s :=
 Calls.Name_function_global I.ok.kind hg (Calls.loadGlobal_global (by rw [I.ok.glob]; exact I.mod.glob.keeps I.bk) hm h) hd
theorem ze5 {E : ZQ} {Qa : ZP} {s : Shared} {σ : St} {H : Hp} {x : Str} {u : Value} {pos : Pos} {Q : ZQ} (I : Inv X Qa σ H s) (hg : Gl X x) (hm : X.mg x = none) (hv : bootBuiltins x = some u) (h : Q u s)
  (hn : x ≠ "__name__" := by decide) (hd : (x == ("__debug__" : Str)) = false := by decide) : wpAny (model X.prog X.w) X.A (eval (.Name x pos) X.env) Q E s := by
 obtain ⟨mb, h1, h2⟩ := I.mod.blt;exact Calls.Name_function_global I.ok.kind hg (Calls.loadGlobal_builtin (by rw [I.ok.glob]; exact I.mod.glob.keeps I.bk) hm (by rw [I.ok.blt]; exact h1.keeps I.bk) ((h2 x hn).trans hv) h) hd
theorem zby {x : Str} {v : V} {u : Value} {pos : Pos} (hg : Gl X x) (hm : X.mg x = some u) (r : RelV v u) (hd : (x == ("__debug__" : Str)) = false := by decide) : PE X (.Name x pos) (tC v) :=
 fun _ _ _ H _ I h => zcx I hg hm ⟨v, H, I, r, h⟩ hd
theorem zgZ {x : Str} {v : V} {u : Value} {pos : Pos} (hg : Gl X x) (hm : X.mg x = none) (hv : bootBuiltins x = some u) (r : RelV v u) (hn : x ≠ "__name__" := by decide) (hd : (x == ("__debug__" : Str)) = false := by decide) : PE X (.Name x pos) (tC v) :=
 fun _ _ _ H _ I h => ze5 I hg hm hv ⟨v, H, I, r, h⟩ hn hd
variable {a b : Expr} {ta tb : TE} {pos : Pos}
def PC (X : Cx) (op : CmpOp) (a b : Expr) (t : TE) : Prop :=
 ∀ (Qa : ZP) (s : Shared) (σ : St) (H : Hp) (Q : VK), Inv X Qa σ H s -> t σ H Q ->
  wpAny (model X.prog X.w) X.A (eval a X.env) (fun v s₁ => wpAny (model X.prog X.w) X.A (eval b X.env) (fun u s₂ => wpAny (model X.prog X.w) X.A (compareOp op v u) (EP X Qa σ Q) X.xe s₂) X.xe s₁) X.xe s
theorem ziN (b : Expr) {op : CmpOp} (h : op ≠ .In) (h2 : op ≠ .NotIn) : behindInMarks op b = false := by
 have e1 : (op == CmpOp.In) = false := by cases op <;> first | rfl | exact absurd rfl h
 have e2 : (op == CmpOp.NotIn) = false := by cases op <;> first | rfl | exact absurd rfl h2
 cases b <;> simp [behindInMarks, e1, e2]
def tIsN (ta : TE) : TE := fun σ H Q => ta σ H fun x H1 => Q (.bl (decide (x = .non))) H1
theorem RelV.none_iff {x : V} {v : Value} (r : RelV x v) : (v == Value.none) = decide (x = .non) := by
 cases x with
 | non => cases r; rfl
 | bl _ => cases r; rfl
 | int _ => obtain ⟨t, rfl⟩ := r; rfl
 | str _ => obtain ⟨t, rfl⟩ := r; rfl
 | byt _ => obtain ⟨t, rfl⟩ := r; rfl
 | flt _ => obtain ⟨t, rfl⟩ := r; rfl
 | ref _ => cases r; rfl
 | ty _ => cases r; rfl
theorem zlC {j pos'} (ha : PE X a ta) : PC X .Is a (.Constant .none j pos') (tIsN ta) := by
 intro Qa s σ H Q I h;refine thn (ha Qa s σ H _ I h) fun v s1 ⟨x, H1, I1, r1, q1⟩ => ?_;exact Constant_none (is_none_gen ⟨.bl _, H1, I1, by rw [r1.none_iff]; rfl, q1⟩)
def tB (t : TE) : TT := fun σ H Q => t σ H fun x H1 => ∃ c, x = .bl c /\ Q c H1
theorem zlD {op : CmpOp} {t : TE} (h : PC X op a b t) (h1 : behindInMarks op b = false := by first | exact ziN _ δ δ | rfl) : PT X (.Compare a [op] [b] pos) (tB t) := by
 intro Qa s σ H Q I hw;refine wpAny_isTrue_Compare1 (thn (h Qa s σ H _ I hw) fun v s1 h1 => thn h1 fun u s2 h2 => thn h2 fun c s3 ⟨x, H1, I1, r1, q1⟩ => ?_) h1;obtain ⟨d, rfl, q⟩ := q1;cases r1;exact wpAny_truthy_bool ⟨H1, I1, q⟩
theorem zcd {e : Expr} {t : TE} (h : PE X e t) (he : ∀ whole, isTrue e X.env whole = (do let v <- whole; standAt e.pos; holding [v] (truthy v)) := by intro _; rfl) : PT X e (tB t) := by
 intro Qa s σ H Q I hw;refine isTrue_plain (thn (h Qa s σ H _ I hw) fun v s1 ⟨x, H1, I1, r1, q1⟩ => ?_) (he _);obtain ⟨d, rfl, q⟩ := q1;cases r1;exact wpAny_truthy_bool ⟨H1, I1, q⟩
variable {tA tB' : TT} {rest : List Expr}
def tAnd (t u : TT) : TT := fun σ H Q => t σ H fun c H1 => if c = true then u σ H1 Q else Q false H1
def tOr (t u : TT) : TT := fun σ H Q => t σ H fun c H1 => if c = true then Q true H1 else u σ H1 Q
def tNot (t : TT) : TT := fun σ H Q => t σ H fun c H1 => Q (!c) H1
theorem zeb (ha : PT X a tA) : PW X (.BoolOp .And [a] pos) tA := by
 intro wh Qa s σ H Q I h;refine isTrue_and (thn (ha Qa s σ H Q I h) fun c s1 e => ?_);cases c with
 | true => exact isTrue_and_nil e
 | false => exact e
theorem zce (ha : PT X a tA) : PW X (.BoolOp .Or [a] pos) tA := by
 intro wh Qa s σ H Q I h;refine isTrue_or (thn (ha Qa s σ H Q I h) fun c s1 e => ?_);cases c with
 | false => exact isTrue_or_nil e
 | true => exact e
theorem zfI (ha : PT X a tA) (hb : PW X (.BoolOp .And (b :: rest) pos) tB') : PW X (.BoolOp .And (a :: b :: rest) pos) (tAnd tA tB') := by
 intro wh Qa s σ H Q I h;refine isTrue_and (thn (ha Qa s σ H _ I h) fun c s1 ⟨H1, I1, q1⟩ => ?_);cases c with
 | true => exact hb wh Qa s1 σ H1 Q I1 q1
 | false => exact ⟨H1, I1, q1⟩
theorem zcu (ha : PT X a tA) (hb : PW X (.BoolOp .Or (b :: rest) pos) tB') : PW X (.BoolOp .Or (a :: b :: rest) pos) (tOr tA tB') := by
 intro wh Qa s σ H Q I h;refine isTrue_or (thn (ha Qa s σ H _ I h) fun c s1 ⟨H1, I1, q1⟩ => ?_);cases c with
 | true => exact ⟨H1, I1, q1⟩
 | false => exact hb wh Qa s1 σ H1 Q I1 q1
theorem zbY (ha : PT X a tA) : PT X (.UnaryOp .Not a pos) (tNot tA) := by
 intro Qa s σ H Q I h;exact isTrue_not (ha Qa s σ H (fun c H1 => Q (!c) H1) I h)
def zlE (ta tb : TE) : TE := fun σ H Q => ta σ H fun x H1 => ∃ c, x = .bl c /\ if c = true then tb σ H1 Q else Q (.bl false) H1
theorem zdl {op} {t : TE} (h : PE X a t) : PE X (.BoolOp op [a] pos) t := fun Qa s σ H Q I hw => BoolOp_one (h Qa s σ H Q I hw)
theorem zcQ (ha : PE X a ta) (hb : PE X (.BoolOp .And (b :: rest) pos) tb) : PE X (.BoolOp .And (a :: b :: rest) pos) (zlE ta tb) := by
 intro Qa s σ H Q I h;refine BoolOp_and (thn (ha Qa s σ H _ I h) fun v s1 ⟨x, H1, I1, r1, q1⟩ => ?_);obtain ⟨c, rfl, q1⟩ := q1;cases r1;refine wpAny_truthy_bool ?_;cases c with
 | true => exact hb Qa s1 σ H1 Q I1 q1
 | false => exact ⟨.bl false, H1, I1, rfl, q1⟩
end
def SqL (K : W.Frag) (H : Hp) (a : Addr) (xs : List V) : Prop :=
 Rd H a (.lst xs) \/
  ∃ (o : Obj) (its : Array Value) (n : Nat), K.lookup a = some o /\ o.cls = .type "list" /\ o.dict = none /\ o.data = .seq its n /\ its.size <= sizeLine /\ Vals xs its.toList
def SqT (K : W.Frag) (H : Hp) (a : Addr) (xs : List V) : Prop :=
 Rd H a (.tup xs) \/
  ∃ (o : Obj) (its : Array Value) (n : Nat), K.lookup a = some o /\ o.cls = .type "tuple" /\ o.data = .seq its n /\ its.size <= sizeLine /\ Vals xs its.toList
def absV : Value -> Option V
 | .none => some .non
 | .bool b => some (.bl b)
 | .int i _ => some (.int i)
 | .str x _ => some (.str x)
 | .bytes b _ => some (.byt b)
 | .float b _ => some (.flt b)
 | .ref a => some (.ref a)
 | .type n => some (.ty n)
 | _ => none
theorem RelV.abs {x : V} {u : Value} (r : RelV x u) : absV u = some x := by
 cases x with
 | non => cases r; rfl
 | bl _ => cases r; rfl
 | int _ => obtain ⟨t, rfl⟩ := r; rfl
 | str _ => obtain ⟨t, rfl⟩ := r; rfl
 | byt _ => obtain ⟨t, rfl⟩ := r; rfl
 | flt _ => obtain ⟨t, rfl⟩ := r; rfl
 | ref _ => cases r; rfl
 | ty _ => cases r; rfl
theorem RelV.inj {x y : V} {u : Value} (r : RelV x u) (q : RelV y u) : x = y := Option.some.inj (r.abs.symm.trans q.abs)
theorem Vals.inj : ∀ {xs ys : List V} {us : List Value}, Vals xs us -> Vals ys us -> xs = ys
 | _, _, _, .nil, .nil => rfl
 | _, _, _, .cons r t, .cons r' t' => by rw [r.inj r', Vals.inj t t']
section
variable {X : Cx} {Qa : ZP} {σ : St} {H : Hp} {s : Shared} {a : Addr} {xs ys : List V}
theorem SqL.of {K : W.Frag} (h : H a = some (.lst xs)) : SqL K H a xs := .inl (.inl h)
theorem SqT.of {K : W.Frag} (h : H a = some (.tup xs)) : SqT K H a xs := .inl (.inl h)
theorem Inv.list (I : Inv X Qa σ H s) (h : SqL X.K H a xs) : ∃ its : List Value, Vals xs its /\ PlainL s.heap a its.toArray /\ xs.length <= sizeLine := by
 rcases h with h | ⟨o, its, n, hk, hc, hd, hs, hz, r⟩
 ·obtain ⟨z, its, n, r, e⟩ := h.ok I.hok;exact ⟨its, r, ⟨_, n, e, rfl, rfl, rfl⟩, z⟩
 ·refine ⟨its.toList, r, ⟨o, n, I.kIn a o hk, hc, hd, by simpa using hs⟩, ?_⟩;have e := r.length;simp only [Array.length_toList] at e;omega
theorem Inv.tuple (I : Inv X Qa σ H s) (h : SqT X.K H a xs) : ∃ its : List Value, Vals xs its /\ IsTup s.heap a its.toArray /\ xs.length <= sizeLine := by
 rcases h with h | ⟨o, its, n, hk, hc, hs, hz, r⟩
 ·obtain ⟨z, its, r, p⟩ := h.ok I.hok;exact ⟨its, r, p, z⟩
 ·refine ⟨its.toList, r, ⟨o, I.kIn a o hk, hc, n, by simpa using hs⟩, ?_⟩;have e := r.length;simp only [Array.length_toList] at e;omega
theorem Inv.list_inj (I : Inv X Qa σ H s) (h : SqL X.K H a xs) (h' : SqL X.K H a ys) : xs = ys := by
 obtain ⟨its, r, ⟨o, n, e, _, _, d⟩, _⟩ := I.list h;obtain ⟨its', r', ⟨o', n', e', _, _, d'⟩, _⟩ := I.list h';rw [e] at e'; cases e';rw [d] at d'
 injection d' with d1 _
 have : its = its' := by simpa using congrArg Array.toList d1
 subst this;exact r.inj r'
theorem Inv.tuple_inj (I : Inv X Qa σ H s) (h : SqT X.K H a xs) (h' : SqT X.K H a ys) : xs = ys := by
 obtain ⟨its, r, ⟨o, e, _, n, d⟩, _⟩ := I.tuple h;obtain ⟨its', r', ⟨o', e', _, n', d'⟩, _⟩ := I.tuple h';rw [e] at e'; cases e';rw [d] at d'
 injection d' with d1 _
 have : its = its' := by simpa using congrArg Array.toList d1
 subst this;exact r.inj r'
end
abbrev Cx.wish (X : Cx) (E : ZQ) : Cx := { X with xe := E }
abbrev Cx.nox (X : Cx) : Cx := X.wish fun _ _ => False
theorem Cx.Ok.wish {X : Cx} (ok : X.Ok) (E : ZQ) : (X.wish E).Ok :=
 ⟨ok.mod, ok.kind, ok.glob, ok.blt, ok.above, ok.inj, ok.has, ok.cab, ok.hd, ok.frames, ok.stk, ok.exf, ok.bs, ok.bsz, ok.noex, ok.exfs, ok.funs, ok.frf⟩
theorem Cx.Ok.unwish {X : Cx} {E : ZQ} (ok : (X.wish E).Ok) : X.Ok :=
 ⟨ok.mod, ok.kind, ok.glob, ok.blt, ok.above, ok.inj, ok.has, ok.cab, ok.hd, ok.frames, ok.stk, ok.exf, ok.bs, ok.bsz, ok.noex, ok.exfs, ok.funs, ok.frf⟩
section
variable {X : Cx} {Qa : ZP} {σ : St} {H : Hp} {s : Shared} {E : ZQ}
theorem Inv.wish (I : Inv X Qa σ H s) (E : ZQ) : Inv (X.wish E) Qa σ H s := ⟨I.ok.wish E, I.os, I.bare, I.base, I.loc, I.cell, I.free, I.freeC, I.pin, I.hok, I.len⟩
theorem Inv.unwish (I : Inv (X.wish E) Qa σ H s) : Inv X Qa σ H s := ⟨I.ok.unwish, I.os, I.bare, I.base, I.loc, I.cell, I.free, I.freeC, I.pin, I.hok, I.len⟩
theorem SP.unwish {D : Ends} {f : Flow} {s' : Shared} (h : SP (X.wish E) Qa D f s') : SP X Qa D f s' := by
 cases f with
 | next => obtain ⟨σ', H', I, q⟩ := h; exact ⟨σ', H', I.unwish, q⟩
 | brk => obtain ⟨σ', H', I, q⟩ := h; exact ⟨σ', H', I.unwish, q⟩
 | cont => obtain ⟨σ', H', I, q⟩ := h; exact ⟨σ', H', I.unwish, q⟩
 | ret u => obtain ⟨v, σ', H', I, r, q⟩ := h; exact ⟨v, σ', H', I.unwish, r, q⟩
theorem PSs.nox {st : List Stmt} {t : TS} (h : PSs X.nox st t) : PSs X st t := fun Qa s σ H D I hw =>
 wpAny_mono (h Qa s σ H D (I.wish _) hw) (fun _ _ q => q.unwish) fun _ _ z => False.elim z
end
section
variable {X : Cx} {st : Stmt} {rest : List Stmt} {t u : TS} {e : Expr} {te : TE} {pos : Pos}
def zlF : TS := fun D σ H => D.nx σ H
def tSeq (t u : TS) : TS := fun D σ H => t { D with nx := u D } σ H
theorem zay : PSs X [] zlF := fun _ _ σ H _ I h => wpAny_execs_nil ⟨σ, H, I, h⟩
theorem zag (h1 : PS X st t) (h2 : PSs X rest u) : PSs X (st :: rest) (tSeq t u) := by
 intro Qa s σ H D I h;refine wpAny_execs_cons (thn (h1 Qa s σ H { D with nx := u D } I h) fun f s1 q => ?_);cases f with
 | next =>
  obtain ⟨σ', H', I', q⟩ := q;exact h2 Qa s1 σ' H' D I' q
 | ret v => exact q
 | brk => exact q
 | cont => exact q
theorem zah (h1 : PS X st t) : PSs X [st] t := by
 intro Qa s σ H D I h;refine wpAny_execs_cons (thn (h1 Qa s σ H D I h) fun f s1 q => ?_);cases f with
 | next => exact wpAny_execs_nil q
 | ret v => exact q
 | brk => exact q
 | cont => exact q
theorem Inv.quiet {Qa : ZP} {σ : St} {H : Hp} {s : Shared} (I : Inv X Qa σ H s) : interactive X.env = false := by simp [interactive, I.ok.kind]
def zlG (te : TE) : TS := fun D σ H => te σ H fun _ H1 => D.nx σ H1
theorem zcG (he : PE X e te) (hs : swapsWith e none pos.line X.env = pure false := by rfl) : PS X (.Expr e pos) (zlG te) := by
 intro Qa s σ H D I h;exact wpAny_Expr_any (thn (he Qa s σ H _ I h) fun v s1 ⟨x, H1, I1, r1, q1⟩ => ⟨σ, H1, I1, q1⟩) I.quiet hs
def tRet (te : TE) : TS := fun D σ H => te σ H D.rt
theorem zar (he : PE X e te) : PS X (.Return (some e) pos) (tRet te) := by
 intro Qa s σ H D I h;exact wpAny_Return_some (thn (he Qa s σ H _ I h) fun v s1 ⟨x, H1, I1, r1, q1⟩ => ⟨x, σ, H1, I1, r1, q1⟩)
def tIfS (c : TT) (t u : TS) : TS := fun D σ H => c σ H fun b H1 => if b = true then t D σ H1 else u D σ H1
theorem zaS {c : Expr} {a b : List Stmt} {tc : TT} (hc : PT X c tc) (ha : PSs X a t) (hb : PSs X b u) : PS X (.If c a b pos) (tIfS tc t u) := by
 intro Qa s σ H D I h;refine wpAny_If (thn (hc Qa s σ H _ I h) fun d s1 ⟨H1, I1, q1⟩ => ?_);cases d with
 | true => exact ha Qa s1 σ H1 D I1 q1
 | false => exact hb Qa s1 σ H1 D I1 q1
end
abbrev TG := V -> St -> Hp -> (St -> Hp -> Prop) -> Prop
abbrev TGs := List V -> St -> Hp -> (St -> Hp -> Prop) -> Prop
def PG (X : Cx) (target : Expr) (t : TG) : Prop :=
 ∀ (Qa : ZP) (s : Shared) (σ : St) (H : Hp) (v : V) (u : Value) (Q : St -> Hp -> Prop), Inv X Qa σ H s -> RelV v u -> t v σ H Q ->
  wpAny (model X.prog X.w) X.A (assign target X.env u) (fun _ s' => ∃ σ' H', Inv X Qa σ' H' s' /\ Q σ' H') X.xe s
def PGs (X : Cx) (ts : List Expr) (t : TGs) : Prop :=
 ∀ (Qa : ZP) (s : Shared) (σ : St) (H : Hp) (vs : List V) (us : List Value) (Q : St -> Hp -> Prop), Inv X Qa σ H s -> Vals vs us -> t vs σ H Q ->
  wpAny (model X.prog X.w) X.A (assignInOrder ((assignEach ts X.env).map (·.2)) us) (fun _ s' => ∃ σ' H', Inv X Qa σ' H' s' /\ Q σ' H') X.xe s
abbrev TSet := V -> V -> V -> Hp -> (Hp -> Prop) -> Prop
def PSet (X : Cx) (t : TSet) : Prop :=
 ∀ (Qa : ZP) (s : Shared) (σ : St) (H : Hp) (o i v : V) (ov iv u : Value) (Q : Hp -> Prop), Inv X Qa σ H s -> RelV o ov -> RelV i iv -> RelV v u -> t o i v H Q ->
  wpAny (model X.prog X.w) X.A (setItem ov iv u) (fun _ s' => ∃ H', Inv X Qa σ H' s' /\ Q H') X.xe s
abbrev TIp := V -> V -> Hp -> VK -> Prop
def PIp (X : Cx) (op : Operator) (t : TIp) : Prop :=
 ∀ (Qa : ZP) (s : Shared) (σ : St) (H : Hp) (x y : V) (v u : Value) (Q : VK), Inv X Qa σ H s -> RelV x v -> RelV y u -> t x y H Q ->
  wpAny (model X.prog X.w) X.A (inplaceOp op v u) (EP X Qa σ Q) X.xe s
section
variable {X : Cx} {pos : Pos}
def zgx (i : Nat) : TG := fun v σ H Q => Q (σ.set i (some v)) H
theorem zaz {i : Nat} {x : Str} (hN : X.N.Nodup) (hi : X.N[i]? = some x) (hx : Loc X.env.scope x) (hf : X.fn x = true \/ X.env.scope.names.lookup x = some .local := by first | exact .inl rfl | exact .inr rfl | assumption) : PG X (.Name x pos) (zgx i) := by
 intro Qa s σ H v u Q I r h;exact wpAny_assign_Name (zcZ I hN hi hx r (fun s' I' => ⟨_, H, I', h⟩) hf)
def gNil : TGs := fun vs σ H Q => vs = [] /\ Q σ H
def zlH (t : TG) (u : TGs) : TGs := fun vs σ H Q => ∃ v r, vs = v :: r /\ t v σ H fun σ' H' => u r σ' H' Q
theorem zha : PGs X [] gNil := by
 intro Qa s σ H vs us Q I r h;obtain ⟨e, h⟩ := h;subst e;cases r;exact assignInOrder_nil ⟨σ, H, I, h⟩
theorem zda {e : Expr} {es : List Expr} {t : TG} {u : TGs} (h1 : PG X e t) (h2 : PGs X es u)
  (hs : (assignEach (e :: es) X.env).map (·.2) = assign e X.env :: (assignEach es X.env).map (·.2) := by rfl) : PGs X (e :: es) (zlH t u) := by
 intro Qa s σ H vs us Q I r h;obtain ⟨v, vr, e1, h⟩ := h;subst e1;cases r with
 | cons r rr =>
  rw [hs];refine assignInOrder_cons (thn (h1 Qa s σ H _ _ _ I r h) fun _ s1 ⟨σ1, H1, I1, q1⟩ => ?_);exact h2 Qa s1 σ1 H1 _ _ Q I1 rr q1
def gTup (K : W.Frag) (n : Nat) (t : TGs) : TG := fun v σ H Q => ∃ a xs, v = .ref a /\ SqT K H a xs /\ xs.length = n /\ t xs σ H Q
theorem zjL {es : List Expr} {k : Nat} {t : TGs} {n : Nat} (hc : X.calm = true) (h : PGs X es t)
  (hn : (assignEach es X.env).length = n := by rfl) (hst : (assignEach es X.env).findIdx? (·.1) = none := by rfl) : PG X (.Tuple es k pos) (gTup X.K n t) := by
 intro Qa s σ H v u Q I r hw;obtain ⟨a, xs, e1, hq, hl, hw⟩ := hw;subst e1;cases r;obtain ⟨its, rv, ht, hz⟩ := I.tuple hq;refine assign_Tuple_tuple (I.ok.hd hc) ht (by simp [hn, <- hl, rv.length]) hst fun h' hx => ?_;have I1 : Inv X Qa σ H { s with heap := h' } := I.kept (t' := s.toks) fun b o e => hx b o (Nat.ne_of_lt (yan e)) e;exact h Qa _ σ H xs _ Q I1 (by simpa using rv) hw
def gSub (to ti : TE) (t : TSet) : TG := fun v σ H Q => to σ H fun o H1 => ti σ H1 fun i H2 => t o i v H2 fun H3 => Q σ H3
theorem zc0 {o i : Expr} {to ti : TE} {t : TSet} (ho : PE X o to) (hi : PE X i ti) (hs : PSet X t)
  (ha : ∀ v, assign (.Subscript o i pos) X.env v = (do
   let ov <- holding [v] (eval o X.env)
   let iv <- holding [v, ov] (eval i X.env)
   standAt pos
   holding [v, ov, iv] (setItem ov iv v)
   release [v, ov, iv] []) := by intro _; rfl) : PG X (.Subscript o i pos) (gSub to ti t) := by
 intro Qa s σ H v u Q I r h;rw [ha];refine yaa (wpAny_holding (thn (ho Qa s σ H _ I h) fun ov s1 ⟨x, H1, I1, r1, q1⟩ => ?_));refine yaa (wpAny_holding (thn (hi Qa s1 σ H1 _ I1 q1) fun iv s2 ⟨y, H2, I2, r2, q2⟩ => ?_));refine yaa (wpAny_standAt (yaa (wpAny_holding (thn (hs Qa s2 σ H2 x y v ov iv u _ I2 r1 r2 r q2) fun _ s3 ⟨H3, I3, q3⟩ => ?_))));exact wpAny_release ⟨σ, H3, I3, q3⟩
def tAsg (te : TE) (g : TG) : TS := fun D σ H => te σ H fun x H1 => g x σ H1 D.nx
theorem zc1 {tg e : Expr} {te : TE} {g : TG} (he : PE X e te) (hg : PG X tg g) (hs : swapsWithSole [tg] e pos.line X.env = pure false := by rfl) (hw : swappedStores [tg] e X.env = pure none := by rfl)
  (h1 : (assignEach [tg] X.env).map (·.2) = [assign tg X.env] := by rfl) : PS X (.Assign [tg] e pos) (tAsg te g) := by
 intro Qa s σ H D I h;refine wpAny_Assign_stores (thn (he Qa s σ H _ I h) fun v s1 ⟨x, H1, I1, r1, q1⟩ => ?_) hs hw;rw [h1];exact thn (hg Qa s1 σ H1 x v _ I1 r1 q1) fun _ s2 q => q
theorem zax {i : Nat} {x : Str} {e : Expr} {te : TE} {pos' : Pos} (hN : X.N.Nodup) (hi : X.N[i]? = some x) (hx : Loc X.env.scope x) (he : PE X e te) (hs : swapsWith e (some (.Name x pos')) pos.line X.env = pure false := by rfl) (hf : X.fn x = true \/ X.env.scope.names.lookup x = some .local := by first | exact .inl rfl | exact .inr rfl | assumption) :
  PS X (.Assign [.Name x pos'] e pos) (tAsg te (zgx i)) := by
 intro Qa s σ H D I h;refine wpAny_Assign_Name (thn (he Qa s σ H _ I h) fun v s1 ⟨y, H1, I1, r1, q1⟩ => ?_) hs;exact zcZ I1 hN hi hx r1 (fun s2 I2 => ⟨_, H1, I2, q1⟩) hf
def tAug (i : Nat) (te : TE) (ti : TIp) : TS := fun D σ H => ∃ x, σ[i]? = some (some x) /\ te σ H fun y H1 => ti x y H1 fun z H2 => D.nx (σ.set i (some z)) H2
theorem zlI {i : Nat} {x : Str} {e : Expr} {te : TE} {op : Operator} {ti : TIp} {pos' : Pos} (hN : X.N.Nodup) (hi : X.N[i]? = some x) (hx : Loc X.env.scope x) (he : PE X e te) (ho : PIp X op ti) (hf : X.fn x = true \/ X.env.scope.names.lookup x = some .local := by first | exact .inl rfl | exact .inr rfl | assumption) :
  PS X (.AugAssign (.Name x pos') op e pos) (tAug i te ti) := by
 intro Qa s σ H D I h;obtain ⟨v, e1, h⟩ := h;obtain ⟨m, hn, hl⟩ := I.loc;have vis : Vis X.env.scope x := by rcases hx with k | k; exact .inl k; exact .inr (.inl k)
 obtain ⟨u, r, l⟩ := hl i x v hi e1 vis;refine wpAny_AugAssign_Name ?_;have go : wpAny (model X.prog X.w) X.A (eval e X.env) (fun w s₂ => wpAny (model X.prog X.w) X.A (inplaceOp op u w) (fun r s₃ => wpAny (model X.prog X.w) X.A (storeName X.env x r) (fun _ => SP X Qa D .next) X.xe s₃) X.xe s₂) X.xe s := by
  refine thn (he Qa s σ H _ I h) fun w s1 ⟨y, H1, I1, r1, q1⟩ => ?_;refine thn (ho Qa s1 σ H1 v y u w _ I1 r r1 q1) fun z s2 ⟨zv, H2, I2, r2, q2⟩ => ?_;exact zcZ I2 hN hi hx r2 (fun s3 I3 => ⟨_, H2, I3, q2⟩) hf
 rcases l with ⟨hk, hm⟩ | ⟨hk, c, hc, hcell⟩
 ·exact wpAny_loadName_local I.ok.kind hk hn hm go
 ·rcases hk with hk | hk
  ·exact wpAny_loadName_cell I.ok.kind hk hc hcell go
  ·rcases hx with k | k
   ·have : X.env.scope.names.lookup x = some .free := hk;rw [k] at this; cases this
   ·have : X.env.scope.names.lookup x = some .free := hk;rw [k] at this; cases this
def ipI (f : Int -> Int -> Int) : TIp := fun x y H Q => ∃ i j, x = .int i /\ y = .int j /\ Q (.int (f i j)) H
theorem zlJ : PIp X .Add (ipI fun i j => i + j) := by
 intro Qa s σ H x y v u Q I r1 r2 h;obtain ⟨i, j, e1, e2, q⟩ := h;subst e1; subst e2;obtain ⟨t, rfl⟩ := r1;obtain ⟨t', rfl⟩ := r2;exact iadd_int ⟨.int _, H, I.tok _, ⟨_, rfl⟩, q⟩
end
section
variable {X : Cx} {pos : Pos}
def zjM (c : TT) (tb : TS) : TS := fun D σ H => ∃ W : Nat -> St -> Hp -> Prop, (∃ m, W m σ H) /\ ∀ m σ H, W m σ H ->
 c σ H fun b H1 => if b = true then ∃ N : St -> Hp -> Prop, (∀ σ' H', N σ' H' -> ∃ m', m' < m /\ W m' σ' H') /\ tb { D with nx := N, ct := N, bk := D.nx } σ H1 else D.nx σ H1
theorem ziO {c : Expr} {body : List Stmt} {tc : TT} {tb : TS} (hp : PassesOwn (model X.prog X.w) X.A X.env X.xe) (hc : PT X c tc) (hb : PSs X body tb) : PS X (.While c body [] pos) (zjM tc tb) := by
 intro Qa s σ H D I h;obtain ⟨W, ⟨m0, w0⟩, turn⟩ := h;refine wpAny_While (codeAny_whileLoop (fun n s' => ∃ σ' H', Inv X Qa σ' H' s' /\ W n σ' H') ?_ m0 ⟨σ, H, I, w0⟩)
 rintro n s1 ⟨σ1, H1, I1, w1⟩
 refine wpAny_passesOwn hp (thn (hc Qa s1 σ1 H1 _ I1 (turn n σ1 H1 w1)) fun b s2 ⟨H2, I2, q2⟩ => ?_);cases b with
 | true =>
  obtain ⟨N, hN, q2⟩ := q2;rw [if_pos rfl];refine wpAny_passesOwn hp (thn (hb Qa s2 σ1 H2 _ I2 q2) fun f s3 q3 => ?_);cases f with
  | next =>
   obtain ⟨σ3, H3, I3, n3⟩ := q3;obtain ⟨m', hm, w3⟩ := hN σ3 H3 n3;exact ⟨m', hm, σ3, H3, I3, w3⟩
  | cont =>
   obtain ⟨σ3, H3, I3, n3⟩ := q3;obtain ⟨m', hm, w3⟩ := hN σ3 H3 n3;exact ⟨m', hm, σ3, H3, I3, w3⟩
  | brk => exact q3
  | ret v => exact q3
 | false =>
  rw [if_neg yam];exact wpAny_execs_nil ⟨σ1, H2, I2, q2⟩
end
structure It where
 go : Nat -> Hp -> Prop
 yld : Nat -> Hp -> V -> Hp -> Prop
 stop : Nat -> Hp -> Prop
def FpOk (X : Cx) (Qa : ZP) (H : Hp) (b : Addr) : Prop :=
 H b = none /\ b ≠ X.env.locals /\ b ∉ X.fs /\ (b ∈ X.ex \/ X.s₀.heap.objs.size <= b) /\ (∀ x c, X.env.cells.lookup x = some c -> c ≠ b) /\ ∀ p ∈ X.pn ++ Qa, p.1 ≠ b
theorem Inv.fpOk {X : Cx} {Qa : ZP} {σ : St} {H H' : Hp} {s : Shared} {b : Addr} (I : Inv X Qa σ H s) (hb : s.heap.objs.size <= b) (hn : H' b = none) : FpOk X Qa H' b := by
 refine ⟨hn, Nat.ne_of_gt (Nat.lt_of_lt_of_le I.lt hb), I.nofs hb, .inr (yat I.sz hb), fun x c e z => ?_, fun p hp z => ?_⟩
 ·obtain ⟨v, q⟩ := I.cell x c e;exact absurd (Nat.lt_of_lt_of_le q.lt (by rw [z]; exact hb)) (Nat.lt_irrefl _)
 ·exact absurd (Nat.lt_of_lt_of_le (yan (I.pin p hp).1) (by rw [z]; exact hb)) (Nat.lt_irrefl _)
structure Turn (P : Program) (w : World) (K : W.Frag) (tg : Expr) (J : It) (fp : List Addr) (it : Addr) (tn : Nat -> Heap -> Prop) : Prop where
 mem : it ∈ fp
 obj : ∀ i h, tn i h -> ∀ b ∈ fp, ∃ o, h.get? b = some o /\ ∀ v, o.data ≠ .cell v
 keep : ∀ i h h', tn i h -> (∀ b ∈ fp, ∀ o, h.get? b = some o -> h'.get? b = some o) -> tn i h'
 item : ∀ (X : Cx), X.prog = P -> X.w = w -> X.K = K -> X.calm = true -> ∀ (i : Nat) (Qa : ZP) (s : Shared) (σ : St) (H : Hp) (E : ZQ), Inv X Qa σ H s -> (∀ b ∈ fp, FpOk X Qa H b) -> tn i s.heap -> J.go i H ->
  wpAny (model P w) X.A (pyNext (.ref it)) (fun r s1 => ∃ u, r = some u /\
   wpAny (model P w) X.A (letOwnedTupleGo tg (.ref it) u) (fun _ s2 => ∃ x H', Inv X Qa σ H' s2 /\ RelV x u /\ J.yld i H x H' /\ tn (i + 1) s2.heap /\ ∀ b ∈ fp, H' b = none) E s1) E s
 done : ∀ (X : Cx), X.prog = P -> X.w = w -> X.K = K -> X.calm = true -> ∀ (i : Nat) (Qa : ZP) (s : Shared) (σ : St) (H : Hp) (E : ZQ), Inv X Qa σ H s -> (∀ b ∈ fp, FpOk X Qa H b) -> tn i s.heap -> J.stop i H ->
  wpAny (model P w) X.A (pyNext (.ref it)) (fun r s1 => r = none /\ Inv X Qa σ H s1) E s
 self : ∀ (A : Around) (i : Nat) (s : Shared) (Q : ZQ) (E : ZQ), tn i s.heap -> Q (.ref it) s -> wpAny (model P w) A (pyIter (.ref it)) Q E s
abbrev TI := St -> Hp -> (It -> Hp -> Prop) -> Prop
def PIE (X : Cx) (Qa : ZP) (σ : St) (tg : Expr) (R : It -> Hp -> Prop) (itv : Value) (s2 : Shared) : Prop :=
 ∃ (it : Addr) (fp : List Addr) (tn : Nat -> Heap -> Prop) (J : It) (H' : Hp), itv = .ref it /\ Inv X Qa σ H' s2 /\ Turn X.prog X.w X.K tg J fp it tn /\ tn 0 s2.heap /\ (∀ b ∈ fp, FpOk X Qa H' b) /\ R J H'
def PI (X : Cx) (tg iter : Expr) (wi : TI) : Prop :=
 ∀ (Qa : ZP) (s : Shared) (σ : St) (H : Hp) (R : It -> Hp -> Prop), Inv X Qa σ H s -> wi σ H R ->
  wpAny (model X.prog X.w) X.A (eval iter X.env) (fun v s1 => wpAny (model X.prog X.w) X.A (pyIter v) (PIE X Qa σ tg R) X.xe s1) X.xe s
theorem zgy {M : Model} {A : Around} {E : ZQ} {s : Shared} {tg : Expr} {it : Addr} {u : Value} {o : Obj} {n : String} {vs : Array Value} {Q : Unit -> Shared -> Prop} (ho : s.heap.get? it = some o) (hc : o.cls = .type n) (hd : o.data = .fields vs)
    (hn : ["enumerate", "zip", "dict_itemiterator", "dict_reverseitemiterator", "odict_iterator", "itertools.zip_longest", "itertools.pairwise"].contains n = false) (hQ : Q () s) : wpAny M A (letOwnedTupleGo tg (.ref it) u) Q E s := by
  unfold letOwnedTupleGo;cases tg <;> first
    | exact yab hQ
    | (cases u <;> first
        | exact yab hQ
        | (refine yaa (wpAny_load ho ?_)
           rw [hc, hd];show wpAny M A (if (["enumerate", "zip", "dict_itemiterator", "dict_reverseitemiterator", "odict_iterator", "itertools.zip_longest", "itertools.pairwise"].contains n && vs[0]? == some (rawInt _)) = true then _ else _) Q E s;rw [if_neg (by intro h; rw [hn, Bool.false_and] at h; cases h)];exact yab hQ))
def Itl (K : W.Frag) (a : Addr) : It :=
 ⟨fun i H => ∃ xs x, SqL K H a xs /\ xs[i]? = some x, fun i H x H' => H' = H /\ ∀ xs, SqL K H a xs -> xs[i]? = some x, fun i H => ∃ xs, SqL K H a xs /\ xs.length <= i⟩
def Itt (K : W.Frag) (a : Addr) : It :=
 ⟨fun i H => ∃ xs x, SqT K H a xs /\ xs[i]? = some x, fun i H x H' => H' = H /\ ∀ xs, SqT K H a xs -> xs[i]? = some x, fun i H => ∃ xs, SqT K H a xs /\ xs.length <= i⟩
def Itr (lo : Int) (n : Nat) : It := ⟨fun i _ => i < n, fun i H x H' => H' = H /\ x = .int (lo + i), fun i _ => n <= i⟩
theorem zhb {P : Program} {w : World} {K : W.Frag} {tg : Expr} (a it : Addr) : Turn P w K tg (Itl K a) [it] it (fun i h => h.IsListIter it a i) where
 mem := by simp
 obj := fun i h st b hb => by
  have e : b = it := by simpa using hb
  subst e;obtain ⟨o, e, c, d⟩ := st;exact ⟨o, e, fun v z => by rw [d] at z; cases z⟩
 keep := fun i h h' st k => st.at fun o e => k it ς o e
 item := by
  intro X hP hw hK hc i Qa s σ H E I hf st hg;subst hP hw hK;obtain ⟨xs, x, hq, hx⟩ := hg;obtain ⟨its, rv, p, hz⟩ := I.list hq;obtain ⟨u, hu, ru⟩ := rv.get hx;obtain ⟨f0, f1, f2, f3, f4, f5⟩ := hf it ς;refine wpAny_pyNext_list_item st p.isList (x := u) (by simpa using hu) fun h' st' sb => ?_;have I1 : Inv X Qa σ H { s with heap := h' } := I.turned (t' := s.toks) (fun b o hb e => (sb.2 b hb).trans e) f0 f1 f3 f4 f5;obtain ⟨o, e, c, d⟩ := id st';exact ⟨u, rfl, zgy (s := { s with heap := h' }) e c d δ ⟨x, H, I1, ru, ⟨rfl, fun ys hy => by rw [I.list_inj hy hq]; exact hx⟩, st', fun b hb => (hf b hb).1⟩⟩
 done := by
  intro X hP hw hK hc i Qa s σ H E I hf st hg;subst hP hw hK;obtain ⟨xs, hq, hx⟩ := hg;obtain ⟨its, rv, p, hz⟩ := I.list hq;obtain ⟨f0, f1, f2, f3, f4, f5⟩ := hf it ς;have hl := rv.length;exact wpAny_pyNext_list_end (I.ok.hd hc) st p.isList (by simp; omega) fun h' eb => ⟨rfl, I.turned (t' := s.toks) (fun b o hb e => eb b o hb e) f0 f1 f3 f4 f5⟩
 self := fun _ _ _ _ _ st h => wpAny_pyIter_listiter st h
theorem zgz {P : Program} {w : World} {K : W.Frag} {tg : Expr} (a it : Addr) : Turn P w K tg (Itt K a) [it] it (fun i h => h.IsTupleIter it a i) where
 mem := by simp
 obj := fun i h st b hb => by
  have e : b = it := by simpa using hb
  subst e;obtain ⟨o, e, c, d⟩ := st;exact ⟨o, e, fun v z => by rw [d] at z; cases z⟩
 keep := fun i h h' st k => st.at fun o e => k it ς o e
 item := by
  intro X hP hw hK hc i Qa s σ H E I hf st hg;subst hP hw hK;obtain ⟨xs, x, hq, hx⟩ := hg;obtain ⟨its, rv, p, hz⟩ := I.tuple hq;obtain ⟨u, hu, ru⟩ := rv.get hx;obtain ⟨f0, f1, f2, f3, f4, f5⟩ := hf it ς;refine wpAny_pyNext_tuple_item st (show s.heap.IsTuple a its.toArray from p) (x := u) (by simpa using hu) fun h' st' sb => ?_;have I1 : Inv X Qa σ H { s with heap := h' } := I.turned (t' := s.toks) (fun b o hb e => (sb.2 b hb).trans e) f0 f1 f3 f4 f5;obtain ⟨o, e, c, d⟩ := id st';exact ⟨u, rfl, zgy (s := { s with heap := h' }) e c d δ ⟨x, H, I1, ru, ⟨rfl, fun ys hy => by rw [I.tuple_inj hy hq]; exact hx⟩, st', fun b hb => (hf b hb).1⟩⟩
 done := by
  intro X hP hw hK hc i Qa s σ H E I hf st hg;subst hP hw hK;obtain ⟨xs, hq, hx⟩ := hg;obtain ⟨its, rv, p, hz⟩ := I.tuple hq;obtain ⟨f0, f1, f2, f3, f4, f5⟩ := hf it ς;have hl := rv.length;exact wpAny_pyNext_tuple_end (I.ok.hd hc) st (show s.heap.IsTuple a its.toArray from p) (by simp; omega) fun h' eb => ⟨rfl, I.turned (t' := s.toks) (fun b o hb e => eb b o hb e) f0 f1 f3 f4 f5⟩
 self := fun _ _ _ _ _ st h => wpAny_pyIter_tupleiter st h
theorem zg0 {P : Program} {w : World} {K : W.Frag} {tg : Expr} (it : Addr) (lo : Int) (n : Nat) : Turn P w K tg (Itr lo n) [it] it (fun i h => IsRangeIter h it (lo + (i : Nat) * 1) ((n : Int) - (i : Nat)) 1) where
 mem := by simp
 obj := fun i h st b hb => by
  have e : b = it := by simpa using hb
  subst e;exact ⟨_, st, fun v z => by
   have z' : Data.fields _ = Data.cell v := z;cases z'⟩
 keep := fun i h h' st k => k it ς _ st
 item := by
  intro X hP hw hK hc i Qa s σ H E I hf st hg;subst hP hw hK;obtain ⟨f0, f1, f2, f3, f4, f5⟩ := hf it ς;have W := Walks.range (prog := X.prog) (w := X.w) (I.ok.hd hc) it lo 1 n;refine W.item i s _ _ hg st fun v h' tk hv st' kk => ?_;obtain ⟨t, rfl⟩ := hv;have I1 : Inv X Qa σ H { s with heap := h', toks := tk } := I.turned (fun b o hb e => kk b o (by simpa using hb) e) f0 f1 f3 f4 f5;refine ⟨_, rfl, zgy (s := { s with heap := h', toks := tk }) (n := "range_iterator") st' rfl rfl δ ⟨.int (lo + i), H, I1, ⟨t, ?_⟩, ⟨rfl, rfl⟩, st', fun b hb => (hf b hb).1⟩⟩;rw [Int.mul_one]
 done := by
  intro X hP hw hK hc i Qa s σ H E I hf st hg;subst hP hw hK;obtain ⟨f0, f1, f2, f3, f4, f5⟩ := hf it ς;exact wpAny_pyNext_range_end (I.ok.hd hc) st (by have : n <= i := hg; omega) fun h' eb => ⟨rfl, I.turned (t' := s.toks) (fun b o hb e => eb b o hb e) f0 f1 f3 f4 f5⟩
 self := fun _ _ _ _ _ st h => wpAny_pyIter_rangeiter st h
section
variable {X : Cx} {tg : Expr}
theorem zfJ {Qa : ZP} {σ : St} {H : Hp} {s : Shared} {R : It -> Hp -> Prop} {E : ZQ} {lo hi : Int} {t u v : Tok} {tk : Nat} (I : Inv X Qa σ H s) (h1 : -(2 ^ 62) <= lo) (h2 : lo < 2 ^ 62) (h3 : -(2 ^ 62) <= hi) (h4 : hi < 2 ^ 62)
  (q : R (Itr lo (hi - lo).toNat) H) : wpAny (model X.prog X.w) X.A (pyIter (.ref s.heap.objs.size)) (PIE X Qa σ tg R) E { s with heap := s.heap.push { cls := .type "range", data := .fields #[.int lo t, .int hi u, .int 1 v] }, toks := tk } := by
 refine wpAny_pyIter_range (IsRange.new ..) (small_one h1 h2 h3 h4) ?_;have I1 : Inv X Qa σ H { s with heap := s.heap.push { cls := .type "range", data := .fields #[.int lo t, .int hi u, .int 1 v] }, toks := tk } := I.kept fun b o e => yac _ e;refine ⟨(s.heap.push { cls := .type "range", data := .fields #[.int lo t, .int hi u, .int 1 v] }).objs.size, [(s.heap.push { cls := .type "range", data := .fields #[.int lo t, .int hi u, .int 1 v] }).objs.size], _, _, H, rfl,
  I1.kept (t' := tk) fun b o e => yac _ e, zg0 _ lo (hi - lo).toNat, ?_, fun b hb => ?_, q⟩
 ·have e1 : lo + ((0 : Nat) : Int) * 1 = lo := by simp
  have e2 : (((hi - lo).toNat : Nat) : Int) - ((0 : Nat) : Int) = Builtin.Range.rangeSize lo hi 1 := by rw [rangeSize_one]; split <;> omega
  show IsRangeIter _ _ (lo + ((0 : Nat) : Int) * 1) ((((hi - lo).toNat : Nat) : Int) - ((0 : Nat) : Int)) 1;rw [e1, e2];exact yaj _ rfl
 ·have e : b = (s.heap.push { cls := .type "range", data := .fields #[.int lo t, .int hi u, .int 1 v] }).objs.size := by simpa using hb
  subst e;exact I1.fpOk (yai _) (I1.hok.fresh (yai _))
def zlK (ta : TA) : TI := fun σ H R => ta σ H fun vs H1 => ∃ j : Int, vs = [.int j] /\ -(2 ^ 62) <= j /\ j < 2 ^ 62 /\ R (Itr 0 j.toNat) H1
def zlL (ta : TA) : TI := fun σ H R => ta σ H fun vs H1 => ∃ i j : Int, vs = [.int i, .int j] /\ (-(2 ^ 62) <= i /\ i < 2 ^ 62 /\ -(2 ^ 62) <= j /\ j < 2 ^ 62) /\ R (Itr i (j - i).toNat) H1
theorem zb2 {a : Expr} {ta : TA} {p pos : Pos} (hg : Gl X "range") (hm : X.mg "range" = none) (ha : PA X [a] ta) (hs : starEach [a] X.env = [(false, eval a X.env)] := by rfl) : PI X tg (.Call (.Name "range" p) [a] [] pos) (zlK ta) := by
 intro Qa s σ H R I h;refine Call_ (ze5 I hg hm boot_range (PyProof.Rows.callWith_type1 (thn (ha pos Qa s σ H _ I h) fun us s1 ⟨vs, H1, I1, r1, q1⟩ => ?_) hs rfl));obtain ⟨j, e, q1, q2, q⟩ := q1;subst e;cases r1 with
 | cons r rr =>
  cases rr;obtain ⟨t, rfl⟩ := r;exact call_range_1 (zfJ I1 ω ω q1 q2 (by simpa using q))
theorem zhc {a b : Expr} {ta : TA} {p pos : Pos} (hg : Gl X "range") (hm : X.mg "range" = none) (ha : PA X [a, b] ta) (hs : starEach [a, b] X.env = [(false, eval a X.env), (false, eval b X.env)] := by rfl) (hs2 : starEach [b] X.env = [(false, eval b X.env)] := by rfl) :
  PI X tg (.Call (.Name "range" p) [a, b] [] pos) (zlL ta) := by
 intro Qa s σ H R I h;refine Call_ (ze5 I hg hm boot_range (PyProof.Rows.callWith_type1 (thn (ha pos Qa s σ H _ I h) fun us s1 ⟨vs, H1, I1, r1, q1⟩ => ?_) (by rw [hs, hs2]) (by rw [hs2]; rfl)));obtain ⟨i, j, e, ⟨q1, q2, q3, q4⟩, q⟩ := q1;subst e;cases r1 with
 | cons r rr =>
  cases rr with
  | cons r' rr =>
   cases rr;obtain ⟨t, rfl⟩ := r;obtain ⟨t', rfl⟩ := r';exact call_range_2 (zfJ I1 q1 q2 q3 q4 q)
def tFor (wi : TI) (g : TG) (tb : TS) : TS := fun D σ H => wi σ H fun J H1 => ∃ W : Nat -> Nat -> St -> Hp -> Prop, (∃ m, W 0 m σ H1) /\ ∀ i m σ H, W i m σ H ->
 (J.stop i H /\ D.nx σ H) \/ (J.go i H /\ ∃ N : St -> Hp -> Prop, (∀ σ' H', N σ' H' -> ∃ m', m' < m /\ W (i + 1) m' σ' H') /\ ∀ x H', J.yld i H x H' -> g x σ H' fun σ2 H2 => tb { D with nx := N, ct := N, bk := D.nx } σ2 H2)
def zdJ (fp : List Addr) (h : Heap) : ZP := fp.filterMap fun b => (h.get? b).map fun o => (b, o)
theorem zbF {fp : List Addr} {h : Heap} {b : Addr} {o : Obj} (hb : b ∈ fp) (e : h.get? b = some o) : (b, o) ∈ zdJ fp h := List.mem_filterMap.mpr ⟨b, hb, by rw [e]; rfl⟩
theorem zhd {fp : List Addr} {h : Heap} {p : Addr × Obj} (hp : p ∈ zdJ fp h) : p.1 ∈ fp /\ h.get? p.1 = some p.2 := by
 obtain ⟨b, hb, e⟩ := List.mem_filterMap.mp hp;cases q : h.get? b with
 | none => rw [q] at e; cases e
 | some o =>
  rw [q] at e;have e' : (b, o) = p := Option.some.inj e;subst e';exact ⟨hb, q⟩
theorem Inv.pinned {Qa : ZP} {σ : St} {H : Hp} {s : Shared} {fp : List Addr} (I : Inv X Qa σ H s) (hf : ∀ b ∈ fp, FpOk X Qa H b) (ho : ∀ b ∈ fp, ∃ o, s.heap.get? b = some o /\ ∀ v, o.data ≠ .cell v) : Inv X (Qa ++ zdJ fp s.heap) σ H s :=
 I.pins_of fun p hp => (yay.mp hp).elim (fun z => I.pin p (List.mem_append_right _ z)) fun z => by
  obtain ⟨hb, e⟩ := zhd z;obtain ⟨f0, f1, f2, _⟩ := hf p.1 hb;obtain ⟨o, e', d⟩ := ho p.1 hb;rw [e] at e'; cases e';exact ⟨e, f0, f1, f2, d⟩
theorem Inv.unpinned {Qa pl : ZP} {σ : St} {H : Hp} {s : Shared} (I : Inv X (Qa ++ pl) σ H s) : Inv X Qa σ H s := I.pins_of fun p hp => I.pin p (List.mem_append_right _ (List.mem_append_left _ hp))
theorem zb8 {iter : Expr} {body : List Stmt} {wi : TI} {g : TG} {tb : TS} {pos : Pos} (hp : PassesOwn (model X.prog X.w) X.A X.env X.xe) (hc : X.calm = true) (hi : PI X tg iter wi) (hg : PG X tg g) (hb : PSs X body tb)
  (hs : ∀ x, foldedSetIterable iter X.env x = pure x := by intro _; rfl) : PS X (.For tg iter body [] pos) (tFor wi g tb) := by
 intro Qa s σ H D I h;refine wpAny_For (thn (hi Qa s σ H _ I h) fun v s1 h1 => thn h1 fun itv s2 h2 => ?_) hs;obtain ⟨it, fp, tn, J, H2, e, I2, T, st2, f2, W, ⟨m0, w0⟩, turn⟩ := h2;subst e;have stat : ∀ {H' : Hp}, (∀ b ∈ fp, H' b = none) -> ∀ b ∈ fp, FpOk X Qa H' b := fun hn b hb => ⟨hn b hb, (f2 b hb).2⟩
 refine codeAny_forLoop_any (fun n s' => ∃ i σ' H', Inv X Qa σ' H' s' /\ tn i s'.heap /\ (∀ b ∈ fp, H' b = none) /\ W i n σ' H') ?_ m0 ⟨0, σ, H2, I2, st2, fun b hb => (f2 b hb).1, w0⟩
 rintro n s3 ⟨i, σ3, H3, I3, st3, fr3, w3⟩
 rcases turn i n σ3 H3 w3 with ⟨stop, qn⟩ | ⟨go, N, hN, step⟩
 ·refine wpAny_passesOwn hp (thn (T.done X rfl rfl rfl hc i Qa s3 σ3 H3 X.xe I3 (stat fr3) st3 stop) fun r s4 ⟨hr, I4⟩ => ?_);subst hr;exact wpAny_execs_nil ⟨σ3, H3, I4, qn⟩
 ·refine wpAny_passesOwn hp (thn (T.item X rfl rfl rfl hc i Qa s3 σ3 H3 X.xe I3 (stat fr3) st3 go) fun r s4 ⟨u, hr, h4⟩ => ?_);subst hr;refine wpAny_passesOwn hp (thn h4 fun _ s5 ⟨x, H5, I5, r5, y5, st5, fr5⟩ => ?_);have I5' := I5.pinned (stat fr5) (T.obj _ _ st5);refine wpAny_passesOwn hp (thn (hg _ s5 σ3 H5 x u _ I5' r5 (step x H5 y5)) fun _ s6 ⟨σ6, H6, I6, q6⟩ => ?_);refine wpAny_passesOwn hp (thn (hb _ s6 σ6 H6 _ I6 q6) fun f s7 q7 => ?_);have again : ∀ {σ7 : St} {H7 : Hp}, Inv X (Qa ++ zdJ fp s5.heap) σ7 H7 s7 -> N σ7 H7 -> ∃ m, m < n /\ ∃ i σ' H', Inv X Qa σ' H' s7 /\ tn i s7.heap /\ (∀ b ∈ fp, H' b = none) /\ W i m σ' H' := fun {σ7 H7} I7 n7 => by
   obtain ⟨m', hm, w7⟩ := hN σ7 H7 n7;refine ⟨m', hm, i + 1, σ7, H7, I7.unpinned, T.keep _ _ _ st5 fun b hb o e => (I7.pin (b, o) (List.mem_append_right _ (List.mem_append_right _ (zbF hb e)))).1, fun b hb => ?_, w7⟩;obtain ⟨o, e, d⟩ := T.obj _ _ st5 b hb;exact (I7.pin (b, o) (List.mem_append_right _ (List.mem_append_right _ (zbF hb e)))).2.1
  cases f with
  | next => obtain ⟨σ7, H7, I7, n7⟩ := q7; exact again I7 n7
  | cont => obtain ⟨σ7, H7, I7, n7⟩ := q7; exact again I7 n7
  | brk => obtain ⟨σ7, H7, I7, q7⟩ := q7; exact ⟨σ7, H7, I7.unpinned, q7⟩
  | ret v => obtain ⟨x7, σ7, H7, I7, r7, q7⟩ := q7; exact ⟨x7, σ7, H7, I7.unpinned, r7, q7⟩
end
theorem ziP {K : W.Frag} {a : Addr} {xs : List V} {g : TG} {tb : TS} {D : Ends} {σ : St} {H : Hp} (Pv : Nat -> St -> Hp -> Prop) (h0 : Pv 0 σ H) (hl : ∀ i σ H, i <= xs.length -> Pv i σ H -> SqL K H a xs)
  (hs : ∀ i x σ H, xs[i]? = some x -> Pv i σ H -> g x σ H fun σ2 H2 => tb { D with nx := Pv (i + 1), ct := Pv (i + 1), bk := D.nx } σ2 H2) (hd : ∀ σ H, Pv xs.length σ H -> D.nx σ H) :
  ∃ W : Nat -> Nat -> St -> Hp -> Prop, (∃ m, W 0 m σ H) /\ ∀ i m σ H, W i m σ H ->
   ((Itl K a).stop i H /\ D.nx σ H) \/ ((Itl K a).go i H /\ ∃ N : St -> Hp -> Prop, (∀ σ' H', N σ' H' -> ∃ m', m' < m /\ W (i + 1) m' σ' H') /\ ∀ x H', (Itl K a).yld i H x H' -> g x σ H' fun σ2 H2 => tb { D with nx := N, ct := N, bk := D.nx } σ2 H2) := by
 refine ⟨fun i m σ H => m = xs.length - i /\ i <= xs.length /\ Pv i σ H, ⟨xs.length,ς, yaq _, h0⟩, ?_⟩
 rintro i m σ H ⟨rfl, hi, p⟩
 have q := hl i σ H hi p
 by_cases hlt : i < xs.length
 ·refine .inr ⟨⟨xs, xs[i], q, by simp [hlt]⟩, Pv (i + 1), fun σ' H' p' => ⟨xs.length - (i + 1),ω, rfl, hlt, p'⟩, fun x H' y => ?_⟩;obtain ⟨e, y⟩ := y;subst e;exact hs i x σ _ (y xs q) p
 ·have e : i = xs.length := by omega
  subst e;exact .inl ⟨⟨xs, q, yai _⟩, hd σ H p⟩
theorem zks {K : W.Frag} {a : Addr} {xs : List V} {g : TG} {tb : TS} {D : Ends} {σ : St} {H : Hp} (Pv : Nat -> St -> Hp -> Prop) (h0 : Pv 0 σ H) (hl : ∀ i σ H, i <= xs.length -> Pv i σ H -> SqT K H a xs)
  (hs : ∀ i x σ H, xs[i]? = some x -> Pv i σ H -> g x σ H fun σ2 H2 => tb { D with nx := Pv (i + 1), ct := Pv (i + 1), bk := D.nx } σ2 H2) (hd : ∀ σ H, Pv xs.length σ H -> D.nx σ H) :
  ∃ W : Nat -> Nat -> St -> Hp -> Prop, (∃ m, W 0 m σ H) /\ ∀ i m σ H, W i m σ H ->
   ((Itt K a).stop i H /\ D.nx σ H) \/ ((Itt K a).go i H /\ ∃ N : St -> Hp -> Prop, (∀ σ' H', N σ' H' -> ∃ m', m' < m /\ W (i + 1) m' σ' H') /\ ∀ x H', (Itt K a).yld i H x H' -> g x σ H' fun σ2 H2 => tb { D with nx := N, ct := N, bk := D.nx } σ2 H2) := by
 refine ⟨fun i m σ H => m = xs.length - i /\ i <= xs.length /\ Pv i σ H, ⟨xs.length,ς, yaq _, h0⟩, ?_⟩
 rintro i m σ H ⟨rfl, hi, p⟩
 have q := hl i σ H hi p
 by_cases hlt : i < xs.length
 ·refine .inr ⟨⟨xs, xs[i], q, by simp [hlt]⟩, Pv (i + 1), fun σ' H' p' => ⟨xs.length - (i + 1),ω, rfl, hlt, p'⟩, fun x H' y => ?_⟩;obtain ⟨e, y⟩ := y;subst e;exact hs i x σ _ (y xs q) p
 ·have e : i = xs.length := by omega
  subst e;exact .inl ⟨⟨xs, q, yai _⟩, hd σ H p⟩
theorem zhe {lo : Int} {n : Nat} {g : TG} {tb : TS} {D : Ends} {σ : St} {H : Hp} (Pv : Nat -> St -> Hp -> Prop) (h0 : Pv 0 σ H)
  (hs : ∀ i σ H, i < n -> Pv i σ H -> g (.int (lo + i)) σ H fun σ2 H2 => tb { D with nx := Pv (i + 1), ct := Pv (i + 1), bk := D.nx } σ2 H2) (hd : ∀ σ H, Pv n σ H -> D.nx σ H) :
  ∃ W : Nat -> Nat -> St -> Hp -> Prop, (∃ m, W 0 m σ H) /\ ∀ i m σ H, W i m σ H ->
   ((Itr lo n).stop i H /\ D.nx σ H) \/ ((Itr lo n).go i H /\ ∃ N : St -> Hp -> Prop, (∀ σ' H', N σ' H' -> ∃ m', m' < m /\ W (i + 1) m' σ' H') /\ ∀ x H', (Itr lo n).yld i H x H' -> g x σ H' fun σ2 H2 => tb { D with nx := N, ct := N, bk := D.nx } σ2 H2) := by
 refine ⟨fun i m σ H => m = n - i /\ i <= n /\ Pv i σ H, ⟨n,ς, yaq _, h0⟩, ?_⟩
 rintro i m σ H ⟨rfl, hi, p⟩
 by_cases hlt : i < n
 ·refine .inr ⟨hlt, Pv (i + 1), fun σ' H' p' => ⟨n - (i + 1),ω, rfl, hlt, p'⟩, fun x H' y => ?_⟩;obtain ⟨e, y⟩ := y;subst e y;exact hs i σ _ hlt p
 ·have e : i = n := by omega
  subst e;exact .inl ⟨yai _, hd σ H p⟩
abbrev R2 := V -> V -> Hp -> VK -> Prop
def OpR (X : Cx) (f : Value -> Value -> Sem Value) (r : R2) : Prop :=
 ∀ (Qa : ZP) (s : Shared) (σ : St) (H : Hp) (x y : V) (v u : Value) (Q : VK), Inv X Qa σ H s -> RelV x v -> RelV y u -> r x y H Q ->
  wpAny (model X.prog X.w) X.A (f v u) (EP X Qa σ Q) X.xe s
def UnR (X : Cx) (f : Value -> Sem Value) (r : V -> Hp -> VK -> Prop) : Prop :=
 ∀ (Qa : ZP) (s : Shared) (σ : St) (H : Hp) (x : V) (v : Value) (Q : VK), Inv X Qa σ H s -> RelV x v -> r x H Q ->
  wpAny (model X.prog X.w) X.A (f v) (EP X Qa σ Q) X.xe s
def zb4 (X : Cx) (f : Value) (r : List V -> Hp -> VK -> Prop) : Prop :=
 ∀ (Qa : ZP) (s : Shared) (σ : St) (H : Hp) (xs : List V) (us : List Value) (Q : VK), Inv X Qa σ H s -> Vals xs us -> r xs H Q ->
  wpAny (model X.prog X.w) X.A (call f us) (EP X Qa σ Q) X.xe s
def TruR (X : Cx) (r : V -> Hp -> (Bool -> Hp -> Prop) -> Prop) : Prop :=
 ∀ (Qa : ZP) (s : Shared) (σ : St) (H : Hp) (x : V) (v : Value) (Q : Bool -> Hp -> Prop), Inv X Qa σ H s -> RelV x v -> r x H Q ->
  wpAny (model X.prog X.w) X.A (truthy v) (TP X Qa σ Q) X.xe s
def tOp (r : R2) (ta tb : TE) : TE := fun σ H Q => ta σ H fun x H1 => tb σ H1 fun y H2 => r x y H2 Q
def tUn (r : V -> Hp -> VK -> Prop) (ta : TE) : TE := fun σ H Q => ta σ H fun x H1 => r x H1 Q
def rI (C : Int -> Int -> Prop) (g : Int -> Int -> V) : R2 := fun x y H Q => ∃ i j, x = .int i /\ y = .int j /\ C i j /\ Q (g i j) H
def rI0 (g : Int -> Int -> V) : R2 := fun x y H Q => ∃ i j, x = .int i /\ y = .int j /\ Q (g i j) H
def rU (g : Int -> V) : V -> Hp -> VK -> Prop := fun x H Q => ∃ i, x = .int i /\ Q (g i) H
section
variable {X : Cx} {a b c : Expr} {ta tb tc : TE} {pos : Pos}
theorem binT (ha : PE X a ta) (hb : PE X b tb) {Qa : ZP} {s : Shared} {σ : St} {H : Hp} {R : V -> V -> Hp -> Prop} (I : Inv X Qa σ H s)
  (h : ta σ H fun x H1 => tb σ H1 fun y H2 => R x y H2) {Q : ZQ} {f : Value -> Value -> Sem Value}
  (hf : ∀ v u s2 x y H2, Inv X Qa σ H2 s2 -> RelV x v -> RelV y u -> R x y H2 -> wpAny (model X.prog X.w) X.A (f v u) Q X.xe s2) :
  wpAny (model X.prog X.w) X.A (eval a X.env) (fun v s₁ => wpAny (model X.prog X.w) X.A (eval b X.env) (fun u s₂ => wpAny (model X.prog X.w) X.A (f v u) Q X.xe s₂) X.xe s₁) X.xe s := by
 refine thn (ha Qa s σ H _ I h) fun v s1 ⟨x, H1, I1, r1, q1⟩ => ?_;refine thn (hb Qa s1 σ H1 _ I1 q1) fun u s2 ⟨y, H2, I2, r2, q2⟩ => ?_;exact hf v u s2 x y H2 I2 r1 r2 q2
theorem zak {op : Operator} {r : R2} (ho : OpR X (binaryOp op) r) (ha : PE X a ta) (hb : PE X b tb) : PE X (.BinOp a op b pos) (tOp r ta tb) := by
 intro Qa s σ H Q I h;exact wpAny_BinOp (binT ha hb I h fun v u s2 x y H2 I2 rx ry q => ho Qa s2 σ H2 x y v u Q I2 rx ry q)
theorem zlM {op : UnaryOp} {r : V -> Hp -> VK -> Prop} (ho : UnR X (unaryOp op) r) (ha : PE X a ta) : PE X (.UnaryOp op a pos) (tUn r ta) := by
 intro Qa s σ H Q I h;exact UnaryOp_ (thn (ha Qa s σ H _ I h) fun v s1 ⟨x, H1, I1, r1, q1⟩ => ho Qa s1 σ H1 x v Q I1 r1 q1)
theorem opI {f : Value -> Value -> Sem Value} {C : Int -> Int -> Prop} {g : Int -> Int -> Int}
  (rule : ∀ (i j : Int) (t u : Tok) (s : Shared) (Q : ZQ) (E : ZQ), C i j -> Q (.int (g i j) s.toks) { s with toks := s.toks + 1 } -> wpAny (model X.prog X.w) X.A (f (.int i t) (.int j u)) Q E s) :
  OpR X f (rI C fun i j => .int (g i j)) := by
 intro Qa s σ H x y v u Q I rx ry h;obtain ⟨i, j, rfl, rfl, hc, q⟩ := h;obtain ⟨t, rfl⟩ := rx;obtain ⟨t', rfl⟩ := ry;exact rule i j t t' s _ _ hc ⟨.int (g i j), H, I.tok _, ⟨_, rfl⟩, q⟩
theorem opI0 {f : Value -> Value -> Sem Value} {g : Int -> Int -> Int}
  (rule : ∀ (i j : Int) (t u : Tok) (s : Shared) (Q : ZQ) (E : ZQ), Q (.int (g i j) s.toks) { s with toks := s.toks + 1 } -> wpAny (model X.prog X.w) X.A (f (.int i t) (.int j u)) Q E s) :
  OpR X f (rI0 fun i j => .int (g i j)) := by
 intro Qa s σ H x y v u Q I rx ry h;obtain ⟨i, j, rfl, rfl, q⟩ := h;obtain ⟨t, rfl⟩ := rx;obtain ⟨t', rfl⟩ := ry;exact rule i j t t' s _ _ ⟨.int (g i j), H, I.tok _, ⟨_, rfl⟩, q⟩
theorem opB0 {f : Value -> Value -> Sem Value} {g : Int -> Int -> Bool}
  (rule : ∀ (i j : Int) (t u : Tok) (s : Shared) (Q : ZQ) (E : ZQ), Q (.bool (g i j)) s -> wpAny (model X.prog X.w) X.A (f (.int i t) (.int j u)) Q E s) :
  OpR X f (rI0 fun i j => .bl (g i j)) := by
 intro Qa s σ H x y v u Q I rx ry h;obtain ⟨i, j, rfl, rfl, q⟩ := h;obtain ⟨t, rfl⟩ := rx;obtain ⟨t', rfl⟩ := ry;exact rule i j t t' s _ _ ⟨.bl (g i j), H, I, rfl, q⟩
def CDiv (i j : Int) : Prop := 0 < j /\ j < 1073741824
def CMul (i j : Int) : Prop := (-(2 ^ 64) < i /\ i < 2 ^ 64) \/ (-(2 ^ 64) < j /\ j < 2 ^ 64)
theorem CMul.ok {i j : Int} (h : CMul i j) : IntMulOk i j := by
 rcases h with ⟨h1, h2⟩ | ⟨h1, h2⟩
 ·exact .of_left (intBits_le_64 h1 h2)
 ·exact .of_right (intBits_le_64 h1 h2)
theorem zlN : OpR X (binaryOp .Add) (rI0 fun i j => .int (i + j)) := opI0 fun _ _ _ _ _ _ _ q => add_int q
theorem zjN : OpR X (binaryOp .Sub) (rI0 fun i j => .int (i - j)) := opI0 fun _ _ _ _ _ _ _ q => sub_int q
theorem zlO : OpR X (binaryOp .Mult) (rI CMul fun i j => .int (i * j)) := opI fun _ _ _ _ _ _ _ hc q => mul_int q hc.ok
theorem zkt : OpR X (binaryOp .FloorDiv) (rI CDiv fun i j => .int (i / j)) := opI fun i j _ _ _ _ _ hc q => by
 have h1 : (0 : Int) < j := hc.1;have h2 : j < 1073741824 := hc.2;exact floordiv_int ω (by rw [Int.fdiv_eq_ediv_of_nonneg i ω]; exact q) (.inl (PyProof.noPylong_small ω))
theorem zlP : OpR X (binaryOp .Mod) (rI (fun _ j => 0 < j) fun i j => .int (i % j)) := opI fun i j _ _ _ _ _ hc q => by
 have h1 : (0 : Int) < j := hc;exact mod_int' ω (by rw [Int.fmod_eq_emod_of_nonneg i ω]; exact q)
theorem unI {f : Value -> Sem Value} {g : Int -> Int}
  (rule : ∀ (i : Int) (t : Tok) (s : Shared) (Q : ZQ) (E : ZQ), Q (.int (g i) s.toks) { s with toks := s.toks + 1 } -> wpAny (model X.prog X.w) X.A (f (.int i t)) Q E s) :
  UnR X f (rU fun i => .int (g i)) := by
 intro Qa s σ H x v Q I rx h;obtain ⟨i, rfl, q⟩ := h;obtain ⟨t, rfl⟩ := rx;exact rule i t s _ _ ⟨.int (g i), H, I.tok _, ⟨_, rfl⟩, q⟩
theorem zjO : UnR X (unaryOp .USub) (rU fun i => .int (-i)) := unI fun _ _ _ _ _ q => neg_int q
end
def scal : V -> V -> Bool
 | .non, .non => true | .non, .int _ => true | .int _, .non => true | .non, .bl _ => true | .bl _, .non => true | .non, .str _ => true | .str _, .non => true
 | .int _, .int _ => true | .bl _, .bl _ => true | .str _, .str _ => true | .byt _, .byt _ => true
 | .int _, .str _ => true | .str _, .int _ => true | .bl _, .str _ => true | .str _, .bl _ => true
 | _, _ => false
def rEq : R2 := fun x y H Q => scal x y = true /\ Q (.bl (decide (x = y))) H
def rNe : R2 := fun x y H Q => scal x y = true /\ Q (.bl (!decide (x = y))) H
theorem zhf {i j : Int} : decide (V.int i = V.int j) = (i == j) := by
 rw [Bool.eq_iff_iff];simp
theorem zdK {i j : Bool} : decide (V.bl i = V.bl j) = (i == j) := by
 rw [Bool.eq_iff_iff];simp
theorem zhg {i j : Str} : decide (V.str i = V.str j) = (i == j) := by
 rw [Bool.eq_iff_iff];simp
theorem zhh {i j : Array UInt8} : decide (V.byt i = V.byt j) = (i.toList == j.toList) := by
 rw [Bool.eq_iff_iff];cases i;cases j;simp
section
variable {X : Cx} {a b c : Expr} {ta tb tc : TE} {pos : Pos}
theorem zaE {Qa : ZP} {σ : St} {H : Hp} {s : Shared} {Q : VK} {k k' : Bool} (I : Inv X Qa σ H s) (q : Q (.bl k) H) (e : k = k') : EP X Qa σ Q (.bool k') s := by
 subst e;exact ⟨.bl k, H, I, rfl, q⟩
theorem zlQ : OpR X (compareOp .Eq) rEq := by
 intro Qa s σ H x y v u Q I rx ry h;obtain ⟨hs, q⟩ := h;cases x with
 | non =>
  cases rx;cases y with
  | non => cases ry; exact PySem.EqNone.eq_none_none (zaE I q ς)
  | bl j => cases ry; exact PySem.EqNone.eq_none_bool (zaE I q ς)
  | int j => obtain ⟨t', rfl⟩ := ry; exact PySem.EqNone.eq_none_int (zaE I q ς)
  | str j => obtain ⟨t', rfl⟩ := ry; exact PySem.EqNone.eq_none_str (zaE I q ς)
  | _ => exact absurd (show false = true from hs) yam
 | bl i =>
  cases rx;cases y with
  | non => cases ry; exact PySem.EqNone.eq_bool_none (zaE I q ς)
  | bl j => cases ry; exact eq_bool (zaE I q zdK)
  | str j => obtain ⟨t', rfl⟩ := ry; exact PySem.EqMixed.eq_bool_str (zaE I q ς)
  | _ => exact absurd (show false = true from hs) yam
 | int i =>
  obtain ⟨t, rfl⟩ := rx;cases y with
  | non => cases ry; exact PySem.EqNone.eq_int_none (zaE I q ς)
  | int j => obtain ⟨t', rfl⟩ := ry; exact eq_int (zaE I q zhf)
  | str j => obtain ⟨t', rfl⟩ := ry; exact PySem.EqMixed.eq_int_str (zaE I q ς)
  | _ => exact absurd (show false = true from hs) yam
 | str i =>
  obtain ⟨t, rfl⟩ := rx;cases y with
  | non => cases ry; exact PySem.EqNone.eq_str_none (zaE I q ς)
  | bl j => cases ry; exact PySem.EqMixed.eq_str_bool (zaE I q ς)
  | int j => obtain ⟨t', rfl⟩ := ry; exact PySem.EqMixed.eq_str_int (zaE I q ς)
  | str j => obtain ⟨t', rfl⟩ := ry; exact eq_str (zaE I q zhg)
  | _ => exact absurd (show false = true from hs) yam
 | byt i =>
  obtain ⟨t, rfl⟩ := rx;cases y with
  | byt j => obtain ⟨t', rfl⟩ := ry; exact W.eq_bytes (zaE I q zhh)
  | _ => exact absurd (show false = true from hs) yam
 | _ => cases y <;> exact absurd (show false = true from hs) yam
theorem zlR : OpR X (compareOp .NotEq) rNe := by
 intro Qa s σ H x y v u Q I rx ry h;obtain ⟨hs, q⟩ := h;cases x with
 | non =>
  cases rx;cases y with
  | non => cases ry; exact PySem.EqNone.ne_none_none (zaE I q ς)
  | bl j => cases ry; exact PySem.EqNone.ne_none_bool (zaE I q ς)
  | int j => obtain ⟨t', rfl⟩ := ry; exact PySem.EqNone.ne_none_int (zaE I q ς)
  | str j => obtain ⟨t', rfl⟩ := ry; exact PySem.EqNone.ne_none_str (zaE I q ς)
  | _ => exact absurd (show false = true from hs) yam
 | bl i =>
  cases rx;cases y with
  | non => cases ry; exact PySem.EqNone.ne_bool_none (zaE I q ς)
  | bl j => cases ry; exact ne_bool (zaE I q (congrArg not zdK))
  | str j => obtain ⟨t', rfl⟩ := ry; exact PySem.EqMixed.ne_bool_str (zaE I q ς)
  | _ => exact absurd (show false = true from hs) yam
 | int i =>
  obtain ⟨t, rfl⟩ := rx;cases y with
  | non => cases ry; exact PySem.EqNone.ne_int_none (zaE I q ς)
  | int j => obtain ⟨t', rfl⟩ := ry; exact ne_int (zaE I q (congrArg not zhf))
  | str j => obtain ⟨t', rfl⟩ := ry; exact PySem.EqMixed.ne_int_str (zaE I q ς)
  | _ => exact absurd (show false = true from hs) yam
 | str i =>
  obtain ⟨t, rfl⟩ := rx;cases y with
  | non => cases ry; exact PySem.EqNone.ne_str_none (zaE I q ς)
  | bl j => cases ry; exact PySem.EqMixed.ne_str_bool (zaE I q ς)
  | int j => obtain ⟨t', rfl⟩ := ry; exact PySem.EqMixed.ne_str_int (zaE I q ς)
  | str j => obtain ⟨t', rfl⟩ := ry; exact ne_str (zaE I q (congrArg not zhg))
  | _ => exact absurd (show false = true from hs) yam
 | byt i =>
  obtain ⟨t, rfl⟩ := rx;cases y with
  | byt j => obtain ⟨t', rfl⟩ := ry; exact W.ne_bytes (zaE I q (congrArg not zhh))
  | _ => exact absurd (show false = true from hs) yam
 | _ => cases y <;> exact absurd (show false = true from hs) yam
theorem znE : OpR X (compareOp .Lt) (rI0 fun i j => .bl (decide (i < j))) := opB0 fun _ _ _ _ _ _ _ q => lt_int q
theorem zlS : OpR X (compareOp .LtE) (rI0 fun i j => .bl (decide (i <= j))) := opB0 fun _ _ _ _ _ _ _ q => le_int q
theorem zft : OpR X (compareOp .Gt) (rI0 fun i j => .bl (decide (j < i))) := opB0 fun _ _ _ _ _ _ _ q => gt_int q
theorem zku : OpR X (compareOp .GtE) (rI0 fun i j => .bl (decide (j <= i))) := opB0 fun _ _ _ _ _ _ _ q => ge_int q
theorem zhi : OpR X (compareOp .Lt) (fun x y H Q => ∃ i j, x = .str i /\ y = .str j /\ Q (.bl (decide (i.cps.toList < j.cps.toList))) H) := by
 intro Qa s σ H x y v u Q I rx ry h;obtain ⟨i, j, rfl, rfl, q⟩ := h;obtain ⟨t, rfl⟩ := rx;obtain ⟨t', rfl⟩ := ry;exact lt_str (zaE I q rfl)
theorem zhj : OpR X (compareOp .In) (fun x y H Q => ∃ i j, x = .str i /\ y = .str j /\ Q (.bl (!(Builtin.Str.occurrences j i 0 j.length 1).isEmpty)) H) := by
 intro Qa s σ H x y v u Q I rx ry h;obtain ⟨i, j, rfl, rfl, q⟩ := h;obtain ⟨t, rfl⟩ := rx;obtain ⟨t', rfl⟩ := ry;exact in_str (zaE I q rfl)
theorem OpR.or {f : Value -> Value -> Sem Value} {r r' : R2} (h : OpR X f r) (h' : OpR X f r') : OpR X f (fun x y H Q => r x y H Q \/ r' x y H Q) := by
 intro Qa s σ H x y v u Q I rx ry q;rcases q with q | q
 ·exact h Qa s σ H x y v u Q I rx ry q
 ·exact h' Qa s σ H x y v u Q I rx ry q
theorem zaw (b : Expr) {op : CmpOp} (h : op ≠ .In := by decide) (h2 : op ≠ .NotIn := by decide) : behindInMarks op b = false := by
 have e1 : (op == CmpOp.In) = false := by cases op <;> first | rfl | exact absurd rfl h
 have e2 : (op == CmpOp.NotIn) = false := by cases op <;> first | rfl | exact absurd rfl h2
 cases b <;> simp [behindInMarks, e1, e2]
theorem zbz {op : CmpOp} {r : R2} (ho : OpR X (compareOp op) r) (ha : PE X a ta) (hb : PE X b tb) (hm : behindInMarks op b = false) : PE X (.Compare a [op] [b] pos) (tOp r ta tb) := by
 intro Qa s σ H Q I h;exact wpAny_Compare1 (binT ha hb I h fun v u s2 x y H2 I2 rx ry q => ho Qa s2 σ H2 x y v u Q I2 rx ry q) hm
def zkv (t : TE) : TT := fun σ H Q => t σ H fun x H' => ∃ k, x = .bl k /\ Q k H'
theorem zaq {op : CmpOp} {r : R2} (ho : OpR X (compareOp op) r) (ha : PE X a ta) (hb : PE X b tb) (hm : behindInMarks op b = false) : PT X (.Compare a [op] [b] pos) (zkv (tOp r ta tb)) := by
 intro Qa s σ H Q I h;refine wpAny_isTrue_Compare1 (thn (ha Qa s σ H _ I h) fun v s1 ⟨x, H1, I1, r1, q1⟩ => thn (hb Qa s1 σ H1 _ I1 q1) fun u s2 ⟨y, H2, I2, r2, q2⟩ =>
  thn (ho Qa s2 σ H2 x y v u _ I2 r1 r2 q2) fun c s3 ⟨z, H3, I3, r3, k, e, q3⟩ => ?_) hm
 subst e;cases r3;exact wpAny_truthy_bool ⟨H3, I3, q3⟩
def zjP (r r' : R2) (ta tb tc : TE) : TE := fun σ H Q => ta σ H fun x H1 => tb σ H1 fun y H2 => r x y H2 fun z H3 => ∃ k, z = .bl k /\
 (if k = true then tc σ H3 fun w' H4 => r' y w' H4 Q else Q (.bl false) H3)
theorem zfK {op op' : CmpOp} {r r' : R2} (ho : OpR X (compareOp op) r) (ho' : OpR X (compareOp op') r') (ha : PE X a ta) (hb : PE X b tb) (hc : PE X c tc)
  (hm : lastMarks [op, op'] [b, c] = false := by with_unfolding_all rfl) : PT X (.Compare a [op, op'] [b, c] pos) (zkv (zjP r r' ta tb tc)) := by
 intro Qa s σ H Q I h;refine isTrue_chain (thn (ha Qa s σ H _ I h) fun v s1 ⟨x, H1, I1, r1, q1⟩ => test_link (thn (hb Qa s1 σ H1 _ I1 q1) fun u s2 ⟨y, H2, I2, r2, q2⟩ =>
  thn (ho Qa s2 σ H2 x y v u _ I2 r1 r2 q2) fun d s3 ⟨z, H3, I3, r3, k, e, q3⟩ => ?_)) hm
 subst e;cases r3;refine wpAny_truthy_bool ?_;cases k with
 | false =>
  obtain ⟨k', e', q'⟩ := q3;cases e';exact ite_ff ⟨H3, I3, q'⟩
 | true =>
  refine ite_tt (test_last (thn (hc Qa s3 σ H3 _ I3 q3) fun w' s4 ⟨z', H4, I4, r4, q4⟩ => thn (ho' Qa s4 σ H4 y z' u w' _ I4 r2 r4 q4) fun d' s5 ⟨z2, H5, I5, r5, k2, e2, q5⟩ => ?_));subst e2;cases r5;exact wpAny_truthy_bool ⟨H5, I5, q5⟩
def TruV (K : W.Frag) (x : V) (H : Hp) (k : Bool) : Prop :=
 match x with
 | .non => k = false
 | .bl b => k = b
 | .int i => k = (i != 0)
 | .str y => y.length <= sizeLine /\ k = ((y.length : Int) != 0)
 | .byt y => y.size <= sizeLine /\ k = ((y.size : Int) != 0)
 | .ref p => (∃ xs, SqL K H p xs /\ k = !xs.isEmpty) \/ (∃ xs, SqT K H p xs /\ k = !xs.isEmpty) \/ ∃ kvs, H p = some (.dK kvs) /\ k = !kvs.isEmpty
 | _ => False
theorem zg1 {κ : Type} {kvs : List (κ × V)} {vs : List (κ × Value)} (r : KV kvs vs) : (!vs.isEmpty) = !kvs.isEmpty := by
 cases r <;> rfl
theorem zdL {xs : List V} {its : List Value} (r : Vals xs its) : (!its.toArray.isEmpty) = !xs.isEmpty := by
 cases r <;> simp
theorem zdM : (sizeLine : Nat) < 2 ^ 63 := by rw [sizeLine_eq]; decide
theorem zo3 : TruR X (fun x H Q => ∃ k, TruV X.K x H k /\ Q k H) := by
 intro Qa s σ H x v Q I rx h;obtain ⟨k, e, q⟩ := h;have hl := zdM;have hs : sizeLine = 16777216 := sizeLine_eq;cases x with
 | non =>
  cases rx;have e' : k = false := e;subst e';exact truthy_none ⟨H, I, q⟩
 | bl b =>
  cases rx;have e' : k = b := e;subst e';exact wpAny_truthy_bool ⟨H, I, q⟩
 | int i =>
  obtain ⟨t, rfl⟩ := rx;have e' : k = (i != 0) := e;subst e';exact PySem.P.truthy_int ⟨H, I, q⟩
 | str y =>
  obtain ⟨t, rfl⟩ := rx;obtain ⟨hy, e'⟩ : y.length <= sizeLine /\ k = ((y.length : Int) != 0) := e;subst e';exact PySem.P.truthy_str ω ⟨H, I.tok _, q⟩
 | byt y =>
  obtain ⟨t, rfl⟩ := rx;obtain ⟨hy, e'⟩ : y.size <= sizeLine /\ k = ((y.size : Int) != 0) := e;subst e';exact W.truthy_bytes ω ⟨H, I.tok _, q⟩
 | ref p =>
  cases rx;have e' : (∃ xs, SqL X.K H p xs /\ k = !xs.isEmpty) \/ (∃ xs, SqT X.K H p xs /\ k = !xs.isEmpty) \/ ∃ kvs, H p = some (.dK kvs) /\ k = !kvs.isEmpty := e;rcases e' with ⟨xs, hx, e'⟩ | ⟨xs, hx, e'⟩ | ⟨kvs, hx, e'⟩
  ·subst e';obtain ⟨its, r, pl, hz⟩ := I.list hx;have Qe := r.length;exact wpAny_truthy_list pl.isList (by simp only [List.size_toArray]; omega) ⟨H, I.tok _, by rw [zdL r]; exact q⟩
  ·subst e';obtain ⟨its, r, pl, hz⟩ := I.tuple hx;have Qe := r.length;exact truthy_tuple pl (by simp only [List.size_toArray]; omega) ⟨H, I.tok _, by rw [zdL r]; exact q⟩
  ·subst e';obtain ⟨hz, hS, vs, r, m⟩ : kvs.length <= sizeLine /\ (p == sysModules) = false /\ ∃ vs, KV kvs vs /\ s.heap.DictOf (mixKind X.prog X.w) p vs := I.hok p _ hx;have Qe : kvs.length = vs.length := Paired.length r;exact wpAny_truthy_dict hS m ω ⟨H, I.tok _, by rw [zg1 r]; exact q⟩
 | _ => exact (show False from e).elim
theorem zg2 : OpR X (binaryOp .Add) (fun x y H Q => ∃ i j, x = .str i /\ y = .str j /\ i.length + j.length <= sizeLine /\ Q (.str (i ++ j)) H) := by
 intro Qa s σ H x y v u Q I rx ry h;obtain ⟨i, j, rfl, rfl, hz, q⟩ := h;obtain ⟨t, rfl⟩ := rx;obtain ⟨t', rfl⟩ := ry;exact add_str (fun t' tk => ⟨.str (i ++ j), H, I.tok _, ⟨_, rfl⟩, q⟩) hz
theorem zcW {x : V} {us : List Value} (r : Vals [x] us) : ∃ u, us = [u] /\ RelV x u := by
 cases r with
 | cons r1 r2 => cases r2; exact ⟨_, rfl, r1⟩
theorem ziQ {x y : V} {us : List Value} (r : Vals [x, y] us) : ∃ u w', us = [u, w'] /\ RelV x u /\ RelV y w' := by
 cases r with
 | cons r1 r2 =>
  cases r2 with
  | cons r3 r4 => cases r4; exact ⟨_, _, rfl, r1, r3⟩
theorem zhk : zb4 X (.type "int") (fun xs H Q => (∃ i, xs = [.int i] /\ Q (.int i) H) \/ ∃ k, xs = [.bl k] /\ Q (.int (if k then 1 else 0)) H) := by
 intro Qa s σ H xs us Q I r h;rcases h with ⟨i, rfl, q⟩ | ⟨k, rfl, q⟩
 ·obtain ⟨u, rfl, t, rfl⟩ := zcW r;exact call_int_int ⟨.int i, H, I, ⟨_, rfl⟩, q⟩
 ·obtain ⟨u, rfl, r1⟩ := zcW r;cases r1;exact call_int_bool ⟨.int (if k then 1 else 0), H, I.tok _, ⟨_, rfl⟩, q⟩
theorem zbN : zb4 X (.type "str") (fun xs H Q => ∃ i, xs = [.int i] /\ i.natAbs.log2 < 1920 /\ Q (.str (toString i)) H) := by
 intro Qa s σ H xs us Q I r h;obtain ⟨i, rfl, hz, q⟩ := h;obtain ⟨u, rfl, t, rfl⟩ := zcW r;exact PySem.P.str_of_int hz ⟨.str _, H, I.tok _, ⟨_, rfl⟩, q⟩
def LenV (K : W.Frag) (x : V) (H : Hp) (n : Nat) : Prop :=
 match x with
 | .str y => y.length <= sizeLine /\ n = y.length
 | .byt y => y.size <= sizeLine /\ n = y.size
 | .ref p => (∃ xs, SqL K H p xs /\ n = xs.length) \/ ∃ xs, SqT K H p xs /\ n = xs.length
 | _ => False
theorem call_len : zb4 X (.builtin "len") (fun xs H Q => ∃ x n, xs = [x] /\ LenV X.K x H n /\ Q (.int n) H) := by
 intro Qa s σ H xs us Q I r h;obtain ⟨x, n, rfl, e, q⟩ := h;obtain ⟨u, rfl, rx⟩ := zcW r;have hl := zdM;have hs : sizeLine = 16777216 := sizeLine_eq;cases x with
 | str y =>
  obtain ⟨t, rfl⟩ := rx;obtain ⟨hy, e'⟩ : y.length <= sizeLine /\ n = y.length := e;subst e';exact len_str ω ⟨.int _, H, I.tok _, ⟨_, rfl⟩, q⟩
 | byt y =>
  obtain ⟨t, rfl⟩ := rx;obtain ⟨hy, e'⟩ : y.size <= sizeLine /\ n = y.size := e;subst e';exact W.len_bytes ω ⟨.int _, H, I.tok _, ⟨_, rfl⟩, q⟩
 | ref p =>
  cases rx;have e' : (∃ xs, SqL X.K H p xs /\ n = xs.length) \/ ∃ xs, SqT X.K H p xs /\ n = xs.length := e;rcases e' with ⟨xs, hx, e'⟩ | ⟨xs, hx, e'⟩
  ·subst e';obtain ⟨its, r', pl, hz⟩ := I.list hx;have Qe := r'.length;exact Calls.call_len_list pl.isList (by simp only [List.size_toArray]; omega) ⟨.int xs.length, H, I.tok _, ⟨_, by simp only [List.size_toArray]; rw [Qe]⟩, q⟩
  ·subst e';obtain ⟨its, r', pl, hz⟩ := I.tuple hx;have Qe := r'.length;exact len_tuple pl (by simp only [List.size_toArray]; omega) ⟨.int xs.length, H, I.tok _, ⟨_, by simp only [List.size_toArray]; rw [Qe]⟩, q⟩
 | _ => exact (show False from e).elim
end
structure ObjM (h : Heap) (x dx C : Addr) (mA : Str -> Option Value) : Prop where
 obj : h.get? x = some (W.instObj C dx)
 ns : h.Ns1 dx mA
 ne : dx ≠ x
theorem zhl {h : Heap} {dx : Addr} {mA : Str -> Option Value} (n : h.Ns1 dx mA) : ∃ od, h.get? dx = some od /\ ∀ name, W.lookIn name od = some (mA name) := by
 obtain ⟨o, es, ep, ho, hd, hk, _, hm⟩ := n;refine ⟨o, ho, fun name => ?_⟩;have e := hm name;unfold nsFind findBy at e;rw [<- Array.find?_toList] at e;unfold W.lookIn;rw [hd];dsimp only
 split
 ·rename_i y q
  rw [q] at e;exact congrArg some e
 ·rename_i q
  rw [q] at e;have a : es.toList.any (·.refKey) = false := by
   rw [List.any_eq_false];intro y hy;obtain ⟨z, t, hkey⟩ := hk y (Array.mem_toList_iff.mp hy);simp [DictEntry.refKey, hkey]
  have a' : ¬ es.toList.any (·.refKey) = true := by rw [a]; exact yam
  rw [if_neg a'];exact congrArg some e
theorem ObjM.look {h : Heap} {x dx C : Addr} {mA : Str -> Option Value} (I : ObjM h x dx C mA) : ∃ od, W.InstAt h x (W.instObj C dx) C (some od) /\ ∀ name, W.lookIn name od = some (mA name) :=
 let ⟨od, ho, hl⟩ := zhl I.ns
 ⟨od, ⟨I.obj, rfl, rfl, ho⟩, hl⟩
section
variable {prog : Program} {w : World} {A : Around} {E : ZQ} {s : Shared} {K : W.Frag} {x dx C f : Addr} {mA : Str -> Option Value} {name : Str} {v : Value}
end
section
variable {P : Program} {w : World} {H H' : Hp} {h h' : Heap} {a C dx : Addr} {fs fs' : List (Str × V)}
theorem zkw (hok : HOk P w H h) (e : H a = some (.ins C dx fs)) : ∃ mA, ObjM h a dx C mA /\ (∀ f, RelO (fs.lookup f) (mA f)) /\ PySem.Within mA (fs.map (·.1)) /\ fs.length <= 1000 /\ H dx = some (.own a) := by
 obtain ⟨d, z, ne, ob, mA, n, r, q⟩ := (show ObjOk P w H h a (.ins C dx fs) from hok a _ e)
 exact ⟨mA, ⟨ob, n, ne⟩, r, q, z, d⟩
end
structure Cls (K : W.Frag) (C : Addr) : Prop where
 pg : W.plainGet K C Str.empty = true
 hd : W.hasDictIn K C = true
 po : W.plainOver K C = true
 sa : W.findIn K (.ref C) "__setattr__" = some (some (.builtin "object.__setattr__"))
theorem Cls.get {K : W.Frag} {C : Addr} (c : Cls K C) (f : Str) : W.plainGet K C f = true := c.pg
structure Con (K : W.Frag) (C : Addr) (f : Str) (v : V) (u : Value) : Prop where
 at_ : W.findIn K (.ref C) f = some (some u)
 rel : RelV v u
 get : W.specialIn K u "__get__" = some none
 cp : W.copiedNames.contains f = false
structure Meth (K : W.Frag) (C : Addr) (m : Str) (f : Addr) : Prop where
 at_ : W.findIn K (.ref C) m = some (some (.ref f))
 fn : W.isFn K (.ref f) = true
 kp : W.keepIn K (.ref f) = true
section
variable {X : Cx} {Qa : ZP} {σ : St} {H : Hp} {s : Shared} {a C dx : Addr} {fs : List (Str × V)} {f : Str} {v : V} {A : Around} {E : ZQ}
end
section
variable {X : Cx} {o e value : Expr} {f : Str} {pos pos' tpos : Pos} {ta tv : TE}
end
section
variable {X : Cx} {Qa : ZP} {σ : St} {H : Hp} {s : Shared} {A : Around} {E : ZQ} {Q : ZQ} {c : Value} {b : Bool}
inductive TyOf (K : W.Frag) (H : Hp) : V -> Value -> Prop where
 | non : TyOf K H .non (.type "NoneType")
 | bl (x : Bool) : TyOf K H (.bl x) (.type "bool")
 | int (i : Int) : TyOf K H (.int i) (.type "int")
 | str (x : Str) : TyOf K H (.str x) (.type "str")
 | flt (x : UInt64) : TyOf K H (.flt x) (.type "float")
 | lst {a : Addr} {xs : List V} (e : H a = some (.lst xs)) : TyOf K H (.ref a) (.type "list")
 | frz {a : Addr} {o : Obj} {xs : List V} (e : H a = some (.frz o (.lst xs))) : TyOf K H (.ref a) (.type "list")
 | tup {a : Addr} {xs : List V} (e : H a = some (.tup xs)) : TyOf K H (.ref a) (.type "tuple")
 | dK {a : Addr} {kvs : List (Key × V)} (e : H a = some (.dK kvs)) : TyOf K H (.ref a) (.type "dict")
 | dT {a : Addr} {kvs : List (List Key × V)} (e : H a = some (.dT kvs)) : TyOf K H (.ref a) (.type "dict")
 | ins {a C dx : Addr} {fs : List (Str × V)} (e : H a = some (.ins C dx fs)) (cl : Cls K C) (ha : W.findIn K (.ref C) "__class__" = some (some (.builtin "object.__class__")))
   (hn : W.specialIn K (.builtin "object.__class__") "__get__" = some (some (.builtin "getset_descriptor.__get__"))) (htk : W.takesIn K (.builtin "object.__class__") = some true)
   (hm : W.mroIn K C (.type "object") = some true) : TyOf K H (.ref a) (.ref C)
theorem zhm {x : V} {u t : Value} (I : Inv X Qa σ H s) (rx : RelV x u) (ty : TyOf X.K H x t) (e : W.kitOne X.K t c = some b) (h : ∀ tk, Q (.bool b) { s with toks := tk }) :
  wpAny (model X.prog X.w) A (call (.builtin "isinstance") [u, c]) Q E s := by
 cases ty with
 | non => cases (show u = Value.none from rx); exact W.kia_one W.kitx_none I.kIn True.intro e (fun z => nomatch z) h
 | bl y => cases (show u = Value.bool y from rx); exact W.kia_one W.kitx_bool I.kIn True.intro e (fun z => nomatch z) h
 | int i => obtain ⟨t, q⟩ := (show ∃ t, u = Value.int i t from rx); cases q; exact W.kia_one W.kitx_int I.kIn True.intro e (fun z => nomatch z) h
 | str y => obtain ⟨t, q⟩ := (show ∃ t, u = Value.str y t from rx); cases q; exact W.kia_one W.kitx_str I.kIn True.intro e (fun z => nomatch z) h
 | flt y => obtain ⟨t, q⟩ := (show ∃ t, u = Value.float y t from rx); cases q; exact W.kia_one W.kitx_float I.kIn True.intro e (fun z => nomatch z) h
 | @lst a xs ea =>
  cases (show u = Value.ref a from rx);obtain ⟨_, _, n, _, h1⟩ := (show ObjOk X.prog X.w H s.heap a (.lst xs) from I.hok a _ ea)
  exact W.kia_one W.kitx_list I.kIn ⟨_, h1, rfl⟩ e (fun z => nomatch z) h
 | @frz a ob xs ea =>
  cases (show u = Value.ref a from rx);obtain ⟨_, _, _, n, _, h1⟩ := (show ObjOk X.prog X.w H s.heap a (.frz ob (.lst xs)) from I.hok a _ ea)
  exact W.kia_one W.kitx_list I.kIn ⟨_, h1, rfl⟩ e (fun z => nomatch z) h
 | @tup a xs ea =>
  cases (show u = Value.ref a from rx);obtain ⟨_, _, _, p⟩ := (show ObjOk X.prog X.w H s.heap a (.tup xs) from I.hok a _ ea)
  obtain ⟨o, h1, h2, _⟩ := p;exact W.kia_one W.kitx_tuple I.kIn ⟨o, h1, h2⟩ e (fun z => nomatch z) h
 | @dK a kvs ea =>
  cases (show u = Value.ref a from rx);obtain ⟨_, _, vs, _, p⟩ := (show ObjOk X.prog X.w H s.heap a (.dK kvs) from I.hok a _ ea)
  obtain ⟨o, es, ep, h1, h2, _⟩ := p;exact W.kia_one W.kitx_dict I.kIn ⟨o, h1, h2.1⟩ e (fun z => nomatch z) h
 | @dT a kvs ea =>
  cases (show u = Value.ref a from rx);obtain ⟨_, _, xs, _, o, es, ep, h1, h2, _⟩ := (show ObjOk X.prog X.w H s.heap a (.dT kvs) from I.hok a _ ea)
  exact W.kia_one W.kitx_dict I.kIn ⟨o, h1, h2.1⟩ e (fun z => nomatch z) h
 | @ins a C dx fs ea cl ha hn htk hm =>
  cases (show u = Value.ref a from rx);obtain ⟨mA, O, _⟩ := zkw I.hok ea;obtain ⟨od, J, _⟩ := O.look;exact W.kia_one (W.kitx_own (cl.get _) cl.hd ha hn htk hm) I.kIn J e (fun z => nomatch z) h
end
structure Room (k : Nat) (A : Around) : Prop where
 hd : A.handled = none
 dp : A.depth + 3 * k + 5 < recursionLimit
 un : A.units + 16 * k + 200 < cLine
 gd : A.guards = some []
theorem Room.mono {j k : Nat} {A : Around} (r : Room k A) (h : j <= k) : Room j A := ⟨r.hd, by have := r.dp; omega, by have := r.un; omega, r.gd⟩
theorem Room.deeper {k : Nat} {A : Around} (r : Room (k + 1) A) (env : Env) : Room k (A.deeper env) :=
 ⟨r.hd, by have := r.dp; show A.depth + 1 + 3 * k + 5 < _; omega, by have := r.un; show A.units + 3 + 16 * k + 200 < _; omega, r.gd⟩
theorem Room.depth {k : Nat} {A : Around} (r : Room k A) : A.depth < recursionLimit := by have := r.dp; omega
theorem Room.units {k : Nat} {A : Around} (r : Room k A) : A.units + 64 < cLine := by have := r.un; omega
def tNil : TA := fun _ H Q => Q [] H
def zlT (ta : TE) (tr : TA) : TA := fun σ H Q => ta σ H fun x H1 => tr σ H1 fun xs H2 => Q (x :: xs) H2
section
variable {X : Cx} {e : Expr} {es : List Expr} {te : TE} {t : TA} {pos : Pos}
theorem zaf : PA X [] tNil := fun _ _ _ _ H Q I h => Calls.spliced_nil ⟨[], H, I, .nil, h⟩
theorem zaa (ha : PE X e te) (hr : PA X es t) (hs : starEach (e :: es) X.env = (false, eval e X.env) :: starEach es X.env := by rfl) : PA X (e :: es) (zlT te t) := by
 intro pos Qa s σ H Q I h;rw [hs];show wpAny _ _ (spliced ((false, eval e X.env) :: backTo pos (starEach es X.env))) _ _ s;refine Calls.spliced_cons (thn (ha Qa s σ H _ I h) fun u s1 ⟨x, H1, I1, r1, q1⟩ => ?_);exact thn (hr pos Qa s1 σ H1 _ I1 q1) fun us s2 ⟨xs, H2, I2, r2, q2⟩ => ⟨x :: xs, H2, I2, .cons r1 r2, q2⟩
def tTup (t : TA) : TE := fun σ H Q => t σ H fun xs H1 => xs.length <= sizeLine /\ ∀ p, H1 p = none -> Q (.ref p) (upd H1 p (.tup xs))
def tLst (t : TA) : TE := fun σ H Q => t σ H fun xs H1 => xs.length <= sizeLine /\ ∀ p, H1 p = none -> Q (.ref p) (upd H1 p (.lst xs))
theorem zcv {x1} (h : PA X es t) : PE X (.Tuple es x1 pos) (tTup t) := by
 intro Qa s σ H Q I hq;refine wpAny_Tuple_spliced (thn (h pos Qa s σ H _ I hq) fun us s1 ⟨xs, H1, I1, r, z, q⟩ => ⟨by rw [<- r.length]; exact z, ?_⟩);have hf : H1 s1.heap.objs.size = none := I1.hok.fresh (yai _);refine ⟨.ref s1.heap.objs.size, upd H1 s1.heap.objs.size (.tup xs), I1.laid (t' := s1.toks) (fun b u e => yac _ e) (yai _) ?_, rfl, q _ hf⟩;exact ⟨z, us, r, ⟨_, yaj _ rfl, rfl, _, rfl⟩⟩
theorem zbn (h : PA X es t) : PE X (.List es pos) (tLst t) := by
 intro Qa s σ H Q I hq;refine wpAny_List_spliced (thn (h pos Qa s σ H _ I hq) fun us s1 ⟨xs, H1, I1, r, z, q⟩ => ⟨by rw [<- r.length]; exact z, ?_⟩);have hf : H1 s1.heap.objs.size = none := I1.hok.fresh (yai _);refine ⟨.ref s1.heap.objs.size, upd H1 s1.heap.objs.size (.lst xs), I1.laid (t' := s1.toks) (fun b u e => yac _ e) (yai _) ?_, rfl, q _ hf⟩;exact ⟨z, us, 0, r, yaj _ rfl⟩
end
abbrev Sp := List V -> Hp -> VK -> XK -> Prop
abbrev CXT := List Env -> Hp -> Shared -> XK -> Value -> Shared -> Prop
structure Env0 (P : Program) (w : World) (K : W.Frag) (mg : Str -> Option Value) (base : Heap) (A : Around) (outer : List Env) (s : Shared) (H : Hp) : Prop where
 frames : A.frames = some outer
 mod : Mod K mg base
 bs : ∀ b o, base.get? b = some o -> s.heap.get? b = some o /\ H b = none
 bsz : base.objs.size <= s.heap.objs.size
 funs : s.heap.FunFrames base outer
 frf : ∀ b ∈ frs outer, H b = none
 hok : HOk P w H s.heap
 bare : AllBare s.gens
def CE (outer : List Env) (P : Program) (w : World) (H : Hp) (s : Shared) (Q : VK) (u : Value) (s' : Shared) : Prop :=
 ∃ v H', s'.os = s.os /\ AllBare s'.gens /\ Un (frs outer) [] H H' s.heap s'.heap /\ HOk P w H' s'.heap /\ RelV v u /\ Q v H'
def CR (CX : CXT) (outer : List Env) (P : Program) (w : World) (H : Hp) (s : Shared) (Q : VK) (E : XK) (r : Result) (s' : Shared) : Prop :=
 match r with
 | .ok (.ret u) => CE outer P w H s Q u s'
 | .ok _ => False
 | .error e => CX outer H s E e s'
structure FnOk (P : Program) (w : World) (K : W.Frag) (mg : Str -> Option Value) (base : Heap) (CX : CXT) (k : Nat) (f : Addr) (fd : FuncData) (ps : List Str) (sp : Sp) : Prop where
 len : ∀ vs H Q E, sp vs H Q E -> vs.length = ps.length
 run : ∀ (A : Around) (outer : List Env) (s : Shared) (H : Hp) (args : Args) (us : List Value) (vs : List V) (Q : VK) (E : XK), Room k A -> Env0 P w K mg base A outer s H -> BindsTo s fd args (ps.zip us) -> Vals vs us -> sp vs H Q E ->
  codeAny (model P w) A (.call (.ref f) args) (CR CX outer P w H s Q E) s
section
variable {X : Cx} {Qa : ZP} {σ : St} {H : Hp} {s s' : Shared}
theorem Inv.env0 (I : Inv X Qa σ H s) : Env0 X.prog X.w X.K X.mg X.base X.A X.stack s H :=
 ⟨I.ok.frames, I.ok.mod, I.bs, yat I.ok.bsz I.sz, I.stack, I.stkFree, I.hok, I.bare⟩
theorem Inv.after {Q : VK} {u : Value} (I : Inv X Qa σ H s) (h : CE X.stack X.prog X.w H s Q u s') : EP X Qa σ Q u s' := by
 obtain ⟨v, H', os, bare, un, hok, r, q⟩ := h;obtain ⟨hh, g, d, t, os'⟩ := s';obtain rfl : os' = s.os := os;exact ⟨v, H', I.call (h' := hh) (g' := g) (d' := d) (t' := t) (ch := []) un hok bare (fun b z => absurd z ς), r, q⟩
end
def zkx (sp : Sp) (dvs : List V) (E : XK) (t : TA) : TE := fun σ H Q => t σ H fun vs H1 => sp (vs ++ dvs) H1 Q E
def Binds (K : W.Frag) (fd : FuncData) (ps : List Str) (ds : List Value) : Prop :=
 ∀ (s : Shared) (us : List Value), K.In s.heap -> (us ++ ds).length = ps.length -> BindsTo s fd ⟨us, []⟩ (ps.zip (us ++ ds))
theorem Binds.all {K : W.Frag} {fd : FuncData} {ps : List Str} (h : ∀ us : List Value, us.length = ps.length -> bindArgs fd ⟨us, []⟩ = pure (ps.zip us)) : Binds K fd ps [] := fun s us _ hl => by
 rw [List.append_nil] at hl ⊢;exact .of_eq (h us hl)
def zfL (CX : CXT) (X : Cx) (E : XK) : Prop := ∀ (Qa : ZP) (σ : St) (H : Hp) (s : Shared) (e : Value) (s' : Shared), Inv X Qa σ H s -> CX X.stack H s E e s' -> X.xe e s'
section
variable {X : Cx} {CX : CXT} {k : Nat} {f C : Addr} {fd : FuncData} {ps : List Str} {sp : Sp} {dvs : List V} {ds : List Value} {E : XK} {x m : Str} {p pos apos : Pos} {e o : Expr} {es : List Expr} {ta : TE} {t : TA}
theorem zlU {Qa : ZP} {σ : St} {H : Hp} {s : Shared} {Q : VK} {us : List Value} {vs : List V} (F : FnOk X.prog X.w X.K X.mg X.base CX k f fd ps sp) (hr : Room k X.A) (hb : Binds X.K fd ps ds) (hd : Vals dvs ds) (hx : zfL CX X E)
  (I : Inv X Qa σ H s) (r : Vals vs us) (h : sp (vs ++ dvs) H Q E) : wpAny (model X.prog X.w) X.A (call (.ref f) us) (EP X Qa σ Q) X.xe s := by
 have r2 : Vals (vs ++ dvs) (us ++ ds) := r.append hd;have hl : (us ++ ds).length = ps.length := by rw [<- r2.length]; exact F.len _ _ _ _ h
 refine wpAny_call (codeAny_mono (F.run X.A X.stack s H ⟨us, []⟩ (us ++ ds) (vs ++ dvs) Q E hr I.env0 (hb s us I.kIn hl) r2 h) fun r s' hq => ?_);cases r with
 | error e => exact hx Qa σ H s e s' I hq
 | ok fl =>
  cases fl with
  | ret u => exact I.after hq
  | next => exact False.elim hq
  | brk => exact False.elim hq
  | cont => exact False.elim hq
theorem zan (F : FnOk X.prog X.w X.K X.mg X.base CX k f fd ps sp) (hr : Room k X.A) (hg : Gl X x) (hm : X.mg x = some (.ref f)) (hk : W.keepIn X.K (.ref f) = true) (hb : Binds X.K fd ps ds) (hd : Vals dvs ds) (hx : zfL CX X E)
  (ha : PA X (e :: es) t) (hdb : (x == ("__debug__" : Str)) = false := by decide) (he : starEach (e :: es) X.env = (false, eval e X.env) :: starEach es X.env := by rfl) (hpl : (backTo pos (starEach es X.env)).any (·.1) = false := by rfl) :
  PE X (.Call (.Name x p) (e :: es) [] pos) (zkx sp dvs E t) := by
 intro Qa s σ H Q I h;refine wpAny_Call_Name_kw (zcx I hg hm ?_ hdb);refine W.callWith_K (h₀ := X.base) I.ok.mod.kin hk (thn (ha pos Qa s σ H _ I h) fun us s1 ⟨vs, H1, I1, r, q⟩ => ⟨I1.kIn, ?_⟩) he hpl;exact zlU F hr hb hd hx I1 r q
structure Mk (K : W.Frag) (C f : Addr) : Prop where
 makes : W.makesIn K C = true
 init : W.findIn K (.ref C) "__init__" = some (some (.ref f))
 fn : W.isFn K (.ref f) = true
 kp : W.keepIn K (.ref C) = true
end
section
variable {X : Cx} {CX : CXT} {k : Nat} {f C : Addr} {fd : FuncData} {ps ks : List Str} {sp : Sp} {E : XK} {x m : Str} {p pos apos kpos : Pos} {e o : Expr} {es : List Expr} {kws : List Keyword} {te ta : TE} {t tk : TA} {nm : Option Str}
structure zo4 (K : W.Frag) (fd : FuncData) (ps ks : List Str) (g : List Value -> List Value -> List Value) (gV : List V -> List V -> List V) : Prop where
 to : ∀ (s : Shared) (us ws : List Value), K.In s.heap -> (g us ws).length = ps.length -> BindsTo s fd ⟨us, ks.zip ws⟩ (ps.zip (g us ws))
 rel : ∀ {vs : List V} {us : List Value} {zs : List V} {ws : List Value}, Vals vs us -> Vals zs ws -> Vals (gV vs zs) (g us ws)
variable {g : List Value -> List Value -> List Value} {gV : List V -> List V -> List V}
end
structure zau (N P : List Str) (sc : Scope) : Prop where
 kind : sc.kind = .function
 co : sc.isCoroutine = false
 gen : sc.isGenerator = false
 nd : N.Nodup
 pre : N.take P.length = P
 par : ∀ x ∈ P, sc.names.lookup x = some .local \/ sc.names.lookup x = some .cell
 nofree : ∀ y ∈ sc.names, y.2 ≠ .free
theorem ze6 {kindOf : Str -> Option NameKind} {x : Str} : ∀ {binds : List (Str × Value)} {m : Str -> Option Value}, (∀ v, (x, v) ∉ binds) -> bindL kindOf binds m x = m x
 | [], _, _ => rfl
 | (n, v) :: r, m, h => by
  unfold bindL;rw [ze6 fun w hw => h w (List.mem_cons_of_mem _ hw)]
  split
  ·have : x ≠ n := by rintro rfl; exact h v List.mem_cons_self
   simp [this]
  ·rfl
theorem ze7 {kindOf : Str -> Option NameKind} {x : Str} : ∀ {binds : List (Str × Value)} {m : Str -> Option Value}, (∀ v, (x, v) ∉ binds) -> bindC kindOf binds m x = m x
 | [], _, _ => rfl
 | (n, v) :: r, m, h => by
  unfold bindC;rw [ze7 fun w hw => h w (List.mem_cons_of_mem _ hw)]
  split
  ·rfl
  ·have : x ≠ n := by rintro rfl; exact h v List.mem_cons_self
   simp [this]
theorem ze8 {kindOf : Str -> Option NameKind} {x : Str} {v : Value} : ∀ {P : List Str} {vs : List Value} {i : Nat} {m : Str -> Option Value}, P.Nodup -> P[i]? = some x -> vs[i]? = some v -> kindOf x = some .local ->
  bindL kindOf (P.zip vs) m x = some v
 | [], _, _, _, _, h, _, _ => by simp at h
 | _ :: _, [], _, _, _, _, h, _ => by simp at h
 | p :: P, w :: vs, 0, m, nd, h1, h2, hk => by
  simp at h1 h2; subst h1; subst h2;show bindL kindOf ((p, w) :: P.zip vs) m p = _;unfold bindL;rw [ze6 fun v hv => (List.nodup_cons.mp nd).1 (List.of_mem_zip hv).1, if_pos hk];simp
 | p :: P, w :: vs, i + 1, m, nd, h1, h2, hk => by
  show bindL kindOf ((p, w) :: P.zip vs) m x = _;unfold bindL;exact ze8 (i := i) (List.nodup_cons.mp nd).2 (by simpa using h1) (by simpa using h2) hk
theorem ze9 {kindOf : Str -> Option NameKind} {x : Str} {v : Value} : ∀ {P : List Str} {vs : List Value} {i : Nat} {m : Str -> Option Value}, P.Nodup -> P[i]? = some x -> vs[i]? = some v -> kindOf x ≠ some .local ->
  bindC kindOf (P.zip vs) m x = some v
 | [], _, _, _, _, h, _, _ => by simp at h
 | _ :: _, [], _, _, _, _, h, _ => by simp at h
 | p :: P, w :: vs, 0, m, nd, h1, h2, hk => by
  simp at h1 h2; subst h1; subst h2;show bindC kindOf ((p, w) :: P.zip vs) m p = _;unfold bindC;rw [ze7 fun v hv => (List.nodup_cons.mp nd).1 (List.of_mem_zip hv).1, if_neg hk];simp
 | p :: P, w :: vs, i + 1, m, nd, h1, h2, hk => by
  show bindC kindOf ((p, w) :: P.zip vs) m x = _;unfold bindC;exact ze9 (i := i) (List.nodup_cons.mp nd).2 (by simpa using h1) (by simpa using h2) hk
def start (N : List Str) (vs : List V) : St := vs.map some ++ List.replicate (N.length - vs.length) none
def cxOf (CX : CXT) (P : Program) (w : World) (K : W.Frag) (mg : Str -> Option Value) (base : Heap) (N : List Str) (qual : Str) (scope : Scope) (f : Addr) (cd : Value) (A : Around) (outer : List Env) (s : Shared) (H : Hp) (E : XK) : Cx where
 prog := P
 w := w
 K := K
 mg := mg
 base := base
 A := A.deeper (envOfC qual scope s.heap.objs.size f cd)
 N := N
 s₀ := s
 H₀ := H
 env := envOfC qual scope s.heap.objs.size f cd
 outer := outer
 stack := envOfC qual scope s.heap.objs.size f cd :: outer
 ex := []
 calm := true
 fn := fun _ => true
 pn := []
 xe := fun e s' => wpAny (model P w) (A.deeper (envOfC qual scope s.heap.objs.size f cd)) (leaving (envOfC qual scope s.heap.objs.size f cd) e) (fun _ s'' => CX outer H s E e s'') (fun e' s'' => CX outer H s E e' s'') s'
theorem zfM {sc : Scope} {n : Nat} {x : Str} (h : sc.names.lookup x = some .cell) : ∃ c, (cellsFrom n sc.names []).lookup x = some c := by
 have q := W.cellsFrom_some sc.names n [] (.inl h);exact Option.isSome_iff_exists.mp q
theorem zeA {CX : CXT} {P : Program} {w : World} {K : W.Frag} {mg : Str -> Option Value} {base : Heap} {N ps : List Str} {qual : Str} {scope : Scope} {f : Addr} {cd : Value} {A : Around} {outer : List Env} {s s1 : Shared} {H : Hp} {E : XK} {us : List Value} {vs : List V}
  (S : zau N ps scope) (hd : A.handled = none) (e0 : Env0 P w K mg base A outer s H) (hl : vs.length = ps.length) (r : Vals vs us)
  (x : InCallC s s.heap.objs.size (bindL (envOfC qual scope s.heap.objs.size f cd).kindOf (ps.zip us) fun _ => none) (cellsFrom (s.heap.objs.size + 1) scope.names []) (bindC (envOfC qual scope s.heap.objs.size f cd).kindOf (ps.zip us) fun _ => none) s1) :
  Inv (cxOf CX P w K mg base N qual scope f cd A outer s H E) [] (start N vs) H s1 := by
 have hpl : ps.length <= N.length := by have := congrArg List.length S.pre; rw [ya3] at this; omega
 obtain ⟨h1, tk, rfl, hk⟩ := x.done;have noA : ∀ b : Addr, b ∉ (cxOf CX P w K mg base N qual scope f cd A outer s H E).ex := fun b z => absurd (show b ∈ ([] : List Addr) from z) ς;refine ⟨⟨e0.mod, S.kind, rfl, rfl, yai _, fun y z c h1 h2 => ?_, fun y hy => ?_, fun y c _ h => ?_, fun _ => hd, Around.frames_deeper e0.frames, .inr ⟨rfl, rfl⟩, fun b z => absurd z (noA b), e0.bs, e0.bsz, fun b _ _ => noA b, fun b z => absurd z (noA b), e0.funs, e0.frf⟩,
  rfl, e0.bare, Un.kept hk, ⟨_, x.toInCall.ns, fun i y v h1 h2 h3 => ?_⟩, fun y c h => ⟨_, x.cell y c h⟩, e0.hok.fresh (yai _), fun y c h => ?_, fun p hp => absurd (show p ∈ ([] : ZP) from hp) ς, e0.hok.kept hk, ?_⟩
 ·exact name_of_addr x.apart (PySem.mem_of_lookup h1) (PySem.mem_of_lookup h2)
 ·have hy : scope.names.lookup y = some .cell \/ scope.names.lookup y = some .free := hy;rcases hy with hy | hy
  ·exact zfM hy
  ·exact absurd rfl (S.nofree _ (PySem.mem_of_lookup hy))
 ·exact Nat.le_of_lt (x.above y c (PySem.mem_of_lookup h))
 ·have hi : i < vs.length := by
   unfold start at h2
   by_cases hi : i < vs.length
   ·exact hi
   ·rw [List.getElem?_append_right (by simpa using hi)] at h2;rw [List.getElem?_replicate] at h2
    split at h2 <;> cases h2
  have ha : vs[i]? = some v := by
   unfold start at h2;rw [ya5 (by simpa using hi), yav] at h2;cases e : vs[i]? with
   | none => rw [e] at h2; cases h2
   | some a => rw [e] at h2; cases h2; rfl
  obtain ⟨u, hu, rv⟩ := r.get ha;have hp : ps[i]? = some y := by
   rw [<- S.pre, List.getElem?_take_of_lt ω]; exact h1
  have ndP : ps.Nodup := by rw [<- S.pre]; exact S.nd.sublist (List.take_sublist _ _)
  refine ⟨u, rv, ?_⟩;rcases S.par y (ya1 hp) with k | k
  ·exact .inl ⟨k, ze8 ndP hp hu k⟩
  ·obtain ⟨c, e⟩ := zfM (n := s.heap.objs.size + 1) k;refine .inr ⟨.inl k, c, e, ?_⟩;have q := x.cell y c e;rw [ze9 ndP hp hu (by show scope.names.lookup y ≠ _; rw [k]; decide)] at q;exact q
 ·exact e0.hok.fresh (Nat.le_of_lt (x.above y c (PySem.mem_of_lookup h)))
 ·unfold start;show _ = N.length;rw [yae, yaf, List.length_replicate];omega
theorem zlV {CX : CXT} {P : Program} {w : World} {K : W.Frag} {mg : Str -> Option Value} {base : Heap} {k : Nat} {f : Addr} {name qual : Str} {params : Arguments} {body : List Stmt} {scope : Scope} {dV kV doc pm cdv ct oc : Value} {an od : Option Addr}
  {osl : Array (Option Value)} {N ps : List Str} {sp : Sp} (lk : K.lookup f = some ⟨oc, od, .func (W.fnOf name qual params body scope dV kV doc pm an cdv ct), osl⟩) (hcd : W.codeIn K cdv qual = true) (S : zau N ps scope)
  (len : ∀ vs H Q E, sp vs H Q E -> vs.length = ps.length)
  (hbody : ∀ (A : Around) (outer : List Env) (s : Shared) (H : Hp) (vs : List V) (Q : VK) (E : XK), Room k (A.deeper (envOfC qual scope s.heap.objs.size f cdv)) -> sp vs H Q E ->
   ∃ t, PSs (cxOf CX P w K mg base N qual scope f cdv A outer s H E) body t /\ t { nx := fun _ H' => Q .non H', rt := Q } (start N vs) H) :
  FnOk P w K mg base CX (k + 1) f (W.fnOf name qual params body scope dV kV doc pm an cdv ct) ps sp := by
 refine ⟨len, fun A outer s H args us vs Q E hr e0 hb r hsp => ?_⟩;have hl := len _ _ _ _ hsp;have KX : K.In s.heap := e0.mod.kin.keeps fun b o e => (e0.bs b o e).1;have lim : s.heap.NoLimit := e0.mod.nolimit.keeps fun b o e => (e0.bs b o e).1;have hkind : ∀ y ∈ ps.zip us, scope.names.lookup y.1 = some .local \/ (scope.names.lookup y.1 = some .cell /\ ((cellsFrom (s.heap.objs.size + 1) scope.names []).lookup y.1).isSome = true) := fun ⟨n, v⟩ hy => by
  rcases S.par n (List.of_mem_zip hy).1 with q | q
  ·exact .inl q
  ·exact .inr ⟨q, W.cellsFrom_some _ _ _ (.inl q)⟩
 refine codeAny_call_function hr.depth (KX _ _ lk) rfl S.co S.gen rfl (W.codeRec_of KX hcd) (hb _ _ _ _ ?_);refine wpAny_newFunctionEnv_cells S.kind hkind fun env he s1 x => ?_;subst he;refine ⟨lim.keeps x.toInCall.keep, codeAny_func ?_⟩;obtain ⟨t, ht, hq⟩ := hbody A outer s H vs Q E (hr.deeper _) hsp;have I : Inv (cxOf CX P w K mg base N qual scope f cdv A outer s H E) [] (start N vs) H s1 := zeA S hr.hd e0 hl r x;refine wpAny_mono (ht [] s1 (start N vs) H _ I hq) (fun fl s' hs => ?_) fun e s' hs => hs;have fin : ∀ {σ' : St} {H' : Hp} {v : V} {u : Value}, Inv (cxOf CX P w K mg base N qual scope f cdv A outer s H E) [] σ' H' s' -> RelV v u -> Q v H' -> CE outer P w H s Q u s' :=
  fun {σ' H' v u} J rv q => ⟨v, H', J.os, J.bare, J.base, J.hok, rv, q⟩
 cases fl with
 | ret u =>
  obtain ⟨v, σ', H', J, rv, q⟩ := hs;exact fin J rv q
 | next =>
  obtain ⟨σ', H', J, q⟩ := hs;exact fin (v := V.non) (u := Value.none) J rfl q
 | brk =>
  obtain ⟨_, _, _, q⟩ := hs;exact False.elim q
 | cont =>
  obtain ⟨_, _, _, q⟩ := hs;exact False.elim q
section
variable {X : Cx} {x : Str} {p pos : Pos} {e : Expr} {es : List Expr} {t : TA} {id T : String} {r : List V -> Hp -> VK -> Prop}
def tCB (r : List V -> Hp -> VK -> Prop) (t : TA) : TE := fun σ H Q => t σ H fun vs H1 => r vs H1 Q
theorem zas (hc : zb4 X (.builtin id) r) (hg : Gl X x) (hm : X.mg x = none) (hv : bootBuiltins x = some (.builtin id)) (ha : PA X (e :: es) t) (hn : x ≠ "__name__" := by decide) (hdb : (x == ("__debug__" : Str)) = false := by decide)
  (he : starEach (e :: es) X.env = (false, eval e X.env) :: starEach es X.env := by rfl) (hpl : (backTo pos (starEach es X.env)).any (·.1) = false := by rfl) : PE X (.Call (.Name x p) (e :: es) [] pos) (tCB r t) := by
 intro Qa s σ H Q I h;refine wpAny_Call_Name_kw (ze5 I hg hm hv ?_ hn hdb);exact PyProof.Rows.callWith_builtin1 (thn (ha pos Qa s σ H _ I h) fun us s1 ⟨vs, H1, I1, r1, q1⟩ => hc Qa s1 σ H1 vs us Q I1 r1 q1) he hpl
theorem za9 (hc : zb4 X (.type T) r) (hg : Gl X x) (hm : X.mg x = none) (hv : bootBuiltins x = some (.type T)) (ha : PA X (e :: es) t) (hn : x ≠ "__name__" := by decide) (hdb : (x == ("__debug__" : Str)) = false := by decide)
  (he : starEach (e :: es) X.env = (false, eval e X.env) :: starEach es X.env := by rfl) (hpl : (backTo pos (starEach es X.env)).any (·.1) = false := by rfl) : PE X (.Call (.Name x p) (e :: es) [] pos) (tCB r t) := by
 intro Qa s σ H Q I h;refine wpAny_Call_Name_kw (ze5 I hg hm hv ?_ hn hdb);exact PyProof.Rows.callWith_type1 (thn (ha pos Qa s σ H _ I h) fun us s1 ⟨vs, H1, I1, r1, q1⟩ => hc Qa s1 σ H1 vs us Q I1 r1 q1) he hpl
end
end L2
namespace HT
open PySem PyProof.Rows
section
open PySem.SeqAt
open PySem.AutoSeq1 (wpAny_loadPart')
open PySem.MeetsSeq PySem.MeetsSeq2 PySem.MeetsSeq3
end
section
variable {prog : Program} {w : World} {A : Around} {E : ZQ} {s : Shared}
theorem cat_tup {t b : Addr} {vs ws : List Value} {Q : ZQ} (ht : IsTup s.heap t vs.toArray) (hb : IsTup s.heap b ws.toArray) (hv : vs ≠ [])
  (h1 : ws = [] -> Q (.ref t) s) (h2 : ws ≠ [] -> Q (.ref s.heap.objs.size) { s with heap := s.heap.push { cls := .type "tuple", data := .seq (vs ++ ws).toArray } })
  (hsz : vs.length + ws.length <= sizeLine) : wpAny (model prog w) A (binaryOp .Add (.ref t) (.ref b)) Q E s := by
 obtain ⟨⟨cls, dd, data, sl⟩, ho, hc, n, hd⟩ := id ht;obtain ⟨⟨cls2, dd2, data2, sl2⟩, ho2, hc2, n2, hd2⟩ := id hb;simp only at hc hd hc2 hd2;subst hc hd hc2 hd2;have e : vs.toArray ++ ws.toArray = (vs ++ ws).toArray := by simp
 by_cases hw : ws = []
 ·exact concat_meets ⟨_, ho, rfl⟩ ⟨_, ho2, rfl⟩ noFill_tuple_add seq_tuple_add PySem.F.slot_tuple_add PySem.F.entry_tuple_add (PySem.F.args_tuple_add_2 _ _)
   (tuple_addW1 t b vs.toArray ws.toArray n n2 dd dd2 sl sl2 (by simpa using hv) (by simp [hw])) ⟨ho, ho2, h1 hw⟩
 ·refine concat_meets ⟨_, ho, rfl⟩ ⟨_, ho2, rfl⟩ noFill_tuple_add seq_tuple_add PySem.F.slot_tuple_add PySem.F.entry_tuple_add (PySem.F.args_tuple_add_2 _ _)
   (tuple_addW2 t b vs.toArray ws.toArray n n2 dd dd2 sl sl2 (by simpa using hv) (by simpa using hw) (by rw [yad, yad]; exact hsz)) ⟨ho, ho2, ?_⟩
  rw [e];exact h2 hw
def sIx (n d : Nat) : Option Int -> Nat
 | none => d
 | some v => if v < 0 then (v + (n : Int)).toNat else min v.toNat n
theorem sIx_none (n d : Nat) : sIx n d none = d := rfl
theorem sIx_nat (n d k : Nat) : sIx n d (some (k : Int)) = min k n := by
 show (if (k : Int) < 0 then ((k : Int) + (n : Int)).toNat else min (k : Int).toNat n) = min k n;rw [if_neg ω, ya4]
theorem sIx_le (n d : Nat) (hd : d <= n) (o : Option Int) : sIx n d o <= n := by
 cases o with
 | none => exact hd
 | some v =>
  show (if v < 0 then (v + (n : Int)).toNat else min v.toNat n) <= n
  by_cases hv : v < 0
  ·rw [if_pos hv]; omega
  ·rw [if_neg hv]; exact Nat.min_le_right _ _
theorem clip_eq (v : Int) (n d : Nat) : (if v < 0 then max (v + (n : Int)) 0 else min v (n : Int)) = ((sIx n d (some v) : Nat) : Int) := by
 show (if v < 0 then max (v + (n : Int)) 0 else min v (n : Int)) = (((if v < 0 then (v + (n : Int)).toNat else min v.toNat n) : Nat) : Int)
 by_cases hv : v < 0
 ·simp only [if_pos hv]; omega
 ·simp only [if_neg hv]; omega
theorem zg3 (lo hi : Option Int) (n : Nat) : Builtin.Slice.sliceAdjust lo hi 1 (n : Int) = (((sIx n 0 lo : Nat) : Int), ((sIx n n hi : Nat) : Int)) := by
 have h1 : ¬ ((1 : Int) < 0) := by omega
 unfold Builtin.Slice.sliceAdjust;simp only [h1, if_false];refine Prod.ext ?_ ?_
 ·cases lo with
  | none => rfl
  | some v => exact clip_eq v n 0
 ·cases hi with
  | none => rfl
  | some v => exact clip_eq v n n
theorem zg4 (i j : Nat) : Builtin.Slice.slicePlaces (i : Int) (j : Int) 1 = j - i := by
 unfold Builtin.Slice.slicePlaces;have h1 : (1 : Int) > 0 := by omega
 simp only [h1, if_true, Int.ediv_one]
 split <;> omega
theorem zdN {v : Value} {o : Option Int} {Q : Option Int -> Shared -> Prop} (p : IsPart v o) (h : Q o s) : wpAny (model prog w) A (Builtin.Slice.slicePartIndex v) Q E s := by
 cases p with
 | none => exact slicePart_none h
 | int i t => exact slicePart_int h
theorem zcf {sl : Addr} {vl vu : Value} {lo hi : Option Int} {n : Nat} {Q : Int × Int × Nat -> Shared -> Prop} (hs : s.heap.IsSliceOf sl vl vu .none) (pl : IsPart vl lo) (pu : IsPart vu hi)
  (h : Q (((sIx n 0 lo : Nat) : Int), 1, sIx n n hi - sIx n 0 lo) s) : wpAny (model prog w) A (Builtin.Slice.sliceApplied (.ref sl) (pure (n : Int))) Q E s := by
 obtain ⟨os, hos, hcs, hds⟩ := id hs;unfold Builtin.Slice.sliceApplied Builtin.Slice.sliceFields;refine yaa (yaa (wpAny_field hos hds (x := vl) rfl (yaa (wpAny_field hos hds (x := vu) rfl (yaa (wpAny_field hos hds (x := .none) rfl (yab ?_)))))));refine yaa (slicePart_none ?_);show wpAny _ _ (if ((1 : Int) == 0) = true then _ else _) _ _ s;rw [if_neg δ];refine yaa (zdN pl (yaa (zdN pu (yaa (yab ?_)))));show wpAny _ _ (match Builtin.Slice.sliceAdjust lo hi 1 (n : Int) with | (lo, hi) => pure (lo, (1 : Int), Builtin.Slice.slicePlaces lo hi 1)) _ _ s;rw [zg3 lo hi n];show wpAny _ _ (pure (((sIx n 0 lo : Nat) : Int), (1 : Int), Builtin.Slice.slicePlaces ((sIx n 0 lo : Nat) : Int) ((sIx n n hi : Nat) : Int) 1)) _ _ s;rw [zg4];exact yab h
theorem ziR (xs : Array Value) (i k : Nat) : ((List.range k).filterMap fun (m : Nat) => xs[((i : Int) + (m : Int) * 1).toNat]?).toArray = ((xs.toList.drop i).take k).toArray := by
 have e : (fun (m : Nat) => xs[((i : Int) + (m : Int) * 1).toNat]?) = fun m => xs[i + m]? := by
  funext m
  have : ((i : Int) + (m : Int) * 1).toNat = i + m := by omega
  rw [this]
 rw [e];have := pick_run xs i k;rw [List.filterMap_map] at this;have e2 : ((fun x => xs[x]?) ∘ fun x => i + x) = fun m => xs[i + m]? := rfl;rw [e2] at this;rw [this]
theorem getItem_tuple_cut {t sl : Addr} {items : Array Value} {vl vu : Value} {lo hi : Option Int} {Q : ZQ} (ht : IsTup s.heap t items) (hs : s.heap.IsSliceOf sl vl vu .none) (pl : IsPart vl lo) (pu : IsPart vu hi)
  (hw : ¬ (sIx items.size 0 lo = 0 /\ sIx items.size items.size hi = items.size))
  (h : Q (.ref s.heap.objs.size) { s with heap := s.heap.push { cls := .type "tuple", data := .seq ((items.toList.drop (sIx items.size 0 lo)).take (sIx items.size items.size hi - sIx items.size 0 lo)).toArray } })
  (hsz : items.size <= sizeLine) : wpAny (model prog w) A (getItem (.ref t) (.ref sl)) Q E s := by
 have htake : sizeOk (.seq ((items.toList.drop (sIx items.size 0 lo)).take (sIx items.size items.size hi - sIx items.size 0 lo)).toArray) := by
  show ((items.toList.drop (sIx items.size 0 lo)).take (sIx items.size items.size hi - sIx items.size 0 lo)).toArray.size <= sizeLine;rw [yad, ya3, List.length_drop, Array.length_toList];omega
 have hj : sIx items.size items.size hi <= items.size := sIx_le _ _ (yai _) hi;obtain ⟨os, hos, hcs, hds⟩ := id hs;have hTs : s.TypeIs (.ref sl) "slice" := ⟨os, hos, hcs⟩
 unfold getItem
 try with_reducible refine wpAny_holding ?_
 first | refine yaa (yab ?_) | skip
 refine yaa (wpAny_sequenceKey ht.typeIs δ ?_);refine yaa (wpAny_callSpecial?_slot (name := Str.ofString "__getitem__") ht.typeIs PyProof.Rows.slot_tuple_getitem
  (wpAny_call_entry PyProof.Rows.slot_tuple_getitem ht.typeIs entry_tuple_getitem ?_ (args_tuple_getitem _ _)))
 show wpAny _ _ (Builtin.Tuple.tupleItemsOf (.ref t) >>= _) _ _ s;refine yaa (tupleItemsOf_ ht ?_);refine yaa (wpAny_typeOf hTs ?_);rw [if_pos δ];refine yaa (zcf hs pl pu ?_);have hno : ¬ ((((sIx items.size 0 lo : Nat) : Int) == 0 && (1 : Int) == 1 && (sIx items.size items.size hi - sIx items.size 0 lo) == items.size) = true) := by
  intro q;rw [Bool.and_eq_true, Bool.and_eq_true] at q;have q1 : ((sIx items.size 0 lo : Nat) : Int) = 0 := eq_of_beq q.1.1;have q2 : sIx items.size items.size hi - sIx items.size 0 lo = items.size := eq_of_beq q.2;exact hw ⟨ω,ω⟩
 show wpAny _ _ (if (((sIx items.size 0 lo : Nat) : Int) == 0 && (1 : Int) == 1 && (sIx items.size items.size hi - sIx items.size 0 lo) == items.size) = true then _ else _) _ _ s;rw [if_neg hno, ziR]
 first
  | exact yaa (m := Builtin.Tuple.tupleExact _) (wpAny_newObj_type (yab ⟨_, rfl, yab h⟩) htake)
  | exact yaa (m := Builtin.Tuple.tupleExact _) (wpAny_newObj_type (yaa (yab (yab ⟨_, rfl, yab h⟩))) htake)
  | exact yaa (yaa (m := Builtin.Tuple.tupleExact _) (wpAny_newObj_type (yab (yab ⟨_, rfl, yab h⟩)) htake))
  | exact yaa (yaa (m := Builtin.Tuple.tupleExact _) (wpAny_newObj_type (yab ⟨_, rfl, yab h⟩) htake))
end
end HT
namespace L2
open PySem PySem.Spec PyProof.Rows
abbrev TO := St -> Hp -> (Option Int -> Hp -> Prop) -> Prop
def PO (X : Cx) (e : Option Expr) (t : TO) : Prop :=
 ∀ (Qa : ZP) (s : Shared) (σ : St) (H : Hp) (Q : Option Int -> Hp -> Prop), Inv X Qa σ H s -> t σ H Q ->
  wpAny (model X.prog X.w) X.A (evalPart e X.env) (fun u s' => ∃ o H', Inv X Qa σ H' s' /\ IsPart u o /\ Q o H') X.xe s
def zhn : TO := fun _ H Q => Q none H
def zlW (t : TE) : TO := fun σ H Q => t σ H fun x H1 => ∃ i, x = .int i /\ Q (some i) H1
section
variable {X : Cx} {e : Expr} {te : TE} {lo hi : Option Expr} {tl th : TO} {pos p2 : Pos}
theorem zbk : PO X none zhn := by
 intro Qa s σ H Q I h;rw [evalPart_none];exact yab ⟨none, H, I, .none, h⟩
theorem zbg (h : PE X e te) : PO X (some e) (zlW te) := by
 intro Qa s σ H Q I hw;rw [evalPart_some];refine thn (h Qa s σ H _ I hw) fun u s1 ⟨x, H1, I1, r1, q1⟩ => ?_;obtain ⟨i, rfl, q⟩ := q1;obtain ⟨t, rfl⟩ := r1;exact ⟨some i, H1, I1, .int i t, q⟩
def SlR (X : Cx) (r : V -> Option Int -> Option Int -> Hp -> VK -> Prop) : Prop :=
 ∀ (Qa : ZP) (s : Shared) (σ : St) (H : Hp) (x : V) (v vl vu : Value) (lo hi : Option Int) (sl : Addr) (Q : VK), Inv X Qa σ H s -> RelV x v -> s.heap.IsSliceOf sl vl vu .none -> IsPart vl lo -> IsPart vu hi -> r x lo hi H Q ->
  ∃ T id, typeLookup (.type T) "__getitem__" = pure (some (.builtin id)) /\ s.TypeIs v T /\ wpAny (model X.prog X.w) X.A (getItem v (.ref sl)) (EP X Qa σ Q) X.xe s
theorem SlR.or {r r' : V -> Option Int -> Option Int -> Hp -> VK -> Prop} (h : SlR X r) (h' : SlR X r') : SlR X (fun x lo hi H Q => r x lo hi H Q \/ r' x lo hi H Q) := by
 intro Qa s σ H x v vl vu lo hi sl Q I rx hs pl pu q;rcases q with q | q
 ·exact h Qa s σ H x v vl vu lo hi sl Q I rx hs pl pu q
 ·exact h' Qa s σ H x v vl vu lo hi sl Q I rx hs pl pu q
def tSl (r : V -> Option Int -> Option Int -> Hp -> VK -> Prop) (te : TE) (tl th : TO) : TE := fun σ H Q => te σ H fun x H1 => tl σ H1 fun l H2 => th σ H2 fun u H3 => r x l u H3 Q
theorem zaR {r : V -> Option Int -> Option Int -> Hp -> VK -> Prop} (hr : SlR X r) (he : PE X e te) (hl : PO X lo tl) (hu : PO X hi th) : PE X (.Subscript e (.Slice lo hi none p2) pos) (tSl r te tl th) := by
 intro Qa s σ H Q I h;refine Subscript_ (thn (he Qa s σ H _ I h) fun v s1 ⟨x, H1, I1, r1, q1⟩ => ?_);refine wpAny_Slice (thn (hl Qa s1 σ H1 _ I1 q1) fun vl s2 ⟨l, H2, I2, pl, q2⟩ => thn (hu Qa s2 σ H2 _ I2 q2) fun vu s3 ⟨u, H3, I3, pu, q3⟩ => ?_);rw [evalPart_none];refine yab ?_;have I4 : Inv X Qa σ H3 { s3 with heap := s3.heap.push { cls := .type "slice", data := .fields #[vl, vu, .none] } } := I3.kept (t' := s3.toks) fun b ob q => yac _ q;obtain ⟨T, id, hT, ht, hg⟩ := hr Qa { s3 with heap := s3.heap.push { cls := .type "slice", data := .fields #[vl, vu, .none] } } σ H3 x v vl vu l u s3.heap.objs.size Q I4 r1 (Heap.IsSliceOf.new ..) pl pu q3;show wpAny (model X.prog X.w) X.A (subscriptTail e (.Slice lo hi none p2) v (.ref s3.heap.objs.size)) (EP X Qa σ Q) X.xe { s3 with heap := s3.heap.push { cls := .type "slice", data := .fields #[vl, vu, .none] } };exact tail_any (ops := [.ref s3.heap.objs.size, v]) ht hT hg (by with_unfolding_all rfl)
def cutV (xs : List V) (lo hi : Option Int) : List V := (xs.drop (HT.sIx xs.length 0 lo)).take (HT.sIx xs.length xs.length hi - HT.sIx xs.length 0 lo)
theorem zdm (xs : List V) (lo hi : Option Int) : (cutV xs lo hi).length <= xs.length := by
 unfold cutV;rw [ya3, List.length_drop];omega
def rSlT (K : W.Frag) : V -> Option Int -> Option Int -> Hp -> VK -> Prop := fun x lo hi H Q => ∃ a xs, x = .ref a /\ SqT K H a xs /\
 ¬ (HT.sIx xs.length 0 lo = 0 /\ HT.sIx xs.length xs.length hi = xs.length) /\ ∀ p, H p = none -> Q (.ref p) (upd H p (.tup (cutV xs lo hi)))
theorem zlX : SlR X (rSlT X.K) := by
 intro Qa s σ H x v vl vu lo hi sl Q I rx hs pl pu h;obtain ⟨a, xs, rfl, hx, hw, q⟩ := h;cases rx;obtain ⟨its, r, ht, hz⟩ := I.tuple hx;have Qe : its.toArray.size = xs.length := by rw [yad]; exact r.length.symm
 refine ⟨"tuple", _, PyProof.Rows.slot_tuple_getitem.lookup, ht.typeIs, ?_⟩;refine HT.getItem_tuple_cut ht hs pl pu (by rw [Qe]; exact hw) ?_ (by rw [Qe]; exact hz);rw [Qe];refine ⟨.ref s.heap.objs.size, _, I.laid (t' := s.toks) (o := .tup (cutV xs lo hi)) (fun b ob q => yac _ q) (yai _) ?_, rfl, q _ (I.hok.fresh (yai _))⟩;exact ⟨yat (zdm xs lo hi) hz, _, (r.drop (HT.sIx xs.length 0 lo)).take (HT.sIx xs.length xs.length hi - HT.sIx xs.length 0 lo), IsTup.new _ _⟩
def zlY (K : W.Frag) : R2 := fun x y H Q => ∃ a b xs ys, x = .ref a /\ y = .ref b /\ SqT K H a xs /\ SqT K H b ys /\ xs ≠ [] /\ xs.length + ys.length <= sizeLine /\
 (ys = [] -> Q (.ref a) H) /\ (ys ≠ [] -> ∀ p, H p = none -> Q (.ref p) (upd H p (.tup (xs ++ ys))))
theorem Vals.nil_iff {xs : List V} {us : List Value} (r : Vals xs us) : us = [] ↔ xs = [] := by
 cases r with
 | nil => simp
 | cons _ _ => simp
theorem zky : OpR X (binaryOp .Add) (zlY X.K) := by
 intro Qa s σ H x y v u Q I rx ry h;obtain ⟨a, b, xs, ys, rfl, rfl, ha, hb, hx, hz, q1, q2⟩ := h;cases rx;cases ry;obtain ⟨its, r1, p1, _⟩ := I.tuple ha;obtain ⟨its2, r2, p2, _⟩ := I.tuple hb;refine HT.cat_tup p1 p2 (fun z => hx (r1.nil_iff.mp z)) (fun z => ⟨.ref a, H, I, rfl, q1 (r2.nil_iff.mp z)⟩) (fun z => ?_) (by rw [<- r1.length, <- r2.length]; exact hz);refine ⟨.ref s.heap.objs.size, _, I.laid (t' := s.toks) (o := .tup (xs ++ ys)) (fun b ob q => yac _ q) (yai _) ?_, rfl, q2 (fun w => z (r2.nil_iff.mpr w)) _ (I.hok.fresh (yai _))⟩;exact ⟨by rw [yae]; exact hz, _, r1.append r2, IsTup.new _ _⟩
end
def ixN (n : Nat) (i : Int) : Option Nat := if 0 <= i then (if i < n then some i.toNat else none) else if -(n : Int) <= i then some (i + n).toNat else none
def atI {α : Type} (xs : List α) (i : Int) : Option α := (ixN xs.length i).bind fun j => xs[j]?
theorem zho {n : Nat} {i : Int} {j : Nat} (h : ixN n i = some j) : seqIndex? i n = some j /\ j < n /\ -(n : Int) <= i /\ i < n := by
 unfold ixN at h
 by_cases h0 : 0 <= i
 ·rw [if_pos h0] at h
  by_cases h1 : i < n
  ·rw [if_pos h1] at h;have e : i.toNat = j := Option.some.inj h;exact ⟨by rw [seqIndex_of h0 h1, e],ω,ω, h1⟩
  ·rw [if_neg h1] at h; cases h
 ·rw [if_neg h0] at h
  by_cases h1 : -(n : Int) <= i
  ·rw [if_pos h1] at h;have e : (i + n).toNat = j := Option.some.inj h;exact ⟨by rw [seqIndex_neg ω h1, e],ω, h1,ω⟩
  ·rw [if_neg h1] at h; cases h
theorem zfu {α : Type} {xs : List α} {i : Int} {v : α} (h : atI xs i = some v) : ∃ j, seqIndex? i xs.length = some j /\ xs[j]? = some v /\ j < xs.length /\ -(xs.length : Int) <= i /\ i < xs.length := by
 unfold atI at h;cases e : ixN xs.length i with
 | none => rw [e] at h; cases h
 | some j =>
  rw [e] at h;obtain ⟨h1, h2, h3, h4⟩ := zho e;exact ⟨j, h1, h, h2, h3, h4⟩
theorem zam {α : Type} {xs : List α} {j : Nat} {v : α} (h : xs[j]? = some v) : atI xs (j : Int) = some v := by
 have hj : j < xs.length := (yag.mp h).1;have e : ixN xs.length (j : Int) = some j := by
  unfold ixN;rw [if_pos ω, if_pos ω]; simp
 unfold atI; rw [e]; exact h
def zkz (b : Expr) : Prop := ∀ o i, subscripted b false o i = operate [o, i] (getItem o i)
def IxR (X : Cx) (r : R2) : Prop :=
 ∀ (value slice : Expr) (Qa : ZP) (s : Shared) (σ : St) (H : Hp) (x y : V) (v u : Value) (Q : VK), Inv X Qa σ H s -> RelV x v -> RelV y u -> r x y H Q ->
  subscripted slice false v u = operate [v, u] (getItem v u) -> wpAny (model X.prog X.w) X.A (subscriptTail value slice v u) (EP X Qa σ Q) X.xe s
def MtR (X : Cx) (id : String) (r : V -> List V -> Hp -> VK -> Prop) : Prop :=
 ∀ (Qa : ZP) (s : Shared) (σ : St) (H : Hp) (x : V) (xs : List V) (v : Value) (us : List Value) (Q : VK), Inv X Qa σ H s -> RelV x v -> Vals xs us -> r x xs H Q ->
  wpAny (model X.prog X.w) X.A (call (.builtin id) (v :: us)) (EP X Qa σ Q) X.xe s
section
variable {X : Cx} {a b : Expr} {ta tb : TE} {pos : Pos}
theorem IxR.or {r r' : R2} (h : IxR X r) (h' : IxR X r') : IxR X (fun x y H Q => r x y H Q \/ r' x y H Q) := by
 intro value slice Qa s σ H x y v u Q I rx ry q hs;rcases q with q | q
 ·exact h value slice Qa s σ H x y v u Q I rx ry q hs
 ·exact h' value slice Qa s σ H x y v u Q I rx ry q hs
theorem za4 {r : R2} (hr : IxR X r) (ha : PE X a ta) (hb : PE X b tb) (hs : zkz b) : PE X (.Subscript a b pos) (tOp r ta tb) := by
 intro Qa s σ H Q I h;exact Subscript_ (binT ha hb I h fun v u s2 x y H2 I2 rx ry q => hr a b Qa s2 σ H2 x y v u Q I2 rx ry q (hs _ _))
def rIxL (K : W.Frag) : R2 := fun x y H Q => ∃ p xs i v, x = .ref p /\ y = .int i /\ SqL K H p xs /\ atI xs i = some v /\ Q v H
def rIxT (K : W.Frag) : R2 := fun x y H Q => ∃ p xs i v, x = .ref p /\ y = .int i /\ SqT K H p xs /\ atI xs i = some v /\ Q v H
def rIxS : R2 := fun x y H Q => ∃ z i c, x = .str z /\ y = .int i /\ z.length <= sizeLine /\ atI z.cps.toList i = some c /\ Q (.str ⟨#[c]⟩) H
theorem ix_list : IxR X (rIxL X.K) := by
 intro value slice Qa s σ H x y v u Q I rx ry h hs;obtain ⟨p, xs, i, z, rfl, rfl, hq, he, q⟩ := h;cases rx;obtain ⟨t, rfl⟩ := ry;obtain ⟨its, r, pl, hz⟩ := I.list hq;obtain ⟨j, h1, h2, h3, h4, h5⟩ := zfu he;obtain ⟨w, ew, rw'⟩ := r.get h2;have hl := r.length;have hn := zdM;have fin : EP X Qa σ Q w s := ⟨z, H, I, rw', q⟩
 by_cases h0 : 0 <= i
 ·have hj : i.toNat = j := by
   rw [seqIndex_of h0 h5] at h1;exact Option.some.inj h1
  exact item_listR pl.isList h0 ω (by rw [hj]; simpa using ew) fin hs
 ·have hj : (i + (its.toArray.size : Int)).toNat = j := by
   rw [seqIndex_neg ω h4] at h1;rw [yad, <- hl];exact Option.some.inj h1
  exact subscriptTail_builtinR (x := w) pl.isList.typeIs slot_list_getitem.lookup
   (wpAny_getItem_list_neg (Q := fun r s' => r = w /\ EP X Qa σ Q r s') pl.isList ω (by rw [yad] <;> omega) ω (by rw [hj]; simpa using ew) ⟨rfl, fin⟩) hs
theorem ix_tup : IxR X (rIxT X.K) := by
 intro value slice Qa s σ H x y v u Q I rx ry h hs;obtain ⟨p, xs, i, z, rfl, rfl, hq, he, q⟩ := h;cases rx;obtain ⟨t, rfl⟩ := ry;obtain ⟨its, r, pl, hz⟩ := I.tuple hq;obtain ⟨j, h1, h2, h3, h4, h5⟩ := zfu he;obtain ⟨w, ew, rw'⟩ := r.get h2;have hl := r.length;have hn := zdM;have fin : EP X Qa σ Q w s := ⟨z, H, I, rw', q⟩
 exact subscriptTail_builtinR (x := w) pl.typeIs slot_tuple_getitem.lookup
  (getItem_tuple (j := j) (Q := fun r s' => r = w /\ EP X Qa σ Q r s') pl ω ω (by rw [yad, <- hl]; exact h1) (by simpa using ew) ⟨rfl, fin⟩) hs
theorem zlZ : IxR X rIxS := by
 intro value slice Qa s σ H x y v u Q I rx ry h hs;obtain ⟨z, i, c, rfl, rfl, hz, he, q⟩ := h;obtain ⟨t, rfl⟩ := rx;obtain ⟨t', rfl⟩ := ry;obtain ⟨j, h1, h2, h3, h4, h5⟩ := zfu he;have hl : z.cps.toList.length = z.length := by simp [Str.length]
 rw [hl] at h1 h4 h5;have hn := zdM;exact tail_any (typeIs_str s z t) slot_str_getitem.lookup (getItem_str (c := c) (by
  have e1 : decide (i < -(2 ^ 63 : Int)) = false := ya8 ω;have e2 : decide (i ≥ 2 ^ 63) = false := ya8 ω;rw [e1, e2, Bool.or_false]) (by rw [h1]; simpa using h2) ⟨.str ⟨#[c]⟩, H, I.tok _, ⟨_, rfl⟩, q⟩) hs
def rIx (K : W.Frag) : R2 := fun x y H Q => rIxL K x y H Q \/ rIxT K x y H Q \/ rIxS x y H Q
theorem ix_seq : IxR X (rIx X.K) := ix_list.or (ix_tup.or zlZ)
theorem zg5 (its : List Value) (n j : Nat) (u : Value) : Obj.mapSeq (·.setIfInBounds j u) { cls := .type "list", data := .seq its.toArray n } = { cls := .type "list", data := .seq (its.set j u).toArray n } := by
 simp [Obj.mapSeq]
theorem Inv.lst {Qa : ZP} {σ : St} {H : Hp} {s : Shared} {p : Addr} {xs : List V} (I : Inv X Qa σ H s) (h : H p = some (.lst xs)) :
  ∃ (its : List Value) (n : Nat), Vals xs its /\ s.heap.get? p = some { cls := .type "list", data := .seq its.toArray n } /\ xs.length <= sizeLine := by
 obtain ⟨z, its, n, r, e⟩ := I.hok p _ h;exact ⟨its, n, r, e, z⟩
theorem Inv.lstUpd {Qa : ZP} {σ : St} {H : Hp} {s : Shared} {p : Addr} {xs ys : List V} {its its' : List Value} {n n' : Nat} {f : Obj -> Obj} (I : Inv X Qa σ H s) (h : H p = some (.lst xs))
  (ho : s.heap.get? p = some { cls := .type "list", data := .seq its.toArray n }) (hf : f { cls := .type "list", data := .seq its.toArray n } = { cls := .type "list", data := .seq its'.toArray n' }) (r : Vals ys its') (hz : ys.length <= sizeLine) (t : Nat) :
  Inv X Qa σ (upd H p (.lst ys)) { s with heap := s.heap.update p f, toks := t } := by
 have e : (s.heap.update p f).get? p = some { cls := .type "list", data := .seq its'.toArray n' } := by
  rw [Heap.get?_update_self f ho (by rw [hf] <;> rfl), hf]
 refine I.write (x := p) (e := p) (by rw [h]; trivial) (.inl rfl) (fun b u hb q => (Heap.get?_update_other _ _ (Ne.symm hb)).trans q) ⟨_, e⟩ ?_;exact ⟨hz, its', n', r, e⟩
def zma : V -> V -> V -> Hp -> (Hp -> Prop) -> Prop := fun o i v H Q => ∃ p xs k j, o = .ref p /\ i = .int k /\ H p = some (.lst xs) /\ ixN xs.length k = some j /\ Q (upd H p (.lst (xs.set j v)))
theorem zco : PSet X zma := by
 intro Qa s σ H o i v ov iv u Q I ro ri rv h;obtain ⟨p, xs, k, j, rfl, rfl, hp, hj, q⟩ := h;cases ro;obtain ⟨t, rfl⟩ := ri;obtain ⟨its, n, r, ho, hz⟩ := I.lst hp;obtain ⟨h1, h2, h3, h4⟩ := zho hj;have hl := r.length;have hn := zdM;have I' : Inv X Qa σ (upd H p (.lst (xs.set j v))) { s with heap := s.heap.update p (Obj.mapSeq (·.setIfInBounds j u)) } :=
  I.lstUpd hp ho (zg5 its n j u) (r.set rv j) (by rw [List.length_set]; exact hz) s.toks
 by_cases h0 : 0 <= k
 ·have hk : k.toNat = j := by
   rw [seqIndex_of h0 h4] at h1;exact Option.some.inj h1
  exact W.ki_setAt ho h0 ω (by rw [yad, <- hl]; exact h4) (by rw [hk]; exact ⟨_, I', q⟩)
 ·have hk : (k + (its.toArray.size : Int)).toNat = j := by
   rw [seqIndex_neg ω h3] at h1;rw [yad, <- hl];exact Option.some.inj h1
  exact W.ki_setBack ho ω (by rw [yad, <- hl]; exact h3) ω (by rw [hk]; exact ⟨_, I', q⟩)
theorem zeB (lo hi : Option Int) (n : Nat) : (sliceBounds lo hi none n).1 = ((HT.sIx n 0 lo : Nat) : Int) /\ (sliceBounds lo hi none n).2.1 = ((HT.sIx n n hi : Nat) : Int) /\ (sliceBounds lo hi none n).2.2 = 1 := by
 refine ⟨?_, ?_, rfl⟩
 ·cases lo with
  | none => simp [sliceBounds, HT.sIx]
  | some i =>
   simp only [sliceBounds, HT.sIx, Option.getD_none, show (1 : Int) > 0 by decide, if_true]
   by_cases h : i < 0
   ·simp only [h, if_true] <;> omega
   ·simp only [h, if_false] <;> omega
 ·cases hi with
  | none => simp [sliceBounds, HT.sIx]
  | some i =>
   simp only [sliceBounds, HT.sIx, Option.getD_none, show (1 : Int) > 0 by decide, if_true]
   by_cases h : i < 0
   ·simp only [h, if_true] <;> omega
   ·simp only [h, if_false] <;> omega
theorem zec (its : List Value) (lo hi : Option Int) : slicePick its.toArray lo hi none = ((its.drop (HT.sIx its.length 0 lo)).take (HT.sIx its.length its.length hi - HT.sIx its.length 0 lo)).toArray := by
 obtain ⟨h1, h2, h3⟩ := zeB lo hi its.toArray.size;unfold slicePick;rw [h1, h2, h3];simp only [sliceRange_one, pick_run, List.size_toArray] <;> rfl
def rSlL (K : W.Frag) : V -> Option Int -> Option Int -> Hp -> VK -> Prop := fun x lo hi H Q => ∃ a xs, x = .ref a /\ SqL K H a xs /\ ∀ p, H p = none -> Q (.ref p) (upd H p (.lst (cutV xs lo hi)))
theorem zk0 : SlR X (rSlL X.K) := by
 intro Qa s σ H x v vl vu lo hi sl Q I rx hs pl pu h;obtain ⟨a, xs, rfl, hx, q⟩ := h;cases rx;obtain ⟨its, r, ht, hz⟩ := I.list hx;have Qe := r.length;refine ⟨"list", _, slot_list_getitem.lookup, ht.isList.typeIs, ?_⟩;refine wpAny_getItem_list_slice ht.isList hs pl pu .none ς ?_ (by rw [yad] <;> omega);rw [zec, <- Qe];refine ⟨.ref s.heap.objs.size, _, I.laid (t' := s.toks) (o := .lst (cutV xs lo hi)) (fun b ob q => yac _ q) (yai _) ?_, rfl, q _ (I.hok.fresh (yai _))⟩;exact ⟨yat (zdm xs lo hi) hz, _, 0, (r.drop (HT.sIx xs.length 0 lo)).take (HT.sIx xs.length xs.length hi - HT.sIx xs.length 0 lo), yaj _ rfl⟩
def zb5 : V -> Bool
 | .non => true
 | .bl _ => true
 | .int _ => true
 | .str _ => true
 | _ => false
def eqV : V -> V -> Bool
 | .non, .non => true
 | .bl a, .bl b => a == b
 | .bl a, .int b => (if a then 1 else 0) == b
 | .int a, .bl b => a == (if b then 1 else 0)
 | .int a, .int b => a == b
 | .str a, .str b => a == b
 | _, _ => false
theorem zhp {A : Around} {s : Shared} {y x : V} {u v : Value} (ry : RelV y u) (rx : RelV x v) (fy : zb5 y = true) (fx : zb5 x = true) : SeqAt.EqAt A s u v (eqV y x) := by
 cases y with
 | non =>
  cases ry;cases x with
  | non => cases rx; exact SeqAt.EqAt.same _
  | bl b => cases rx; exact SeqAt.EqAt.none_bool b
  | int b => obtain ⟨t, rfl⟩ := rx; exact SeqAt.EqAt.none_int b t
  | str b => obtain ⟨t, rfl⟩ := rx; exact SeqAt.EqAt.none_str b t
  | _ => exact absurd (show false = true from fx) yam
 | bl a =>
  cases ry;cases x with
  | non => cases rx; exact SeqAt.EqAt.bool_none a
  | bl b => cases rx; exact SeqAt.EqAt.bool_bool a b
  | int b => obtain ⟨t, rfl⟩ := rx; exact SeqAt.EqAt.bool_int a b t
  | str b => obtain ⟨t, rfl⟩ := rx; exact SeqAt.EqAt.bool_str a b t
  | _ => exact absurd (show false = true from fx) yam
 | int a =>
  obtain ⟨t', rfl⟩ := ry;cases x with
  | non => cases rx; exact SeqAt.EqAt.int_none a t'
  | bl b => cases rx; exact SeqAt.EqAt.int_bool a t' b
  | int b => obtain ⟨t, rfl⟩ := rx; exact SeqAt.EqAt.int_int a t' b t
  | str b => obtain ⟨t, rfl⟩ := rx; exact SeqAt.EqAt.int_str a t' b t
  | _ => exact absurd (show false = true from fx) yam
 | str a =>
  obtain ⟨t', rfl⟩ := ry;cases x with
  | non => cases rx; exact SeqAt.EqAt.str_none a t'
  | bl b => cases rx; exact SeqAt.EqAt.str_bool a t' b
  | int b => obtain ⟨t, rfl⟩ := rx; exact SeqAt.EqAt.str_int a t' b t
  | str b => obtain ⟨t, rfl⟩ := rx; exact SeqAt.EqAt.str_str a t' b t
  | _ => exact absurd (show false = true from fx) yam
 | _ => exact absurd (show false = true from fy) yam
def eqU (x : V) (u : Value) : Bool := match u with
 | .none => eqV .non x
 | .bool b => eqV (.bl b) x
 | .int i _ => eqV (.int i) x
 | .str z _ => eqV (.str z) x
 | _ => false
theorem zjQ {x y : V} {u : Value} (r : RelV y u) (f : zb5 y = true) : eqU x u = eqV y x := by
 cases y with
 | non => cases r; rfl
 | bl b => cases r; rfl
 | int i => obtain ⟨t, rfl⟩ := r; rfl
 | str z => obtain ⟨t, rfl⟩ := r; rfl
 | _ => exact absurd (show false = true from f) yam
theorem zdn {x : V} : ∀ {xs : List V} {us : List Value}, Vals xs us -> xs.all zb5 = true -> us.any (eqU x) = xs.any fun y => eqV y x
 | _, _, .nil, _ => rfl
 | y :: xs, u :: us, .cons r t, f => by
  rw [List.all_cons, Bool.and_eq_true] at f;rw [List.any_cons, List.any_cons, zjQ r f.1, zdn t f.2]
theorem zc2 {A : Around} {s : Shared} {x : V} {v : Value} (rx : RelV x v) (fx : zb5 x = true) : ∀ {xs : List V} {us : List Value}, Vals xs us -> xs.all zb5 = true -> ∀ u ∈ us, SeqAt.EqAt A s u v (eqU x u)
 | _, _, .nil, _ => fun u hu => by cases hu
 | y :: xs, u :: us, .cons r t, f => fun u' hu => by
  rw [List.all_cons, Bool.and_eq_true] at f;rcases yau.mp hu with rfl | hu
  ·rw [zjQ r f.1]; exact zhp r rx f.1 fx
  ·exact zc2 rx fx t f.2 u' hu
def inV (x : V) (xs : List V) : Bool := xs.any fun y => eqV y x
def rIn (K : W.Frag) (neg : Bool) : R2 := fun x y H Q => ∃ p xs, y = .ref p /\ (SqL K H p xs \/ SqT K H p xs) /\ zb5 x = true /\ xs.all zb5 = true /\ Q (.bl (if neg then !inV x xs else inV x xs)) H
theorem zhq : OpR X (compareOp .In) (rIn X.K false) := by
 intro Qa s σ H x y v u Q I rx ry h;obtain ⟨p, xs, rfl, hq, fx, fs, q⟩ := h;cases ry;rcases hq with hq | hq
 ·obtain ⟨its, r, pl, hz⟩ := I.list hq;refine SeqAt.in_listAt (eqU x) pl.isList (fun w hw => zc2 rx fx r fs w (by simpa using hw)) ⟨.bl _, H, I, rfl, ?_⟩;rw [show its.toArray.any (eqU x) = its.any (eqU x) by simp, zdn r fs];exact q
 ·obtain ⟨its, r, pl, hz⟩ := I.tuple hq;refine SeqAt.in_tupleAt (eqU x) pl (fun w hw => zc2 rx fx r fs w (by simpa using hw)) ⟨.bl _, H, I, rfl, ?_⟩;rw [show its.toArray.any (eqU x) = its.any (eqU x) by simp, zdn r fs];exact q
theorem zeC : OpR X (compareOp .NotIn) (rIn X.K true) := by
 intro Qa s σ H x y v u Q I rx ry h;obtain ⟨p, xs, rfl, hq, fx, fs, q⟩ := h;cases ry;rcases hq with hq | hq
 ·obtain ⟨its, r, pl, hz⟩ := I.list hq;refine SeqAt.notIn_listAt (eqU x) pl.isList (fun w hw => zc2 rx fx r fs w (by simpa using hw)) ⟨.bl _, H, I, rfl, ?_⟩;rw [show its.toArray.any (eqU x) = its.any (eqU x) by simp, zdn r fs];exact q
 ·obtain ⟨its, r, pl, hz⟩ := I.tuple hq;refine SeqAt.notIn_tupleAt (eqU x) pl (fun w hw => zc2 rx fx r fs w (by simpa using hw)) ⟨.bl _, H, I, rfl, ?_⟩;rw [show its.toArray.any (eqU x) = its.any (eqU x) by simp, zdn r fs];exact q
theorem zeD : OpR X (compareOp .NotIn) (fun x y H Q => ∃ i j, x = .str i /\ y = .str j /\ Q (.bl (!(!(Builtin.Str.occurrences j i 0 j.length 1).isEmpty))) H) := by
 intro Qa s σ H x y v u Q I rx ry h;obtain ⟨i, j, rfl, rfl, q⟩ := h;obtain ⟨t, rfl⟩ := rx;obtain ⟨t', rfl⟩ := ry;exact notIn_str ⟨.bl _, H, I, rfl, q⟩
theorem call_tuple_of : zb4 X (.type "tuple") (fun xs H Q => ∃ p ys, xs = [.ref p] /\ ((SqL X.K H p ys /\ ∀ l, H l = none -> Q (.ref l) (upd H l (.tup ys))) \/ (SqT X.K H p ys /\ Q (.ref p) H))) := by
 intro Qa s σ H xs us Q I r h;obtain ⟨p, ys, rfl, h⟩ := h;obtain ⟨u, rfl, rx⟩ := zcW r;cases rx;rcases h with ⟨hq, q⟩ | ⟨hq, q⟩
 ·obtain ⟨its, r', pl, hz⟩ := I.list hq;have Qe := r'.length;refine call_tuple_list pl.isList (fun h' kp => ?_) (by simp only [List.size_toArray] <;> omega);have I1 : Inv X Qa σ H { s with heap := h' } := I.kept (t' := s.toks) kp;have I2 : Inv X Qa σ (upd H h'.objs.size (.tup ys)) { s with heap := h'.push { cls := .type "tuple", data := .seq its.toArray } } :=
   I1.laid (t' := s.toks) (fun b o e => yac _ e) (yai _) (show ObjOk X.prog X.w _ _ _ (.tup ys) from ⟨hz, its, r', IsTup.new _ _⟩)
  exact ⟨.ref h'.objs.size, _, I2, rfl, q _ (I1.hok.fresh (yai _))⟩
 ·obtain ⟨its, r', pl, hz⟩ := I.tuple hq;exact call_tuple_same pl ⟨.ref p, H, I, rfl, q⟩
def tyV (K : W.Frag) (T : String) (x : V) (H : Hp) : Prop := match x with
 | .str _ => T = "str"
 | .int _ => T = "int"
 | .ref p => (T = "list" /\ ∃ xs, SqL K H p xs) \/ (T = "tuple" /\ ∃ o, K.lookup p = some o /\ o.cls = .type "tuple" /\ o.dict = none) \/
   (T = "dict" /\ ((∃ kvs, H p = some (.dK kvs)) \/ ∃ kvs, H p = some (.dT kvs))) \/ (T = "set" /\ ∃ S n, H p = some (.set S n))
 | _ => False
theorem zmb {Qa : ZP} {σ : St} {H : Hp} {s : Shared} {T : String} {x : V} {v : Value} (I : Inv X Qa σ H s) (r : RelV x v) (ty : tyV X.K T x H) :
  s.TypeIs v T /\ ∀ a, v = .ref a -> ∃ ob, s.heap.get? a = some ob /\ ob.dict = none := by
 cases x with
 | str z =>
  obtain ⟨t, rfl⟩ := r;cases (show T = "str" from ty);exact ⟨typeIs_str s z t, fun _ e => nomatch e⟩
 | int i =>
  obtain ⟨t, rfl⟩ := r;cases (show T = "int" from ty);exact ⟨typeIs_int s i t, fun _ e => nomatch e⟩
 | ref p =>
  cases r;rcases ty with ⟨rfl, xs, hq⟩ | ⟨rfl, o, hk, hc, hd⟩ | ⟨rfl, hk⟩ | ⟨rfl, S, n, hk⟩
  ·obtain ⟨its, _, pl, _⟩ := I.list hq;refine ⟨pl.isList.typeIs, fun a e => ?_⟩;cases e;obtain ⟨o, n, e, c, hd, _⟩ := pl;exact ⟨o, e, hd⟩
  ·refine ⟨⟨o, I.kIn p o hk, hc⟩, fun a e => ?_⟩;cases e;exact ⟨o, I.kIn _ o hk, hd⟩
  ·have z : ∃ o, s.heap.get? p = some o /\ o.ExactDict := by
    rcases hk with ⟨kvs, hk⟩ | ⟨kvs, hk⟩
    ·obtain ⟨_, _, _, _, o, _, _, e, ex, _⟩ := I.hok p _ hk;exact ⟨o, e, ex⟩
    ·obtain ⟨_, _, _, _, o, _, _, e, ex, _⟩ := I.hok p _ hk;exact ⟨o, e, ex⟩
   obtain ⟨o, e, ex⟩ := z;refine ⟨⟨o, e, ex.1⟩, fun a e2 => ?_⟩;cases e2;exact ⟨o, e, ex.2.1⟩
  ·obtain ⟨o, _, _, _, e, ex, _⟩ := I.hok p _ hk;refine ⟨⟨o, e, ex.1⟩, fun a e2 => ?_⟩;cases e2;exact ⟨o, e, ex.2.1⟩
 | _ => exact False.elim ty
def tBM (K : W.Frag) (T : String) (r : V -> List V -> Hp -> VK -> Prop) (to : TE) (t : TA) : TE := fun σ H Q => to σ H fun x H1 => tyV K T x H1 /\ t σ H1 fun xs H2 => r x xs H2 Q
variable {o e : Expr} {es : List Expr} {to : TE} {t : TA} {name : Str} {apos cpos : Pos} {T id : String} {r : V -> List V -> Hp -> VK -> Prop}
theorem znF (pa : PlainAttrs T) (slot : Slot T name id) (hty : typeOf (.builtin id) = pure (.type "method_descriptor")) (hm : MtR X id r) (ho : PE X o to) (ha : PA X (e :: es) t)
  (hbase : attributeBase o name X.env (eval o X.env) = eval o X.env := by rfl)
  (hfew : ((backTo cpos (starEach (e :: es) X.env)).all (fun x => !x.1) && (backToKw cpos (keywordEach [] X.env)).all (fun x => x.1.isSome)
   && decide ((e :: es).length + ([] : List Keyword).length + (if ([] : List Keyword).isEmpty then 0 else 1) < 30)) = true := by rfl)
  (hline : (apos.endLine == cpos.line) = true := by rfl) (hs : starEach (e :: es) X.env = (false, eval e X.env) :: starEach es X.env := by rfl) (hplain : (backTo cpos (starEach es X.env)).any (·.1) = false := by rfl) :
  PE X (.Call (.Attribute o name apos) (e :: es) [] cpos) (tBM X.K T r to t) := by
 intro Qa s σ H Q I h;refine wpAny_Call_method_late hbase hfew hline rfl (thn (ho Qa s σ H _ I h) fun v s1 ⟨x, H1, I1, r1, ty, q1⟩ => ?_);obtain ⟨h1, h2⟩ := zmb I1 r1 ty;refine ⟨T, id, pa, slot, hty, h1, h2, ?_⟩;have hA := ha cpos Qa s1 σ H1 _ I1 q1;rw [hs] at hA ⊢;refine Calls.callWith_builtin (by show (false || (backTo cpos (starEach es X.env)).any (·.1)) = false; rw [hplain] <;> rfl) (Calls.evalArgs_plain ?_);exact thn hA fun us s2 ⟨vs, H2, I2, r2, q2⟩ => hm Qa s2 σ H2 x vs v us Q I2 r1 r2 q2
end
def MtM (X : Cx) (id : String) (r : V -> List V -> Hp -> VK -> Prop) : Prop :=
 ∀ (Qa : ZP) (s : Shared) (σ : St) (H : Hp) (x : V) (xs : List V) (v : Value) (us : List Value) (Q : VK), Inv X Qa σ H s -> RelV x v -> Vals xs us -> r x xs H Q ->
  wpAny (model X.prog X.w) X.A (call (.builtin id) (v :: us)) (EP X Qa σ Q) X.xe s
theorem Vals.one : ∀ {x : V} {us : List Value}, Vals [x] us -> ∃ u, us = [u] /\ RelV x u
 | _, _, .cons r .nil => ⟨_, rfl, r⟩
theorem Vals.rep {xs : List V} {us : List Value} (h : Vals xs us) : ∀ k : Nat, Vals (List.replicate k xs).flatten (List.replicate k us).flatten
 | 0 => .nil
 | k + 1 => by
  rw [List.replicate_succ, List.replicate_succ, List.flatten_cons, List.flatten_cons];exact Vals.append h (Vals.rep h k)
theorem zeE (its : List Value) : ∀ (k : Nat) (acc : List Value),
  List.foldl (fun x1 x2 => x1 ++ x2) acc.toArray (List.replicate k its.toArray) = (acc ++ (List.replicate k its).flatten).toArray
 | 0, acc => by simp
 | k + 1, acc => by
  have e : acc.toArray ++ its.toArray = (acc ++ its).toArray := by simp
  have e2 : (acc ++ its) ++ (List.replicate k its).flatten = acc ++ (List.replicate (k + 1) its).flatten := by
   rw [List.replicate_succ, List.flatten_cons, List.append_assoc]
  rw [<- e2, <- zeE its k (acc ++ its), <- e, List.replicate_succ, List.foldl_cons]
section
variable {X : Cx} {Qa : ZP} {σ : St} {H : Hp} {s : Shared} {l b : Addr} {xs ys zs : List V}
theorem Inv.lset {its its' : List Value} {n : Nat} {f : Array Value -> Array Value} {t' : Nat} (I : Inv X Qa σ H s) (hH : H l = some (.lst xs))
  (e : s.heap.get? l = some { cls := .type "list", data := .seq its.toArray n }) (hf : f its.toArray = its'.toArray) (hv : Vals ys its') (hz : ys.length <= sizeLine) :
  Inv X Qa σ (upd H l (.lst ys)) { s with heap := s.heap.update l (Obj.mapSeq f), toks := t' } := by
 have q := PySem.IsL.update e f;rw [hf] at q;refine I.write (x := l) (e := l) (by rw [hH]; exact trivial) (.inl rfl) (fun b' u hb hu => (Heap.get?_update_other s.heap (Obj.mapSeq f) (Ne.symm hb)).trans hu) ⟨_, q⟩ ?_;exact ⟨hz, its', _, hv, q⟩
theorem Inv.lnew {its : List Value} {t' : Nat} (I : Inv X Qa σ H s) (hv : Vals ys its) (hz : ys.length <= sizeLine) :
  Inv X Qa σ (upd H s.heap.objs.size (.lst ys)) { s with heap := s.heap.push { cls := .type "list", data := .seq its.toArray }, toks := t' } :=
 I.laid (fun _ _ q => yac _ q) (yai _) ⟨hz, its, 0, hv, yaj _ rfl⟩
theorem Inv.fresh (I : Inv X Qa σ H s) : H s.heap.objs.size = none := I.hok.fresh (yai _)
theorem Inv.lstM (I : Inv X Qa σ H s) (hH : H l = some (.lst xs)) : xs.length <= sizeLine /\ ∃ (its : List Value) (n : Nat), Vals xs its /\ xs.length = its.length /\ s.heap.get? l = some { cls := .type "list", data := .seq its.toArray n } := by
 obtain ⟨z, its, n, r, e⟩ := I.hok l _ hH;exact ⟨z, its, n, r, r.length, e⟩
theorem zfN {n : Nat} (h : n <= sizeLine) : Builtin.List.listTooLong n = false := by
 unfold Builtin.List.listTooLong;exact ya8 ω
end
section
variable {X : Cx}
def zfv : V -> List V -> Hp -> VK -> Prop := fun x vs H Q => ∃ l xs y, x = .ref l /\ vs = [y] /\ H l = some (.lst xs) /\ xs.length < sizeLine /\ Q .non (upd H l (.lst (xs ++ [y])))
theorem zhr : MtM X "list.append" zfv := by
 intro Qa s σ H x vs v us Q I rx rv h;obtain ⟨l, xs, y, rfl, rfl, hH, hz, q⟩ := h;cases rx;obtain ⟨u, rfl, ru⟩ := rv.one;obtain ⟨z, its, n, r, hl, e⟩ := I.lstM hH;refine call_meets F.slot_list_append ⟨_, e, rfl⟩ F.entry_list_append (F.args_list_append_2 _ _) (PySem.list_append l its.toArray n u (by rw [yad]; omega)) ⟨e, ?_⟩;refine ⟨.non, _, I.lset (its' := its ++ [u]) hH e ς (r.append (.cons ru .nil)) ?_, rfl, q⟩;rw [yae, yas];omega
def zhs : V -> List V -> Hp -> VK -> Prop := fun x vs H Q => ∃ l b xs zs, x = .ref l /\ vs = [.ref b] /\ H l = some (.lst xs) /\ H b = some (.lst zs) /\ xs.length + zs.length <= sizeLine /\ Q .non (upd H l (.lst (xs ++ zs)))
theorem zmc : MtM X "list.extend" zhs := by
 intro Qa s σ H x vs v us Q I rx rv h;obtain ⟨l, b, xs, zs, rfl, rfl, hH, hB, hz, q⟩ := h;cases rx;obtain ⟨u, rfl, ru⟩ := rv.one;cases ru;obtain ⟨z, its, n, r, hl, e⟩ := I.lstM hH;obtain ⟨z2, its2, n2, r2, hl2, e2⟩ := I.lstM hB;have hsz : its.toArray.size + its2.toArray.size <= sizeLine := by rw [yad, yad]; omega
 have hlong : ¬ (!its.toArray.isEmpty && Builtin.List.listTooLong (its.toArray.size + its2.toArray.size)) = true := by
  rw [zfN hsz, Bool.and_false];exact yam
 refine call_meets F.slot_list_extend ⟨_, e, rfl⟩ F.entry_list_extend (F.args_list_extend_2 _ _)
  (AutoSeq1.list_extend_list_list_0 l its.toArray n b its2.toArray n2 hlong (by rw [yad]; omega) ω) ⟨e, e2, ?_⟩
 refine ⟨.non, _, I.lset (its' := its ++ its2) hH e ς (r.append r2) ?_, rfl, q⟩;rw [yae];omega
def rCat : R2 := fun x y H Q => ∃ l b xs zs, x = .ref l /\ y = .ref b /\ H l = some (.lst xs) /\ H b = some (.lst zs) /\ xs.length + zs.length <= sizeLine /\ ∀ p, H p = none -> Q (.ref p) (upd H p (.lst (xs ++ zs)))
theorem zmd : OpR X (binaryOp .Add) rCat := by
 intro Qa s σ H x y v u Q I rx ry h;obtain ⟨l, b, xs, zs, rfl, rfl, hH, hB, hz, q⟩ := h;cases rx;cases ry;obtain ⟨z, its, n, r, hl, e⟩ := I.lstM hH;obtain ⟨z2, its2, n2, r2, hl2, e2⟩ := I.lstM hB;refine PySem.P.add_list e e2 ?_ (by rw [yad, yad]; omega);have ea : its.toArray ++ its2.toArray = (its ++ its2).toArray := by simp
 rw [ea];exact ⟨.ref _, _, I.lnew (t' := s.toks) (r.append r2) (by rw [yae]; omega), rfl, q _ I.fresh⟩
def rRep : R2 := fun x y H Q => ∃ l k xs, x = .ref l /\ y = .int k /\ H l = some (.lst xs) /\ -(2 ^ 63) <= k /\ k < 2 ^ 63 /\ xs.length * k.toNat <= sizeLine /\
 ∀ p, H p = none -> Q (.ref p) (upd H p (.lst (List.replicate k.toNat xs).flatten))
theorem zk1 {α : Type} (xs : List α) (k : Nat) : (List.replicate k xs).flatten.length = k * xs.length := by
 induction k with
 | zero => simp
 | succ k ih => rw [List.replicate_succ, List.flatten_cons, yae, ih, Nat.succ_mul, Nat.add_comm]
theorem zme : OpR X (binaryOp .Mult) rRep := by
 intro Qa s σ H x y v u Q I rx ry h;obtain ⟨l, k, xs, rfl, rfl, hH, h1, h2, hz, q⟩ := h;cases rx;obtain ⟨t, rfl⟩ := ry;obtain ⟨z, its, n, r, hl, e⟩ := I.lstM hH;have Qe : its.toArray.size * k.toNat <= sizeLine := by rw [yad, <- hl]; exact hz
 have hcap : ¬ its.toArray.size * k.toNat > (2 ^ 63 - 1) / 8 := by
  have : (sizeLine : Nat) <= (2 ^ 63 - 1) / 8 := by decide
  omega
 have hfit : ¬ (!Builtin.List.listFitsIndex k) = true := by
  rw [fitsIndex_both h1 h2];exact yam
 have hlong : ¬ Builtin.List.listTooLong (its.toArray.size * k.toNat) = true := by
  rw [zfN Qe];exact yam
 have hnew : List.foldl (fun x1 x2 => x1 ++ x2) #[] (List.replicate (if its.toArray.isEmpty = true then 0 else k.toNat) its.toArray) = (List.replicate k.toNat its).flatten.toArray := by
  have f0 : ∀ m : Nat, List.foldl (fun x1 x2 => x1 ++ x2) #[] (List.replicate m its.toArray) = (List.replicate m its).flatten.toArray := fun m => by
   have := zeE its m [];rw [List.nil_append] at this;exact this
  rw [f0];cases its with
  | nil => simp
  | cons a r' => rw [if_neg ς]
 refine wpAny_binaryOp_repeat_ref (T := "list") (U := "int") δ ⟨_, e, rfl⟩ (fun s' => typeIs_int s' k t) noFill_list_mul F.fills_int_mul F.slot_int_rmul repeat_list F.slot_int_index.lookup
  (call_meets F.slot_int_rmul (typeIs_int s k t) F.entry_int_rmul (F.args_int_rmul_2 _ _) (int___rmul___int_list k t l its.toArray n)
   ⟨e, rfl, ⟨_, e, rfl⟩, call_meets F.slot_list_mul ⟨_, e, rfl⟩ F.entry_list_mul (F.args_list_mul_2 _ _) (AutoListH.list___mul___list_int_3 l its.toArray n k t hfit hcap hlong) ⟨e, ?_⟩⟩)
 rw [hnew];exact ⟨.ref _, _, I.lnew (t' := s.toks) (r.rep k.toNat) (by rw [zk1, Nat.mul_comm]; exact hz), rfl, q _ I.fresh⟩
end
section
variable {prog : Program} {w : World} {A : Around} {E : ZQ} {s : Shared}
end
section
variable {X : Cx}
end
end L2
namespace Att
open PySem PySem.W PySem.Calls PyProof.Rows
theorem zdo {P : Params} {h : Heap} : ∀ (ns : List Int) (vs : List Value), WellAll P h vs (ns.map WData.int) -> IntsAre vs ns := by
 intro ns
 induction ns with
 | nil =>
  intro vs w;rw [List.map_nil] at w;cases w;exact .nil
 | cons n ns ih =>
  intro vs w;rw [List.map_cons] at w;cases w with
  | cons a b =>
   cases a;exact .cons _ _ (ih _ b)
theorem zht {l : OpenLaw} {n : Nat} (hn : l.most = some n) {P : Params} {h : Heap} {args : List WData} {vals : List Value}
  (hpre : l.row.toRowW.claim.pre args = true) (hwl : WellAll P h vals args) :
  ∃ a vs ns, vals = [Value.ref a] /\ args = [WData.list (ns.map WData.int)] /\ h.get? a = some { cls := .type "list", data := .seq vs.toArray } /\ IntsAre vs ns /\ ns.length <= n := by
 have hsh : WShape.hasAll [] args [.list .int] = true := (pre_splitW hpre).1;have hc : l.pre.holds [] { args := args } = true := (pre_splitW hpre).2;obtain ⟨d, r, rfl, h1, h2⟩ := hasAllW_cons hsh;obtain rfl := hasAllW_nil h2;obtain ⟨xs, rfl, h3⟩ := hasW_list h1;obtain ⟨ns, rfl⟩ := items_int h3;have Qe : ns.length <= n := by
  unfold OpenLaw.pre at hc;have h4 : (WTm.not (.lt (.lit (.int (n : Int))) (.len (.arg 0)))).holds [] { args := [.list (ns.map .int)] } = true := by
   have h4 := (holds_andW hc).1;rw [hn] at h4;exact h4
  have h5 := condW_of h4 (w_not (w_lt w_lit (w_len_list (w_arg rfl))));rw [yaf] at h5;refine Nat.le_of_not_lt fun q => ?_;have q' : (n : Int) < ((ns.length : Nat) : Int) := by omega
  first
   | (rw [ya9 q'] at h5; exact absurd h5 δ)
   | (simp at h5; omega)
 cases hwl with
 | cons w1 w2 =>
  cases w2;cases w1 with
  | list ho hall => exact ⟨_, _, ns, rfl, rfl, ho, zdo ns _ hall, Qe⟩
theorem zhu (l : OpenLaw) (args : List WData) : l.row.toRowW.claim.post args (.bool true) args = true :=
 postW_of (r := l.row.toRowW) (X := (true == true))
  (show WShape.has [] (.bool true) .bool = true by first | rfl | decide | simp [WShape.has, WShape.arms, WShape.armsAll])
  (show (WTm.eq .res (.lit (.bool true))).value [] { args := args, res := some (.bool true), after := args } = some (.bool (true == true)) from w_eq_bool (w_res rfl) w_lit) rfl
theorem attach_call {l : OpenLaw} {n : Nat} {q : Program} {loose : List Str} {XP : (Str -> Option Value) -> Heap -> Prop} {YP : World -> Heap -> Prop} {d : DefRec}
  (hn : l.most = some n) (hdf : d.params.defaults = [])
  (call : ∀ (w : World) (s₀ s₁ : Shared) (mg mb : Str -> Option Value) (fa : Addr) (o : Obj) (pm cd doc : Value) (a : Addr) (vs : List Value) (ns : List Int),
   Ground q loose [] XP w s₀ mg mb s₁.heap -> YP w s₁.heap ->
   s₁.heap.get? fa = some o -> o.data = .func (docDef d.name d.params d.body d.scope pm cd doc) -> s₁.heap.CodeRec cd d.name -> mg d.name = some (.ref fa) ->
   s₁.heap.get? a = some { cls := .type "list", data := .seq vs.toArray } -> IntsAre vs ns -> ns.length <= n -> s₁.gens = #[] ->
   codeAny (model l.prog w) callerA (.call (.ref fa) ⟨[.ref a], []⟩) (fun r s' => r = .ok (.ret (.bool true)) /\ OldK s₁.heap s'.heap /\ s'.os = s₁.os /\ AllBare s'.gens) s₁) :
  WalkO q loose XP YP l.row.toRowW d [] (fun f vs => PySem.call f vs) := by
 intro w s₀ s₁ mg mb G Y fa o pm cd doc dV kV ho hd hcd hD hmg hg args vals as hpre hlay hrd hwl hlo;obtain rfl : dV = .none := Dflts.none hD hdf;obtain rfl : kV = .none := Dflts.noKw hD;obtain ⟨a, vs, ns, rfl, rfl, hobj, hints, Qe⟩ := zht hn hpre hwl;refine enter_call (codeAny_mono (call w s₀ s₁ mg mb fa o pm cd doc a vs ns G Y ho (fd_plain hd) hcd hmg hobj hints Qe hg) fun r s' hq => ?_);obtain ⟨rfl, h2, h3, h4⟩ := hq;exact ⟨.inl ⟨.bool true, .bool true, [], rfl, fun _ => rfl, .bool true, zhu l _, fun _ => ⟨List.Pairwise.nil, fun _ hm => (nomatch hm)⟩⟩, h2, h3, h4⟩
section
variable {prog : Program} {w : World} {A : Around} {E : ZQ} {s : Shared} {K : Frag}
end
end Att
namespace L2
open PySem PySem.Spec PyProof.Rows
theorem zeF : ∀ {vs : List Value} {ns : List Int}, IntsAre vs ns -> Vals (ns.map V.int) vs
 | _, _, .nil => .nil
 | _, _, .cons n t h => .cons ⟨t, rfl⟩ (zeF h)
def Only (H : Hp) : Prop := ∀ b, H b = none \/ ∃ o xs, H b = some (.frz o (.lst xs))
theorem ziS {P : Program} {w : World} {K : W.Frag} {mg mb : Str -> Option Value} {CX : CXT} {k : Nat} {fa a : Addr} {fd : FuncData} {x : Str} {sp : Sp} {s₁ : Shared} {vs : List Value} {ns : List Int}
  (KX : K.In s₁.heap) (hns : s₁.heap.Ns mainGlobals mg) (hb : s₁.heap.Ns builtinsNs mb) (hbb : ∀ x : Str, x ≠ "__name__" -> mb x = bootBuiltins x) (hlim : s₁.heap.NoLimit) (hg : s₁.gens = #[])
  (ha : s₁.heap.get? a = some { cls := .type "list", data := .seq vs.toArray }) (hi : IntsAre vs ns) (hl : ns.length <= sizeLine) (hr : Room k callerA)
  (F : ∀ base : Heap, K.In base -> base.Ns mainGlobals mg -> FnOk P w K mg base CX k fa fd [x] sp) (hbind : ∀ (s : Shared) (u : Value), BindsTo s fd ⟨[u], []⟩ [(x, u)])
  (hsp : ∀ H : Hp, Only H -> SqL K H a (ns.map V.int) -> sp [.ref a] H (fun v _ => v = .bl true) fun _ _ _ => False)
  (hCX : ∀ H e s', CX [] H s₁ (fun _ _ _ => False) e s' -> False) :
  codeAny (model P w) callerA (.call (.ref fa) ⟨[.ref a], []⟩) (fun r s' => r = .ok (.ret (.bool true)) /\ OldK s₁.heap s'.heap /\ s'.os = s₁.os /\ AllBare s'.gens) s₁ := by
 have rv := zeF hi;have lenV := hi.length;have core : ∀ H : Hp, Only H -> SqL K H a (ns.map V.int) -> HOk P w H s₁.heap -> (∀ b, H b ≠ none -> b = a) -> (H a ≠ none -> K.lookup a = none) ->
   codeAny (model P w) callerA (.call (.ref fa) ⟨[.ref a], []⟩) (fun r s' => r = .ok (.ret (.bool true)) /\ OldK s₁.heap s'.heap /\ s'.os = s₁.os /\ AllBare s'.gens) s₁ := by
  intro H hO hS hok hA hK;have base_of : ∀ {b : Addr} {o : Obj}, s₁.heap.get? b = some o -> H b = none -> (hidT s₁.heap H).get? b = some o := fun e n => ziM e n;have noA : ∀ {b : Addr} {o : Obj} {es : Array DictEntry} {ep : Nat}, s₁.heap.get? b = some o -> o.data = .dict es ep -> H b = none := fun {b o es ep} e d => by
   cases q : H b with
   | none => rfl
   | some u =>
    have e' : b = a := hA b (by rw [q]; simp);subst e';rw [ha] at e; cases e;have d' : Data.seq vs.toArray _ = Data.dict es ep := d;cases d'
  have nsK : ∀ {b : Addr} {m : Str -> Option Value}, s₁.heap.Ns b m -> (hidT s₁.heap H).Ns b m := fun {b m} ⟨o, es, ep, e, d, r⟩ => ⟨o, es, ep, base_of e (noA e d), d, r⟩
  have hKb : K.In (hidT s₁.heap H) := fun b o e => base_of (KX b o e) (by
   cases q : H b with
   | none => rfl
   | some u =>
    have e' : b = a := hA b (by rw [q]; simp);subst e';rw [hK (by rw [q]; simp)] at e; cases e)
  have hM : Mod K mg (hidT s₁.heap H) := ⟨hKb, nsK hns, ⟨mb, nsK hb, hbb⟩, let ⟨mc, h1, h2⟩ := hlim; ⟨mc, nsK h1, h2⟩⟩
  have e0 : Env0 P w K mg (hidT s₁.heap H) callerA [] s₁ H := ⟨rfl, hM, fun b o e => zkr e, Nat.le_of_eq (zgX _ _), trivial, fun b hb => absurd (show b ∈ ([] : List Addr) from hb) ς, hok, .of_eq hg⟩
  refine codeAny_mono ((F _ hKb (nsK hns)).run callerA [] s₁ H ⟨[.ref a], []⟩ [.ref a] [.ref a] _ _ hr e0 (hbind s₁ (.ref a)) (.cons rfl .nil) (hsp H hO hS)) fun r s' h => ?_;cases r with
  | error e => exact (hCX H e s' h).elim
  | ok fl =>
   cases fl with
   | next => exact False.elim h
   | brk => exact False.elim h
   | cont => exact False.elim h
   | ret u =>
    obtain ⟨v, H', os, bare, un, hok', r', q⟩ := h;have q' : v = .bl true := q;subst q';obtain rfl : u = Value.bool true := r';refine ⟨rfl, OldK.of_keep fun b o e => ?_, os, bare⟩;cases q : H b with
    | none => exact un.keep b o e q (by intro z; exact absurd (show b ∈ ([] : List Addr) from z) ς) ς
    | some u =>
     rcases hO b with z | ⟨ob, xs, z⟩
     ·rw [q] at z; cases z
     ·have z2 := un.frzs b ob _ z;obtain ⟨e1, _⟩ := hok b _ z;obtain ⟨e2, _⟩ := hok' b _ z2;rw [e] at e1; cases e1;exact e2
 cases hk : K.lookup a with
 | some o =>
  have e := KX a o hk;rw [ha] at e;cases e;refine core (fun _ => none) (fun _ => .inl rfl) (.inr ⟨_, vs.toArray, _, hk, rfl, rfl, rfl, by rw [yad, lenV]; exact hl, by simpa using rv⟩) (fun b u z => by have z' : (none : Option HO) = some u := z; cases z') (fun b z => absurd rfl z) fun z => absurd rfl z
 | none =>
  refine core (fun b => if b = a then some (.frz { cls := .type "list", data := .seq vs.toArray } (.lst (ns.map V.int))) else none) (fun b => ?_) (.inl (.inr ⟨{ cls := .type "list", data := .seq vs.toArray }, if_pos rfl⟩)) (fun b u z => ?_) (fun b z => ?_) fun _ => hk
  ·by_cases hb : b = a
   ·exact .inr ⟨_, _, if_pos hb⟩
   ·exact .inl (if_neg hb)
  ·by_cases hb : b = a
   ·have z' := (if_pos hb).symm.trans z;cases z';subst hb;exact ⟨ha, by rw [yaf]; exact hl, vs, _, rv, ha⟩
   ·have z' := (if_neg hb).symm.trans z;cases z'
  ·by_cases hb : b = a
   ·exact hb
   ·exact absurd (if_neg hb) z
theorem walk_of {l : W.OpenLaw} {n k : Nat} {q : Program} {loose : List Str} {XP : (Str -> Option Value) -> Heap -> Prop} {YP : World -> Heap -> Prop} {d : DefRec} {K : Params -> W.Frag} {CX : World -> CXT} {sp : World -> Sp} {x : Str}
  (hn : l.most = some n) (hn2 : n <= sizeLine) (hdf : d.params.defaults = []) (hr : Room k callerA)
  (hY : ∀ (w : World) (h : Heap), YP w h -> (K w.params).In h)
  (F : ∀ (w : World) (mg : Str -> Option Value) (fa : Addr) (h : Heap), (K w.params).In h -> h.Ns mainGlobals mg -> mg d.name = some (.ref fa) ->
   ∃ fd : FuncData, (∀ (s : Shared) (u : Value), BindsTo s fd ⟨[u], []⟩ [(x, u)]) /\
    ∀ base : Heap, (K w.params).In base -> base.Ns mainGlobals mg -> FnOk l.prog w (K w.params) mg base (CX w) k fa fd [x] (sp w))
  (hsp : ∀ (w : World) (H : Hp) (a : Addr) (ns : List Int), ns.length <= n -> Only H -> SqL (K w.params) H a (ns.map V.int) -> sp w [.ref a] H (fun v _ => v = .bl true) fun _ _ _ => False)
  (hCX : ∀ (w : World) (H : Hp) (s : Shared) (e : Value) (s' : Shared), CX w [] H s (fun _ _ _ => False) e s' -> False) :
  W.WalkO q loose XP YP l.row.toRowW d [] (fun f vs => PySem.call f vs) := by
 refine Att.attach_call hn hdf fun w s₀ s₁ mg mb fa o pm cd doc a vs ns G Y ho hd hcd hmg hobj hints Qe hg => ?_;have KX := hY w _ Y;obtain ⟨fd, hb, hF⟩ := F w mg fa _ KX G.T.g hmg;exact ziS KX G.T.g G.T.b G.T.builtins G.T.nolimit hg hobj hints (yat Qe hn2) hr hF hb (fun H hO hS => hsp w H a ns Qe hO hS) fun H e s' => hCX w H s₁ e s'
def zaj (s : Stmt) : Arguments := match s with
 | .FunctionDef _ a _ _ _ _ _ _ _ _ => a
 | _ => { posonlyargs := [], args := [], vararg := none, kwonlyargs := [], kw_defaults := [], kwarg := none, defaults := [] }
def zai (s : Stmt) : List Stmt := match s with
 | .FunctionDef _ _ b _ _ _ _ _ _ _ => b
 | _ => []
def zac (s : Stmt) : Scope := match s with
 | .FunctionDef _ _ _ _ _ _ sc _ _ _ => sc
 | _ => { kind := .function, names := [], isGenerator := false, isCoroutine := false }
abbrev CX0 : CXT := fun _ _ _ _ _ _ => False
abbrev E0 : XK := fun _ _ _ => False
theorem zaA {X : Cx} : zfL CX0 X E0 := fun _ _ _ _ _ _ _ h => h.elim
structure Fun (K : W.Frag) (x qual : Str) (st : Stmt) (f : Addr) (fd : FuncData) : Prop where
 ex : ∃ (oc : Value) (od : Option Addr) (kV doc pm : Value) (an : Option Addr) (cdv ct : Value) (osl : Array (Option Value)),
  fd = W.fnOf x qual (zaj st) (zai st) (zac st) .none kV doc pm an cdv ct /\ K.lookup f = some ⟨oc, od, .func fd, osl⟩ /\ W.codeIn K cdv qual = true
 kp : W.keepIn K (.ref f) = true
section
variable {P : Program} {w : World} {K : W.Frag} {mg : Str -> Option Value} {base : Heap}
theorem Fun.ok {x qual : Str} {st : Stmt} {f : Addr} {fd : FuncData} {N ps : List Str} {k : Nat} {sp : Sp} (F : Fun K x qual st f fd) (S : zau N ps (zac st)) (len : ∀ vs H Q E, sp vs H Q E -> vs.length = ps.length)
  (hbody : ∀ (cdv : Value) (A : Around) (outer : List Env) (s : Shared) (H : Hp) (vs : List V) (Q : VK) (E : XK), Room k (A.deeper (envOfC qual (zac st) s.heap.objs.size f cdv)) -> sp vs H Q E ->
   ∃ t, PSs (cxOf CX0 P w K mg base N qual (zac st) f cdv A outer s H E).nox (zai st) t /\ t { nx := fun _ H' => Q .non H', rt := Q } (start N vs) H) : FnOk P w K mg base CX0 (k + 1) f fd ps sp := by
 obtain ⟨oc, od, kV, doc, pm, an, cdv, ct, osl, rfl, lk, hcd⟩ := F.ex;refine zlV lk hcd S len fun A outer s H vs Q E hr hsp => ?_;obtain ⟨t, h, q⟩ := hbody cdv A outer s H vs Q E hr hsp;exact ⟨t, h.nox, q⟩
theorem Fun.binds {x qual : Str} {st : Stmt} {f : Addr} {fd : FuncData} {ps : List Str} (F : Fun K x qual st f fd)
  (h : ∀ (kV doc pm : Value) (an : Option Addr) (cdv ct : Value) (us : List Value), us.length = ps.length -> bindArgs (W.fnOf x qual (zaj st) (zai st) (zac st) .none kV doc pm an cdv ct) ⟨us, []⟩ = pure (ps.zip us)) : Binds K fd ps [] := by
 obtain ⟨oc, od, kV, doc, pm, an, cdv, ct, osl, rfl, lk, hcd⟩ := F.ex;exact .all (h kV doc pm an cdv ct)
theorem zaB {x qual : Str} {st : Stmt} {f : Addr} {oc : Value} {od an : Option Addr} {osl : Array (Option Value)} {kV doc pm cdv ct : Value} (l : K.lookup f = some ⟨oc, od, .func (W.fnOf x qual (zaj st) (zai st) (zac st) .none kV doc pm an cdv ct), osl⟩)
  (c : W.codeIn K cdv qual = true) (k : W.keepIn K (.ref f) = true) : Fun K x qual st f (W.fnOf x qual (zaj st) (zai st) (zac st) .none kV doc pm an cdv ct) := ⟨⟨oc, od, kV, doc, pm, an, cdv, ct, osl, rfl, l, c⟩, k⟩
end
section
variable {X : Cx}
theorem pv (i : Nat) {x : Str} {pos : Pos} (hN : X.N[i]? = some x := by rfl) (hv : Vis X.env.scope x := by first | exact Or.inl rfl | exact Or.inr (Or.inl rfl) | exact Or.inr (Or.inr rfl)) (hd : (x == ("__debug__" : Str)) = false := by decide)
  (hcd : (x == ("__classdict__" : Str)) = false := by decide) : PE X (.Name x pos) (tVar i) := zlB hN hv hd hcd
end
theorem iteF {A B : Prop} (h : B) : if false = true then A else B := by
 rw [if_neg yam];exact h
theorem iteT {A B : Prop} (h : A) : if true = true then A else B := by
 rw [if_pos rfl];exact h
theorem ite2 {c A B : Prop} [Decidable c] (h1 : c -> A) (h2 : ¬ c -> B) : if c then A else B := by
 by_cases h : c
 ·rw [if_pos h];exact h1 h
 ·rw [if_neg h];exact h2 h
def Same (H H' : Hp) : Prop := ∀ b o, H b = some o -> H' b = some o
theorem Same.refl (H : Hp) : Same H H := fun _ _ h => h
theorem Same.trans {H H1 H2 : Hp} (a : Same H H1) (b : Same H1 H2) : Same H H2 := fun c o h => b c o (a c o h)
theorem Same.free {H H' : Hp} (e : Same H H') {l : Addr} (h : H' l = Option.none) : H l = Option.none := by
 cases q : H l with
 | none => rfl
 | some o =>
  rw [e l o q] at h;cases h
theorem Same.seq {K : W.Frag} {H H' : Hp} {a : Addr} {xs : List V} (e : Same H H') (h : SqL K H a xs) : SqL K H' a xs := by
 rcases h with (h | ⟨o, h⟩) | h
 ·exact .inl (.inl (e _ _ h))
 ·exact .inl (.inr ⟨o, e _ _ h⟩)
 ·exact .inr h
theorem zhv {v : Value} {o : Option Int} (p : IsPart v o) : ∃ q : Option (Int × Tok), v = partValue q /\ q.map (·.1) = o := by
 cases p with
 | none => exact ⟨none, rfl, rfl⟩
 | int i t => exact ⟨some (i, t), rfl, rfl⟩
def rSlS : V -> Option Int -> Option Int -> Hp -> VK -> Prop := fun x lo hi H Q => ∃ z, x = .str z /\ z.length <= sizeLine /\ Q (.str (Txt.slice z lo hi)) H
theorem zmf {X : Cx} : SlR X rSlS := by
 intro Qa s σ H x v vl vu lo hi sl Q I rx hs pl pu h;obtain ⟨z, rfl, hz, q⟩ := h;obtain ⟨t, rfl⟩ := rx;obtain ⟨ql, rfl, rfl⟩ := zhv pl;obtain ⟨qu, rfl, rfl⟩ := zhv pu;refine ⟨"str", _, F.slot_str_getitem.lookup, typeIs_str _ _ _, ?_⟩;refine wpAny_getItem_str_slice (l := ql) (u := qu) (st := none) hs rfl ?_;exact post_val_or_str ⟨yat (Txt.slice_le z _ _) hz, fun t' k => ⟨.str _, H, I.tok _, ⟨t', rfl⟩, q⟩⟩
def Its (x : Str) : It := ⟨fun i _ => i < x.cps.size, fun i H v H' => H' = H /\ ∃ c, x.cps[i]? = some c /\ v = .str ⟨#[c]⟩, fun i _ => x.cps.size <= i⟩
theorem zfO {P : Program} {w : World} {K : W.Frag} {tg : Expr} (x : Str) (t : Tok) (it : Addr) (ty : String) (hty : ty = "str_ascii_iterator" \/ ty = "str_iterator") :
  Turn P w K tg (Its x) [it] it (fun i h => h.IsStrIter it ty x t i) where
 mem := by simp
 obj := fun i h st b hb => by
  have e : b = it := by simpa using hb
  subst e;obtain ⟨o, e, c, d⟩ := st;exact ⟨o, e, fun v z => by rw [d] at z; cases z⟩
 keep := fun i h h' st k => by
  obtain ⟨o, e, r⟩ := st;exact ⟨o, k it ς o e, r⟩
 item := by
  intro X hP hw hK hc i Qa s σ H E I hf st hg;subst hP hw hK;obtain ⟨f0, f1, f2, f3, f4, f5⟩ := hf it ς;have hg' : i < x.cps.size := hg;have hx : x.cps[i]? = some x.cps[i] := by simp [hg']
  rcases hty with rfl | rfl
  ·refine wpAny_pyNext_ascii_item st hx fun h' st' sb => ?_;have I1 : Inv X Qa σ H { s with heap := h', toks := s.toks + 1 } := I.turned (fun b o hb e => (sb.2 b hb).trans e) f0 f1 f3 f4 f5;obtain ⟨o, e, c, d⟩ := id st';exact ⟨_, rfl, zgy (s := { s with heap := h', toks := s.toks + 1 }) e c d δ ⟨.str ⟨#[x.cps[i]]⟩, H, I1, ⟨_, rfl⟩, ⟨rfl, _, hx, rfl⟩, st', fun b hb => (hf b hb).1⟩⟩
  ·refine wpAny_pyNext_wide_item st hx fun h' st' sb => ?_;have I1 : Inv X Qa σ H { s with heap := h', toks := s.toks + 1 } := I.turned (fun b o hb e => (sb.2 b hb).trans e) f0 f1 f3 f4 f5;obtain ⟨o, e, c, d⟩ := id st';exact ⟨_, rfl, zgy (s := { s with heap := h', toks := s.toks + 1 }) e c d δ ⟨.str ⟨#[x.cps[i]]⟩, H, I1, ⟨_, rfl⟩, ⟨rfl, _, hx, rfl⟩, st', fun b hb => (hf b hb).1⟩⟩
 done := by
  intro X hP hw hK hc i Qa s σ H E I hf st hg;subst hP hw hK;obtain ⟨f0, f1, f2, f3, f4, f5⟩ := hf it ς;have hx : x.cps[i]? = none := by
   have : x.cps.size <= i := hg;simp [this]
  rcases hty with rfl | rfl
  ·exact wpAny_pyNext_ascii_end (I.ok.hd hc) st hx fun h' eb => ⟨rfl, I.turned (t' := s.toks) (fun b o hb e => eb b o hb e) f0 f1 f3 f4 f5⟩
  ·exact wpAny_pyNext_wide_end (I.ok.hd hc) st hx fun h' eb => ⟨rfl, I.turned (t' := s.toks) (fun b o hb e => eb b o hb e) f0 f1 f3 f4 f5⟩
 self := fun _ _ _ _ _ st h => by
  rcases hty with rfl | rfl
  ·exact wpAny_pyIter_striter_ascii st h
  ·exact wpAny_pyIter_striter_wide st h
theorem zhw {X : Cx} {tg : Expr} {Qa : ZP} {σ : St} {H1 : Hp} {s1 : Shared} {R : It -> Hp -> Prop} {z : Str} {v : Value} {E : ZQ} (I1 : Inv X Qa σ H1 s1) (r1 : RelV (.str z) v) (q : R (Its z) H1) :
  wpAny (model X.prog X.w) X.A (pyIter v) (PIE X Qa σ tg R) E s1 := by
 obtain ⟨t, rfl⟩ := r1;have fp : ∀ (b : Addr), b ∈ [s1.heap.objs.size] -> FpOk X Qa H1 b := fun b hb => by
  have e : b = s1.heap.objs.size := by simpa using hb
  subst e;exact I1.fpOk (yai _) (I1.hok.fresh (yai _))
 cases ha : z.cps.all (· < 128)
 ·refine wpAny_pyIter_wide ha ?_;exact ⟨s1.heap.objs.size, [s1.heap.objs.size], _, _, H1, rfl, I1.kept (t' := s1.toks) fun b o e => yac _ e, zfO z t _ "str_iterator" (.inr rfl), ⟨_, yaj _ rfl, rfl, rfl⟩, fp, q⟩
 ·refine wpAny_pyIter_ascii ha ?_;exact ⟨s1.heap.objs.size, [s1.heap.objs.size], _, _, H1, rfl, I1.kept (t' := s1.toks) fun b o e => yac _ e, zfO z t _ "str_ascii_iterator" (.inl rfl), ⟨_, yaj _ rfl, rfl, rfl⟩, fp, q⟩
theorem zk2 {x : Str} {g : TG} {tb : TS} {D : Ends} {σ : St} {H : Hp} (Pv : Nat -> St -> Hp -> Prop) (h0 : Pv 0 σ H)
  (hs : ∀ i c σ H, x.cps.toList[i]? = some c -> Pv i σ H -> g (.str ⟨#[c]⟩) σ H fun σ2 H2 => tb { D with nx := Pv (i + 1), ct := Pv (i + 1), bk := D.nx } σ2 H2) (hd : ∀ σ H, Pv x.cps.toList.length σ H -> D.nx σ H) :
  ∃ W : Nat -> Nat -> St -> Hp -> Prop, (∃ m, W 0 m σ H) /\ ∀ i m σ H, W i m σ H ->
   ((Its x).stop i H /\ D.nx σ H) \/ ((Its x).go i H /\ ∃ N : St -> Hp -> Prop, (∀ σ' H', N σ' H' -> ∃ m', m' < m /\ W (i + 1) m' σ' H') /\ ∀ v H', (Its x).yld i H v H' -> g v σ H' fun σ2 H2 => tb { D with nx := N, ct := N, bk := D.nx } σ2 H2) := by
 have hl : x.cps.toList.length = x.cps.size := by simp
 refine ⟨fun i m σ H => m = x.cps.size - i /\ i <= x.cps.size /\ Pv i σ H, ⟨x.cps.size,ς, yaq _, h0⟩, ?_⟩
 rintro i m σ H ⟨rfl, hi, p⟩
 by_cases hlt : i < x.cps.size
 ·refine .inr ⟨hlt, Pv (i + 1), fun σ' H' p' => ⟨x.cps.size - (i + 1),ω, rfl, hlt, p'⟩, fun v H' y => ?_⟩;obtain ⟨e, c, hc, rfl⟩ := y;subst e;exact hs i c σ _ (by rw [Array.getElem?_toList]; exact hc) p
 ·have e : i = x.cps.size := by omega
  subst e;exact .inl ⟨yai _, hd σ H (by rw [hl]; exact p)⟩
def clos (cells : List (Str × Addr)) : List (Str × NameKind) -> List (Str × Addr) -> List (Str × Addr)
 | [], acc => acc
 | (n, k) :: r, acc => if k == .free then clos cells r ((n, (cells.lookup n).getD 0) :: acc) else clos cells r acc
theorem zcg {scope : Scope} {env : Env} (h : ∀ y ∈ scope.names, y.2 = .free -> ∃ c, env.cells.lookup y.1 = some c) : closureFor scope env = pure (clos env.cells scope.names []) := by
 have go : ∀ (names : List (Str × NameKind)) (acc : List (Str × Addr)), (∀ y ∈ names, y.2 = .free -> ∃ c, env.cells.lookup y.1 = some c) ->
   (forIn names acc fun (x : Str × NameKind) (r : List (Str × Addr)) => (if x.2 == NameKind.free then do let a <- cellOf env x.1; pure (ForInStep.yield ((x.1, a) :: r)) else pure (ForInStep.yield r) : Sem (ForInStep (List (Str × Addr))))) = pure (clos env.cells names acc) := by
  intro names
  induction names with
  | nil => intro acc _; rfl
  | cons x r ih =>
   intro acc hx;obtain ⟨n, k⟩ := x;rw [List.forIn_cons];have hr : ∀ y ∈ r, y.2 = .free -> ∃ c, env.cells.lookup y.1 = some c := fun y hy => hx y (List.mem_cons_of_mem _ hy)
   by_cases hk : k = .free
   ·subst hk;obtain ⟨c, hc⟩ := hx (n, .free) List.mem_cons_self rfl;have hc' : env.cells.lookup n = some c := hc;have e : cellOf env n = pure c := by unfold cellOf; rw [hc']
    simp only [beq_self_eq_true, if_true, e, pure_bind];rw [ih _ hr];simp only [clos, beq_self_eq_true, if_true, hc', Option.getD_some]
   ·have hb : (k == NameKind.free) = false := by simpa using hk
    simp only [hb, Bool.false_eq_true, if_false, pure_bind];rw [ih _ hr];simp only [clos, hb, Bool.false_eq_true, if_false]
 have := go scope.names [] h;unfold closureFor
 first
  | (rw [this]; rfl)
  | (simp only [this, pure_bind]; rfl)
  | simpa using this
theorem zbI {cells : List (Str × Addr)} : ∀ (names : List (Str × NameKind)) (acc : List (Str × Addr)) (y : Str) (c : Addr),
  (∀ z ∈ names, z.2 = .free -> ∃ c, cells.lookup z.1 = some c) -> (∀ d, acc.lookup y = some d -> cells.lookup y = some d) -> (clos cells names acc).lookup y = some c -> cells.lookup y = some c
 | [], acc, y, c, _, ha, h => ha c h
 | (n, k) :: r, acc, y, c, hx, ha, h => by
  have hr : ∀ z ∈ r, z.2 = .free -> ∃ c, cells.lookup z.1 = some c := fun z hz => hx z (List.mem_cons_of_mem _ hz)
  by_cases hk : k = .free
  ·subst hk;simp only [clos, beq_self_eq_true, if_true] at h;refine zbI r _ y c hr (fun d hd => ?_) h
   by_cases hy : y = n
   ·subst hy;obtain ⟨e, he⟩ := hx (y, .free) List.mem_cons_self rfl;have he' : cells.lookup y = some e := he;simp only [List.lookup_cons, beq_self_eq_true, he', Option.getD_some] at hd;rw [he', hd]
   ·have hb : (y == n) = false := by simpa using hy
    simp only [List.lookup_cons, hb] at hd;exact ha d hd
  ·have hb : (k == NameKind.free) = false := by simpa using hk
   simp only [clos, hb, Bool.false_eq_true, if_false] at h;exact zbI r acc y c hr ha h
theorem zdp {cells : List (Str × Addr)} : ∀ (names : List (Str × NameKind)) (acc : List (Str × Addr)) (y : Str), (∃ c, acc.lookup y = some c) -> ∃ c, (clos cells names acc).lookup y = some c
 | [], _, _, h => h
 | (n, k) :: r, acc, y, h => by
  by_cases hk : k = .free
  ·subst hk;simp only [clos, beq_self_eq_true, if_true];refine zdp r _ y ?_
   by_cases hy : y = n
   ·subst hy; exact ⟨(cells.lookup y).getD 0, by simp only [List.lookup_cons, beq_self_eq_true]⟩
   ·have hb : (y == n) = false := by simpa using hy
    simp only [List.lookup_cons, hb]; exact h
  ·have hb : (k == NameKind.free) = false := by simpa using hk
   simp only [clos, hb, Bool.false_eq_true, if_false];exact zdp r acc y h
theorem zed {cells : List (Str × Addr)} : ∀ (names : List (Str × NameKind)) (acc : List (Str × Addr)) (y : Str), (y, NameKind.free) ∈ names -> ∃ c, (clos cells names acc).lookup y = some c
 | [], _, _, h => by simp at h
 | (n, k) :: r, acc, y, h => by
  rcases yau.mp h with e | h
  ·injection e with e1 e2
   subst e1 e2;simp only [clos, beq_self_eq_true, if_true];exact zdp r _ y ⟨(cells.lookup y).getD 0, by simp only [List.lookup_cons, beq_self_eq_true]⟩
  ·by_cases hk : k = .free
   ·rw [hk];simp only [clos, beq_self_eq_true, if_true];exact zed r _ y h
   ·have hb : (k == NameKind.free) = false := by simpa using hk
    simp only [clos, hb, Bool.false_eq_true, if_false];exact zed r _ y h
theorem relabel_kind {env : Env} : ∀ {names : List (Str × NameKind)} {x : Str} {k : NameKind}, (names.map fun (n, k) => if (k == NameKind.free && env.scope.kind == .function && env.kindOf n == some .cell) then (n, NameKind.cell) else (n, k)).lookup x = some k ->
  names.lookup x = some k \/ (k = .cell /\ names.lookup x = some .free)
 | [], _, _, h => by simp at h
 | (n, j) :: r, x, k, h => by
  have ih := @relabel_kind env r x k;have h' : List.lookup x ((if (j == NameKind.free && env.scope.kind == .function && env.kindOf n == some .cell) = true then (n, NameKind.cell) else (n, j)) ::
   (r.map fun (n, k) => if (k == NameKind.free && env.scope.kind == .function && env.kindOf n == some .cell) then (n, NameKind.cell) else (n, k))) = some k := h
  cases hx : x == n with
  | true =>
   by_cases hc : (j == NameKind.free && env.scope.kind == .function && env.kindOf n == some .cell) = true
   ·rw [if_pos hc] at h';simp only [List.lookup_cons, hx] at h' ⊢;have hj : j = .free := by
     have : (j == NameKind.free) = true := by
      cases q : (j == NameKind.free) with
      | true => rfl
      | false => rw [q] at hc; simp at hc
     simpa using this
    subst hj;exact .inr ⟨(Option.some.inj h').symm, rfl⟩
   ·rw [if_neg hc] at h';simp only [List.lookup_cons, hx] at h' ⊢;exact .inl h'
  | false =>
   have h2 : List.lookup x (r.map fun (n, k) => if (k == NameKind.free && env.scope.kind == .function && env.kindOf n == some .cell) then (n, NameKind.cell) else (n, k)) = some k := by
    by_cases hc : (j == NameKind.free && env.scope.kind == .function && env.kindOf n == some .cell) = true
    ·rw [if_pos hc] at h'; simpa only [List.lookup_cons, hx] using h'
    ·rw [if_neg hc] at h'; simpa only [List.lookup_cons, hx] using h'
   rcases ih h2 with q | ⟨q1, q2⟩
   ·exact .inl (by simpa only [List.lookup_cons, hx] using q)
   ·exact .inr ⟨q1, by simpa only [List.lookup_cons, hx] using q2⟩
abbrev cxC (X : Cx) (NC : List Str) (scope : Scope) (C : Addr) (s : Shared) (H : Hp) (ex : List Addr) : Cx :=
 { X with N := NC, s₀ := s, H₀ := H, env := compEnvC scope (clos X.env.cells scope.names []) C X.env, outer := X.stack, stack := X.stack, ex := ex, fn := fun _ => false, pn := [], xe := fun _ _ => False }
def za1 (nt : Nat) (is : List Nat) (σ : St) : St := List.replicate nt none ++ is.map fun i => (σ[i]?).join
theorem zcH (nt : Nat) (is : List Nat) (σ : St) : (za1 nt is σ).length = nt + is.length := by simp [za1]
def PIf (X : Cx) (ifs : List Expr) (t : TT) : Prop :=
 ∀ (Qa : ZP) (s : Shared) (σ : St) (H : Hp) (Q : Bool -> Hp -> Prop), Inv X Qa σ H s -> t σ H Q ->
  wpAny (model X.prog X.w) X.A (forIn ifs true fun c r => if r = true then do let ok <- isTrue c X.env (eval c X.env); pure (ForInStep.yield ok) else pure (ForInStep.yield r)) (TP X Qa σ Q) X.xe s
def zmg : TT := fun _ H Q => Q true H
theorem zbl {X : Cx} : PIf X [] zmg := fun _ _ _ H _ I h => wpAny_tests_nil ⟨H, I, h⟩
theorem zdq {X : Cx} {c : Expr} {t : TT} (h : PT X c t) : PIf X [c] t := fun Qa s σ H Q I hw => wpAny_tests_one (h Qa s σ H Q I hw)
section
variable {prog : Program} {w : World} {A : Around} {R : Result -> Shared -> Prop} {s : Shared}
theorem zeG {elt target iter : Expr} {ifs : List Expr} {scope : Scope} {pos : Pos} {it acc : Value} {env : Env} (I : Nat -> Shared -> Prop)
  (turn : ∀ n s, I n s -> wpAny (model prog w) A (pyNext it) (fun r s₁ => match r with
   | none => R (.ok .next) s₁
   | some v => wpAny (model prog w) A (letOwnedTupleGo target it v) (fun _ s₁' => wpAny (model prog w) A (assign target env v) (fun _ s₂ =>
     wpAny (model prog w) A (forIn ifs true fun c r => if r = true then do let ok <- isTrue c env (eval c env); pure (ForInStep.yield ok) else pure (ForInStep.yield r)) (fun ok s₃ =>
      if ok = true then wpAny (model prog w) A (eval elt env) (fun x s₄ =>
       wpAny (model prog w) A (call (.builtin "list.append") [acc, x]) (fun _ s₅ => ∃ m, m < n /\ I m s₅) (fun _ _ => False) s₄) (fun _ _ => False) s₃
      else ∃ m, m < n /\ I m s₃) (fun _ _ => False) s₂) (fun _ _ => False) s₁') (fun _ _ => False) s₁) (fun _ _ => False) s)
  (n : Nat) (h : I n s) :
  codeAny (model prog w) A (.compLoop (.ListComp elt [⟨target, iter, ifs, 0⟩] scope pos) 0 it acc env) R s := by
 refine codeAny_loop rfl I (fun n s hI => ?_) n h;show wpAny _ A ((compTurn (.ListComp elt [⟨target, iter, ifs, 0⟩] scope pos) 0 it acc env).onRaise (fun x => do noteFrame x env; theTreesLotGoes x)) _ _ s;refine wpAny_noted ?_;rw [compTurn_list];refine yaa (wpAny_standAt (yaa (wpAny_mono (turn n s hI) (fun r s₁ h₁ => ?_) fun _ _ h' => h'.elim)));cases r with
 | none => exact yab h₁
 | some v =>
  refine yaa (wpAny_mono h₁ (fun _ s₁' h₁' => ?_) fun _ _ h' => h'.elim);refine yaa (wpAny_mono h₁' (fun _ s₂ h₂ => yaa (wpAny_mono h₂ (fun ok s₃ h₃ => ?_) fun _ _ h' => h'.elim)) fun _ _ h' => h'.elim);cases ok with
  | false => exact yab ⟨rfl, h₃⟩
  | true =>
   exact yaa (yaa (wpAny_mono h₃ (fun x s₄ h₄ => yaa (wpAny_mono h₄ (fun _ s₅ h₅ => yab (yab ⟨rfl, h₅⟩)) fun _ _ h' => h'.elim)) fun _ _ h' => h'.elim))
end
def zg6 (wi : TI) (nt : Nat) (is : List Nat) (g : TG) (tt : TT) (te : TE) : TE := fun σ H Q => wi σ H fun J H1 => ∃ W : Nat -> Nat -> List V -> Hp -> Prop, (∃ m, W 0 m [] H1) /\ ∀ i m acc H, W i m acc H ->
 (J.stop i H /\ ∀ p, H p = none -> Q (.ref p) (upd H p (.lst acc))) \/
 (J.go i H /\ acc.length < sizeLine /\ ∃ N : List V -> Hp -> Prop, (∀ acc' H', N acc' H' -> ∃ m', m' < m /\ W (i + 1) m' acc' H') /\ ∀ x H', J.yld i H x H' -> g x (za1 nt is σ) H' fun σ2 H2 => tt σ2 H2 fun b H3 =>
  if b = true then te σ2 H3 fun y H4 => N (acc ++ [y]) H4 else N acc H3)
structure CompSc (X : Cx) (NC : List Str) (nt : Nat) (is : List Nat) (csc : Scope) : Prop where
 kind : csc.kind = .function
 nocell : (csc.names.all fun y => y.2 != .cell) = true
 locs : (csc.names.all fun y => y.2 != .local || csc.names.lookup y.1 == some .local) = true
 frees : (csc.names.all fun y => y.2 != .free || (X.env.kindOf y.1 == some .cell || X.env.kindOf y.1 == some .free)) = true
 len : NC.length = nt + is.length
 slots : (NC.drop nt).map some = is.map fun i => X.N[i]?
 isfree : ((NC.drop nt).all fun y => csc.names.lookup y == some .free) = true
section
variable {X : Cx} {Qa : ZP} {σ : St} {H : Hp} {s : Shared} {NC : List Str} {nt : Nat} {is : List Nat} {csc : Scope}
theorem CompSc.free_kind (S : CompSc X NC nt is csc) {y : Str} (h : (y, NameKind.free) ∈ csc.names) : X.env.kindOf y = some .cell \/ X.env.kindOf y = some .free := by
 have q := List.all_eq_true.mp S.frees _ h;simpa using q
theorem CompSc.no_cell (S : CompSc X NC nt is csc) {y : Str} (h : (y, NameKind.cell) ∈ csc.names) : False := by
 have q := List.all_eq_true.mp S.nocell _ h;simp at q
theorem CompSc.has_cells (S : CompSc X NC nt is csc) (I : Inv X Qa σ H s) : ∀ y ∈ csc.names, y.2 = .free -> ∃ c, X.env.cells.lookup y.1 = some c := fun y hy e => by
 obtain ⟨n, k⟩ := y;have e' : k = .free := e;subst e';exact I.ok.has n (S.free_kind hy)
theorem zk3 {fp : List Addr} (ho : ∀ b ∈ fp, ∃ o, s.heap.get? b = some o) : ∀ b ∈ fp, b < s.heap.objs.size := fun b hb => let ⟨_, e⟩ := ho b hb; yan e
theorem zeH (S : CompSc X NC nt is csc) (I : Inv X Qa σ H s) {fp : List Addr} (hf : ∀ b ∈ fp, FpOk X Qa H b) (ho : ∀ b ∈ fp, ∃ o, s.heap.get? b = some o) {h' : Heap} {C : Addr} {m : Str -> Option Value} {t' : Nat}
  (hC : s.heap.objs.size <= C) (k : ∀ b o, s.heap.get? b = some o -> h'.get? b = some o) (hn : h'.Ns C m) : Inv (cxC X NC csc C s H fp) [] (za1 nt is σ) H { s with heap := h', toks := t' } := by
 have hcells := S.has_cells I;have hlook : ∀ y c, (clos X.env.cells csc.names []).lookup y = some c -> X.env.cells.lookup y = some c := fun y c h => zbI csc.names [] y c hcells (by intro d hd; simp at hd) h;have hlt := zk3 ho;have hfree : ∀ y, csc.names.lookup y = some .free -> ∃ c, (clos X.env.cells csc.names []).lookup y = some c := fun y h => zed csc.names [] y (PySem.mem_of_lookup h);refine ⟨⟨I.ok.mod, S.kind, I.ok.glob, I.ok.blt, hC, fun x y c h1 h2 => I.ok.inj x y c (hlook x c h1) (hlook y c h2), fun x hx => ?_, fun x c h _ => (yam h).elim, I.ok.hd, I.ok.frames, .inl rfl,
  fun b hb => ⟨Nat.ne_of_lt (Nat.lt_of_lt_of_le (hlt b hb) hC), fun x c h => (hf b hb).2.2.2.2.1 x c (hlook x c h)⟩, I.bs, yat I.ok.bsz I.sz, fun b o e hb => ?_, fun b hb hs => ?_, I.stack, I.stkFree⟩,
  rfl, I.bare, Un.kept k, ⟨m, hn, fun i x v e1 e2 e3 => ?_⟩, fun x c h => ?_, I.hok.fresh hC, fun x c h => I.freeC x c (hlook x c h), fun p hp => absurd (show p ∈ ([] : ZP) from hp) ς, I.hok.kept k, ?_⟩
 ·have hx' : (relabel csc X.env).names.lookup x = some .cell \/ (relabel csc X.env).names.lookup x = some .free := hx;rcases hx' with h | h
  ·rcases relabel_kind h with q | ⟨_, q⟩
   ·exact (S.no_cell (PySem.mem_of_lookup q)).elim
   ·exact hfree x q
  ·rcases relabel_kind h with q | ⟨q, _⟩
   ·exact hfree x q
   ·cases q
 ·rcases (hf b hb).2.2.2.1 with z | z
  ·exact I.ok.noex b o e z
  ·exact absurd (Nat.lt_of_lt_of_le (yan e) (yat I.ok.bsz z)) (Nat.lt_irrefl _)
 ·rcases yau.mp (I.stkSub b hs) with e | e
  ·exact (hf b hb).2.1 e
  ·exact (hf b hb).2.2.1 e
 ·have hi : nt <= i := by
   by_cases hi : nt <= i
   ·exact hi
   ·have : (za1 nt is σ)[i]? = some none := by
     unfold za1;rw [ya5 (by simpa using hi), List.getElem?_replicate, if_pos ω]
    rw [this] at e2; cases e2
  obtain ⟨j, rfl⟩ : ∃ j, i = nt + j := ⟨i - nt,ω⟩
  have e2' : (is.map fun i => (σ[i]?).join)[j]? = some (some v) := by
   unfold za1 at e2;rw [List.getElem?_append_right ς] at e2;simpa using e2
  rw [yav] at e2';cases ej : is[j]? with
  | none => rw [ej] at e2'; cases e2'
  | some i' =>
   rw [ej] at e2';have e3' : (σ[i']?).join = some v := Option.some.inj e2';have e4 : σ[i']? = some (some v) := by
    cases q : σ[i']? with
    | none => rw [q] at e3'; cases e3'
    | some o => rw [q] at e3'; exact congrArg some e3'
   have e5 : X.N[i']? = some x := by
    have q := congrArg (fun l => l[j]?) S.slots;simp only [List.getElem?_map, ej, Option.map_some] at q;have q2 : (NC.drop nt)[j]? = some x := by rw [List.getElem?_drop]; exact e1
    rw [q2] at q;simpa using q.symm
   have hxfree : csc.names.lookup x = some .free := by
    have q2 : (NC.drop nt)[j]? = some x := by rw [List.getElem?_drop]; exact e1
    have q := List.all_eq_true.mp S.isfree x (ya1 q2);simpa using q
   have hk := S.free_kind (PySem.mem_of_lookup hxfree);obtain ⟨m0, _, hl⟩ := I.loc;obtain ⟨u, r, l⟩ := hl i' x v e5 e4 (hk.elim (fun z => .inr (.inl z)) fun z => .inr (.inr z));refine ⟨u, r, ?_⟩;rcases l with ⟨z, _⟩ | ⟨_, c, hc, hcell⟩
   ·rw [z] at hk; rcases hk with q | q <;> cases q
   ·obtain ⟨c', hc'⟩ := hfree x hxfree;have e6 := hlook x c' hc';rw [hc] at e6; cases e6;refine .inr ⟨?_, c, hc', ?_⟩
    ·have e3'' : (relabel csc X.env).names.lookup x = some .local \/ (relabel csc X.env).names.lookup x = some .cell \/ (relabel csc X.env).names.lookup x = some .free := e3;rcases e3'' with z | z | z
     ·rcases relabel_kind z with q | ⟨q, _⟩
      ·rw [hxfree] at q; cases q
      ·cases q
     ·exact .inl z
     ·exact .inr z
    ·obtain ⟨o, ho, hd⟩ := hcell;exact ⟨o, k c o ho, hd⟩
 ·obtain ⟨v, o, ho, hd⟩ := I.cell x c (hlook x c h);exact ⟨v, o, k c o ho, hd⟩
 ·rw [zcH]; exact S.len.symm
theorem zdO (I : Inv X Qa σ H s) {fp : List Addr} (hf : ∀ b ∈ fp, FpOk X Qa H b) {σ' : St} {H' : Hp} {s' : Shared} {C D : Addr} {pins' : ZP} {acc : List V} {its : List Value} {n : Nat}
  (J : Inv (cxC X NC csc C s H fp) pins' σ' H' s') (hC : s.heap.objs.size <= C) (hD : s.heap.objs.size <= D) (hDo : s'.heap.get? D = some { cls := .type "list", data := .seq its.toArray n }) (hDn : H' D = none) (hv : Vals acc its)
  (hz : acc.length <= sizeLine) : Inv X Qa σ (upd H' D (.lst acc)) s' := by
 have hne : ∀ b o, s.heap.get? b = some o -> b ≠ D := fun b o e z => absurd (Nat.lt_of_lt_of_le (yan e) (z ▸ hD)) (Nat.lt_irrefl _);have hu : Un (frs X.stack) fp H H' s.heap s'.heap := J.base;refine I.call' (ch := fp) J.os ⟨hu.keep, hu.slot, fun b o e n hx => by rw [za6 (hne b o e)]; exact hu.free b o e n hx, hu.there, fun b xs e => ?_, fun b o u e => ?_, fun b ps e => ?_⟩ (fun b u q => ?_) J.bare fun b hb => ?_
 ·have q := hu.tups b xs e;rw [za6 (zaF q hDn)]; exact q
 ·have q := hu.frzs b o u e;rw [za6 (zaF q hDn)]; exact q
 ·obtain ⟨more, q⟩ := hu.tbls b ps e;exact ⟨more, by rw [za6 (zaF q hDn)]; exact q⟩
 ·by_cases hb : b = D
  ·subst hb;rw [zae] at q; cases q;exact ⟨hz, its, n, hv, hDo⟩
  ·rw [za6 hb] at q;exact (J.hok b u q).stay (fun _ _ _ e => e) (fun c r => by rw [za6 (zaF r hDn)]; exact r) fun c xs r => by rw [za6 (zaF r hDn)]; exact r
 ·obtain ⟨_, f1, f2, f3, f4, f5⟩ := hf b hb;exact ⟨f3, f1, f4, f5⟩
theorem zfP {elt tg iter : Expr} {ifs : List Expr} {pos : Pos} {wi : TI} {g : TG} {tt : TT} {te : TE} {Q : VK} {use : Option (Value -> Sem Unit)} {QQ : ZQ} {epos : Pos}
  (S : CompSc X NC nt is csc) (hc : X.calm = true) (hi : PI X tg iter wi)
  (hg : ∀ C s H ex, PG (cxC X NC csc C s H ex) tg g) (ht : ∀ C s H ex, PIf (cxC X NC csc C s H ex) ifs tt) (he : ∀ C s H ex, PE (cxC X NC csc C s H ex) elt te)
  (hgk : ∀ x (σ : St) H Q, g x σ H Q -> g x σ H fun σ2 H2 => σ2.drop nt = σ.drop nt /\ Q σ2 H2)
  (I : Inv X Qa σ H s) (h : zg6 wi nt is g tt te σ H Q)
  (fin : ∀ (s' : Shared) (C D : Addr) (H' : Hp) (m : Str -> Option Value), Inv X Qa σ H' s' -> Q (.ref D) H' -> s'.heap.Ns C m -> H' C = none -> C ≠ X.env.locals -> X.s₀.heap.objs.size <= C -> (∀ x c, X.env.cells.lookup x = some c -> c ≠ C) -> (∀ p ∈ X.pn ++ Qa, p.1 ≠ C) ->
   compPost (model X.prog X.w) X.A X.xe use QQ (.ref D) C (.ok .next) s')
  (hs : ∀ x, foldedSetIterable iter X.env x = pure x) :
  wpAny (model X.prog X.w) X.A (comprehension (.ListComp elt [⟨tg, iter, ifs, 0⟩] csc pos) csc X.env epos (newList []) false (eval iter X.env) use) QQ X.xe s := by
 have hcells := S.has_cells I;have hnames : ∀ x ∈ csc.names, x.2 = .local -> csc.names.lookup x.1 = some .local := fun x hx hl => by
  have q := List.all_eq_true.mp S.locs x hx;simpa [hl] using q
 have hcell : ∀ y ∈ csc.names, y.2 ≠ .cell := fun y hy e => by
  obtain ⟨n, k⟩ := y;have e' : k = .cell := e;subst e';exact S.no_cell hy
 refine wpAny_comprehension_free (g := ⟨tg, iter, ifs, 0⟩) (gs := []) (cl := clos X.env.cells csc.names []) rfl hs (zcg hcells) S.kind hnames ?_;refine thn (hi Qa s σ H _ I h) fun v s1 h1 => thn h1 fun itv s2 h2 => ?_;obtain ⟨it, fp, tn, J, H2, rfl, I2, T, st2, f2, W, ⟨m0, w0⟩, turn⟩ := h2;have fo : ∀ b ∈ fp, ∃ o, s2.heap.get? b = some o := fun b hb => let ⟨o, e, _⟩ := T.obj 0 _ st2 b hb; ⟨o, e⟩;have flt := zk3 fo;refine wpAny_newObj_type (wpAny_newFunctionEnv hcell (by intro y hy; simp at hy) (fun h₁ hns₁ hsb₁ => ?_) S.kind);dsimp only at hns₁ hsb₁ ⊢;generalize hH2 : s2.heap.push { cls := .type "list", dict := none, data := .seq ([] : List Value).toArray } = P2 at hns₁ hsb₁ ⊢;have hCs : P2.objs.size = s2.heap.objs.size + 1 := by rw [<- hH2, Heap.size_push]
 generalize hCC : P2.objs.size = C at hns₁ hsb₁ hCs ⊢;generalize hDD : s2.heap.objs.size = D at hCs ⊢;have hD : s2.heap.objs.size <= D := Nat.le_of_eq hDD;have hC : s2.heap.objs.size <= C := by omega
 have hDC : D ≠ C := by omega
 have old : ∀ b o, s2.heap.get? b = some o -> h₁.get? b = some o := fun b o e => hsb₁.extBut b o (Nat.ne_of_lt (Nat.lt_of_lt_of_le (yan e) hC)) (yac _ (hH2 ▸ yac _ e));have accO : h₁.get? D = some { cls := .type "list", data := .seq ([] : List Value).toArray 0 } := by
  refine hsb₁.extBut _ _ hDC (yac _ ?_);rw [<- hH2, <- hDD];exact yaj _ rfl
 have Istart : Inv (cxC X NC csc C s2 H2 fp) [] (za1 nt is σ) H2 { s2 with heap := h₁, toks := s2.toks + ([] : List (Str × Value)).length } := zeH S I2 f2 fo hC old hns₁;have HD0 : H2 D = none := I2.hok.fresh hD;have HC0 : H2 C = none := I2.hok.fresh hC;have fpY : ∀ {H' : Hp} {pl : ZP}, (∀ b ∈ fp, H' b = none) -> (∀ p ∈ pl, p.1 ∉ fp) -> ∀ b ∈ fp, FpOk (cxC X NC csc C s2 H2 fp) pl H' b := fun {H' pl} hn hp b hb => by
  obtain ⟨_, g1, g2, g3, g4, g5⟩ := f2 b hb;refine ⟨hn b hb, Nat.ne_of_lt (Nat.lt_of_lt_of_le (flt b hb) hC), fun z => ?_, .inl hb, fun x c e => g4 x c (zbI csc.names [] x c hcells (by intro d hd; simp at hd) e), fun p hpp z => ?_⟩
  ·rcases yau.mp (I2.stkSub b z) with e | e
   ·exact g1 e
   ·exact g2 e
  ·exact hp p (by simpa using hpp) (z ▸ hb)
 have dne : D ∉ fp := fun hb => absurd (flt D hb) (Nat.not_lt.mpr hD);have cellD : ∀ {σ' : St} {H' : Hp} {s' : Shared} {pl : ZP} {its : List Value} {n : Nat}, Inv (cxC X NC csc C s2 H2 fp) pl σ' H' s' -> s'.heap.get? D = some { cls := .type "list", data := .seq its.toArray n } ->
   ∀ x c, (cxC X NC csc C s2 H2 fp).env.cells.lookup x = some c -> c ≠ D := fun {σ' H' s' pl its n} K e x c hx z => by
  obtain ⟨v, o, ho, hd⟩ := K.cell x c hx;rw [z, e] at ho; cases ho; cases hd
 have loop : ∀ s₃ : Shared, s₃ = { s2 with heap := h₁, toks := s2.toks + ([] : List (Str × Value)).length } ->
   codeAny (model X.prog X.w) X.A (.compLoop (.ListComp elt [⟨tg, iter, ifs, 0⟩] csc pos) 0 (.ref it) (.ref D) (compEnvC csc (clos X.env.cells csc.names []) C X.env)) (compPost (model X.prog X.w) X.A X.xe use QQ (.ref D) C) s₃ := by
  rintro s₃ rfl
  refine zeG (fun n s' => ∃ i H' acc its k, Inv (cxC X NC csc C s2 H2 fp) [] (za1 nt is σ) H' s' /\ tn i s'.heap /\ (∀ b ∈ fp, H' b = none) /\ s'.heap.get? D = some { cls := .type "list", data := .seq its.toArray k } /\ H' D = none /\
   Vals acc its /\ acc.length <= sizeLine /\ W i n acc H') ?_ m0 ⟨0, H2, [], [], 0, Istart, T.keep _ _ _ st2 (fun b hb o e => old b o e), fun b hb => (f2 b hb).1, accO, HD0, .nil, yaq _, w0⟩
  rintro n s3 ⟨i, H3, acc, its, k, I3, st3, fr3, o3, n3, v3, z3, w3⟩
  have pinD : Inv (cxC X NC csc C s2 H2 fp) [(D, { cls := .type "list", data := .seq its.toArray k })] (za1 nt is σ) H3 s3 := I3.pins_of fun p hp => by
   have e : p = (D, { cls := .type "list", data := .seq its.toArray k }) := by simpa using hp
   subst e;refine ⟨o3, n3, hDC, fun z => ?_, fun v z => by cases z⟩;rcases yau.mp (I2.stkSub D z) with e | e
   ·exact absurd I2.lt (Nat.not_lt.mpr (by rw [<- e]; exact hD))
   ·exact I2.nofs hD e
  have fpD : ∀ p ∈ [((D, { cls := .type "list", data := .seq its.toArray k }) : Addr × Obj)], p.1 ∉ fp := fun p hp => by
   have e : p = (D, { cls := .type "list", data := .seq its.toArray k }) := by simpa using hp
   subst e; exact dne
  rcases turn i n acc H3 w3 with ⟨stop, qn⟩ | ⟨go, Qe, N, hN, step⟩
  ·refine thn (T.done (cxC X NC csc C s2 H2 fp) rfl rfl rfl hc i _ s3 _ H3 (fun _ _ => False) pinD (fpY fr3 fpD) st3 stop) fun r s4 ⟨hr, I4⟩ => ?_;subst hr;obtain ⟨e4, n4, _⟩ := I4.pin (D, { cls := .type "list", data := .seq its.toArray k }) (List.mem_append_right _ (yah.mpr rfl));have J := zdO (NC := NC) (csc := csc) I2 f2 I4 hC hD e4 n4 v3 z3;obtain ⟨m4, hm4, _⟩ := I4.loc;have nC : H3 C = none := I4.free;refine fin s4 C D _ m4 J (qn D n4) hm4 (by rw [za6 (Ne.symm hDC)]; exact nC) (fun z => absurd I2.lt (Nat.not_lt.mpr (by rw [<- z]; exact hC))) (yat I2.sz hC) (fun x c e z => ?_) fun p hp z => ?_
   ·obtain ⟨v, o, ho, _⟩ := I2.cell x c e;exact absurd (yan ho) (Nat.not_lt.mpr (by rw [z]; exact hC))
   ·exact absurd (yan (I2.pin p hp).1) (Nat.not_lt.mpr (by rw [z]; exact hC))
  ·refine thn (T.item (cxC X NC csc C s2 H2 fp) rfl rfl rfl hc i _ s3 _ H3 (fun _ _ => False) pinD (fpY fr3 fpD) st3 go) fun r s4 ⟨u, hr, h4⟩ => ?_;subst hr;refine thn h4 fun _ s5 ⟨x, H5, I5, r5, y5, st5, fr5⟩ => ?_;have I5' := I5.pinned (fpY fr5 fpD) (T.obj _ _ st5);refine thn (hg C s2 H2 fp _ s5 _ H5 x u _ I5' r5 (hgk _ _ _ _ (step x H5 y5))) fun _ s6 ⟨σ6, H6, I6, d6, q6⟩ => ?_;refine thn (ht C s2 H2 fp _ s6 σ6 H6 _ I6 q6) fun ok s7 ⟨H7, I7, q7⟩ => ?_;have tnk : ∀ {σ' : St} {H' : Hp} {s' : Shared}, Inv (cxC X NC csc C s2 H2 fp) ([(D, { cls := .type "list", data := .seq its.toArray k })] ++ zdJ fp s5.heap) σ' H' s' ->
     tn (i + 1) s'.heap /\ (∀ b ∈ fp, H' b = none) /\ s'.heap.get? D = some { cls := .type "list", data := .seq its.toArray k } /\ H' D = none := fun {σ' H' s'} K => by
    refine ⟨T.keep _ _ _ st5 fun b hb o e => (K.pin (b, o) (List.mem_append_right _ (List.mem_append_right _ (zbF hb e)))).1, fun b hb => ?_, ?_, ?_⟩
    ·obtain ⟨o, e, d⟩ := T.obj _ _ st5 b hb;exact (K.pin (b, o) (List.mem_append_right _ (List.mem_append_right _ (zbF hb e)))).2.1
    ·exact (K.pin (D, { cls := .type "list", data := .seq its.toArray k }) (List.mem_append_right _ (List.mem_append_left _ (yah.mpr rfl)))).1
    ·exact (K.pin (D, { cls := .type "list", data := .seq its.toArray k }) (List.mem_append_right _ (List.mem_append_left _ (yah.mpr rfl)))).2.1
   have reset : ∀ {σ' : St} {H' : Hp} {s' : Shared} {pl : ZP}, σ'.drop nt = (za1 nt is σ).drop nt -> Inv (cxC X NC csc C s2 H2 fp) pl σ' H' s' -> Inv (cxC X NC csc C s2 H2 fp) [] (za1 nt is σ) H' s' := fun {σ' H' s' pl} hd K => by
    have K0 : Inv (cxC X NC csc C s2 H2 fp) [] σ' H' s' := K.pins_of fun p hp => absurd hp ς;refine K0.weak ?_ fun j v hj => ?_
    ·rw [zcH, K.len]; exact S.len.symm
    ·by_cases hjn : j < nt
     ·exfalso
      unfold za1 at hj;rw [ya5 (by simpa using hjn), List.getElem?_replicate, if_pos hjn] at hj;cases hj
     ·have q := congrArg (fun l => l[j - nt]?) hd;simp only [List.getElem?_drop] at q;rw [show nt + (j - nt) = j by omega] at q;rw [q]; exact hj
   cases ok with
   | false =>
    obtain ⟨m', lt, w7⟩ : ∃ m', m' < n /\ W (i + 1) m' acc H7 := hN _ _ q7;obtain ⟨t7, f7, e7, n7⟩ := tnk I7;exact ⟨m', lt, i + 1, H7, acc, its, k, reset d6 I7, t7, f7, e7, n7, v3, z3, w7⟩
   | true =>
    have q7' : te σ6 H7 fun y H4 => N (acc ++ [y]) H4 := q7;refine thn (he C s2 H2 fp _ s7 σ6 H7 _ I7 q7') fun u8 s8 ⟨y, H8, I8, r8, qN⟩ => ?_;obtain ⟨m', lt, w8⟩ := hN _ _ qN;obtain ⟨t8, f8, e8, n8⟩ := tnk I8;have I8r := reset d6 I8;have hl := v3.length;refine call_meets F.slot_list_append ⟨_, e8, rfl⟩ F.entry_list_append (F.args_list_append_2 _ _) (PySem.list_append D its.toArray k u8 (by rw [yad]; omega)) ⟨e8, ?_⟩;have q := PySem.IsL.update e8 (fun a => a.push u8);have hq : (its.toArray.push u8) = (its ++ [u8]).toArray := by simp
    rw [hq] at q;have kk : ∀ b o, b ≠ D -> s8.heap.get? b = some o -> (s8.heap.update D (Obj.mapSeq fun a => a.push u8)).get? b = some o := fun b o hb e => (Heap.get?_update_other s8.heap _ (Ne.symm hb)).trans e;refine ⟨m', lt, i + 1, H8, acc ++ [y], its ++ [u8], _, I8r.turned (t' := s8.toks) kk n8 hDC (.inr hD) (cellD I8r e8) (fun p hp => absurd (show p ∈ ([] : ZP) from hp) ς), T.keep _ _ _ t8 (fun b hb o e => kk b o (fun z => dne (z ▸ hb)) e), f8, q, n8, v3.append (.cons r8 .nil), ?_, w8⟩;rw [yae, yas];omega
 exact codeAny_compStart_list (loop _ rfl) (T.self X.A 0 _ _ _ (T.keep _ _ _ st2 (fun b hb o e => old b o e)) (loop _ rfl))
theorem za0 {i nt : Nat} (hi : i < nt) : ∀ x (σ : St) (H : Hp) Q, zgx i x σ H Q -> zgx i x σ H fun σ2 H2 => σ2.drop nt = σ.drop nt /\ Q σ2 H2 := fun x σ H Q h => ⟨List.drop_set_of_lt hi, h⟩
theorem zbJ {elt tg iter : Expr} {ifs : List Expr} {pos : Pos} {wi : TI} {g : TG} {tt : TT} {te : TE} (nt : Nat) (is : List Nat) (NC : List Str)
  (S : CompSc X NC nt is csc) (hc : X.calm = true) (hi : PI X tg iter wi)
  (hg : ∀ C s H ex, PG (cxC X NC csc C s H ex) tg g) (hgk : ∀ x (σ : St) H Q, g x σ H Q -> g x σ H fun σ2 H2 => σ2.drop nt = σ.drop nt /\ Q σ2 H2)
  (ht : ∀ C s H ex, PIf (cxC X NC csc C s H ex) ifs tt) (he : ∀ C s H ex, PE (cxC X NC csc C s H ex) elt te)
  (hs : ∀ x, foldedSetIterable iter X.env x = pure x := by intro _; rfl) : PE X (.ListComp elt [⟨tg, iter, ifs, 0⟩] csc pos) (zg6 wi nt is g tt te) := by
 intro Qa s σ H Q I h;rw [eval_ListComp];refine zfP S hc hi hg ht he hgk I h (fun s' C D H' m J q hm hC hL hz hcl hp => ⟨m, hm, fun h' hsb => ?_⟩) hs;exact ⟨.ref D, H', J.turned (t' := s'.toks) (fun b o hb e => hsb.extBut b o hb e) hC hL (.inr hz) hcl hp, rfl, q⟩
theorem zbG {i : Nat} {y : Str} {elt tg iter : Expr} {ifs : List Expr} {pos spos py : Pos} {wi : TI} {g : TG} {tt : TT} {te : TE} (nt : Nat) (is : List Nat) (NC : List Str) (hN : X.N.Nodup) (hy : X.N[i]? = some y) (hyl : X.env.scope.names.lookup y = some .local)
  (S : CompSc X NC nt is csc) (hc : X.calm = true) (hi : PI X tg iter wi)
  (hg : ∀ C s H ex, PG (cxC X NC csc C s H ex) tg g) (hgk : ∀ x (σ : St) H Q, g x σ H Q -> g x σ H fun σ2 H2 => σ2.drop nt = σ.drop nt /\ Q σ2 H2)
  (ht : ∀ C s H ex, PIf (cxC X NC csc C s H ex) ifs tt) (he : ∀ C s H ex, PE (cxC X NC csc C s H ex) elt te)
  (hsw : swapsWith (.ListComp elt [⟨tg, iter, ifs, 0⟩] csc pos) (some (.Name y py)) spos.line X.env = pure true := by rfl)
  (hs : ∀ x, foldedSetIterable iter X.env x = pure x := by intro _; rfl) : PS X (.Assign [.Name y py] (.ListComp elt [⟨tg, iter, ifs, 0⟩] csc pos) spos) (tAsg (zg6 wi nt is g tt te) (zgx i)) := by
 intro Qa s σ H D I h;rw [exec_Assign_Name_used _ _ _ _ hsw];refine yaa (wpAny_standAt (yaa ?_));show wpAny _ X.A (do let _ <- comprehension (.ListComp elt [⟨tg, iter, ifs, 0⟩] csc pos) csc X.env _ (newList []) false (eval iter X.env) (some (assign (.Name y py) X.env))) _ _ s;refine yaa (thn (zfP (QQ := fun _ s' => SP X Qa D .next s') S hc hi hg ht he hgk I h (fun s' C Da H' m J q hm hC hL hz hcl hp => ?_) hs) fun _ s' hq => yab (yab hq));show wpAny _ X.A (assign (.Name y py) X.env (.ref Da)) _ _ _;refine wpAny_assign_Name (ze4 J hN hy (.inl hyl) (v := .ref Da) rfl (fun s'' J' ⟨a, hsb, ha⟩ => ⟨m, hm.sameBut hsb (fun z => ?_), fun h3 hs3 => ?_⟩) (.inr hyl))
 ·rcases ha with e | e
  ·exact hL (z.trans e)
  ·exact hcl y a e z.symm
 ·exact ⟨_, H', J'.turned (t' := s''.toks) (fun b o hb e => hs3.extBut b o hb e) hC hL (.inr hz) hcl hp, q⟩
end
section
variable {K : W.Frag} {nt : Nat} {is : List Nat} {g : TG} {tt : TT} {te : TE} {σ : St} {H : Hp} {Q : VK}
def zfw (J : It) (nt : Nat) (is : List Nat) (g : TG) (tt : TT) (te : TE) (σ : St) (H : Hp) (Q : VK) : Prop := ∃ W : Nat -> Nat -> List V -> Hp -> Prop, (∃ m, W 0 m [] H) /\ ∀ i m acc H, W i m acc H ->
 (J.stop i H /\ ∀ p, H p = none -> Q (.ref p) (upd H p (.lst acc))) \/
 (J.go i H /\ acc.length < sizeLine /\ ∃ N : List V -> Hp -> Prop, (∀ acc' H', N acc' H' -> ∃ m', m' < m /\ W (i + 1) m' acc' H') /\ ∀ x H', J.yld i H x H' -> g x (za1 nt is σ) H' fun σ2 H2 => tt σ2 H2 fun b H3 =>
  if b = true then te σ2 H3 fun y H4 => N (acc ++ [y]) H4 else N acc H3)
theorem ziT {wi : TI} : zg6 wi nt is g tt te σ H Q = wi σ H fun J H1 => zfw J nt is g tt te σ H1 Q := rfl
theorem zc3 {J : It} {n : Nat} (Pv : Nat -> List V -> Hp -> Prop) (h0 : Pv 0 [] H)
  (hgo : ∀ i acc H, i < n -> Pv i acc H -> J.go i H /\ acc.length < sizeLine /\ ∀ x H', J.yld i H x H' -> g x (za1 nt is σ) H' fun σ2 H2 => tt σ2 H2 fun b H3 => if b = true then te σ2 H3 fun y H4 => Pv (i + 1) (acc ++ [y]) H4 else Pv (i + 1) acc H3)
  (hst : ∀ acc H, Pv n acc H -> J.stop n H /\ ∀ p, H p = none -> Q (.ref p) (upd H p (.lst acc))) : zfw J nt is g tt te σ H Q := by
 refine ⟨fun i m acc H => m = n - i /\ i <= n /\ Pv i acc H, ⟨n,ς, yaq _, h0⟩, ?_⟩
 rintro i m acc H ⟨rfl, hi, p⟩
 by_cases hlt : i < n
 ·obtain ⟨h1, h2, h3⟩ := hgo i acc H hlt p;exact .inr ⟨h1, h2, Pv (i + 1), fun acc' H' q => ⟨n - (i + 1),ω, rfl, hlt, q⟩, h3⟩
 ·have e : i = n := by omega
  subst e;exact .inl (hst acc H p)
theorem zcp {lo : Int} {n : Nat} (Pv : Nat -> List V -> Hp -> Prop) (h0 : Pv 0 [] H)
  (hs : ∀ i acc H, i < n -> Pv i acc H -> acc.length < sizeLine /\ g (.int (lo + i)) (za1 nt is σ) H fun σ2 H2 => tt σ2 H2 fun b H3 => if b = true then te σ2 H3 fun y H4 => Pv (i + 1) (acc ++ [y]) H4 else Pv (i + 1) acc H3)
  (hd : ∀ acc H, Pv n acc H -> ∀ p, H p = none -> Q (.ref p) (upd H p (.lst acc))) : zfw (Itr lo n) nt is g tt te σ H Q := by
 refine zc3 (n := n) Pv h0 (fun i acc H hi p => ?_) fun acc H p => ⟨yai _, hd acc H p⟩
 obtain ⟨h1, h2⟩ := hs i acc H hi p;refine ⟨hi, h1, fun x H' y => ?_⟩;obtain ⟨rfl, rfl⟩ := y;exact h2
theorem zfQ {z : Str} (Pv : Nat -> List V -> Hp -> Prop) (h0 : Pv 0 [] H)
  (hs : ∀ i c acc H, z.cps.toList[i]? = some c -> Pv i acc H -> acc.length < sizeLine /\ g (.str ⟨#[c]⟩) (za1 nt is σ) H fun σ2 H2 => tt σ2 H2 fun b H3 => if b = true then te σ2 H3 fun y H4 => Pv (i + 1) (acc ++ [y]) H4 else Pv (i + 1) acc H3)
  (hd : ∀ acc H, Pv z.cps.toList.length acc H -> ∀ p, H p = none -> Q (.ref p) (upd H p (.lst acc))) : zfw (Its z) nt is g tt te σ H Q := by
 have hl : z.cps.toList.length = z.cps.size := by simp
 refine zc3 (n := z.cps.toList.length) Pv h0 (fun i acc H hi p => ?_) fun acc H p => ⟨Nat.le_of_eq hl.symm, hd acc H p⟩
 have hx : z.cps.toList[i]? = some z.cps.toList[i] := by simp [hi]
 obtain ⟨h1, h2⟩ := hs i _ acc H hx p;refine ⟨(by show i < z.cps.size; omega), h1, fun x H' y => ?_⟩;obtain ⟨rfl, c, hc, rfl⟩ := y;rw [<- Array.getElem?_toList, hx] at hc;cases hc;exact h2
theorem zbe {a : Addr} {xs : List V} (Pv : Nat -> List V -> Hp -> Prop) (h0 : Pv 0 [] H) (hl : ∀ i acc H, i <= xs.length -> Pv i acc H -> SqL K H a xs)
  (hs : ∀ i x acc H, xs[i]? = some x -> Pv i acc H -> acc.length < sizeLine /\ g x (za1 nt is σ) H fun σ2 H2 => tt σ2 H2 fun b H3 => if b = true then te σ2 H3 fun y H4 => Pv (i + 1) (acc ++ [y]) H4 else Pv (i + 1) acc H3)
  (hd : ∀ acc H, Pv xs.length acc H -> ∀ p, H p = none -> Q (.ref p) (upd H p (.lst acc))) : zfw (Itl K a) nt is g tt te σ H Q := by
 refine zc3 (n := xs.length) Pv h0 (fun i acc H hi p => ?_) fun acc H p => ⟨⟨xs, hl _ _ _ (yai _) p, yai _⟩, hd acc H p⟩
 have hx : xs[i]? = some xs[i] := by simp [hi]
 have q := hl i acc H (Nat.le_of_lt hi) p;obtain ⟨h1, h2⟩ := hs i _ acc H hx p;refine ⟨⟨xs, _, q, hx⟩, h1, fun x H' y => ?_⟩;obtain ⟨rfl, y⟩ := y;have e := y xs q;rw [hx] at e;cases e;exact h2
theorem zfR {a : Addr} {xs : List V} (Pv : Nat -> List V -> Hp -> Prop) (h0 : Pv 0 [] H) (hl : ∀ i acc H, i <= xs.length -> Pv i acc H -> SqT K H a xs)
  (hs : ∀ i x acc H, xs[i]? = some x -> Pv i acc H -> acc.length < sizeLine /\ g x (za1 nt is σ) H fun σ2 H2 => tt σ2 H2 fun b H3 => if b = true then te σ2 H3 fun y H4 => Pv (i + 1) (acc ++ [y]) H4 else Pv (i + 1) acc H3)
  (hd : ∀ acc H, Pv xs.length acc H -> ∀ p, H p = none -> Q (.ref p) (upd H p (.lst acc))) : zfw (Itt K a) nt is g tt te σ H Q := by
 refine zc3 (n := xs.length) Pv h0 (fun i acc H hi p => ?_) fun acc H p => ⟨⟨xs, hl _ _ _ (yai _) p, yai _⟩, hd acc H p⟩
 have hx : xs[i]? = some xs[i] := by simp [hi]
 have q := hl i acc H (Nat.le_of_lt hi) p;obtain ⟨h1, h2⟩ := hs i _ acc H hx p;refine ⟨⟨xs, _, q, hx⟩, h1, fun x H' y => ?_⟩;obtain ⟨rfl, y⟩ := y;have e := y xs q;rw [hx] at e;cases e;exact h2
end
section
variable {X : Cx}
theorem call_all (hc : X.calm = true) : zb4 X (.builtin "all") (fun xs H Q => ∃ (p : Addr) (bs : List Bool), xs = [.ref p] /\ SqL X.K H p (bs.map V.bl) /\ Q (.bl (bs.all id)) H) := by
 intro Qa s σ H xs us Q I r h;obtain ⟨p, bs, rfl, hq, q⟩ := h;obtain ⟨u, rfl, rx⟩ := zcW r;cases rx;obtain ⟨its, rv, pl, hz⟩ := I.list hq;have Qe : bs.length = its.length := by have := rv.length; simpa using this
 refine call_all_walk (wpAny_pyIter_list pl.isList ?_);have hne : p ≠ s.heap.objs.size := by
  obtain ⟨o, _, e, _⟩ := pl;exact Nat.ne_of_lt (yan e)
 refine ⟨s.heap.objs.size, _, _, _, _, _, fun i => bs.getD i false, rfl, Walks.list (A := X.A.in1) (show X.A.in1.handled = none from I.ok.hd hc) _ p hne its.toArray, ⟨⟨_, yaj _ rfl, rfl, rfl⟩, pl.isList.push _⟩, ?_, fun h' tk hk => ?_⟩
 ·intro i v s' Q' E' hP hQ';have hv : its[i]? = some v := by simpa using hP
  have hi : i < bs.length := by rw [Qe]; exact (yag.mp hv).1
  obtain ⟨v', hv', rv'⟩ := rv.get (i := i) (x := V.bl bs[i]) (by simp [hi]);rw [hv] at hv'; cases hv';cases (show v = Value.bool bs[i] from rv');have e : bs.getD i false = bs[i] := by simp [hi]
  have hQ2 : Q' (bs.getD i false) s' := hQ';rw [e] at hQ2;exact wpAny_truthy_bool hQ2
 ·have e : ((List.range its.toArray.size).all fun i => bs.getD i false) = bs.all id := by
   rw [yad, <- Qe];rw [Bool.eq_iff_iff, List.all_eq_true, List.all_eq_true]
   constructor
   ·intro h x hx;obtain ⟨i, hi, rfl⟩ := List.mem_iff_getElem.mp hx;have := h i (List.mem_range.mpr hi);simpa [hi] using this
   ·intro h i hi;have hi' := List.mem_range.mp hi;have := h bs[i] (List.getElem_mem hi');simpa [hi'] using this
  rw [e];refine ⟨.bl (bs.all id), H, ?_, rfl, q⟩;exact I.kept (t' := tk) fun b o e => hk b o (fun z => absurd (yan e) (Nat.not_lt.mpr (Nat.le_of_eq (yah.mp z).symm))) (yac _ e)
theorem zcI : ∀ {ys : List Str} {us : List Value}, Vals (ys.map V.str) us -> StrsAre us ys
 | [], _, r => by rw [List.map_nil] at r; cases r; exact .nil
 | y :: ys, _, r => by
  rw [List.map_cons] at r;cases r with
  | cons r1 r2 =>
   obtain ⟨t, rfl⟩ := r1;exact .cons y t (zcI r2)
def zmh (K : W.Frag) : V -> List V -> Hp -> VK -> Prop := fun x vs H Q => ∃ (sep : Str) (p : Addr) (ys : List Str), x = .str sep /\ vs = [.ref p] /\ SqL K H p (ys.map V.str) /\ (ys.map (·.length)).sum + ys.length * sep.length <= 16777216 /\ Q (.str (Txt.join sep ys)) H
theorem zk4 : MtR X "str.join" (zmh X.K) := by
 intro Qa s σ H x vs v us Q I rx rv h;obtain ⟨sep, p, ys, rfl, rfl, hq, hz, q⟩ := h;obtain ⟨t, rfl⟩ := rx;obtain ⟨u, rfl, ru⟩ := zcW rv;cases ru;obtain ⟨its, r', pl, _⟩ := I.list hq;exact join_list pl.isList (by simpa using zcI r') hz fun t' k => ⟨.str _, H, I.tok _, ⟨t', rfl⟩, q⟩
def zk5 (K : W.Frag) (T : String) : List V -> Hp -> VK -> Prop := fun vs H Q => ∃ x t b, vs = [x, .ty T] /\ TyOf K H x t /\ W.kitOne K t (.type T) = some b /\ Q (.bl b) H
theorem zhx {T : String} : zb4 X (.builtin "isinstance") (zk5 X.K T) := by
 intro Qa s σ H xs us Q I r h;obtain ⟨x, t, b, rfl, ty, e, q⟩ := h;obtain ⟨u, u2, rfl, rx, r2⟩ := ziQ r;cases (show u2 = Value.type T from r2);exact zhm I rx ty e fun tk => ⟨.bl b, H, I.tok tk, rfl, q⟩
end
section
variable {X : Cx} {tg l : Expr} {tl : TE} {a : Expr} {pos : Pos} {tA : TT}
theorem zap : OpR X (binaryOp .Mod) (rI (fun _ j => 0 < j) fun i j => .int (i % j)) := zlP
theorem za7 : OpR X (binaryOp .FloorDiv) (rI CDiv fun i j => .int (i / j)) := zkt
def zmi : R2 := fun x y H Q => ∃ i j, x = .str i /\ y = .str j /\ i.length + j.length <= sizeLine /\ Q (.str (i ++ j)) H
def znG (K : W.Frag) : R2 := fun x y H Q => rI0 (fun i j => .int (i + j)) x y H Q \/ (zmi x y H Q \/ (rCat x y H Q \/ zlY K x y H Q))
def ziU : R2 := fun x y H Q => rI CMul (fun i j => .int (i * j)) x y H Q \/ rRep x y H Q
theorem zbm : OpR X (binaryOp .Mult) ziU := OpR.or zlO zme
theorem zhy (hu : X.A.units + 64 < cLine) : OpR X (compareOp .NotEq) rNe := zlR
def rLtS : R2 := fun x y H Q => ∃ i j, x = .str i /\ y = .str j /\ Q (.bl (decide (i.cps.toList < j.cps.toList))) H
def rLtA : R2 := fun x y H Q => rI0 (fun i j => .bl (decide (i < j))) x y H Q \/ rLtS x y H Q
theorem zch : OpR X (compareOp .Lt) rLtA := OpR.or znE zhi
def inS (i j : Str) : Bool := !(Builtin.Str.occurrences j i 0 j.length 1).isEmpty
def rInS (neg : Bool) : R2 := fun x y H Q => ∃ i j, x = .str i /\ y = .str j /\ Q (.bl (if neg then !inS i j else inS i j)) H
def rInA (K : W.Frag) (neg : Bool) : R2 := fun x y H Q => rInS neg x y H Q \/ rIn K neg x y H Q
theorem zhz (K : W.Frag) (hK : X.K = K := by rfl) : OpR X (compareOp .In) (rInA K false) := hK ▸ (OpR.or zhj zhq : OpR X (compareOp .In) (rInA X.K false))
theorem zci (K : W.Frag) (hK : X.K = K := by rfl) : OpR X (compareOp .NotIn) (rInA K true) := hK ▸ (OpR.or zeD zeC : OpR X (compareOp .NotIn) (rInA X.K true))
def rSlA (K : W.Frag) : V -> Option Int -> Option Int -> Hp -> VK -> Prop := fun x lo hi H Q => rSlS x lo hi H Q \/ (rSlL K x lo hi H Q \/ rSlT K x lo hi H Q)
theorem ixA (K : W.Frag) (hK : X.K = K := by rfl) : IxR X (rIx K) := hK ▸ (ix_seq : IxR X (rIx X.K))
def ziV (K : W.Frag) (x : V) (H : Hp) (R : It -> Hp -> Prop) : Prop := (∃ z, x = .str z /\ R (Its z) H) \/ (∃ a, x = .ref a /\ (∃ xs, SqL K H a xs) /\ R (Itl K a) H) \/ (∃ a, x = .ref a /\ (∃ xs, SqT K H a xs) /\ R (Itt K a) H)
def iAny (K : W.Frag) (tl : TE) : TI := fun σ H R => tl σ H fun x H1 => ziV K x H1 R
theorem zaT (K : W.Frag) (hl : PE X l tl) (hK : X.K = K := by rfl) : PI X tg l (iAny K tl) := by
 subst hK;intro Qa s σ H R I h;refine thn (hl Qa s σ H _ I h) fun v s1 ⟨x, H1, I1, r1, q1⟩ => ?_;rcases q1 with ⟨z, rfl, q⟩ | ⟨a, rfl, hq, q⟩ | ⟨a, rfl, hq, q⟩
 ·exact zhw I1 r1 q
 ·obtain ⟨xs, hq⟩ := hq;cases r1;obtain ⟨its, rv, p, hz⟩ := I1.list hq;refine wpAny_pyIter_list p.isList ?_;refine ⟨s1.heap.objs.size, [s1.heap.objs.size], _, _, H1, rfl, I1.kept (t' := s1.toks) fun b o e => yac _ e, zhb a _, ⟨_, yaj _ rfl, rfl, rfl⟩, fun b hb => ?_, q⟩;have e : b = s1.heap.objs.size := by simpa using hb
  subst e;exact I1.fpOk (yai _) (I1.hok.fresh (yai _))
 ·obtain ⟨xs, hq⟩ := hq;cases r1;obtain ⟨its, rv, p, hz⟩ := I1.tuple hq;refine wpAny_pyIter_tuple (show s1.heap.IsTuple a its.toArray from p) ?_;refine ⟨s1.heap.objs.size, [s1.heap.objs.size], _, _, H1, rfl, I1.kept (t' := s1.toks) fun b o e => yac _ e, zgz a _, ⟨_, yaj _ rfl, rfl, rfl⟩, fun b hb => ?_, q⟩;have e : b = s1.heap.objs.size := by simpa using hb
  subst e;exact I1.fpOk (yai _) (I1.hok.fresh (yai _))
end
section
variable {X : Cx} {o e : Expr} {es : List Expr} {to : TE} {t : TA} {name : Str} {apos cpos : Pos} {T iid : String} {r : V -> List V -> Hp -> VK -> Prop}
def rLen (K : W.Frag) : List V -> Hp -> VK -> Prop := fun xs H Q => ∃ x n, xs = [x] /\ LenV K x H n /\ Q (.int n) H
theorem za3 (K : W.Frag) (hK : X.K = K := by rfl) : zb4 X (.builtin "len") (rLen K) := hK ▸ (call_len : zb4 X (.builtin "len") (rLen X.K))
def rAll (K : W.Frag) : List V -> Hp -> VK -> Prop := fun xs H Q => ∃ (p : Addr) (bs : List Bool), xs = [.ref p] /\ SqL K H p (bs.map V.bl) /\ Q (.bl (bs.all id)) H
theorem zc4 (K : W.Frag) (hc : X.calm = true) (hK : X.K = K := by rfl) : zb4 X (.builtin "all") (rAll K) := hK ▸ (call_all hc : zb4 X (.builtin "all") (rAll X.K))
def zee (K : W.Frag) : List V -> Hp -> VK -> Prop := fun xs H Q => ∃ p ys, xs = [.ref p] /\ ((SqL K H p ys /\ ∀ l, H l = none -> Q (.ref l) (upd H l (.tup ys))) \/ (SqT K H p ys /\ Q (.ref p) H))
theorem zaP (K : W.Frag) (hK : X.K = K := by rfl) : zb4 X (.type "tuple") (zee K) := hK ▸ (call_tuple_of : zb4 X (.type "tuple") (zee X.K))
def zk6 (K : W.Frag) : List V -> Hp -> VK -> Prop := fun xs H Q => ∃ p ys, xs = [.ref p] /\ (SqL K H p ys \/ SqT K H p ys) /\ ∀ l, H l = none -> Q (.ref l) (upd H l (.lst ys))
def zfS : List V -> Hp -> VK -> Prop := fun xs H Q => (∃ i, xs = [.int i] /\ Q (.int i) H) \/ ∃ k, xs = [.bl k] /\ Q (.int (if k then 1 else 0)) H
theorem zh0 : zb4 X (.type "int") zfS := zhk
theorem zb9 (K : W.Frag) (pa : PlainAttrs T) (slot : Slot T name iid) (hty : typeOf (.builtin iid) = pure (.type "method_descriptor")) (hm : MtR X iid r) (ho : PE X o to) (ha : PA X (e :: es) t) (hK : X.K = K := by rfl)
  (hbase : attributeBase o name X.env (eval o X.env) = eval o X.env := by rfl)
  (hfew : ((backTo cpos (starEach (e :: es) X.env)).all (fun x => !x.1) && (backToKw cpos (keywordEach [] X.env)).all (fun x => x.1.isSome)
   && decide ((e :: es).length + ([] : List Keyword).length + (if ([] : List Keyword).isEmpty then 0 else 1) < 30)) = true := by rfl)
  (hline : (apos.endLine == cpos.line) = true := by rfl) (hs : starEach (e :: es) X.env = (false, eval e X.env) :: starEach es X.env := by rfl) (hplain : (backTo cpos (starEach es X.env)).any (·.1) = false := by rfl) :
  PE X (.Call (.Attribute o name apos) (e :: es) [] cpos) (tBM K T r to t) := hK ▸ znF pa slot hty hm ho ha hbase hfew hline hs hplain
end
section
variable {K : W.Frag} {g : TG} {tb : TS} {D : Ends} {σ : St} {H : Hp}
def ForW (J : It) (g : TG) (tb : TS) (D : Ends) (σ : St) (H : Hp) : Prop := ∃ W : Nat -> Nat -> St -> Hp -> Prop, (∃ m, W 0 m σ H) /\ ∀ i m σ H, W i m σ H ->
 (J.stop i H /\ D.nx σ H) \/ (J.go i H /\ ∃ N : St -> Hp -> Prop, (∀ σ' H', N σ' H' -> ∃ m', m' < m /\ W (i + 1) m' σ' H') /\ ∀ x H', J.yld i H x H' -> g x σ H' fun σ2 H2 => tb { D with nx := N, ct := N, bk := D.nx } σ2 H2)
theorem zk7 {wi : TI} : tFor wi g tb D σ H = wi σ H fun J H1 => ForW J g tb D σ H1 := rfl
theorem zdr {a : Addr} {xs : List V} (Pv : Nat -> St -> Hp -> Prop) (h0 : Pv 0 σ H) (hl : ∀ i σ H, i <= xs.length -> Pv i σ H -> SqL K H a xs)
  (hs : ∀ i x σ H, xs[i]? = some x -> Pv i σ H -> g x σ H fun σ2 H2 => tb { D with nx := Pv (i + 1), ct := Pv (i + 1), bk := D.nx } σ2 H2) (hd : ∀ σ H, Pv xs.length σ H -> D.nx σ H) : ForW (Itl K a) g tb D σ H := ziP Pv h0 hl hs hd
theorem zcq {a : Addr} {xs : List V} (Pv : Nat -> St -> Hp -> Prop) (h0 : Pv 0 σ H) (hl : ∀ i σ H, i <= xs.length -> Pv i σ H -> SqT K H a xs)
  (hs : ∀ i x σ H, xs[i]? = some x -> Pv i σ H -> g x σ H fun σ2 H2 => tb { D with nx := Pv (i + 1), ct := Pv (i + 1), bk := D.nx } σ2 H2) (hd : ∀ σ H, Pv xs.length σ H -> D.nx σ H) : ForW (Itt K a) g tb D σ H := zks Pv h0 hl hs hd
theorem zbZ {lo : Int} {n : Nat} (Pv : Nat -> St -> Hp -> Prop) (h0 : Pv 0 σ H)
  (hs : ∀ i σ H, i < n -> Pv i σ H -> g (.int (lo + i)) σ H fun σ2 H2 => tb { D with nx := Pv (i + 1), ct := Pv (i + 1), bk := D.nx } σ2 H2) (hd : ∀ σ H, Pv n σ H -> D.nx σ H) : ForW (Itr lo n) g tb D σ H := zhe Pv h0 hs hd
theorem zfT {x : Str} (Pv : Nat -> St -> Hp -> Prop) (h0 : Pv 0 σ H)
  (hs : ∀ i c σ H, x.cps.toList[i]? = some c -> Pv i σ H -> g (.str ⟨#[c]⟩) σ H fun σ2 H2 => tb { D with nx := Pv (i + 1), ct := Pv (i + 1), bk := D.nx } σ2 H2) (hd : ∀ σ H, Pv x.cps.toList.length σ H -> D.nx σ H) : ForW (Its x) g tb D σ H := zk2 Pv h0 hs hd
end
theorem zao {n : Nat} (h : n <= 100000) : n <= sizeLine := yat h (by rw [sizeLine_eq]; decide)
theorem zaG {n : Nat} (h : n <= 100000) : n < sizeLine := Nat.lt_of_le_of_lt h (by rw [sizeLine_eq]; decide)
theorem zad {H : Hp} {p : Addr} (h : H p = none) (o : HO) : Same H (upd H p o) := fun b u q => by rw [za6 (zaF q h)]; exact q
theorem Same.seqT {K : W.Frag} {H H' : Hp} {a : Addr} {xs : List V} (e : Same H H') (h : SqT K H a xs) : SqT K H' a xs := by
 rcases h with (h | ⟨o, h⟩) | h
 ·exact .inl (.inl (e _ _ h))
 ·exact .inl (.inr ⟨o, e _ _ h⟩)
 ·exact .inr h
theorem znC {α : Type} {xs : List α} {i : Int} (h0 : 0 <= i) (h1 : i < xs.length) : ∃ v, v ∈ xs /\ atI xs i = some v := by
 have hk : i.toNat < xs.length := by omega
 have e : i = ((i.toNat : Nat) : Int) := by omega
 refine ⟨xs[i.toNat], List.getElem_mem hk, ?_⟩;have q : atI xs ((i.toNat : Nat) : Int) = some xs[i.toNat] := zam (by simp [hk]);rw [<- e] at q;exact q
theorem zfU {α : Type} {xs : List α} {i : Int} {d : α} (h0 : 0 <= i) (h1 : i < xs.length) : atI xs i = some (xs.getD i.toNat d) := by
 have hk : i.toNat < xs.length := by omega
 have e : i = ((i.toNat : Nat) : Int) := by omega
 have q : atI xs ((i.toNat : Nat) : Int) = some xs[i.toNat] := zam (by simp [hk]);rw [<- e] at q;rw [q]; simp [hk]
def zh1 (K : W.Frag) : Sp := fun vs H Q _ => ∃ (a : Addr) (ns : List Int), vs = [.ref a] /\ SqL K H a (ns.map V.int) /\ ns.length <= 63 /\ ∀ H', Q (.bl true) H'
section
variable {K : W.Frag} {H : Hp} {Q : VK} {σ : St} {D : Ends} {ta tb tc te : TE} {tt tA tB' : TT} {t u : TS} {g : TG} {r : R2} {tl : TA} {v0 v1 v2 v3 v4 v5 v6 v7 v8 v9 v10 v11 : V}
 {o0 o1 o2 o3 o4 o5 o6 o7 o8 o9 o10 o11 : Option V} {rr : St}
theorem w_v0 : tVar 0 (some v0 :: rr) H Q = Q v0 H := by simp [tVar]
theorem w_v1 : tVar 1 (o0 :: some v1 :: rr) H Q = Q v1 H := by simp [tVar]
theorem w_v2 : tVar 2 (o0 :: o1 :: some v2 :: rr) H Q = Q v2 H := by simp [tVar]
theorem w_v3 : tVar 3 (o0 :: o1 :: o2 :: some v3 :: rr) H Q = Q v3 H := by simp [tVar]
theorem w_v4 : tVar 4 (o0 :: o1 :: o2 :: o3 :: some v4 :: rr) H Q = Q v4 H := by simp [tVar]
theorem w_v5 : tVar 5 (o0 :: o1 :: o2 :: o3 :: o4 :: some v5 :: rr) H Q = Q v5 H := by simp [tVar]
theorem w_v6 : tVar 6 (o0 :: o1 :: o2 :: o3 :: o4 :: o5 :: some v6 :: rr) H Q = Q v6 H := by simp [tVar]
theorem w_v7 : tVar 7 (o0 :: o1 :: o2 :: o3 :: o4 :: o5 :: o6 :: some v7 :: rr) H Q = Q v7 H := by simp [tVar]
theorem w_v8 : tVar 8 (o0 :: o1 :: o2 :: o3 :: o4 :: o5 :: o6 :: o7 :: some v8 :: rr) H Q = Q v8 H := by simp [tVar]
theorem w_v9 : tVar 9 (o0 :: o1 :: o2 :: o3 :: o4 :: o5 :: o6 :: o7 :: o8 :: some v9 :: rr) H Q = Q v9 H := by simp [tVar]
theorem znH : tVar 10 (o0 :: o1 :: o2 :: o3 :: o4 :: o5 :: o6 :: o7 :: o8 :: o9 :: some v10 :: rr) H Q = Q v10 H := by simp [tVar]
theorem znI : tVar 11 (o0 :: o1 :: o2 :: o3 :: o4 :: o5 :: o6 :: o7 :: o8 :: o9 :: o10 :: some v11 :: rr) H Q = Q v11 H := by simp [tVar]
theorem w_c {v : V} : tC v σ H Q = Q v H := rfl
theorem znJ : tSeq t u D σ H = t { D with nx := u D } σ H := rfl
theorem znK : tIfS tt t u D σ H = tt σ H fun b H1 => if b = true then t D σ H1 else u D σ H1 := rfl
theorem zmj : zlF D σ H = D.nx σ H := rfl
theorem znL : tRet te D σ H = te σ H D.rt := rfl
theorem zmk : zlG te D σ H = te σ H fun _ H1 => D.nx σ H1 := rfl
theorem znM : tAsg te g D σ H = te σ H fun x H1 => g x σ H1 D.nx := rfl
theorem zk8 {i : Nat} {x : V} {Qs : St -> Hp -> Prop} : zgx i x σ H Qs = Qs (σ.set i (some x)) H := rfl
theorem w_op : tOp r ta tb σ H Q = ta σ H fun x H1 => tb σ H1 fun y H2 => r x y H2 Q := rfl
theorem w_un {f : V -> Hp -> VK -> Prop} : tUn f ta σ H Q = ta σ H fun x H1 => f x H1 Q := rfl
variable {Qb : Bool -> Hp -> Prop} {Qs : List V -> Hp -> Prop}
theorem zml : zkv te σ H Qb = te σ H fun x H' => ∃ k, x = .bl k /\ Qb k H' := rfl
theorem w_B : tB te σ H Qb = te σ H fun x H' => ∃ k, x = .bl k /\ Qb k H' := rfl
theorem w_bl {b : Bool} {P : Bool -> Prop} : (∃ k, V.bl b = .bl k /\ P k) = P b := by
 refine propext ⟨fun ⟨k, e, h⟩ => ?_, fun h => ⟨b, rfl, h⟩⟩;cases e; exact h
theorem zo9 {b : Bool} {P : Bool -> Prop} {P2 : Bool -> Prop} : (∃ k, V.bl b = .bl k /\ if k = true then P k else P2 k) = if b = true then P b else P2 b := w_bl
theorem znN : tAnd tA tB' σ H Qb = tA σ H fun c H1 => if c = true then tB' σ H1 Qb else Qb false H1 := rfl
theorem w_or : tOr tA tB' σ H Qb = tA σ H fun c H1 => if c = true then Qb true H1 else tB' σ H1 Qb := rfl
theorem w_not : tNot tA σ H Qb = tA σ H fun c H1 => Qb (!c) H1 := rfl
theorem zmm : zlE ta tb σ H Q = ta σ H fun x H1 => ∃ c, x = .bl c /\ if c = true then tb σ H1 Q else Q (.bl false) H1 := rfl
theorem zmn : zmg σ H Qb = Qb true H := rfl
theorem znO : tNil σ H Qs = Qs [] H := rfl
theorem zmo : zlT ta tl σ H Qs = ta σ H fun x H1 => tl σ H1 fun xs H2 => Qs (x :: xs) H2 := rfl
theorem znP : tTup tl σ H Q = tl σ H fun xs H1 => xs.length <= sizeLine /\ ∀ p, H1 p = none -> Q (.ref p) (upd H1 p (.tup xs)) := rfl
theorem znQ : tLst tl σ H Q = tl σ H fun xs H1 => xs.length <= sizeLine /\ ∀ p, H1 p = none -> Q (.ref p) (upd H1 p (.lst xs)) := rfl
theorem zmp {sp : Sp} {dvs : List V} {E : XK} : zkx sp dvs E tl σ H Q = tl σ H fun vs H1 => sp (vs ++ dvs) H1 Q E := rfl
theorem w_CB {f : List V -> Hp -> VK -> Prop} : tCB f tl σ H Q = tl σ H fun vs H1 => f vs H1 Q := rfl
theorem w_BM {T : String} {f : V -> List V -> Hp -> VK -> Prop} : tBM K T f te tl σ H Q = te σ H fun x H1 => tyV K T x H1 /\ tl σ H1 fun xs H2 => f x xs H2 Q := rfl
theorem ziW {T : String} {x : Str} : tyV K T (.str x) H = (T = "str") := rfl
theorem zh2 {T : String} {p : Addr} (h : T = "list") : tyV K T (.ref p) H = ∃ xs, SqL K H p xs := by
 subst h;refine propext ⟨fun h => ?_, fun h => .inl ⟨rfl, h⟩⟩;rcases h with ⟨_, h⟩ | ⟨h, _⟩ | ⟨h, _⟩ | ⟨h, _⟩
 ·exact h
 ·exact absurd h δ
 ·exact absurd h δ
 ·exact absurd h δ
variable {tlo thi : TO} {Qo : Option Int -> Hp -> Prop}
theorem w_sl {f : V -> Option Int -> Option Int -> Hp -> VK -> Prop} : tSl f te tlo thi σ H Q = te σ H fun x H1 => tlo σ H1 fun l H2 => thi σ H2 fun u H3 => f x l u H3 Q := rfl
theorem ziX : zhn σ H Qo = Qo none H := rfl
theorem zmq : zlW te σ H Qo = te σ H fun x H1 => ∃ i, x = .int i /\ Qo (some i) H1 := rfl
theorem znR {i : Int} {P : Int -> Prop} : (∃ k, V.int i = .int k /\ P k) = P i := by
 refine propext ⟨fun ⟨k, e, h⟩ => ?_, fun h => ⟨i, rfl, h⟩⟩;cases e; exact h
variable {i j : Int} {x y : Str} {b c : Bool} {p q : Addr} {gi : Int -> Int -> V} {C : Int -> Int -> Prop}
theorem ziY : rI0 gi (.int i) (.int j) H Q = Q (gi i j) H := by
 refine propext ⟨fun ⟨_, _, e1, e2, h⟩ => ?_, fun h => ⟨i, j, rfl, rfl, h⟩⟩;cases e1; cases e2; exact h
theorem w_rI : rI C gi (.int i) (.int j) H Q = (C i j /\ Q (gi i j) H) := by
 refine propext ⟨fun ⟨_, _, e1, e2, h⟩ => ?_, fun h => ⟨i, j, rfl, rfl, h⟩⟩;cases e1; cases e2; exact h
theorem zmr : ziU (.int i) (.int j) H Q = (CMul i j /\ Q (.int (i * j)) H) := by
 unfold ziU;rw [w_rI];refine propext ⟨fun h => ?_, .inl⟩;rcases h with h | ⟨_, _, _, e, _⟩
 ·exact h
 ·cases e
theorem znS : rNe (.int i) (.int j) H Q = Q (.bl (!decide (i = j))) H := by
 refine propext ⟨fun ⟨_, h⟩ => by simpa using h, fun h => ⟨rfl, by simpa using h⟩⟩
theorem znT : rNe (.str x) (.str y) H Q = Q (.bl (!decide (x = y))) H := by
 refine propext ⟨fun ⟨_, h⟩ => by simpa using h, fun h => ⟨rfl, by simpa using h⟩⟩
theorem zk9 : rLtA (.int i) (.int j) H Q = Q (.bl (decide (i < j))) H := by
 unfold rLtA;rw [ziY];refine propext ⟨fun h => ?_, .inl⟩;rcases h with h | ⟨_, _, e, _⟩
 ·exact h
 ·cases e
theorem znU : rInA K false (.str x) (.str y) H Q = Q (.bl (inS x y)) H := by
 refine propext ⟨fun h => ?_, fun h => .inl ⟨x, y, rfl, rfl, h⟩⟩;rcases h with ⟨_, _, e1, e2, h⟩ | ⟨_, _, e, _⟩
 ·cases e1; cases e2; exact h
 ·cases e
theorem ziZ : rInA K true (.str x) (.str y) H Q = Q (.bl (!inS x y)) H := by
 refine propext ⟨fun h => ?_, fun h => .inl ⟨x, y, rfl, rfl, h⟩⟩;rcases h with ⟨_, _, e1, e2, h⟩ | ⟨_, _, e, _⟩
 ·cases e1; cases e2; exact h
 ·cases e
theorem znV {v : V} : rInA K false v (.ref p) H Q = ∃ xs, (SqL K H p xs \/ SqT K H p xs) /\ zb5 v = true /\ xs.all zb5 = true /\ Q (.bl (inV v xs)) H := by
 refine propext ⟨fun h => ?_, fun ⟨xs, h⟩ => .inr ⟨p, xs, rfl, h⟩⟩;rcases h with ⟨_, _, _, e2, _⟩ | ⟨_, xs, e, h⟩
 ·cases e2
 ·cases e; exact ⟨xs, h⟩
theorem zja {v : V} : rInA K true v (.ref p) H Q = ∃ xs, (SqL K H p xs \/ SqT K H p xs) /\ zb5 v = true /\ xs.all zb5 = true /\ Q (.bl (!inV v xs)) H := by
 refine propext ⟨fun h => ?_, fun ⟨xs, h⟩ => .inr ⟨p, xs, rfl, h⟩⟩;rcases h with ⟨_, _, _, e2, _⟩ | ⟨_, xs, e, h⟩
 ·cases e2
 ·cases e; exact ⟨xs, h⟩
theorem znW : rIx K (.str x) (.int i) H Q = (x.length <= sizeLine /\ ∃ c, atI x.cps.toList i = some c /\ Q (.str ⟨#[c]⟩) H) := by
 refine propext ⟨fun h => ?_, fun ⟨h1, c, h2, h3⟩ => .inr (.inr ⟨x, i, c, rfl, rfl, h1, h2, h3⟩)⟩;rcases h with ⟨_, _, _, _, e, _⟩ | ⟨_, _, _, _, e, _⟩ | ⟨_, _, c, e1, e2, h1, h2, h3⟩
 ·cases e
 ·cases e
 ·cases e1; cases e2; exact ⟨h1, c, h2, h3⟩
theorem znX : rIx K (.ref p) (.int i) H Q = ∃ xs, (SqL K H p xs \/ SqT K H p xs) /\ ∃ v, atI xs i = some v /\ Q v H := by
 refine propext ⟨fun h => ?_, fun ⟨xs, h, v, e, q⟩ => ?_⟩
 ·rcases h with ⟨_, xs, _, v, e1, e2, h1, h2, h3⟩ | ⟨_, xs, _, v, e1, e2, h1, h2, h3⟩ | ⟨_, _, _, e, _⟩
  ·cases e1; cases e2; exact ⟨xs, .inl h1, v, h2, h3⟩
  ·cases e1; cases e2; exact ⟨xs, .inr h1, v, h2, h3⟩
  ·cases e
 ·rcases h with h | h
  ·exact .inl ⟨p, xs, i, v, rfl, rfl, h, e, q⟩
  ·exact .inr (.inl ⟨p, xs, i, v, rfl, rfl, h, e, q⟩)
theorem zms : rLen K [.str x] H Q = (x.length <= sizeLine /\ Q (.int x.length) H) := by
 refine propext ⟨fun ⟨_, n, e, h, q⟩ => ?_, fun ⟨h, q⟩ => ⟨_, _, rfl, ⟨h, rfl⟩, q⟩⟩;cases e;obtain ⟨h1, rfl⟩ := h;exact ⟨h1, q⟩
theorem zmt : rLen K [.ref p] H Q = ∃ xs, (SqL K H p xs \/ SqT K H p xs) /\ Q (.int (xs.length : Nat)) H := by
 refine propext ⟨fun ⟨_, n, e, h, q⟩ => ?_, fun ⟨xs, h, q⟩ => ?_⟩
 ·cases e;rcases h with ⟨xs, h, rfl⟩ | ⟨xs, h, rfl⟩
  ·exact ⟨xs, .inl h, q⟩
  ·exact ⟨xs, .inr h, q⟩
 ·rcases h with h | h
  ·exact ⟨_, _, rfl, .inl ⟨xs, h, rfl⟩, q⟩
  ·exact ⟨_, _, rfl, .inr ⟨xs, h, rfl⟩, q⟩
theorem znY : rAll K [.ref p] H Q = ∃ bs : List Bool, SqL K H p (bs.map V.bl) /\ Q (.bl (bs.all id)) H := by
 refine propext ⟨fun ⟨_, bs, e, h⟩ => ?_, fun ⟨bs, h⟩ => ⟨p, bs, rfl, h⟩⟩;cases e; exact ⟨bs, h⟩
theorem zmu {sep : Str} : zmh K (.str sep) [.ref p] H Q = ∃ ys : List Str, SqL K H p (ys.map V.str) /\ (ys.map (·.length)).sum + ys.length * sep.length <= 16777216 /\ Q (.str (Txt.join sep ys)) H := by
 refine propext ⟨fun ⟨_, _, ys, e1, e2, h⟩ => ?_, fun ⟨ys, h⟩ => ⟨sep, p, ys, rfl, rfl, h⟩⟩;cases e1; cases e2; exact ⟨ys, h⟩
theorem zh3 {b : Bool} : zfS [.bl b] H Q = Q (.int (if b then 1 else 0)) H := by
 refine propext ⟨fun h => ?_, fun h => .inr ⟨b, rfl, h⟩⟩;rcases h with ⟨_, e, _⟩ | ⟨_, e, h⟩
 ·cases e
 ·cases e; exact h
theorem zh4 : zfS [.int i] H Q = Q (.int i) H := by
 refine propext ⟨fun h => ?_, fun h => .inl ⟨i, rfl, h⟩⟩;rcases h with ⟨_, e, h⟩ | ⟨_, e, _⟩
 ·cases e; exact h
 ·cases e
variable {R : It -> Hp -> Prop}
theorem znZ : ziV K (.str x) H R = R (Its x) H := by
 refine propext ⟨fun h => ?_, fun h => .inl ⟨x, rfl, h⟩⟩;rcases h with ⟨_, e, h⟩ | ⟨_, e, _⟩ | ⟨_, e, _⟩
 ·cases e; exact h
 ·cases e
 ·cases e
theorem zoa : ziV K (.ref p) H R = (((∃ xs, SqL K H p xs) /\ R (Itl K p) H) \/ ((∃ xs, SqT K H p xs) /\ R (Itt K p) H)) := by
 refine propext ⟨fun h => ?_, fun h => ?_⟩
 ·rcases h with ⟨_, e, _⟩ | ⟨_, e, h⟩ | ⟨_, e, h⟩
  ·cases e
  ·cases e; exact .inl h
  ·cases e; exact .inr h
 ·rcases h with h | h
  ·exact .inr (.inl ⟨p, rfl, h⟩)
  ·exact .inr (.inr ⟨p, rfl, h⟩)
theorem zmv : iAny K te σ H R = te σ H fun x H1 => ziV K x H1 R := rfl
theorem zmw : zlK tl σ H R = tl σ H fun vs H1 => ∃ j : Int, vs = [.int j] /\ -(2 ^ 62) <= j /\ j < 2 ^ 62 /\ R (Itr 0 j.toNat) H1 := rfl
theorem zmx {P : Int -> Prop} : (∃ j : Int, [V.int i] = [.int j] /\ P j) = P i := by
 refine propext ⟨fun ⟨_, e, h⟩ => ?_, fun h => ⟨i, rfl, h⟩⟩;cases e; exact h
end
section
variable {K : W.Frag} {H : Hp} {Q : VK} {σ : St} {D : Ends} {ta tb tc te ti to : TE} {i j : Int} {x y : Str} {p q : Addr} {v : V} {T : String} {lo hi : Option Int}
theorem zkA {P : Int -> Int -> Prop} : (∃ i' j', [V.int i, V.int j] = [V.int i', V.int j'] /\ P i' j') = P i j := by
 refine propext ⟨fun ⟨_, _, e, h⟩ => ?_, fun h => ⟨i, j, rfl, h⟩⟩;cases e; exact h
theorem zh5 : zee K [.ref p] H Q = ∃ ys, (SqL K H p ys /\ ∀ l, H l = none -> Q (.ref l) (upd H l (.tup ys))) \/ (SqT K H p ys /\ Q (.ref p) H) := by
 refine propext ⟨fun ⟨_, ys, e, h⟩ => ?_, fun ⟨ys, h⟩ => ⟨p, ys, rfl, h⟩⟩;cases e; exact ⟨ys, h⟩
theorem zjb : zk6 K [.ref p] H Q = ∃ ys, (SqL K H p ys \/ SqT K H p ys) /\ ∀ l, H l = none -> Q (.ref l) (upd H l (.lst ys)) := by
 refine propext ⟨fun ⟨_, ys, e, h⟩ => ?_, fun ⟨ys, h⟩ => ⟨p, ys, rfl, h⟩⟩;cases e; exact ⟨ys, h⟩
theorem zjc : zfv (.ref p) [v] H Q = ∃ xs, H p = some (.lst xs) /\ xs.length < sizeLine /\ Q .non (upd H p (.lst (xs ++ [v]))) := by
 refine propext ⟨fun ⟨_, xs, _, e1, e2, h⟩ => ?_, fun ⟨xs, h⟩ => ⟨p, xs, v, rfl, rfl, h⟩⟩;cases e1; cases e2; exact ⟨xs, h⟩
theorem zjd : zhs (.ref p) [.ref q] H Q = ∃ xs zs, H p = some (.lst xs) /\ H q = some (.lst zs) /\ xs.length + zs.length <= sizeLine /\ Q .non (upd H p (.lst (xs ++ zs))) := by
 refine propext ⟨fun ⟨_, _, xs, zs, e1, e2, h⟩ => ?_, fun ⟨xs, zs, h⟩ => ⟨p, q, xs, zs, rfl, rfl, h⟩⟩;cases e1; cases e2; exact ⟨xs, zs, h⟩
theorem zmy {Qh : Hp -> Prop} : zma (.ref p) (.int i) v H Qh = ∃ xs j, H p = some (.lst xs) /\ ixN xs.length i = some j /\ Qh (upd H p (.lst (xs.set j v))) := by
 refine propext ⟨fun ⟨_, xs, _, j, e1, e2, h⟩ => ?_, fun ⟨xs, j, h⟩ => ⟨p, xs, i, j, rfl, rfl, h⟩⟩;cases e1; cases e2; exact ⟨xs, j, h⟩
theorem zmz {t : TSet} {Qs : St -> Hp -> Prop} : gSub to ti t v σ H Qs = to σ H fun o H1 => ti σ H1 fun i H2 => t o i v H2 fun H3 => Qs σ H3 := rfl
theorem zh6 : zk5 K T [.int i, .ty T] H Q = ∃ b, W.kitOne K (.type "int") (.type T) = some b /\ Q (.bl b) H := by
 refine propext ⟨fun ⟨_, _, b, e, t, h⟩ => ?_, fun ⟨b, h⟩ => ⟨_, _, b, rfl, .int i, h⟩⟩;cases e; cases t; exact ⟨b, h⟩
theorem zh7 : zk5 K T [.str x, .ty T] H Q = ∃ b, W.kitOne K (.type "str") (.type T) = some b /\ Q (.bl b) H := by
 refine propext ⟨fun ⟨_, _, b, e, t, h⟩ => ?_, fun ⟨b, h⟩ => ⟨_, _, b, rfl, .str x, h⟩⟩;cases e; cases t; exact ⟨b, h⟩
theorem zoA : rSlA K (.ref p) lo hi H Q = ∃ xs, (SqL K H p xs /\ ∀ q, H q = none -> Q (.ref q) (upd H q (.lst (cutV xs lo hi)))) \/
  (SqT K H p xs /\ ¬ (HT.sIx xs.length 0 lo = 0 /\ HT.sIx xs.length xs.length hi = xs.length) /\ ∀ q, H q = none -> Q (.ref q) (upd H q (.tup (cutV xs lo hi)))) := by
 refine propext ⟨fun h => ?_, fun ⟨xs, h⟩ => ?_⟩
 ·rcases h with ⟨_, e, _⟩ | ⟨_, xs, e, h⟩ | ⟨_, xs, e, h⟩
  ·cases e
  ·cases e; exact ⟨xs, .inl h⟩
  ·cases e; exact ⟨xs, .inr h⟩
 ·rcases h with h | h
  ·exact .inr (.inl ⟨p, xs, rfl, h⟩)
  ·exact .inr (.inr ⟨p, xs, rfl, h⟩)
theorem zo5 : znG K (.ref p) (.ref q) H Q = ∃ xs zs, (H p = some (.lst xs) /\ H q = some (.lst zs) /\ xs.length + zs.length <= sizeLine /\ ∀ r, H r = none -> Q (.ref r) (upd H r (.lst (xs ++ zs)))) \/
  (SqT K H p xs /\ SqT K H q zs /\ xs ≠ [] /\ xs.length + zs.length <= sizeLine /\ (zs = [] -> Q (.ref p) H) /\ (zs ≠ [] -> ∀ r, H r = none -> Q (.ref r) (upd H r (.tup (xs ++ zs))))) := by
 refine propext ⟨fun h => ?_, fun ⟨xs, zs, h⟩ => ?_⟩
 ·rcases h with ⟨_, _, e, _⟩ | ⟨_, _, e, _⟩ | ⟨_, _, xs, zs, e1, e2, h⟩ | ⟨_, _, xs, zs, e1, e2, h⟩
  ·cases e
  ·cases e
  ·cases e1; cases e2; exact ⟨xs, zs, .inl h⟩
  ·cases e1; cases e2; exact ⟨xs, zs, .inr h⟩
 ·rcases h with h | h
  ·exact .inr (.inr (.inl ⟨p, q, xs, zs, rfl, rfl, h⟩))
  ·exact .inr (.inr (.inr ⟨p, q, xs, zs, rfl, rfl, h⟩))
end
theorem zcr {X : Cx} : MtR X "list.append" zfv := zhr
theorem Same.upd {H0 H : Hp} {p : Addr} {o : HO} (s : Same H0 H) (h : H0 p = none) : Same H0 (upd H p o) := fun b u q => by rw [za6 (zaF q h)]; exact s b u q
theorem zcJ {H : Hp} {p a : Addr} {o u : HO} (hn : H p = none) (h : H a = some u) : upd H p o a = some u := by rw [za6 (zaF h hn)]; exact h
inductive Bi where | and | or | thn
 deriving DecidableEq
inductive Stm where
 | is (w : Str) (ts : List Str) | fls | neg (A : Stm) | bi (o : Bi) (A B : Stm) | qu (q : Bool) (X : Str) (A : Stm)
 deriving DecidableEq
namespace Stm
def parts : Stm -> List Stm
 | .is _ _ => [] | .fls => [] | .neg A => [A] | .bi _ A B => [A, B] | .qu _ _ A => [A]
end Stm
def smallS : Str := "abcdefghijklmnopqrstuvwxyz"
def greatS : Str := "ABCDEFGHIJKLMNOPQRSTUVWXYZ"
def sofS : Str := "abcdefghijklmnopqrstuvwxyz0123456789"
def keptW : List Str := ["not", "and", "or", "then", "all", "some", "false"]
def Nm (f x : Str) : Prop := ∃ c r, x.cps.toList = c :: r /\ c ∈ f.cps.toList /\ (∀ d ∈ r, d ∈ sofS.cps.toList) /\ r.length <= 7 /\ x ∉ keptW
def cellI (ns : List Int) (k : Int) : Int := if k < (ns.length : Int) then ns.getD k.toNat 0 else 0
def zm0 (K : W.Frag) : Sp := fun vs H Q _ => ∃ (a : Addr) (ns : List Int) (k : Int), vs = [.ref a, .int k] /\ SqL K H a (ns.map V.int) /\ 0 <= k /\ Q (.int (cellI ns k)) H
def zje : Sp := fun vs H Q _ => ∃ n f t, vs = [.int n, .str f, .int t] /\ (f = smallS \/ f = greatS) /\ ∀ x H', Same H H' -> Nm f x -> Q (.str x) H'
theorem zcy (x y : Str) : (x ++ y).cps.toList = x.cps.toList ++ y.cps.toList := by
 rw [Str.cps_append]; simp
theorem za5 (x : Str) : x.cps.toList.length = x.length := by simp [Str.length]
theorem zcK : ∀ cs : List Nat, (Txt.join "" (cs.map fun c => (⟨#[c]⟩ : Str))).cps.toList = cs := by
 intro cs;show (Builtin.Str.glued "" _).cps.toList = cs;rw [StrLaws.glued_eq_join]
 induction cs with
 | nil => rfl
 | cons c r ih =>
  cases r with
  | nil => rfl
  | cons d r =>
   show ((⟨#[c]⟩ : Str) ++ "" ++ Str.join "" _).cps.toList = _;rw [zcy, zcy, ih]
   rfl
theorem zjf (p q : Int) (a b : Nat) (hp : p = a) (hq : q = b) : sliceRange p q 1 = (List.range (b - a)).map fun k => a + k := by
 subst hp hq;unfold sliceRange;simp only [show (1 : Int) > 0 by decide, if_true]
 by_cases hab : a < b
 ·rw [if_pos ω];have e : (((b : Int) - a + 1 - 1) / 1).toNat = b - a := by omega
  rw [e];refine List.map_congr_left fun k _ => ?_;omega
 ·rw [if_neg ω, show b - a = 0 by omega]
  rfl
theorem zjg (lo hi : Option Int) (n : Nat) : Builtin.Str.strSliceIndices lo hi 1 n = (List.range (HT.sIx n n hi - HT.sIx n 0 lo)).map fun k => HT.sIx n 0 lo + k := by
 have cl : ∀ (v : Int) (d : Nat), max 0 (min (if v < 0 then v + (n : Int) else v) (n : Int)) = ((HT.sIx n d (some v) : Nat) : Int) := fun v d => by
  rw [<- HT.clip_eq]; split <;> omega
 refine zjf _ _ _ _ ?_ ?_
 ·cases lo with
  | none => rfl
  | some v => exact cl v 0
 ·cases hi with
  | none => rfl
  | some v => exact cl v n
theorem zcj (x : Str) (lo hi : Option Int) : (Txt.slice x lo hi).cps.toList = (x.cps.toList.drop (HT.sIx x.length 0 lo)).take (HT.sIx x.length x.length hi - HT.sIx x.length 0 lo) := by
 have hl := za5 x;have ha : HT.sIx x.length 0 lo <= x.length := HT.sIx_le _ 0 (yaq _) lo;have hb : HT.sIx x.length x.length hi <= x.length := HT.sIx_le _ _ (yai _) hi;unfold Txt.slice;rw [zjg];generalize HT.sIx x.length 0 lo = a at *;generalize HT.sIx x.length x.length hi = b at *
 split
 ·rename_i h
  simp at h;have : a = 0 /\ b = x.length \/ x.length = 0 := by omega
  rcases this with ⟨rfl, rfl⟩ | h0
  ·rw [List.drop_zero, Nat.sub_zero, List.take_of_length_le ω]
  ·have : x.cps.toList = [] := List.eq_nil_of_length_eq_zero ω;rw [this]; simp
 ·by_cases hab : a <= b
  ·have h := StrLaws.picks x.cps.toList (b - a) a (by rw [hl]; omega);rw [<- h];simp only [List.toList_toArray]
   congr 1
   funext k
   simp
  ·rw [show b - a = 0 by omega]; simp
theorem zjh (x : Str) (n : Nat) : (Txt.slice x none (some (n : Int))).cps.toList = x.cps.toList.take n := by
 have hl := za5 x;rw [zcj, HT.sIx_nat, HT.sIx_none, List.drop_zero, Nat.sub_zero, <- hl, List.take_eq_take_iff];simp
theorem zcL (x : Str) (n : Nat) : (Txt.slice x (some (n : Int)) none).cps.toList = x.cps.toList.drop n := by
 have hl := za5 x;rw [zcj, HT.sIx_nat, HT.sIx_none];rw [List.take_of_length_le (by rw [List.length_drop]; omega)]
 by_cases h : n <= x.length
 ·rw [Nat.min_eq_left h]
 ·rw [List.drop_eq_nil_of_le ω, List.drop_eq_nil_of_le ω]
theorem cdiv {i j : Int} (h : 0 < j := by decide) (h2 : j < 1073741824 := by decide) : CDiv i j := ⟨h, h2⟩
theorem zg7 {i j : Int} (h : -(2 ^ 64) < i /\ i < 2 ^ 64 := by decide) : CMul i j := .inl h
theorem zeI {i j : Int} (h : -(2 ^ 64) < j /\ j < 2 ^ 64 := by decide) : CMul i j := .inr h
theorem zfV {ns : List Int} {i : Int} (h0 : 0 <= i) (h1 : i < (ns.length : Int)) : atI (ns.map V.int) i = some (.int (ns.getD i.toNat 0)) := by
 have hk : i.toNat < ns.length := by omega
 rw [zfU (d := .int 0) h0 (by simpa using h1)];simp [hk]
theorem zm1 {ts : List Int} {i : Int} (h0 : 0 <= i) (h1 : i < (ts.length : Int)) : ∃ z, z ∈ ts /\ atI (ts.map V.int) i = some (.int z) := by
 have hk : i.toNat < ts.length := by omega
 refine ⟨ts[i.toNat], List.getElem_mem hk, ?_⟩;rw [zfU (d := .non) h0 (by simpa using h1)];simp [hk]
theorem zdP {n : Nat} {i : Int} (h0 : 0 <= i) (h1 : i < n) : ixN n i = some i.toNat := by
 unfold ixN; rw [if_pos h0, if_pos h1]
theorem zc5 : ∀ cs : List Nat, ((cs.map fun c => (⟨#[c]⟩ : Str)).map (·.length)).sum = cs.length
 | [] => rfl
 | c :: r => by rw [List.map_cons, List.map_cons, List.sum_cons, zc5 r, List.length_cons]; show 1 + _ = _; omega
theorem zh8 (c : Nat) (x : Str) : inS ⟨#[c]⟩ x = decide (c ∈ x.cps.toList) := StrLaws.found_one x c
theorem zef (x : Str) : ∀ ts : List Str, inV (.str x) (ts.map V.str) = decide (x ∈ ts)
 | [] => by simp [inV]
 | t :: ts => by
  have ih := zef x ts;unfold inV at ih ⊢;rw [List.map_cons, List.any_cons, ih];have e : eqV (V.str t) (V.str x) = decide (x = t) := by
   show (t == x) = decide (x = t)
   by_cases h : x = t
   ·subst h; simp
   ·have h' : ¬ t = x := fun e => h e.symm;simp [h, h']
  rw [e];simp
theorem zeJ (ts : List Str) : (ts.map V.str).all zb5 = true := by
 rw [List.all_map, List.all_eq_true]; intro t _; rfl
def zji (f : Str) (cs : List Nat) : Prop := ∃ c r, cs = c :: r /\ c ∈ f.cps.toList /\ (∀ d ∈ r, d ∈ sofS.cps.toList) /\ r.length <= 7
theorem zm2 {f : Str} {cs : List Nat} {c0 c1 : Nat} (hl : 1 <= cs.length) (hl' : cs.length <= 8) (hcs : ∀ c ∈ cs, c ∈ sofS.cps.toList) (h1 : c1 ∈ f.cps.toList) : zji f ((cs.set 0 c0).set 0 c1) := by
 cases cs with
 | nil => simp at hl
 | cons d r => exact ⟨c1, r, rfl, h1, fun e he => hcs e (List.mem_cons_of_mem _ he), by simpa using hl'⟩
theorem zm3 {f : Str} {cs : List Nat} {c0 c1 j : Nat} (hj : j ≠ 0) (hl : 1 <= cs.length) (hl' : cs.length <= 8) (hcs : ∀ c ∈ cs, c ∈ sofS.cps.toList) (h0 : c0 ∈ f.cps.toList) (h1 : c1 ∈ sofS.cps.toList) : zji f ((cs.set 0 c0).set j c1) := by
 cases cs with
 | nil => simp at hl
 | cons d r =>
  cases j with
  | zero => exact absurd rfl hj
  | succ j =>
   refine ⟨c0, r.set j c1, rfl, h0, fun e he => ?_, by simpa using hl'⟩;rcases List.mem_or_eq_of_mem_set he with he | rfl
   ·exact hcs e (List.mem_cons_of_mem _ he)
   ·exact h1
theorem zeK : ∀ c ∈ smallS.cps.toList, c ∈ sofS.cps.toList := by decide +kernel
theorem zg8 : ∀ z ∈ keptW, 1 <= z.length /\ z.length <= 5 /\ ∀ c ∈ z.cps.toList, c ∈ smallS.cps.toList := by decide +kernel
theorem zh9 : ∀ y ∈ keptW, y.cps.toList.getLast? ≠ some 48 := by decide +kernel
theorem zfW {f x : Str} {cs : List Nat} (g : zji f cs) (e : x.cps.toList = cs) (h : x ∉ keptW) : Nm f x := by
 obtain ⟨c, r, rfl, h1, h2, h3⟩ := g;exact ⟨c, r, e, h1, h2, h3, h⟩
theorem zeL {f x y : Str} {cs : List Nat} (g : zji f cs) (e : x.cps.toList = cs) (h : x ∈ keptW) (ey : y = x ++ "0") : Nm f y := by
 obtain ⟨c, r, rfl, h1, h2, h3⟩ := g;have hl := (zg8 x h).2.1;rw [<- za5, e, List.length_cons] at hl;have e2 : y.cps.toList = c :: (r ++ [48]) := by
  rw [ey, zcy, e]; rfl
 refine ⟨c, r ++ [48], e2, h1, fun d hd => ?_, by rw [yae, yas]; omega, fun hy => ?_⟩
 ·rcases yay.mp hd with q | q
  ·exact h2 d q
  ·rw [yah.mp q]; decide +kernel
 ·refine zh9 y hy ?_;rw [e2, <- List.cons_append, List.getLast?_concat]
section
variable {X : Cx} {K : W.Frag} {H : Hp} {Q : VK} {p q : Addr}
def zfX (K : W.Frag) : V -> List V -> Hp -> VK -> Prop := fun x vs H Q => ∃ (sep : Str) (p : Addr) (ys : List Str), x = .str sep /\ vs = [.ref p] /\ (SqL K H p (ys.map V.str) \/ SqT K H p (ys.map V.str)) /\ (ys.map (·.length)).sum + ys.length * sep.length <= 16777216 /\ Q (.str (Txt.join sep ys)) H
theorem mt_joinA : MtR X "str.join" (zfX X.K) := by
 intro Qa s σ H x vs v us Q I rx rv h;obtain ⟨sep, p, ys, rfl, rfl, hq, hz, q⟩ := h;rcases hq with hq | hq
 ·exact zk4 Qa s σ H _ _ v us Q I rx rv ⟨sep, p, ys, rfl, rfl, hq, hz, q⟩
 ·obtain ⟨t, rfl⟩ := rx;obtain ⟨u, rfl, ru⟩ := zcW rv;cases ru;obtain ⟨its, r', pl, _⟩ := I.tuple hq;exact join_tuple pl (by simpa using zcI r') hz fun t' k => ⟨.str _, H, I.tok _, ⟨t', rfl⟩, q⟩
theorem zdb (K : W.Frag) (hK : X.K = K := by rfl) : MtR X "str.join" (zfX K) := hK ▸ (mt_joinA : MtR X "str.join" (zfX X.K))
theorem zkB {sep : Str} : zfX K (.str sep) [.ref p] H Q = ∃ ys : List Str, (SqL K H p (ys.map V.str) \/ SqT K H p (ys.map V.str)) /\ (ys.map (·.length)).sum + ys.length * sep.length <= 16777216 /\ Q (.str (Txt.join sep ys)) H := by
 refine propext ⟨fun ⟨_, _, ys, e1, e2, h⟩ => ?_, fun ⟨ys, h⟩ => ⟨sep, p, ys, rfl, rfl, h⟩⟩;cases e1; cases e2; exact ⟨ys, h⟩
end
inductive EqD (K : W.Frag) (H : Hp) : Nat -> V -> V -> Bool -> Prop
 | flat {n : Nat} {x y : V} (hx : zb5 x = true) (hy : zb5 y = true) : EqD K H n x y (eqV x y)
 | tups {n : Nat} {a b : Addr} {xs ys : List V} (e : Nat -> Bool) (ha : SqT K H a xs) (hb : SqT K H b ys) (he : ∀ (j : Nat) x y, xs[j]? = some x -> ys[j]? = some y -> EqD K H n x y (e j)) :
   EqD K H (n + 1) (.ref a) (.ref b) ((List.range (min xs.length ys.length)).all e && xs.length == ys.length)
 | lsts {n : Nat} {a b : Addr} {xs ys : List V} (e : Nat -> Bool) (ha : SqL K H a xs) (hb : SqL K H b ys) (hl : xs.length = ys.length) (he : ∀ (j : Nat) x y, xs[j]? = some x -> ys[j]? = some y -> EqD K H n x y (e j)) :
   EqD K H (n + 1) (.ref a) (.ref b) ((List.range xs.length).all e)
 | lstsN {n : Nat} {a b : Addr} {xs ys : List V} (ha : SqL K H a xs) (hb : SqL K H b ys) (hl : xs.length ≠ ys.length) : EqD K H (n + 1) (.ref a) (.ref b) false
 | strTup {n : Nat} {a : Addr} {x : Str} {xs : List V} (ha : SqT K H a xs) : EqD K H (n + 1) (.str x) (.ref a) false
 | tupStr {n : Nat} {a : Addr} {x : Str} {xs : List V} (ha : SqT K H a xs) : EqD K H (n + 1) (.ref a) (.str x) false
 | nonTup {n : Nat} {a : Addr} {xs : List V} (ha : SqT K H a xs) : EqD K H (n + 1) .non (.ref a) false
 | tupNon {n : Nat} {a : Addr} {xs : List V} (ha : SqT K H a xs) : EqD K H (n + 1) (.ref a) .non false
section
variable {X : Cx} {Qa : ZP} {σ : St} {H : Hp} {s : Shared}
theorem zjj {x : V} (h : zb5 x = true) : eqV x x = true := by
 cases x <;> simp_all [zb5, eqV]
theorem EqD.self (I : Inv X Qa σ H s) {n : Nat} {x y : V} {b : Bool} (h : EqD X.K H n x y b) : x = y -> b = true := by
 induction h with
 | flat hx hy => rintro rfl; exact zjj hx
 | @tups n a b xs ys e ha hb he ih =>
  intro q;cases q;have := I.tuple_inj ha hb;subst this;rw [Bool.and_eq_true];refine ⟨List.all_eq_true.mpr fun j hj => ?_,ς⟩;have hj' : j < xs.length := by simpa using hj
  exact ih j xs[j] xs[j] (by simp [hj']) (by simp [hj']) rfl
 | @lsts n a b xs ys e ha hb hl he ih =>
  intro q;cases q;have := I.list_inj ha hb;subst this;refine List.all_eq_true.mpr fun j hj => ?_;have hj' : j < xs.length := by simpa using hj
  exact ih j xs[j] xs[j] (by simp [hj']) (by simp [hj']) rfl
 | lstsN ha hb hl =>
  intro q;cases q;exact absurd (congrArg List.length (I.list_inj ha hb)) hl
 | strTup => intro q; cases q
 | tupStr => intro q; cases q
 | nonTup => intro q; cases q
 | tupNon => intro q; cases q
theorem getD_some {xs : List V} {its : List Value} (r : Vals xs its) {j : Nat} (h : j < its.toArray.size) : ∃ x, xs[j]? = some x /\ RelV x its.toArray[j] := by
 have h' : j < its.length := by simpa using h
 have hx : j < xs.length := by rw [r.length]; exact h'
 obtain ⟨u, e, ru⟩ := r.get (i := j) (x := xs[j]) (by simp [hx]);have : its[j]? = some its[j] := by simp [h']
 rw [this] at e;cases e;exact ⟨xs[j], by simp [hx], by simpa using ru⟩
theorem EqD.at (I : Inv X Qa σ H s) {n : Nat} {x y : V} {b : Bool} (h : EqD X.K H n x y b) : ∀ {A : Around} {u v : Value}, A.units + n < cLine -> RelV x u -> RelV y v ->
  SeqAt.EqAt A s u v b /\ ((zb5 x = false \/ zb5 y = false) -> SeqAt.RcAt A s u v b) := by
 induction h with
 | flat hx hy =>
  intro A u v _ ru rv;exact ⟨zhp ru rv hx hy, fun e => by rw [hx, hy] at e; simp at e⟩
 | @tups n a b xs ys e ha hb he ih =>
  intro A u v hu ru rv;cases ru; cases rv;obtain ⟨its, r1, p1, _⟩ := I.tuple ha;obtain ⟨its2, r2, p2, _⟩ := I.tuple hb;have l1 : its.toArray.size = xs.length := by rw [yad]; exact r1.length.symm
  have l2 : its2.toArray.size = ys.length := by rw [yad]; exact r2.length.symm
  have rc : SeqAt.RcAt A s (.ref a) (.ref b) ((List.range (min xs.length ys.length)).all e && xs.length == ys.length) := by
   have := SeqAt.RcAt.tuples (A := A) (e := e) p1 p2 ω (fun j h1 h2 => by
    obtain ⟨x, ex, rx⟩ := getD_some r1 h1;obtain ⟨y, ey, ry⟩ := getD_some r2 h2;exact (ih j x y ex ey (A := A.in1) (by show A.units + 1 + n < cLine; omega) rx ry).1)
   rw [l1, l2] at this;exact this
  refine ⟨?_, fun _ => rc⟩
  by_cases hab : a = b
  ·subst hab;have := EqD.self I (.tups e ha hb he) rfl;rw [this];exact SeqAt.EqAt.same _
  ·exact SeqAt.EqAt.of_refs hab rc
 | @lsts n a b xs ys e ha hb hl he ih =>
  intro A u v hu ru rv;cases ru; cases rv;obtain ⟨its, r1, p1, _⟩ := I.list ha;obtain ⟨its2, r2, p2, _⟩ := I.list hb;have l1 : its.toArray.size = xs.length := by rw [yad]; exact r1.length.symm
  have l2 : its2.toArray.size = ys.length := by rw [yad]; exact r2.length.symm
  have rc : SeqAt.RcAt A s (.ref a) (.ref b) ((List.range xs.length).all e) := by
   have := SeqAt.RcAt.lists (A := A) (e := e) p1.isList p2.isList ω ω (fun j h1 h2 => by
    obtain ⟨x, ex, rx⟩ := getD_some r1 h1;obtain ⟨y, ey, ry⟩ := getD_some r2 h2;exact (ih j x y ex ey (A := A.in1) (by show A.units + 1 + n < cLine; omega) rx ry).1)
   rw [l1] at this;exact this
  refine ⟨?_, fun _ => rc⟩
  by_cases hab : a = b
  ·subst hab;have := EqD.self I (.lsts e ha hb hl he) rfl;rw [this];exact SeqAt.EqAt.same _
  ·exact SeqAt.EqAt.of_refs hab rc
 | @lstsN n a b xs ys ha hb hl =>
  intro A u v hu ru rv;cases ru; cases rv;obtain ⟨its, r1, p1, _⟩ := I.list ha;obtain ⟨its2, r2, p2, _⟩ := I.list hb;have l1 : its.toArray.size = xs.length := by rw [yad]; exact r1.length.symm
  have l2 : its2.toArray.size = ys.length := by rw [yad]; exact r2.length.symm
  have rc := SeqAt.RcAt.lists_lengths (A := A) p1.isList p2.isList (by rw [l1, l2]; simpa using hl) ω;refine ⟨?_, fun _ => rc⟩
  by_cases hab : a = b
  ·subst hab;exact absurd (congrArg List.length (I.list_inj ha hb)) hl
  ·exact SeqAt.EqAt.of_refs hab rc
 | strTup ha =>
  intro A u v hu ru rv;cases rv; obtain ⟨t, rfl⟩ := ru;obtain ⟨its, r1, p1, _⟩ := I.tuple ha;exact ⟨SeqAt.EqAt.str_tuple _ _ p1 ω, fun _ => SeqAt.RcAt.str_tuple _ _ p1 ω⟩
 | tupStr ha =>
  intro A u v hu ru rv;cases ru; obtain ⟨t, rfl⟩ := rv;obtain ⟨its, r1, p1, _⟩ := I.tuple ha;exact ⟨SeqAt.EqAt.tuple_str _ _ p1 ω, fun _ => SeqAt.RcAt.tuple_str _ _ p1 ω⟩
 | nonTup ha =>
  intro A u v hu ru rv;cases rv; cases ru;obtain ⟨its, r1, p1, _⟩ := I.tuple ha;exact ⟨SeqAt.EqAt.none_tuple p1 ω, fun _ => SeqAt.RcAt.none_tuple p1 ω⟩
 | tupNon ha =>
  intro A u v hu ru rv;cases ru; cases rv;obtain ⟨its, r1, p1, _⟩ := I.tuple ha;exact ⟨SeqAt.EqAt.tuple_none p1 ω, fun _ => SeqAt.RcAt.tuple_none p1 ω⟩
end
section
variable {X : Cx} {K : W.Frag} {H : Hp} {Q : VK} {p q : Addr} {i j : Int} {x y : Str}
def rEqD (K : W.Frag) : R2 := fun x y H Q => ∃ d b, d <= 60 /\ (zb5 x = false \/ zb5 y = false) /\ EqD K H d x y b /\ Q (.bl b) H
theorem zm4 (hu : X.A.units + 64 < cLine) : OpR X (compareOp .Eq) (rEqD X.K) := by
 intro Qa s σ H x y v u Q I rx ry h;obtain ⟨d, b, hd, e, h, k⟩ := h;exact (h.at I (A := X.A) ω rx ry).2 e X.prog X.w X.xe _ ⟨.bl b, H, I, rfl, k⟩
def rEqB (K : W.Frag) : R2 := fun x y H Q => rEq x y H Q \/ rEqD K x y H Q
theorem zbo (K : W.Frag) (hu : X.A.units + 64 < cLine) (hK : X.K = K := by rfl) : OpR X (compareOp .Eq) (rEqB K) := hK ▸ (OpR.or zlQ (zm4 hu) : OpR X (compareOp .Eq) (rEqB X.K))
theorem zm5 : rEqB K (.int i) (.int j) H Q = Q (.bl (decide (i = j))) H := by
 refine propext ⟨fun h => ?_, fun h => .inl ⟨rfl, by simpa using h⟩⟩;rcases h with ⟨_, h⟩ | ⟨_, _, _, e, _⟩
 ·simpa using h
 ·rcases e with e | e <;> cases e
theorem zm6 : rEqB K (.str x) (.str y) H Q = Q (.bl (decide (x = y))) H := by
 refine propext ⟨fun h => ?_, fun h => .inl ⟨rfl, by simpa using h⟩⟩;rcases h with ⟨_, h⟩ | ⟨_, _, _, e, _⟩
 ·simpa using h
 ·rcases e with e | e <;> cases e
theorem zm7 {u : V} : rEqB K (.ref p) u H Q = ∃ d b, d <= 60 /\ EqD K H d (.ref p) u b /\ Q (.bl b) H := by
 refine propext ⟨fun h => ?_, fun ⟨d, b, hd, h, k⟩ => .inr ⟨d, b, hd, .inl rfl, h, k⟩⟩;rcases h with ⟨e, _⟩ | ⟨d, b, hd, _, h, k⟩
 ·cases u <;> cases e
 ·exact ⟨d, b, hd, h, k⟩
theorem zm8 {u : V} : rEqB K u (.ref p) H Q = ∃ d b, d <= 60 /\ EqD K H d u (.ref p) b /\ Q (.bl b) H := by
 refine propext ⟨fun h => ?_, fun ⟨d, b, hd, h, k⟩ => .inr ⟨d, b, hd, .inr rfl, h, k⟩⟩;rcases h with ⟨e, _⟩ | ⟨d, b, hd, _, h, k⟩
 ·cases u <;> cases e
 ·exact ⟨d, b, hd, h, k⟩
inductive TyB (K : W.Frag) (H : Hp) : V -> Value -> Prop where
 | of {x : V} {t : Value} (h : TyOf K H x t) : TyB K H x t
 | tup {a : Addr} {xs : List V} (h : SqT K H a xs) : TyB K H (.ref a) (.type "tuple")
 | lst {a : Addr} {xs : List V} (h : SqL K H a xs) : TyB K H (.ref a) (.type "list")
def zds (K : W.Frag) (T : String) : List V -> Hp -> VK -> Prop := fun vs H Q => ∃ x t b, vs = [x, .ty T] /\ TyB K H x t /\ W.kitOne K t (.type T) = some b /\ Q (.bl b) H
theorem call_instB {T : String} : zb4 X (.builtin "isinstance") (zds X.K T) := by
 intro Qa s σ H xs us Q I r h;obtain ⟨x, t, b, rfl, ty, e, q⟩ := h;cases ty with
 | of ty => exact zhx Qa s σ H _ us Q I r ⟨x, t, b, rfl, ty, e, q⟩
 | tup hq =>
  obtain ⟨u, u2, rfl, rx, r2⟩ := ziQ r;cases (show u2 = Value.type T from r2);cases rx;obtain ⟨its, _, ⟨o, h1, h2, _⟩, _⟩ := I.tuple hq;exact W.kia_one W.kitx_tuple I.kIn ⟨o, h1, h2⟩ e (fun z => nomatch z) fun tk => ⟨.bl b, H, I.tok tk, rfl, q⟩
 | lst hq =>
  obtain ⟨u, u2, rfl, rx, r2⟩ := ziQ r;cases (show u2 = Value.type T from r2);cases rx;obtain ⟨its, _, pl, _⟩ := I.list hq;obtain ⟨o, h1, h2, _⟩ := pl.isList;exact W.kia_one W.kitx_list I.kIn ⟨o, h1, h2⟩ e (fun z => nomatch z) fun tk => ⟨.bl b, H, I.tok tk, rfl, q⟩
theorem zg9 (K : W.Frag) (T : String) (hK : X.K = K := by rfl) : zb4 X (.builtin "isinstance") (zds K T) := hK ▸ (call_instB : zb4 X (.builtin "isinstance") (zds X.K T))
theorem zgA {T : String} : zds K T [.int i, .ty T] H Q = ∃ b, W.kitOne K (.type "int") (.type T) = some b /\ Q (.bl b) H := by
 refine propext ⟨fun ⟨_, _, b, e, t, h⟩ => ?_, fun ⟨b, h⟩ => ⟨_, _, b, rfl, .of (.int i), h⟩⟩;cases e;rcases t with t | t | t
 cases t; exact ⟨b, h⟩
theorem zgB {T : String} : zds K T [.str x, .ty T] H Q = ∃ b, W.kitOne K (.type "str") (.type T) = some b /\ Q (.bl b) H := by
 refine propext ⟨fun ⟨_, _, b, e, t, h⟩ => ?_, fun ⟨b, h⟩ => ⟨_, _, b, rfl, .of (.str x), h⟩⟩;cases e;rcases t with t | t | t
 cases t; exact ⟨b, h⟩
theorem zjk {T : String} : zds K T [.ref p, .ty T] H Q = ∃ t b, TyB K H (.ref p) t /\ W.kitOne K t (.type T) = some b /\ Q (.bl b) H := by
 refine propext ⟨fun ⟨_, t, b, e, ty, h⟩ => ?_, fun ⟨t, b, ty, h⟩ => ⟨_, t, b, rfl, ty, h⟩⟩;cases e; exact ⟨t, b, ty, h⟩
end
theorem zjl (sep : Str) (ts : List Str) : (Txt.join sep ts).length <= (ts.map (·.length)).sum + ts.length * sep.length := by
 have h := StrLaws.join_length_le sep ts;rw [<- StrLaws.glued_eq_join] at h;exact h
section
variable {t : SetTable} {es : Array (Int × Value)} {h : Int} {x : Value} {n : Nat}
end
def svT : Value -> Str
 | .str x _ => x
 | _ => ""
def zjm (es : Array (Int × Value)) : List Str := es.toList.map fun e => svT e.2
def zm9 (w : World) : Bool := w.params.followText "set-order"
def SetS (prog : Program) (w : World) (h : Heap) (a : Addr) (us : List Str) : Prop :=
 ∃ o es ep tb, h.get? a = some o /\ o.ExactSet /\ o.data = .set es ep tb /\ ElemsOf (PySem.strKind prog w) es.toList /\ zjm es = us /\ us.Nodup /\ es.size < scanBound /\ tb.fits es.size = true /\ tb.led = !zm9 w /\ (us ≠ [] -> tb.plain = false)
section
variable {prog : Program} {w : World} {A : Around} {E : ZQ} {s : Shared}
end
section
variable {prog : Program} {w : World} {A : Around} {E : ZQ} {s : Shared}
end
section
variable {prog : Program} {w : World} {A : Around} {R : Result -> Shared -> Prop} {I : Addr} {fp wr : List Addr} {G : Array GenState -> Array GenState -> Prop} {n : Nat} {P : Nat -> Value -> Prop} {St : Nat -> Shared -> Prop}
end
section
variable {prog : Program} {w : World} {A : Around} {E : ZQ} {s : Shared}
end
section
variable {prog : Program} {w : World} {A : Around} {E : ZQ} {s : Shared}
variable {I S T : Addr} {first : Value} {i n ep slot : Nat} {o : Obj} {es : Array (Int × Value)} {tb : SetTable} {Q : Option Value -> Shared -> Prop}
end
section
variable {prog : Program} {w : World} {A : Around} {E : ZQ} {s : Shared} {S : Addr} {i n ep slot : Nat} {o : Obj} {es : Array (Int × Value)} {tb : SetTable}
end
section
variable {prog : Program} {w : World} {A : Around} {E : ZQ} {s : Shared}
end
structure zoB (prog : Program) (w : World) (s : Shared) (S : Addr) (us : List Str) (I : Addr) (s' : Shared) (vs : List Value) (fp : List Addr) (St : Nat -> Heap -> Prop) : Prop where
 heap : ∀ b o, s.heap.get? b = some o -> s'.heap.get? b = some o
 rest : ∃ d, s' = { s with heap := s'.heap, drawn := d }
 new : s.heap.objs.size <= I
 fps : ∀ b ∈ fp, b = S \/ s.heap.objs.size <= b
 lt : ∀ b ∈ fp, b < s'.heap.objs.size
 mem : I ∈ fp
 txts : ∃ us', StrsAre vs us' /\ us'.Perm us
 st : St 0 s'.heap
 walk : ∀ A : Around, A.handled = none -> WalksS prog w A I fp [I] Eq vs.length (fun i v => vs[i]? = some v) (fun i s => St i s.heap)
section
variable {prog : Program} {w : World} {A : Around} {E : ZQ} {s : Shared}
end
section
variable {prog : Program} {w : World} {A : Around} {E : ZQ} {s : Shared}
end
def SetO (prog : Program) (w : World) (S : Addr) (us : List Str) : HO := .ext fun h => SetS prog w h S us
section
variable {X : Cx} {Qa : ZP} {σ : St} {H : Hp} {s : Shared}
theorem Inv.draw (I : Inv X Qa σ H s) (d : Drawn) : Inv X Qa σ H { s with drawn := d } := ⟨I.ok, I.os, I.bare, I.base, I.loc, I.cell, I.free, I.freeC, I.pin, I.hok, I.len⟩
def zmA (P : Program) (w : World) (K : W.Frag) : List V -> Hp -> VK -> Prop := fun xs H Q => ∃ (a : Addr) (ts : List Str), xs = [.ref a] /\ SqL K H a (ts.map V.str) /\ ts.length < 4000 /\
 ∀ S us, H S = none -> us.Nodup -> us.length <= ts.length -> (∀ x, x ∈ us ↔ x ∈ ts) -> Q (.ref S) (upd H S (SetO P w S us))
def zkC (P : Program) (w : World) (K : W.Frag) : List V -> Hp -> VK -> Prop := fun xs H Q => ∃ (a : Addr) (us : List Str), xs = [.ref a] /\ (H a = some (SetO P w a us) \/ SqL K H a (us.map V.str)) /\ us.length < 64 /\
 ∀ l vs, H l = none -> sortedS vs = true -> vs.Perm us -> Q (.ref l) (upd H l (.lst (vs.map V.str)))
variable {P : Program} {w : World} {K : W.Frag} {Q : VK} {p : Addr}
theorem zkD : zmA P w K [.ref p] H Q = ∃ ts : List Str, SqL K H p (ts.map V.str) /\ ts.length < 4000 /\ ∀ S us, H S = none -> us.Nodup -> us.length <= ts.length -> (∀ x, x ∈ us ↔ x ∈ ts) -> Q (.ref S) (upd H S (SetO P w S us)) := by
 refine propext ⟨fun ⟨_, ts, e, h⟩ => ?_, fun ⟨ts, h⟩ => ⟨p, ts, rfl, h⟩⟩;cases e; exact ⟨ts, h⟩
theorem zjn : zkC P w K [.ref p] H Q = ∃ us : List Str, (H p = some (SetO P w p us) \/ SqL K H p (us.map V.str)) /\ us.length < 64 /\ ∀ l vs, H l = none -> sortedS vs = true -> vs.Perm us -> Q (.ref l) (upd H l (.lst (vs.map V.str))) := by
 refine propext ⟨fun ⟨_, us, e, h⟩ => ?_, fun ⟨us, h⟩ => ⟨p, us, rfl, h⟩⟩;cases e; exact ⟨us, h⟩
end
open PySem.Builtin PySem.Builtin.Str
section
variable {X : Cx}
def rIs (f : Str -> Bool) : V -> List V -> Hp -> VK -> Prop := fun x vs H Q => ∃ z, x = .str z /\ vs = [] /\ Q (.bl (f z)) H
def rIs2 (f : Str -> Str -> Bool) : V -> List V -> Hp -> VK -> Prop := fun x vs H Q => ∃ z y, x = .str z /\ vs = [.str y] /\ Q (.bl (f z y)) H
def zmB : V -> List V -> Hp -> VK -> Prop := fun x vs H Q => ∃ z, x = .str z /\ vs = [] /\ z.length <= sizeLine /\ Q (.str (Txt.strip z)) H
theorem zjR : ∀ (l : List (Str × Tok)), Vals ((l.map (·.1)).map V.str) (strValues l)
 | [] => .nil
 | (x, t) :: r => .cons ⟨t, rfl⟩ (zjR r)
theorem zkE {prog : Program} {w : World} {A : Around} {E : ZQ} {s : Shared} {x y : Str} {t u : Tok} {Q : ZQ} (hy : (y.length == 0) = false)
  (hq : ∀ (its : List Value) tk, Vals ((Txt.split x y).map V.str) its -> Q (.ref s.heap.objs.size) { s with heap := s.heap.push { cls := .type "list", data := .seq its.toArray }, toks := tk })
  (hsz : x.length <= sizeLine) (hsz2 : (partsBetween x (occurrences x y 0 x.length (x.length + 1)) y.length).length <= sizeLine) :
  wpAny (model prog w) A (call (.builtin "str.split") [.str x t, .str y u]) Q E s := by
 cases h1 : (decide (x.length < y.length) || decide (strKind x < strKind y))
 ·cases hf : (occurrences x y 0 x.length (x.length + 1)).isEmpty
  ·refine call_meets F.slot_str_split (typeIs_str _ _ _) F.entry_str_split (F.args_str_split_2 _ _) (meets_str_split_sep x y t u h1 hy hf hsz hsz2) ?_;show wants Q E _ { s with toks := _, heap := s.heap.push { cls := .type "list", data := .seq (strsFrom s.toks (partsBetween x (occurrences x y 0 x.length (x.length + 1)) y.length)).toArray } };rw [strsFrom_eq];refine hq _ _ ?_;have e : (numbered s.toks (partsBetween x (occurrences x y 0 x.length (x.length + 1)) y.length)).map (·.1) = Txt.split x y := (numbered_texts _ _).trans ((if_neg (ne_true_of_eq_false h1)).trans (if_neg (ne_true_of_eq_false hf))).symm;rw [<- e];exact zjR _
  ·refine call_meets F.slot_str_split (typeIs_str _ _ _) F.entry_str_split (F.args_str_split_2 _ _) (meets_str_split_not_found x y t u h1 hy hf) ?_;have e : [x] = Txt.split x y := ((if_neg (ne_true_of_eq_false h1)).trans (if_pos hf)).symm;refine hq [.str x t] s.toks ?_;rw [<- e];exact .cons ⟨t, rfl⟩ .nil
 ·refine call_meets F.slot_str_split (typeIs_str _ _ _) F.entry_str_split (F.args_str_split_2 _ _) (meets_str_split_cannot_occur x y t u h1) ?_;have e : [x] = Txt.split x y := (if_pos h1).symm;refine hq [.str x t] s.toks ?_;rw [<- e];exact .cons ⟨t, rfl⟩ .nil
def zjS : V -> List V -> Hp -> VK -> Prop := fun x vs H Q => ∃ z y, x = .str z /\ vs = [.str y] /\ y ≠ Str.empty /\ z.length <= 1000000 /\ ∀ p, H p = none -> Q (.ref p) (upd H p (.lst ((Txt.split z y).map V.str)))
theorem zbK (x y : Str) : (Txt.split x y).length <= x.length + 2 := by
 unfold Txt.split
 split
 ·simp
 ·split
  ·simp
  ·rw [length_partsBetween];have := StrLaws.occ_length_le x y 0 x.length (x.length + 1);omega
theorem zc6 : MtR X "str.split" zjS := by
 intro Qa s σ H x vs v us Q I rx rv ⟨z, y, e1, e2, hy, hz, q⟩;subst e1 e2;obtain ⟨t, rfl⟩ := (show ∃ t, v = Value.str z t from rx)
 obtain ⟨u, rfl, ru⟩ := zcW rv;obtain ⟨t', rfl⟩ := (show ∃ t, u = Value.str y t from ru)
 have hy' : (y.length == 0) = false := by
  cases e : (y.length == 0) with
  | false => rfl
  | true =>
   have h0 : y.length = 0 := by simpa using e
   have : y.cps.size = 0 := h0;have : y.cps = #[] := Array.eq_empty_of_size_eq_zero this;obtain ⟨c⟩ := y;simp only at this;subst this;exact absurd rfl hy
 refine zkE hy' (fun its tk hv => ⟨.ref _, _, I.lnew hv (by rw [yaf]; have := zbK z y; rw [sizeLine_eq]; omega), rfl, q _ I.fresh⟩) (by rw [sizeLine_eq]; omega) ?_;rw [length_partsBetween];have := StrLaws.occ_length_le z y 0 z.length (z.length + 1);rw [sizeLine_eq];omega
def zjT (z : Str) (n : Nat) : Str := ⟨(List.replicate n z.cps).foldl (· ++ ·) #[]⟩
def zob : R2 := fun x y H Q => ∃ z n, x = .str z /\ y = .int n /\ n < 1000 /\ -1000 < n /\ z.length <= 1000 /\ Q (.str (zjT z n.toNat)) H
end
section
variable {K : W.Frag} {H : Hp} {Q : VK} {x y : Str} {f : Str -> Bool} {g : Str -> Str -> Bool}
theorem zmC {n : Int} : zob (.str x) (.int n) H Q = (n < 1000 /\ -1000 < n /\ x.length <= 1000 /\ Q (.str (zjT x n.toNat)) H) := propext ⟨fun ⟨_, _, e, e', h⟩ => by cases e; cases e'; exact h, fun h => ⟨x, n, rfl, rfl, h⟩⟩
theorem w_is : rIs f (.str x) [] H Q = Q (.bl (f x)) H := propext ⟨fun ⟨_, e, _, h⟩ => by cases e; exact h, fun h => ⟨x, rfl, rfl, h⟩⟩
theorem zoc : rIs2 g (.str x) [.str y] H Q = Q (.bl (g x y)) H := propext ⟨fun ⟨_, _, e, e', h⟩ => by cases e; cases e'; exact h, fun h => ⟨x, y, rfl, rfl, h⟩⟩
theorem zkF : zmB (.str x) [] H Q = (x.length <= sizeLine /\ Q (.str (Txt.strip x)) H) := propext ⟨fun ⟨_, e, _, h⟩ => by cases e; exact h, fun h => ⟨x, rfl, rfl, h⟩⟩
theorem zkG : zjS (.str x) [.str y] H Q = (y ≠ Str.empty /\ x.length <= 1000000 /\ ∀ p, H p = none -> Q (.ref p) (upd H p (.lst ((Txt.split x y).map V.str)))) := propext ⟨fun ⟨_, _, e, e', h⟩ => by cases e; cases e'; exact h, fun h => ⟨x, y, rfl, rfl, h⟩⟩
end
section
variable {X : Cx} {o : Expr} {name : Str} {to : TE} {T iid : String} {r : V -> List V -> Hp -> VK -> Prop} {apos cpos : Pos}
end
section
variable {X : Cx} {Qa : ZP} {σ : St} {H : Hp} {s : Shared}
end
section
variable {X : Cx}
end
def Air (h : Heap) (e C : Addr) (fl : Option Value) (l : List Addr) : Prop :=
 ∃ oe vs a0, h.get? e = some oe /\ oe.cls = .ref C /\ oe.data = .fields vs /\ vs[0]? = some a0 /\
  match fl with
  | none => l = [e] /\ vs[1]? = some .none
  | some f => ∃ T oT ts, l = [e, T] /\ vs[1]? = some (.ref T) /\ T ≠ e /\ h.get? T = some oT /\ oT.data = .fields ts /\ ts[3]? = some f
theorem Air.flds {h : Heap} {e C : Addr} {fl : Option Value} {l : List Addr} (a : Air h e C fl l) : ∀ b ∈ l, ∃ o vs, h.get? b = some o /\ o.data = .fields vs := by
 intro b hb;obtain ⟨oe, vs, a0, h1, h2, h3, h4, h5⟩ := a;cases fl with
 | none =>
  obtain ⟨rfl, _⟩ := h5;obtain rfl := yah.mp hb;exact ⟨oe, vs, h1, h3⟩
 | some f =>
  obtain ⟨T, oT, ts, rfl, q1, q2, q3, q4, q5⟩ := h5;rcases yau.mp hb with rfl | hb
  ·exact ⟨oe, vs, h1, h3⟩
  ·obtain rfl := yah.mp hb;exact ⟨oT, ts, q3, q4⟩
theorem Air.first {h : Heap} {e C : Addr} {fl : Option Value} {l : List Addr} (a : Air h e C fl l) : e ∈ l := by
 obtain ⟨oe, vs, a0, h1, h2, h3, h4, h5⟩ := a;cases fl with
 | none => obtain ⟨rfl, _⟩ := h5; exact yah.mpr rfl
 | some f => obtain ⟨T, oT, ts, rfl, _⟩ := h5; exact List.mem_cons_self ..
theorem ObjOk.there {P : Program} {w : World} {H : Hp} {h : Heap} {a : Addr} {o : HO} (x : ObjOk P w H h a o) : ∃ ob, h.get? a = some ob := by
 cases o with
 | lst xs => obtain ⟨_, _, _, _, e⟩ := x; exact ⟨_, e⟩
 | tup xs => obtain ⟨_, _, _, p⟩ := x; obtain ⟨o, e, _⟩ := p; exact ⟨_, e⟩
 | dK kvs => obtain ⟨_, _, _, _, o, _, _, e, _⟩ := x; exact ⟨_, e⟩
 | dT kvs => obtain ⟨_, _, _, _, o, _, _, e, _⟩ := x; exact ⟨_, e⟩
 | set S n => obtain ⟨o, _, _, _, e, _⟩ := x; exact ⟨_, e⟩
 | ins C dx fs => obtain ⟨_, _, _, e, _⟩ := x; exact ⟨_, e⟩
 | own y => obtain ⟨_, e⟩ := x; exact ⟨_, e⟩
 | xd fs => obtain ⟨_, ⟨_, _, _, e, _⟩, _⟩ := x; exact ⟨_, e⟩
 | rng lo hi => obtain ⟨_, _, _, e⟩ := x; exact ⟨_, e⟩
 | frz ob u => obtain ⟨e, _⟩ := x; exact ⟨_, e⟩
 | tbl ps => exact ⟨_, (show h.get? a = some _ from x)⟩
 | met f y => exact ⟨_, (show h.get? a = some _ from x)⟩
 | ext φ => obtain ⟨_, ⟨_, e⟩, _⟩ := x; exact ⟨_, e⟩
structure Fnc (X : Cx) : Prop where
 stk : X.stack = X.env :: X.outer
 fr : X.env.frame = some X.env.locals
 ex : X.ex = []
theorem zbO {CX : CXT} {P : Program} {w : World} {K : W.Frag} {mg : Str -> Option Value} {base : Heap} {N : List Str} {qual : Str} {scope : Scope} {f : Addr} {cd : Value} {A : Around} {outer : List Env} {s : Shared} {H : Hp} {E : XK} :
  Fnc (cxOf CX P w K mg base N qual scope f cd A outer s H E) := ⟨rfl, rfl, rfl⟩
theorem Fnc.wish {X : Cx} (F : Fnc X) (E : ZQ) : Fnc (X.wish E) := ⟨F.stk, F.fr, F.ex⟩
theorem zmD {h b b' : Heap} {l : List Env} (x : h.FunFrames b l) (n : ∀ a ∈ frs l, b'.get? a = none) : h.FunFrames b' l := by
 induction l with
 | nil => trivial
 | cons env rest ih =>
  obtain ⟨hk, ⟨L, o, hf, hn, ho, hd⟩, hr⟩ := x;refine ⟨hk, ⟨L, o, hf, n L (by unfold frs; rw [List.filterMap_cons, hf]; exact List.mem_cons_self ..), ho, hd⟩, ih hr fun a ha => n a ?_⟩;unfold frs at ha ⊢;rw [List.filterMap_cons, hf];exact List.mem_cons_of_mem _ ha
def bsOf (X : Cx) (h : Heap) (l : List Addr) : Heap := W.hideAll h (l ++ frs X.stack)
section
variable {X : Cx} {σ : St} {H : Hp} {s : Shared} {l : List Addr} {e C : Addr} {fl : Option Value}
theorem zfx : (bsOf X s.heap l).StaysIn s.heap := fun b o e => W.of_hideAll _ e
theorem zeg {b : Addr} (h : b ∈ l) : (bsOf X s.heap l).get? b = none := W.hideAll_none _ (List.mem_append_left _ h)
theorem zjU {b : Addr} {o : Obj} (h : s.heap.get? b = some o) (n : b ∉ l) (n' : b ∉ frs X.stack) : (bsOf X s.heap l).get? b = some o :=
 W.hideAll_get _ h fun z => (yay.mp z).elim n n'
theorem zjV (I : Inv X [] σ H s) : s.heap.FunFrames (bsOf X s.heap l) X.stack := zmD I.stack fun a ha => W.hideAll_none _ (List.mem_append_right _ ha)
theorem land (F : Fnc X) (I : Inv X [] σ H s) (hl : ∀ b ∈ l, X.s₀.heap.get? b = none /\ H b = none /\ ∀ p ∈ X.pn, p.1 ≠ b) (hf : ∀ b ∈ l, ∃ o vs, s.heap.get? b = some o /\ o.data = .fields vs) {h' : Heap}
  (st : (bsOf X s.heap l).StaysIn h') (up : s.heap.UpToSlots h') : Inv X [] σ H { s with heap := h' } := by
 have frD : ∀ b ∈ frs X.stack, ∃ o, s.heap.get? b = some o /\ ∀ vs, o.data ≠ .fields vs := fun b hb => (I.stack.mem hb).2;have nin : ∀ b ∈ l, b ∉ frs X.stack := fun b hb hz => by
  obtain ⟨o, vs, h1, h2⟩ := hf b hb;obtain ⟨o', h1', h2'⟩ := frD b hz;rw [h1] at h1'; cases h1';exact h2' vs h2
 have keep : ∀ b o, s.heap.get? b = some o -> b ∉ l -> b ∉ frs X.stack -> h'.get? b = some o := fun b o q n n' => st b o (zjU q n n');have any : ∀ b o, s.heap.get? b = some o -> b ∉ l -> ∃ sl, h'.get? b = some { o with slots := sl } := fun b o q n => by
  by_cases hb : b ∈ frs X.stack
  ·obtain ⟨o', h1, h2⟩ := frD b hb;rw [q] at h1; cases h1;exact up b o q h2
  ·exact ⟨o.slots, keep b o q n hb⟩
 have s0l : ∀ b o, X.s₀.heap.get? b = some o -> b ∉ l := fun b o q z => by rw [(hl b z).1] at q; cases q
 have nex : ∀ b, b ∉ X.ex := fun b => by rw [F.ex]; simp
 have subf : ∀ b o, X.s₀.heap.get? b = some o -> b ∉ X.fs -> b ∉ frs X.stack := fun b o q n z => by
  rcases yau.mp (I.stkSub b z) with e | e
  ·exact absurd (Nat.lt_of_lt_of_le (yan q) I.ok.above) (by rw [<- e]; exact Nat.lt_irrefl _)
  ·exact n e
 have nL : X.env.locals ∉ l := fun z => by
  obtain ⟨o, vs, h1, h2⟩ := hf _ z;obtain ⟨m, ⟨o', es, ep, h1', h2', _⟩, _⟩ := I.loc;rw [h1] at h1'; cases h1';rw [h2] at h2'; cases h2'
 have nC : ∀ x c, X.env.cells.lookup x = some c -> c ∉ l := fun x c q z => by
  obtain ⟨o, vs, h1, h2⟩ := hf _ z;obtain ⟨v, o', h1', h2'⟩ := I.cell x c q;rw [h1] at h1'; cases h1';rw [h2] at h2'; cases h2'
 have cellK : ∀ x c, X.env.cells.lookup x = some c -> ∀ v, s.heap.IsCell c v -> h'.IsCell c v := fun x c q v ⟨o, ho, hd⟩ => by
  obtain ⟨sl, k⟩ := any c o ho (nC x c q);exact ⟨_, k, hd⟩
 refine ⟨I.ok, I.os, I.bare, ⟨fun b o q n hb hx => ?_, fun b o q n hb hx => ?_, fun b o q n hx => I.base.free b o q n hx, fun b o q hx => ?_, I.base.tups, I.base.frzs, I.base.tbls⟩, ?_, fun x c q => ?_, I.free, I.freeC, fun p hp => ?_, ?_, I.len⟩
 ·exact keep b o (I.base.keep b o q n hb hx) (s0l b o q) (subf b o q hb)
 ·obtain ⟨sl, k⟩ := I.base.slot b o q n hb hx;obtain ⟨sl', k'⟩ := any b _ k (s0l b o q);exact ⟨sl', k'⟩
 ·obtain ⟨o', k⟩ := I.base.there b o q hx;obtain ⟨sl', k'⟩ := any b _ k (s0l b o q);exact ⟨_, k'⟩
 ·obtain ⟨m, ⟨o, es, ep, ho, hd, r⟩, hlk⟩ := I.loc;obtain ⟨sl, k⟩ := any _ o ho nL;refine ⟨m, ⟨_, es, ep, k, hd, r⟩, fun i x v e1 e2 e3 => ?_⟩;obtain ⟨u, r, lk⟩ := hlk i x v e1 e2 e3;refine ⟨u, r, ?_⟩;rcases lk with lk | ⟨k, c, e, z⟩
  ·exact .inl lk
  ·exact .inr ⟨k, c, e, cellK x c e _ z⟩
 ·obtain ⟨v, z⟩ := I.cell x c q;exact ⟨v, cellK x c q v z⟩
 ·obtain ⟨e1, n, ne, nf, d⟩ := I.pin p hp;refine ⟨keep p.1 p.2 e1 (fun z => (hl p.1 z).2.2 p (by simpa using hp) rfl) fun z => ?_, n, ne, nf, d⟩;rcases yau.mp (I.stkSub p.1 z) with q | q
  ·exact ne q
  ·exact nf q
 ·refine fun a o q => (I.hok a o q).stay (fun b u hb k => ?_) (fun _ q => q) fun _ _ q => q;have hb' : H b ≠ none := by
   rcases hb with z | z
   ·rw [z, q]; simp
   ·rw [z]; simp
  exact keep b u k (fun z => hb' (hl b z).2.1) fun z => hb' (I.stkFree b z)
theorem zhA (F : Fnc X) (I : Inv X [] σ H s) (hl : ∀ b ∈ l, X.s₀.heap.get? b = none /\ H b = none /\ ∀ p ∈ X.pn, p.1 ≠ b) (hel : e ∈ l) {h' : Heap} {a0 f : Value}
  (fn : h'.FunFrames (bsOf X s.heap l) X.stack) (ht : h'.TracedAtW (bsOf X s.heap l) e (.ref C) a0 f) :
  ∃ l', Air h' e C (some f) l' /\ ∀ b ∈ l', X.s₀.heap.get? b = none /\ H b = none /\ ∀ p ∈ X.pn, p.1 ≠ b := by
 obtain ⟨oe, vs, T, oT, ts, he, ⟨hc, h0⟩, hd, h1, hnT, hTe, hT, hdT, h3⟩ := ht;have nfr : T ∉ frs X.stack := fun z => by
  obtain ⟨_, o, q1, q2⟩ := fn.mem z;rw [hT] at q1; cases q1;exact q2 ts hdT
 have tfree : ∀ o, s.heap.get? T = some o -> T ∈ l := fun o q => by
  refine yax fun n => ?_;rw [zjU q n nfr] at hnT; cases hnT
 refine ⟨[e, T], ⟨oe, vs, a0, he, hc, hd, h0, T, oT, ts, rfl, h1, hTe, hT, hdT, h3⟩, fun b hb => ?_⟩;rcases yau.mp hb with rfl | hb
 ·exact hl _ hel
 ·obtain rfl := yah.mp hb;refine ⟨?_, ?_, fun p hp z => ?_⟩
  ·cases q : X.s₀.heap.get? b with
   | none => rfl
   | some o =>
    obtain ⟨o', k⟩ := I.base.there b o q (by rw [F.ex]; simp);have := (hl b (tfree o' k)).1;rw [q] at this; cases this
  ·cases q : H b with
   | none => rfl
   | some o =>
    obtain ⟨o', k⟩ := (I.hok b o q).there;have := (hl b (tfree o' k)).2.1;rw [q] at this; cases this
  ·obtain ⟨e1, _⟩ := I.pin p (by simpa using hp);rw [z] at e1;exact (hl b (tfree _ e1)).2.2 p hp z
end
def XG (X : Cx) (G : Addr -> St -> Hp -> Prop) (fl : Option Value) (u : Value) (s : Shared) : Prop :=
 ∃ e C l σ H, u = .ref e /\ Inv X [] σ H s /\ Air s.heap e C fl l /\ (∀ b ∈ l, X.s₀.heap.get? b = none /\ H b = none /\ ∀ p ∈ X.pn, p.1 ≠ b) /\ G C σ H
def XF (X : Cx) (G : Addr -> St -> Hp -> Prop) (u : Value) (s : Shared) : Prop :=
 ∃ fl, (fl = none \/ fl = some .none \/ fl = some (rawInt X.env.locals)) /\ XG X G fl u s
def CXX (P : Program) (w : World) : CXT := fun outer H s E u s' =>
 ∃ e C l H', u = .ref e /\ E (.ref C) none H' /\ s'.os = s.os /\ AllBare s'.gens /\ Un (frs outer) [] H H' s.heap s'.heap /\ HOk P w H' s'.heap /\ Air s'.heap e C (some .none) l /\ ∀ b ∈ l, s.heap.get? b = none /\ H' b = none
section
variable {X : Cx} {G : Addr -> St -> Hp -> Prop} {u : Value} {s : Shared}
theorem zhB (F : Fnc X) {σ : St} {H : Hp} {Qa : ZP} (I : Inv X Qa σ H s) : X.A.frames = some (X.env :: X.outer) := by rw [<- F.stk]; exact I.ok.frames
theorem XF.note (F : Fnc X) {M : Model} {E : ZQ} {Q : Unit -> Shared -> Prop} (x : XF X G u s) (h : ∀ s', XG X G (some (rawInt X.env.locals)) u s' -> Q () s') : wpAny M X.A (noteFrame u X.env) Q E s := by
 obtain ⟨fl, hfl, e, C, l, σ, H, rfl, I, a, hl, g⟩ := x;have a' := a;obtain ⟨oe, vs, a0, h1, h2, h3, h4, h5⟩ := a;have fr := zhB F I;have fn : s.heap.FunFrames (bsOf X s.heap l) (X.env :: X.outer) := by rw [<- F.stk]; exact zjV I
 have hen : (bsOf X s.heap l).get? e = none := zeg a'.first;have fin : ∀ h', Heap.NotedW (bsOf X s.heap l) (X.env :: X.outer) e (.ref C) a0 (rawInt X.env.locals) s.heap h' -> Q () { s with heap := h' } := fun h' ⟨k1, k2, k3, k4⟩ => by
  rw [<- F.stk] at k2;obtain ⟨l', b1, b2⟩ := zhA F I hl a'.first k2 k3;exact h _ ⟨e, C, l', σ, H, rfl, land F I hl a'.flds k1 k4, b1, b2, g⟩
 rcases hfl with rfl | rfl | rfl
 ·obtain ⟨rfl, h5⟩ := h5;unfold noteFrame;simp only [F.fr];refine yaa (wpAny_field h1 h3 h5 ?_);rw [if_neg δ];rw [<- h2] at fin;exact wpAny_entryW fr fn F.fr h1 zfx hen h3 (Array.getElem?_eq_some_iff.mp h5).1 h4 fin
 ·obtain ⟨T, oT, ts, rfl, q1, q2, q3, q4, q5⟩ := h5;exact wpAny_noteFrame_onW fr fn F.fr ⟨oe, vs, T, oT, ts, h1, ⟨h2, h4⟩, h3, q1, zeg ς, q2, q3, q4, q5⟩ zfx hen fin
 ·obtain ⟨T, oT, ts, rfl, q1, q2, q3, q4, q5⟩ := h5;refine wpAny_noteFrame_againW (base := bsOf X s.heap [e, T]) (a0 := a0) (cls := .ref C) F.fr ⟨oe, vs, T, oT, ts, h1, ⟨h2, h4⟩, h3, q1, zeg ς, q2, q3, q4, q5⟩ ?_;exact h _ ⟨e, C, _, σ, H, rfl, I, a', hl, g⟩
theorem XG.off (F : Fnc X) {M : Model} {A : Around} {E : ZQ} {Q : Unit -> Shared -> Prop} {f : Value} (x : XG X G (some f) u s) (h : ∀ s', XG X G (some .none) u s' -> Q () s') : wpAny M A (setFlight u none) Q E s := by
 obtain ⟨e, C, l, σ, H, rfl, I, a, hl, g⟩ := x;have a' := a;obtain ⟨oe, vs, a0, h1, h2, h3, h4, h5⟩ := a;obtain ⟨T, oT, ts, rfl, q1, q2, q3, q4, q5⟩ := h5;have fn : s.heap.FunFrames (bsOf X s.heap [e, T]) X.stack := zjV I;refine wpAny_setFlight_noneW (base := bsOf X s.heap [e, T]) (l := X.stack) (a0 := a0) (cls := .ref C) (fl := f) zfx fn ⟨oe, vs, T, oT, ts, h1, ⟨h2, h4⟩, h3, q1, zeg ς, q2, q3, q4, q5⟩ fun h' k1 k2 k3 k4 => ?_;obtain ⟨l', b1, b2⟩ := zhA F I hl a'.first k2 k3.at;exact h _ ⟨e, C, l', σ, H, rfl, land F I hl a'.flds k1 (fun b o q n => ⟨o.slots, k4 b o q n⟩), b1, b2, g⟩
theorem XF.leaves (F : Fnc X) {E : XK} {EE : ZQ} (x : XF X G u s) (hG : ∀ C σ H, G C σ H -> E (.ref C) none H) :
  wpAny (model X.prog X.w) X.A (leaving X.env u) (fun _ s'' => CXX X.prog X.w X.outer X.H₀ X.s₀ E u s'') EE s := by
 unfold leaving;refine yaa (x.note F fun s1 x1 => x1.off F fun s2 x2 => ?_);obtain ⟨e, C, l, σ, H, rfl, I, a, hl, g⟩ := x2;refine ⟨e, C, l, H, rfl, hG C σ H g, I.os, I.bare, ?_, I.hok, a, fun b hb => ⟨(hl b hb).1, (hl b hb).2.1⟩⟩;have b := I.base;rw [F.ex] at b;exact b
theorem XF.comes (F : Fnc X) {Qa : ZP} {σ : St} {H : Hp} {s' : Shared} (I : Inv X Qa σ H s) (h : CXX X.prog X.w X.stack H s (fun c _ H' => ∃ C, c = .ref C /\ G C σ H') u s') : XF X G u s' := by
 obtain ⟨e, C, l, H', rfl, ⟨C', hc, g⟩, ho, hb, un, hok, a, hl⟩ := h;cases hc;have J : Inv X Qa σ H' s' := I.call' (ch := []) ho un hok hb (fun b z => absurd z ς);refine ⟨_, .inr (.inl rfl), e, C, l, σ, H', rfl, J.pins_of fun p hp => (nomatch hp), a, fun b hb => ⟨?_, (hl b hb).2, fun p hp z => ?_⟩, g⟩
 rotate_left
 ·obtain ⟨e1, _⟩ := I.pin p (List.mem_append_left _ hp);rw [z, (hl b hb).1] at e1; cases e1
 ·cases q : X.s₀.heap.get? b with
  | none => rfl
  | some o =>
   obtain ⟨o', k⟩ := I.base.there b o q (by rw [F.ex]; simp);rw [(hl b hb).1] at k; cases k
end
def Out (X : Cx) (G : Addr -> St -> Hp -> Prop) : Prop := ∀ u s, XF X G u s -> X.xe u s
theorem zc7 {P : Program} {w : World} {K : W.Frag} {mg : Str -> Option Value} {base : Heap} {N : List Str} {qual : Str} {scope : Scope} {f : Addr} {cd : Value} {A : Around} {outer : List Env} {s : Shared} {H : Hp} {E : XK} :
  Out (cxOf (CXX P w) P w K mg base N qual scope f cd A outer s H E) (fun C _ H' => E (.ref C) none H') := fun u s' x =>
 x.leaves zbO (E := E) fun _ _ _ g => g
theorem zhC {P : Program} {w : World} {K : W.Frag} {mg : Str -> Option Value} {base : Heap} {N : List Str} {qual : Str} {scope : Scope} {f : Addr} {cd : Value} {A : Around} {outer : List Env} {s : Shared} {H : Hp} {E : XK} {CX : CXT} :
  let X := cxOf CX P w K mg base N qual scope f cd A outer s H E
  PassesOwn (model X.prog X.w) X.A X.env X.xe := by
 intro X u s' h;exact PassesOwn.leaving (Q₁ := fun u s'' => CX outer H s E u s'') u s' h
def xnames : List Str := ["__init__", "__getattribute__", "__getattr__", "__class__"]
inductive TailX (h : Heap) (bmB : List Value) : List Value -> Prop
 | base : TailX h bmB bmB
 | own {A : Addr} {c0 : Value} {dd : Option Addr} {cd : ClassData} {sl : Array (Option Value)} {mA : Str -> Option Value} {tl : List Value} :
   h.get? A = some { cls := c0, dict := dd, data := .cls cd, slots := sl } -> h.Ns cd.ns mA -> (∀ n ∈ xnames, mA n = none) -> TailX h bmB tl -> TailX h bmB (.ref A :: tl)
theorem TailX.tail {h : Heap} {bmB tl : List Value} (T : TailX h bmB tl) : OwnTail h bmB tl := by
 induction T with
 | base => exact .base
 | own hA hN hq _ ih => exact .own hA hN (hq _ (.head _)) ih
def XCls (K : W.Frag) (mg : Str -> Option Value) (x : Str) (C : Addr) (ch : List Addr) (bm : List Value) (newId : String) : Prop := mg x = some (.ref C) /\ ∀ h : Heap, K.In h ->
 ∃ N nm q bs hdct sn sub ab col dd k0 k1 k2 k3 k5 mN, h.get? C = some (excClassObj nm q C N bs (ch.map Value.ref ++ bm) hdct sn sub ab col dd k0 k1 k2 k3 k5 newId) /\ h.Ns N mN /\ (∀ n ∈ xnames, mN n = none) /\ TailX h bm (ch.map Value.ref ++ bm)
section
variable {X : Cx} {G : Addr -> St -> Hp -> Prop}
theorem XF.made (F : Fnc X) {Qa : ZP} {σ : St} {H : Hp} {s : Shared} {h' : Heap} {e C : Addr} {vs : List Value} (I : Inv X Qa σ H s) (m : Heap.MadeExcOf s.heap h' e (.ref C) vs) (g : G C σ H) : XF X G (.ref e) { s with heap := h' } := by
 obtain ⟨t, he, htn, ht⟩ := m.there;have J : Inv X Qa σ H { s with heap := h', toks := s.toks } := I.kept m.keeps;refine ⟨none, .inl rfl, e, C, [e], σ, H, rfl, J.pins_of fun p hp => ?_, ⟨_, _, _, he, rfl, rfl, rfl, rfl, rfl⟩, fun b hb => ?_, g⟩
 ·exact nomatch hp
 ·obtain rfl := yah.mp hb;refine ⟨?_, ?_, fun p hp z => ?_⟩
  ·cases q : X.s₀.heap.get? b with
   | none => rfl
   | some o =>
    obtain ⟨o', k⟩ := I.base.there b o q (by rw [F.ex]; simp);rw [m.new] at k; cases k
  ·cases q : H b with
   | none => rfl
   | some o =>
    obtain ⟨o', k⟩ := (I.hok b o q).there;rw [m.new] at k; cases k
  ·obtain ⟨e1, _⟩ := I.pin p (List.mem_append_left _ hp);rw [z, m.new] at e1; cases e1
theorem zdc {x : Str} {C : Addr} {ch : List Addr} {B newId initId : String} {bm : List Value} {e₀ : Expr} {rest : List Expr} {t : TA} {np cpos pos : Pos} (F : Fnc X) (hc : X.calm = true) (ho : Out X G) (O : XCls X.K X.mg x C ch bm newId) (FB : ExcBaseFacts B newId initId bm)
  (hg : Gl X x) (ha : PA X (e₀ :: rest) t) (he : starEach (e₀ :: rest) X.env = (false, eval e₀ X.env) :: starEach rest X.env := by rfl)
  (hpl : (backTo cpos (starEach rest X.env)).any (·.1) = false := by rfl) (hd : (x == ("__debug__" : Str)) = false := by decide) :
  PS X (.Raise (some (.Call (.Name x np) (e₀ :: rest) [] cpos)) none pos) (fun D σ H => t σ H fun vs H1 => vs.length <= sizeLine /\ G C σ H1) := by
 intro Qa s σ H D I h;obtain ⟨N, nm, q, bs, hdct, sn, sub, ab, col, dd, k0, k1, k2, k3, k5, mN, hC, hN, hni', T'⟩ := O.2 _ I.mod.kin;have hni : mN "__init__" = none := hni' _ (.head _);have T := T'.tail;refine wpAny_Raise_call_subT (C := C) (nm := nm) (q := q) (N := N) (bs := bs) (bm := ch.map Value.ref ++ bm) (hdct := hdct) (sn := sn) (sub := sub) (ab := ab) (col := col) (dd := dd) (k0 := k0) (k1 := k1) (k2 := k2) (k3 := k3) (k5 := k5)
  FB (mN := mN) (T.hasType FB.hasBase) (I.ok.hd hc) (by rw [he]; show (false || (backTo cpos (starEach rest X.env)).any (·.1)) = false; rw [hpl]; rfl) hni (zcx I hg O.1 ⟨rfl, ?_⟩ hd)
 have ha' := ha cpos Qa s σ H _ I h;rw [he] at ha' ⊢;refine Calls.evalArgs_plain (wpAny_mono ha' (fun vs s₂ ⟨xs, H1, I1, r1, z, g⟩ => ⟨rfl, ?_, I1.bk _ _ hC, hN.keeps I1.bk, T.keeps I1.bk, fun h' e m => ho _ _ (XF.made F I1 m g)⟩) fun _ _ y => y);show vs.length <= sizeLine;rw [<- r1.length]; exact z
end
def zhD (sp : Sp) (dvs : List V) (G : Addr -> St -> Hp -> Prop) (t : TA) : TE := fun σ H Q => t σ H fun vs H1 => sp (vs ++ dvs) H1 Q (fun c _ H' => ∃ C, c = .ref C /\ G C σ H')
section
variable {X : Cx} {G : Addr -> St -> Hp -> Prop} {k : Nat} {f : Addr} {fd : FuncData} {ps : List Str} {sp : Sp} {dvs : List V} {ds : List Value} {x : Str} {p pos : Pos} {e : Expr} {es : List Expr} {t : TA}
theorem zdd (Fn : Fnc X) (ho : Out X G) (F : FnOk X.prog X.w X.K X.mg X.base (CXX X.prog X.w) k f fd ps sp) (hr : Room k X.A) (hg : Gl X x) (hm : X.mg x = some (.ref f)) (hk : W.keepIn X.K (.ref f) = true) (hb : Binds X.K fd ps ds) (hd : Vals dvs ds)
  (ha : PA X (e :: es) t) (hdb : (x == ("__debug__" : Str)) = false := by decide) (he : starEach (e :: es) X.env = (false, eval e X.env) :: starEach es X.env := by rfl) (hpl : (backTo pos (starEach es X.env)).any (·.1) = false := by rfl) :
  PE X (.Call (.Name x p) (e :: es) [] pos) (zhD sp dvs G t) := by
 intro Qa s σ H Q I h;refine wpAny_Call_Name_kw (zcx I hg hm ?_ hdb);refine W.callWith_K (h₀ := X.base) I.ok.mod.kin hk (thn (ha pos Qa s σ H _ I h) fun us s1 ⟨vs, H1, I1, r, q⟩ => ⟨I1.kIn, ?_⟩) he hpl;have r2 : Vals (vs ++ dvs) (us ++ ds) := r.append hd;have hl : (us ++ ds).length = ps.length := by rw [<- r2.length]; exact F.len _ _ _ _ q
 refine wpAny_call (codeAny_mono (F.run X.A X.stack s1 H1 ⟨us, []⟩ (us ++ ds) (vs ++ dvs) Q _ hr I1.env0 (hb s1 us I1.kIn hl) r2 q) fun r s' hq => ?_);cases r with
 | error e => exact ho _ _ (XF.comes Fn I1 hq)
 | ok fl =>
  cases fl with
  | ret u => exact I1.after hq
  | next => exact False.elim hq
  | brk => exact False.elim hq
  | cont => exact False.elim hq
end
abbrev Cx.at (X : Cx) (Qa : ZP) (E : ZQ) : Cx := { X with pn := X.pn ++ Qa, xe := E }
abbrev Cx.sui (X : Cx) (Qa : ZP) (e : Addr) : Cx := { X with pn := X.pn ++ Qa, A := X.A.mark (some (.ref e)), calm := false, xe := fun _ _ => False }
section
variable {X : Cx} {Qa : ZP} {σ : St} {H : Hp} {s : Shared} {E : ZQ} {e : Addr}
theorem Cx.Ok.at (ok : X.Ok) : (X.at Qa E).Ok :=
 ⟨ok.mod, ok.kind, ok.glob, ok.blt, ok.above, ok.inj, ok.has, ok.cab, ok.hd, ok.frames, ok.stk, ok.exf, ok.bs, ok.bsz, ok.noex, ok.exfs, ok.funs, ok.frf⟩
theorem Cx.Ok.unat (ok : (X.at Qa E).Ok) : X.Ok :=
 ⟨ok.mod, ok.kind, ok.glob, ok.blt, ok.above, ok.inj, ok.has, ok.cab, ok.hd, ok.frames, ok.stk, ok.exf, ok.bs, ok.bsz, ok.noex, ok.exfs, ok.funs, ok.frf⟩
theorem Cx.Ok.sui (ok : X.Ok) : (X.sui Qa e).Ok :=
 ⟨ok.mod, ok.kind, ok.glob, ok.blt, ok.above, ok.inj, ok.has, ok.cab, (fun z => nomatch z), ok.frames, ok.stk, ok.exf, ok.bs, ok.bsz, ok.noex, ok.exfs, ok.funs, ok.frf⟩
theorem Inv.at (I : Inv X Qa σ H s) (E : ZQ) : Inv (X.at Qa E) [] σ H s := ⟨I.ok.at, I.os, I.bare, I.base, I.loc, I.cell, I.free, I.freeC, fun p hp => I.pin p (by simpa using hp), I.hok, I.len⟩
theorem Inv.unat (I : Inv (X.at Qa E) [] σ H s) : Inv X Qa σ H s := ⟨I.ok.unat, I.os, I.bare, I.base, I.loc, I.cell, I.free, I.freeC, fun p hp => I.pin p (by simpa using hp), I.hok, I.len⟩
theorem Inv.sui (I : Inv X Qa σ H s) (e : Addr) : Inv (X.sui Qa e) [] σ H s := ⟨I.ok.sui, I.os, I.bare, I.base, I.loc, I.cell, I.free, I.freeC, fun p hp => I.pin p (by simpa using hp), I.hok, I.len⟩
theorem Inv.unsui (ok : X.Ok) (I : Inv (X.sui Qa e) [] σ H s) : Inv X Qa σ H s := ⟨ok, I.os, I.bare, I.base, I.loc, I.cell, I.free, I.freeC, fun p hp => I.pin p (by simpa using hp), I.hok, I.len⟩
theorem SP.unat {D : Ends} {f : Flow} {s' : Shared} (h : SP (X.at Qa E) [] D f s') : SP X Qa D f s' := by
 cases f with
 | next => obtain ⟨σ', H', I, q⟩ := h; exact ⟨σ', H', I.unat, q⟩
 | brk => obtain ⟨σ', H', I, q⟩ := h; exact ⟨σ', H', I.unat, q⟩
 | cont => obtain ⟨σ', H', I, q⟩ := h; exact ⟨σ', H', I.unat, q⟩
 | ret u => obtain ⟨v, σ', H', I, r, q⟩ := h; exact ⟨v, σ', H', I.unat, r, q⟩
theorem SP.unsui (ok : X.Ok) {D : Ends} {f : Flow} {s' : Shared} (h : SP (X.sui Qa e) [] D f s') : SP X Qa D f s' := by
 cases f with
 | next => obtain ⟨σ', H', I, q⟩ := h; exact ⟨σ', H', I.unsui ok, q⟩
 | brk => obtain ⟨σ', H', I, q⟩ := h; exact ⟨σ', H', I.unsui ok, q⟩
 | cont => obtain ⟨σ', H', I, q⟩ := h; exact ⟨σ', H', I.unsui ok, q⟩
 | ret u => obtain ⟨v, σ', H', I, r, q⟩ := h; exact ⟨v, σ', H', I.unsui ok, r, q⟩
end
def zod (X : Cx) (Qa : ZP) (H : Hp) (l : List Addr) : Prop := ∀ b ∈ l, X.s₀.heap.get? b = none /\ H b = none /\ ∀ p ∈ X.pn ++ Qa, p.1 ≠ b
def PH (X : Cx) (hs : List ExceptHandler) (th : Addr -> TS) : Prop :=
 ∀ (Qa : ZP) (s : Shared) (σ : St) (H : Hp) (D : Ends) (e C : Addr) (l : List Addr), Inv X Qa σ H s -> Air s.heap e C (some .none) l -> zod X Qa H l -> th C D σ H ->
  wpAny (model X.prog X.w) X.A (handleBy (.ref e) X.env hs) (SP X Qa D) X.xe s
def tTry (tb : (Addr -> St -> Hp -> Prop) -> TS) (th : Addr -> TS) (te : TS) : TS := fun D σ H => ∃ G : Addr -> St -> Hp -> Prop, tb G { D with nx := te D } σ H /\ ∀ C σ' H', G C σ' H' -> th C D σ' H'
theorem zjW {X : Cx} {body orelse : List Stmt} {h₀ : ExceptHandler} {hs : List ExceptHandler} {pos : Pos} {tb : (Addr -> St -> Hp -> Prop) -> TS} {th : Addr -> TS} {te : TS} (F : Fnc X)
  (hb : ∀ G Qa E, Fnc (X.at Qa E) -> Out (X.at Qa E) G -> PassesOwn (model X.prog X.w) X.A X.env E -> PSs (X.at Qa E) body (tb G)) (hh : PH X (h₀ :: hs) th) (he : PSs X orelse te) :
  PS X (.Try body (h₀ :: hs) orelse [] pos) (tTry tb th te) := by
 intro Qa s σ H D I ⟨G, h1, h2⟩;refine wpAny_Try_except ?_;have F' : ∀ E, Fnc (X.at Qa E) := fun E => ⟨F.stk, F.fr, F.ex⟩
 refine wpAny_mono (hb G Qa (fun u s₁ => wpAny (model X.prog X.w) X.A (noteFrame u X.env) (fun _ s₂ => wpAny (model X.prog X.w) X.A (setFlight u none) (fun _ s₃ => wpAny (model X.prog X.w) X.A (handleBy u X.env (h₀ :: hs)) (SP X Qa D) X.xe s₃) X.xe s₂) X.xe s₁) (F' _) ?_ ?_ [] s σ H { D with nx := te D } (I.at _) h1) (fun f s₁ hs => ?_) fun _ _ y => y
 ·intro u s₁ x;refine XF.note (X := X.at Qa _) (F' _) x fun s2 x2 => ?_;refine XG.off (X := X.at Qa _) (F' _) x2 fun s3 x3 => ?_;obtain ⟨e, C, l, σ', H', rfl, J, a, hl, g⟩ := x3;exact hh Qa s3 σ' H' D e C l J.unat a (fun b hb => hl b hb) (h2 C σ' H' g)
 ·exact PassesOwn.looking (K := fun u s₂ => wpAny (model X.prog X.w) X.A (setFlight u none) (fun _ s₃ => wpAny (model X.prog X.w) X.A (handleBy u X.env (h₀ :: hs)) (SP X Qa D) X.xe s₃) X.xe s₂)
 ·cases f with
  | next =>
   obtain ⟨σ', H', J, q⟩ := hs;exact he Qa s₁ σ' H' D J.unat q
  | brk => exact SP.unat hs
  | cont => exact SP.unat hs
  | ret u => exact SP.unat hs
def SubX (K : W.Frag) (C D : Addr) (b : Bool) : Prop := ∀ h : Heap, K.In h ->
 (∃ nm q N bs bm hdct sn sub ab col dd k0 k1 k2 k3 k5 newId, h.get? C = some (excClassObj nm q C N bs bm hdct sn sub ab col dd k0 k1 k2 k3 k5 newId) /\ (Value.ref C :: bm).contains (.ref D) = b) /\
 (∃ nm q N bs bm hdct sn sub ab col dd k0 k1 k2 k3 k5 newId, h.get? D = some (excClassObj nm q D N bs bm hdct sn sub ab col dd k0 k1 k2 k3 k5 newId) /\ (Value.ref D :: bm).contains (.type "BaseException") = true)
theorem zdt {M : Model} {A : Around} {E : ZQ} {s : Shared} {K : W.Frag} {C D e : Addr} {b : Bool} {oe : Obj} {Q : Bool -> Shared -> Prop} (S : SubX K C D b) (X : K.In s.heap) (he : s.heap.get? e = some oe) (hcls : oe.cls = .ref C) (hq : Q b s) :
  wpAny M A (excMatches (.ref e) (.ref D)) Q E s := by
 obtain ⟨⟨nm, q, N, bs, bm, hdct, sn, sub, ab, col, dd, k0, k1, k2, k3, k5, newId, hC, hc⟩, ⟨nm', q', N', bs', bm', hdct', sn', sub', ab', col', dd', k0', k1', k2', k3', k5', newId', hD, hd⟩⟩ := S _ X;obtain ⟨h, g, d, t, os⟩ := s;have f := tc_notTuple;unfold excMatches
 repeat (first | (with_reducible refine wpAny_loadPart_at he ?_; rw [hcls]) | with_reducible refine wpAny_loadPart_at hD ?_ | (with_reducible refine wpAny_isSubtype_exc hD ?_; rw [hd]) | (with_reducible refine wpAny_isSubtype_exc hC ?_; rw [hc]) | wp_step)
 cases b <;> (first | exact hq | (wp_walk; exact hq))
section
variable {X : Cx}
theorem zfY {Qa : ZP} {σ : St} {H : Hp} {s : Shared} {x : Str} {D e : Addr} {np : Pos} {E : ZQ} {Q : ZQ} (I : Inv X Qa σ H s) (hg : Gl X x) (hm : X.mg x = some (.ref D)) (h : Q (.ref D) s)
  (hd : (x == ("__debug__" : Str)) = false) : wpAny (model X.prog X.w) (X.A.mark (some (.ref e))) (eval (.Name x np) X.env) Q E s :=
 zcx (X := X.sui Qa e) (I.sui e) hg hm h hd
theorem zmE {x : Str} {D : Addr} {np pos : Pos} {b₀ : Stmt} {suite : List Stmt} {rest : List ExceptHandler} {ts : TS} {tr : Addr -> TS} (F : Fnc X) (hg : Gl X x) (hm : X.mg x = some (.ref D)) (hs : ∀ Qa e, PSs (X.sui Qa e) (b₀ :: suite) ts) (hr : PH X rest tr)
  (hd : (x == ("__debug__" : Str)) = false := by decide) :
  PH X (.ExceptHandler (some (.Name x np)) none (b₀ :: suite) pos :: rest) (fun C W σ H => ∃ b, SubX X.K C D b /\ if b = true then ts W σ H else tr C W σ H) := by
 intro Qa s σ H W e C l I a hl ⟨b, S, h⟩;have a' := a;obtain ⟨oe, vs, a0, h1, h2, h3, h4, h5⟩ := a;refine wpAny_handleBy_cons (codeAny_handlers_test (zfY I hg hm ?_ hd)) (by intro q; cases q);refine zdt S I.kIn h1 h2 ?_;cases b with
 | false => exact hr Qa s σ H W e C l I a' hl (by simpa using h)
 | true =>
  have F' : Fnc (X.sui Qa e) := ⟨F.stk, F.fr, F.ex⟩
  refine codeAny_handlers_suite ?_;refine XG.off (X := X.sui Qa e) (G := fun C' σ' H' => σ' = σ /\ H' = H) F' ⟨e, C, l, σ, H, rfl, I.sui e, a', fun b hb => hl b hb, rfl, rfl⟩ fun s2 x2 => ?_;obtain ⟨e2, C2, l2, σ2, H2, he, J, _, _, rfl, rfl⟩ := x2;refine wpAny_mono (hs Qa e [] s2 σ2 H2 W J (by simpa using h)) (fun f s3 q => SP.unsui I.ok q) fun _ _ z => z.elim
theorem zc8 {Qa : ZP} {σ : St} {H : Hp} {s : Shared} {A : Around} {M : Model} {i : Nat} {n : Str} {pos : Pos} {E : ZQ} {Q : Unit -> Shared -> Prop} (I : Inv X Qa σ H s) (hN : X.N.Nodup) (hi : X.N[i]? = some n) (hk : X.env.scope.names.lookup n = some .local)
  (h : ∀ s', Inv X Qa (σ.set i none) H s' -> Q () s') : wpAny M A (do bindName X.env n .none; unbindBehindTheSuite X.env n pos) Q E s := by
 obtain ⟨m, hn, hl⟩ := id I.loc;have hcls : (X.env.scope.kind == .class || (X.env.scope.kind == .module && X.env.locals != X.env.globals)) = false := by rw [I.ok.kind]; rfl
 refine wpAny_nameGoes_keeps hk hn hcls fun h' v hn' hs => ?_;have cne := I.cne;have sL : ∀ b o, X.s₀.heap.get? b = some o -> b ≠ X.env.locals := fun b o q => Nat.ne_of_lt (Nat.lt_of_lt_of_le (yan q) I.ok.above);have hiσ : i < σ.length := by rw [I.len]; exact (yag.mp hi).1
 refine h _ ⟨I.ok, I.os, I.bare, ⟨fun b o q n hb hx => ?_, fun b o q n hb hx => ?_, I.base.free, fun b o q hx => ?_, I.base.tups, I.base.frzs, I.base.tbls⟩, ⟨_, hn', fun j y v' e1 e2 e3 => ?_⟩, fun y c e => ?_, I.free, I.freeC, fun p hp => ?_, ?_, by simpa using I.len⟩
 ·exact (hs.2 b (sL b o q)).trans (I.base.keep b o q n hb hx)
 ·obtain ⟨sl, e1⟩ := I.base.slot b o q n hb hx;exact ⟨sl, (hs.2 b (sL b o q)).trans e1⟩
 ·obtain ⟨o', e1⟩ := I.base.there b o q hx;exact ⟨o', (hs.2 b (sL b o q)).trans e1⟩
 ·by_cases hj : j = i
  ·subst hj;rw [List.getElem?_set_self hiσ] at e2;cases e2
  ·rw [List.getElem?_set_ne (Ne.symm hj)] at e2;obtain ⟨u', r', q⟩ := hl j y v' e1 e2 e3;refine ⟨u', r', ?_⟩;rcases q with ⟨k, e⟩ | ⟨k, c, e, z⟩
   ·refine .inl ⟨k, ?_⟩;have : y ≠ n := fun e => hj (zea hN e1 (e ▸ hi));simp [this, e]
   ·exact .inr ⟨k, c, e, z.sameBut hs (cne y c e)⟩
 ·obtain ⟨w', z⟩ := I.cell y c e;exact ⟨w', z.sameBut hs (cne y c e)⟩
 ·obtain ⟨e, n, ne, nf, d⟩ := I.pin p hp;exact ⟨(hs.2 p.1 ne).trans e, n, ne, nf, d⟩
 ·intro b ob q;refine (I.hok b ob q).stay (fun c w' hc k => (hs.2 c ?_).trans k) (fun _ q => q) fun _ _ q => q
  rintro rfl
  rcases hc with rfl | hc
  ·rw [I.free] at q; cases q
  ·rw [I.free] at hc; cases hc
def ExcO (e C : Addr) : HO := .ext fun h => ∃ o vs, h.get? e = some o /\ o.cls = .ref C /\ o.data = .fields vs
theorem Inv.adopt {Qa : ZP} {σ : St} {H : Hp} {s : Shared} {e C : Addr} {o : Obj} {vs : Array Value} (I : Inv X Qa σ H s) (he : s.heap.get? e = some o) (hc : o.cls = .ref C) (hd : o.data = .fields vs)
  (h0 : X.s₀.heap.get? e = none) (hH : H e = none) (hp : ∀ p ∈ X.pn ++ Qa, p.1 ≠ e) : Inv X Qa σ (upd H e (ExcO e C)) s := by
 have ne : ∀ b, b ≠ e -> upd H e (ExcO e C) b = H b := fun b n => za6 n;have s0 : ∀ b o, X.s₀.heap.get? b = some o -> b ≠ e := fun b o q z => by rw [z, h0] at q; cases q
 have hin : ∀ b u, H b = some u -> b ≠ e := fun b u q z => by rw [z, hH] at q; cases q
 refine ⟨I.ok, I.os, I.bare, ⟨I.base.keep, I.base.slot, fun b o q n hx => ?_, I.base.there, fun b xs q => ?_, fun b o u q => ?_, fun b ps q => ?_⟩, I.loc, I.cell, ?_, fun x c q => ?_, fun p hp' => ?_, fun b u q => ?_, I.len⟩
 ·rw [ne b (s0 b o q)]; exact I.base.free b o q n hx
 ·have k := I.base.tups b xs q; rw [ne b (hin b _ k)]; exact k
 ·have k := I.base.frzs b o u q; rw [ne b (hin b _ k)]; exact k
 ·obtain ⟨m, k⟩ := I.base.tbls b ps q; exact ⟨m, by rw [ne b (hin b _ k)]; exact k⟩
 ·rw [ne]
  ·exact I.free
  ·intro z;obtain ⟨m, ⟨o', es, ep, h1', h2', _⟩, _⟩ := I.loc;rw [z, he] at h1'; cases h1';rw [hd] at h2'; cases h2'
 ·rw [ne]
  ·exact I.freeC x c q
  ·intro z;obtain ⟨v, o', h1', h2'⟩ := I.cell x c q;rw [z, he] at h1'; cases h1';rw [hd] at h2'; cases h2'
 ·obtain ⟨e1, n, nl, nf, d⟩ := I.pin p hp';exact ⟨e1, by rw [ne _ (hp p hp')]; exact n, nl, nf, d⟩
 ·by_cases z : b = e
  ·subst z;rw [zae] at q; cases q;exact ⟨⟨o, vs, he, hc, hd⟩, ⟨o, he⟩, fun h1 h2 ⟨o', vs', q1, q2, q3⟩ k => ⟨o', vs', k _ q1, q2, q3⟩⟩
  ·rw [ne b z] at q;refine (I.hok b u q).stay (fun _ _ _ k => k) (fun c k => ?_) fun c xs k => ?_
   ·rw [ne c (hin c _ k)]; exact k
   ·rw [ne c (hin c _ k)]; exact k
theorem zoe {x n : Str} {i : Nat} {D : Addr} {np pos : Pos} {b₀ : Stmt} {suite : List Stmt} {rest : List ExceptHandler} {ts : TS} {tr : Addr -> TS} (F : Fnc X) (hN : X.N.Nodup) (hi : X.N[i]? = some n) (hk : X.env.scope.names.lookup n = some .local) (hg : Gl X x) (hm : X.mg x = some (.ref D)) (hs : ∀ Qa e, PSs (X.sui Qa e) (b₀ :: suite) ts) (hr : PH X rest tr)
  (hd : (x == ("__debug__" : Str)) = false := by decide) :
  PH X (.ExceptHandler (some (.Name x np)) (some n) (b₀ :: suite) pos :: rest) (fun C W σ H => ∃ b, SubX X.K C D b /\ if b = true then ∀ e, H e = none ->
   ts { nx := fun σ' H' => W.nx (σ'.set i none) H', rt := W.rt, bk := fun σ' H' => W.bk (σ'.set i none) H', ct := fun σ' H' => W.ct (σ'.set i none) H' } (σ.set i (some (.ref e))) (upd H e (ExcO e C)) else tr C W σ H) := by
 intro Qa s σ H W e C l I a hl ⟨b, S, h⟩;have a' := a;obtain ⟨oe, vs, a0, h1, h2, h3, h4, h5⟩ := a;refine wpAny_handleBy_cons (codeAny_handlers_test (zfY I hg hm ?_ hd)) (by intro q; cases q);refine zdt S I.kIn h1 h2 ?_;cases b with
 | false => exact hr Qa s σ H W e C l I a' hl (by simpa using h)
 | true =>
  have F' : Fnc (X.sui Qa e) := ⟨F.stk, F.fr, F.ex⟩
  have h := (show ∀ e, H e = none -> _ from by simpa using h)
  refine codeAny_handlers_suite_as ?_;refine XG.off (X := X.sui Qa e) (G := fun C' σ' H' => C' = C /\ σ' = σ /\ H' = H) F' ⟨e, C, l, σ, H, rfl, I.sui e, a', fun b hb => hl b hb, rfl, rfl, rfl⟩ fun s2 x2 => ?_;obtain ⟨e2, C2, l2, σ2, H2, he, J, a2, hl2, rfl, rfl, rfl⟩ := x2;cases he;obtain ⟨q1, q2, q3⟩ := hl2 e a2.first;obtain ⟨oe2, vs2, a02, r1, r2, r3, _⟩ := a2;have J2 := J.adopt r1 r2 r3 q1 q2 (by simpa using q3);refine zcZ (X := X.sui Qa e) (v := .ref e) J2 hN hi (.inl hk) rfl (fun s3 J3 => ?_) (.inr hk);refine wpAny_mono (hs Qa e [] s3 _ _ _ J3 (h e q2)) (fun f s4 q => ?_) fun _ _ z => z.elim;cases f with
  | next => obtain ⟨σ', H', J4, q⟩ := q; exact zc8 (J4.unsui I.ok) hN hi hk fun s5 J5 => ⟨_, _, J5, q⟩
  | brk => obtain ⟨σ', H', J4, q⟩ := q; exact zc8 (J4.unsui I.ok) hN hi hk fun s5 J5 => ⟨_, _, J5, q⟩
  | cont => obtain ⟨σ', H', J4, q⟩ := q; exact zc8 (J4.unsui I.ok) hN hi hk fun s5 J5 => ⟨_, _, J5, q⟩
  | ret u => obtain ⟨v, σ', H', J4, r, q⟩ := q; exact zc8 (J4.unsui I.ok) hN hi hk fun s5 J5 => ⟨v, _, _, J5, r, q⟩
theorem zjX : PH X [] (fun _ _ _ _ => False) := fun _ _ _ _ _ _ _ _ _ _ _ h => h.elim
end
theorem zof {M : Model} {A : Around} {E : ZQ} {h : Heap} {g : Array GenState} {d : Drawn} {t : Nat} {os : OsState} {bmB tl : List Value} {n : Str} {y : Option Value} {Q : Option Value -> Shared -> Prop} (hn : n ∈ xnames) (T : TailX h bmB tl) (hrest : lookupAlong bmB n = pure y) (hq : Q y ⟨h, g, d, t, os⟩) :
  wpAny M A (lookupAlong tl n) Q E ⟨h, g, d, t, os⟩ := by
 induction T with
 | base => rw [hrest]; exact yab hq
 | own hA hN hni _ ih =>
  rw [lookupAlong_cons];refine yaa (wpAny_classOwn_cls hA hN ?_);rw [hni n hn];exact ih
section
variable {prog : Program} {w : World} {A : Around} {E : ZQ} {h : Heap} {g : Array GenState} {d : Drawn} {t : Nat} {os : OsState} {a : Addr} {o : Obj} {vs : Array Value}
 {nm q : Str} {C N : Addr} {bs bm bmB : List Value} {hdct : Bool} {sn : List Str} {sub : List Value} {ab : Bool} {col : Option Bool} {dd : Option Addr} {k0 k1 k2 k3 k5 : Option Value} {B newId : String} {mN : Str -> Option Value}
theorem zdu {M : Model} {n : Str} {y : Option Value} {Q : Option Value -> Shared -> Prop} (hn : n ∈ xnames)
  (hC : h.get? C = some (excClassObj nm q C N bs bm hdct sn sub ab col dd k0 k1 k2 k3 k5 newId)) (hN : h.Ns N mN) (hmN : ∀ n ∈ xnames, mN n = none) (T : TailX h bmB bm) (hbm : mroOf (.type B) = pure bmB)
  (hB : typeLookup (.type B) n = pure y) (hq : Q y ⟨h, g, d, t, os⟩) : wpAny M A (typeLookup (.ref C) n) Q E ⟨h, g, d, t, os⟩ := by
 have hrest : lookupAlong bmB n = pure y := by rw [typeLookup_eq, hbm] at hB; exact hB
 rw [typeLookup_eq];refine yaa (wpAny_mroOf_exc hC ?_);rw [lookupAlong_cons];refine yaa (wpAny_classOwn_exc hC hN ?_);rw [hmN n hn];exact zof hn T hrest hq
structure zeh (B : String) (bmB : List Value) : Prop extends ExcAttrBase B bmB where
 lkC : typeLookup (.type B) "__class__" = pure (some (.builtin "object.__class__"))
 hasObj : bmB.contains (.type "object") = true
theorem zgC {R : Result -> Shared -> Prop} (FB : zeh B bmB) (hC : h.get? C = some (excClassObj nm q C N bs bm hdct sn sub ab col dd k0 k1 k2 k3 k5 newId)) (T : TailX h bmB bm)
  (hx : h.get? a = some o) (hc : o.cls = .ref C) (hd : o.data = .fields vs) (hq : R (.ok (.ret (.ref C))) ⟨h, g, d, t, os⟩) :
  codeAny (model prog w) A (.call (.builtin "getset_descriptor.__get__") ⟨[.builtin "object.__class__", .ref a, .ref C], []⟩) R ⟨h, g, d, t, os⟩ := by
 have hT5 : (⟨h, g, d, t, os⟩ : Shared).TypeIs (.builtin "object.__class__") "getset_descriptor" := F.typeOf_object_class;have hcB : (Value.ref C :: bm).contains (.type (".".intercalate ("object.__class__".cutAt '.').dropLast)) = true := by
  rw [F.owner_object_class, List.contains_cons, T.tail.hasType FB.hasObj]; rfl
 refine codeAny_call_builtin F.slot_gs_get.plain F.entry_gs_get (F.slot_gs_get.check _ _ _ _ _ _ _ _ hT5 (F.args_gs_get _ _ _) ?_)
 repeat (any_goals (first | assumption | (with_reducible refine wpAny_loadPart_at hx ?_; rw [hc]) | (with_reducible refine wpAny_isSubtype_exc hC ?_; rw [hcB]) | wp_step))
 refine ⟨Code.quiet_builtin _ (by decide +kernel), codeAny_builtin F.entry_object_class ?_⟩
 repeat (any_goals (first | assumption | (with_reducible refine wpAny_loadPart_at hx ?_; rw [hc]) | wp_step))
theorem zeM {M : Model} {nameV : Value} {Q : Unit -> Shared -> Prop} (FB : zeh B bmB) (hC : h.get? C = some (excClassObj nm q C N bs bm hdct sn sub ab col dd k0 k1 k2 k3 k5 newId)) (T : TailX h bmB bm)
  (hx : h.get? a = some o) (hc : o.cls = .ref C) (hq : Q () ⟨h, g, d, t, os⟩) : wpAny M A (checkBuiltinCall "BaseException.__getattribute__" ⟨[.ref a, nameV], []⟩) Q E ⟨h, g, d, t, os⟩ := by
 have hk : builtinKind "BaseException.__getattribute__" = some .slot := by decide +kernel
 have hsplit : splitId "BaseException.__getattribute__" = some ("BaseException", "__getattribute__") := by decide +kernel
 have hcB : (Value.ref C :: bm).contains (.type "BaseException") = true := by rw [List.contains_cons, T.tail.hasType FB.hasBase]; rfl
 have ha := F.args_bexc_ga (.ref a) nameV;simp only [checkBuiltinCall, hk, hsplit];refine yaa ?_
 ·unfold isInstance
  repeat (first | (with_reducible refine wpAny_loadPart_at hx ?_; rw [hc]) | (with_reducible refine wpAny_isSubtype_exc hC ?_; rw [hcB]) | wp_step)
  exact hq
theorem zeN {tk : Tok} {Q : Fin -> Shared -> Prop} (FB : zeh B bmB) (hC : h.get? C = some (excClassObj nm q C N bs bm hdct sn sub ab col dd k0 k1 k2 k3 k5 newId)) (hN : h.Ns N mN)
  (hmN : ∀ n ∈ xnames, mN n = none) (T : TailX h bmB bm) (hx : h.get? a = some o) (hc : o.cls = .ref C) (hd : o.data = .fields vs) (hq : Q (.done (.ret (.ref C))) ⟨h, g, d, t, os⟩) :
  wpAny (model prog w) A (Builtin.«object.__getattribute__» ⟨[.ref a, .str "__class__" tk], []⟩) Q E ⟨h, g, d, t, os⟩ := by
 have hT5 : (⟨h, g, d, t, os⟩ : Shared).TypeIs (.builtin "object.__class__") "getset_descriptor" := F.typeOf_object_class;have f5 := F.typeOf_object_class;have f6 := F.slot_gs_get.lookup;have f7 := F.slot_gs_set.lookup;have hmA : ("__class__" : Str) ∈ xnames := .tail _ (.tail _ (.tail _ (.head _)))
 repeat (any_goals (first | assumption | (with_reducible refine wpAny_loadPart_at hx ?_; rw [hc]) | with_reducible refine zdu hmA hC hN hmN T FB.mro FB.lkC ?_ | wp_step))
 refine zgC FB hC T hx hc hd ?_
 repeat (any_goals (first | assumption | wp_step))
theorem zfy {tk : Tok} {R : Result -> Shared -> Prop} (FB : zeh B bmB) (hC : h.get? C = some (excClassObj nm q C N bs bm hdct sn sub ab col dd k0 k1 k2 k3 k5 newId)) (hN : h.Ns N mN)
  (hmN : ∀ n ∈ xnames, mN n = none) (T : TailX h bmB bm) (hx : h.get? a = some o) (hc : o.cls = .ref C) (hd : o.data = .fields vs) (hq : R (.ok (.ret (.ref C))) ⟨h, g, d, t, os⟩) :
  codeAny (model prog w) A (.call (.builtin "BaseException.__getattribute__") ⟨[.ref a, .str "__class__" tk], []⟩) R ⟨h, g, d, t, os⟩ :=
 codeAny_call_builtin FB.ga.plain F.entry_bexc_ga (zeM FB hC T hx hc (zeN FB hC hN hmN T hx hc hd hq))
theorem zhE {tk : Tok} {Q : ZQ} (FB : zeh B bmB) (hC : h.get? C = some (excClassObj nm q C N bs bm hdct sn sub ab col dd k0 k1 k2 k3 k5 newId)) (hN : h.Ns N mN)
  (hmN : ∀ n ∈ xnames, mN n = none) (T : TailX h bmB bm) (hx : h.get? a = some o) (hc : o.cls = .ref C) (hd : o.data = .fields vs) (hq : Q (.ref C) ⟨h, g, d, t, os⟩) :
  wpAny (model prog w) A (getAttrBy (.ref a) (.str "__class__" tk) false) Q E ⟨h, g, d, t, os⟩ := by
 have f3 := FB.ga.bind (.ref a);have hx2 : (Value.builtin "BaseException.__getattribute__" == Value.builtin "object.__getattribute__") = false := by decide +kernel
 have hx1 : (onTheHeap (Value.ref C) && Value.builtin "BaseException.__getattribute__" == Value.builtin "object.__getattribute__") = false := by rw [hx2]; rfl
 have hm1 : ("__getattribute__" : Str) ∈ xnames := .tail _ (.head _);have hm2 : ("__getattr__" : Str) ∈ xnames := .tail _ (.tail _ (.head _))
 repeat (any_goals (first | assumption | (with_reducible refine wpAny_loadPart_at hx ?_; rw [hc]) | with_reducible refine zdu hm1 hC hN hmN T FB.mro FB.ga.lookup ?_ | with_reducible refine zdu hm2 hC hN hmN T FB.mro FB.noGetattr ?_ | wp_step))
 refine zfy FB hC hN hmN T hx hc hd ?_
 repeat (any_goals (first | assumption | wp_step))
theorem zfz {Q : Option Value -> Shared -> Prop} (FB : zeh B bmB) (hC : h.get? C = some (excClassObj nm q C N bs bm hdct sn sub ab col dd k0 k1 k2 k3 k5 newId)) (hN : h.Ns N mN)
  (hmN : ∀ n ∈ xnames, mN n = none) (T : TailX h bmB bm) (hx : h.get? a = some o) (hc : o.cls = .ref C) (hd : o.data = .fields vs) (hq : Q (some (.ref C)) ⟨h, g, d, t + 1, os⟩) :
  wpAny (model prog w) A (getAttr? (.ref a) "__class__") Q E ⟨h, g, d, t, os⟩ := by
 unfold getAttr? getAttrBy?
 repeat (any_goals (first | assumption | with_reducible apply zhE FB hC hN hmN T hx hc hd | wp_step))
end
theorem zcX : zeh "ValueError" [.type "ValueError", .type "Exception", .type "BaseException", .type "object"] :=
 { PySem.F.attrBase_ValueError with lkC := by rw [typeLookup_type, builtinLookup_eq_fast]; kernel_rfl, hasObj := by decide }
theorem zfZ {K : W.Frag} {mg : Str -> Option Value} {x : Str} {C e : Addr} {ch : List Addr} {B newId : String} {bm : List Value} (FB : zeh B bm) (O : XCls K mg x C ch bm newId) :
  W.KitX K (.ref e) (.ref C) (fun h => ∃ o vs, h.get? e = some o /\ o.cls = .ref C /\ o.data = .fields vs) where
 ty := fun M h X ⟨o, vs, h1, h2, h3⟩ => h2 ▸ (W.Looks.ld h1).andThen .now
 it := fun M h X _ => by
  obtain ⟨N, nm, q, bs, hdct, sn, sub, ab, col, dd, k0, k1, k2, k3, k5, mN, hC, hN, hni', T'⟩ := O.2 _ X;intro A' Q' E' s' k q;unfold isType loadHead;exact yaa (wpAny_loadPart (k _ _ hC) (yab q))
 ne := fun h tp dd' its n sl X htp => by
  obtain ⟨N, nm, q, bs, hdct, sn, sub, ab, col, dd, k0, k1, k2, k3, k5, mN, hC, hN, hni', T'⟩ := O.2 _ X;refine Bool.eq_false_iff.mpr fun q => ?_;have e : C = tp := Value.ref.inj (beq_iff_eq.mp q);subst e;have z := congrArg Obj.cls (Option.some.inj (hC.symm.trans htp));exact absurd (Value.type.inj z) δ
 ca := fun {prog w A E Q s} X ⟨o, vs, h1, h2, h3⟩ hq => by
  obtain ⟨N, nm, q, bs, hdct, sn, sub, ab, col, dd, k0, k1, k2, k3, k5, mN, hC, hN, hni', T'⟩ := O.2 _ X;obtain ⟨hh, g, d, t, os⟩ := s;exact zfz FB hC hN hni' T' h1 h2 h3 hq
def zjY (K : W.Frag) (C : Addr) : Prop := ∃ mg x ch bm newId B, zeh B bm /\ XCls K mg x C ch bm newId
def zjZ (K : W.Frag) : List V -> Hp -> VK -> Prop := fun vs H Q => ∃ e c C b, vs = [.ref e, c] /\ H e = some (ExcO e C) /\ zjY K C /\ ((∃ D, c = .ref D /\ W.kitOne K (.ref C) (.ref D) = some b) \/ ∃ T, c = .ty T /\ W.kitOne K (.ref C) (.type T) = some b) /\ Q (.bl b) H
theorem zgD {X : Cx} : zb4 X (.builtin "isinstance") (zjZ X.K) := by
 intro Qa s σ H xs us Q I r ⟨e, c, C, b, hv, he, ⟨mg, x, ch, bm, newId, B, FB, O⟩, hk, q⟩;subst hv;obtain ⟨u, u', rfl, ru, ru'⟩ := ziQ r;cases (show u = Value.ref e from ru);have p : ∃ o vs, s.heap.get? e = some o /\ o.cls = .ref C /\ o.data = .fields vs := (I.hok e _ he).1;rcases hk with ⟨D, rfl, k⟩ | ⟨T, rfl, k⟩
 ·cases (show u' = Value.ref D from ru');exact W.kia_one (zfZ FB O) I.kIn p k (fun z => nomatch z) fun tk => ⟨.bl b, H, I.tok tk, rfl, q⟩
 ·cases (show u' = Value.type T from ru');exact W.kia_one (zfZ FB O) I.kIn p k (fun z => nomatch z) fun tk => ⟨.bl b, H, I.tok tk, rfl, q⟩
theorem zb0 {X : Cx} (K : W.Frag) (hK : X.K = K := by rfl) : zb4 X (.builtin "isinstance") (zjZ K) := hK ▸ zgD
structure RoomH (k : Nat) (A : Around) : Prop where
 dp : A.depth + 3 * k + 5 < recursionLimit
 un : A.units + 16 * k + 200 < cLine
theorem Room.h {k : Nat} {A : Around} (r : Room k A) : RoomH k A := ⟨r.dp, r.un⟩
theorem RoomH.mark {k : Nat} {A : Around} (r : RoomH k A) (v : Option Value) : RoomH k (A.mark v) := ⟨r.dp, r.un⟩
theorem RoomH.deeper {k : Nat} {A : Around} (r : RoomH (k + 1) A) (env : Env) : RoomH k (A.deeper env) :=
 ⟨by have := r.dp; show A.depth + 1 + 3 * k + 5 < _; omega, by have := r.un; show A.units + 3 + 16 * k + 200 < _; omega⟩
structure zjo (P : Program) (w : World) (K : W.Frag) (mg : Str -> Option Value) (base : Heap) (k : Nat) (f : Addr) (fd : FuncData) (ps : List Str) (sp : Sp) : Prop where
 len : ∀ vs H Q E, sp vs H Q E -> vs.length = ps.length
 run : ∀ (A : Around) (outer : List Env) (s : Shared) (H : Hp) (args : Args) (us : List Value) (vs : List V) (Q : VK), RoomH k A -> Env0 P w K mg base A outer s H -> BindsTo s fd args (ps.zip us) -> Vals vs us -> sp vs H Q E0 ->
  codeAny (model P w) A (.call (.ref f) args) (CR CX0 outer P w H s Q E0) s
abbrev zjp (P : Program) (w : World) (K : W.Frag) (mg : Str -> Option Value) (base : Heap) (N : List Str) (qual : Str) (scope : Scope) (f : Addr) (cd : Value) (A : Around) (outer : List Env) (s : Shared) (H : Hp) : Cx :=
 { cxOf CX0 P w K mg base N qual scope f cd A outer s H E0 with calm := false }
theorem zmF {P : Program} {w : World} {K : W.Frag} {mg : Str -> Option Value} {base : Heap} {k : Nat} {f : Addr} {name qual : Str} {params : Arguments} {body : List Stmt} {scope : Scope} {dV kV doc pm cdv ct oc : Value} {an od : Option Addr}
  {osl : Array (Option Value)} {N ps : List Str} {sp : Sp} (lk : K.lookup f = some ⟨oc, od, .func (W.fnOf name qual params body scope dV kV doc pm an cdv ct), osl⟩) (hcd : W.codeIn K cdv qual = true) (S : zau N ps scope)
  (len : ∀ vs H Q E, sp vs H Q E -> vs.length = ps.length)
  (hbody : ∀ (A : Around) (outer : List Env) (s : Shared) (H : Hp) (vs : List V) (Q : VK), RoomH k (A.deeper (envOfC qual scope s.heap.objs.size f cdv)) -> sp vs H Q E0 ->
   ∃ t, PSs (zjp P w K mg base N qual scope f cdv A outer s H) body t /\ t { nx := fun _ H' => Q .non H', rt := Q } (start N vs) H) :
  zjo P w K mg base (k + 1) f (W.fnOf name qual params body scope dV kV doc pm an cdv ct) ps sp := by
 refine ⟨len, fun A outer s H args us vs Q hr e0 hb r hsp => ?_⟩;have hl := len _ _ _ _ hsp;have KX : K.In s.heap := e0.mod.kin.keeps fun b o e => (e0.bs b o e).1;have lim : s.heap.NoLimit := e0.mod.nolimit.keeps fun b o e => (e0.bs b o e).1;have hkind : ∀ y ∈ ps.zip us, scope.names.lookup y.1 = some .local \/ (scope.names.lookup y.1 = some .cell /\ ((cellsFrom (s.heap.objs.size + 1) scope.names []).lookup y.1).isSome = true) := fun ⟨n, v⟩ hy => by
  rcases S.par n (List.of_mem_zip hy).1 with q | q
  ·exact .inl q
  ·exact .inr ⟨q, W.cellsFrom_some _ _ _ (.inl q)⟩
 refine codeAny_call_function (by have := hr.dp; omega) (KX _ _ lk) rfl S.co S.gen rfl (W.codeRec_of KX hcd) (hb _ _ _ _ ?_);refine wpAny_newFunctionEnv_cells S.kind hkind fun env he s1 x => ?_;subst he;refine ⟨lim.keeps x.toInCall.keep, codeAny_func ?_⟩;obtain ⟨t, ht, hq⟩ := hbody A outer s H vs Q (hr.deeper _) hsp;have I0 : Inv (cxOf CX0 P w K mg base N qual scope f cdv { A with handled := none } outer s H E0) [] (start N vs) H s1 := zeA S rfl ⟨e0.frames, e0.mod, e0.bs, e0.bsz, e0.funs, e0.frf, e0.hok, e0.bare⟩ hl r x;have ok := I0.ok;have I : Inv (zjp P w K mg base N qual scope f cdv A outer s H) [] (start N vs) H s1 :=
  ⟨⟨ok.mod, ok.kind, ok.glob, ok.blt, ok.above, ok.inj, ok.has, ok.cab, (fun z => nomatch z), Around.frames_deeper e0.frames, ok.stk, ok.exf, ok.bs, ok.bsz, ok.noex, ok.exfs, ok.funs, ok.frf⟩, I0.os, I0.bare, I0.base, I0.loc, I0.cell, I0.free, I0.freeC, I0.pin, I0.hok, I0.len⟩
 refine wpAny_mono (ht [] s1 (start N vs) H _ I hq) (fun fl s' hs => ?_) fun e s' hs => hs;have fin : ∀ {σ' : St} {H' : Hp} {v : V} {u : Value}, Inv (zjp P w K mg base N qual scope f cdv A outer s H) [] σ' H' s' -> RelV v u -> Q v H' -> CE outer P w H s Q u s' :=
  fun {σ' H' v u} J rv q => ⟨v, H', J.os, J.bare, J.base, J.hok, rv, q⟩
 cases fl with
 | ret u =>
  obtain ⟨v, σ', H', J, rv, q⟩ := hs;exact fin J rv q
 | next =>
  obtain ⟨σ', H', J, q⟩ := hs;exact fin (v := V.non) (u := Value.none) J rfl q
 | brk =>
  obtain ⟨_, _, _, q⟩ := hs;exact False.elim q
 | cont =>
  obtain ⟨_, _, _, q⟩ := hs;exact False.elim q
theorem Fun.okH {P : Program} {w : World} {K : W.Frag} {mg : Str -> Option Value} {base : Heap} {x qual : Str} {st : Stmt} {f : Addr} {fd : FuncData} {N ps : List Str} {k : Nat} {sp : Sp} (F : Fun K x qual st f fd) (S : zau N ps (zac st)) (len : ∀ vs H Q E, sp vs H Q E -> vs.length = ps.length)
  (hbody : ∀ (cd : Value) (A : Around) (outer : List Env) (s : Shared) (H : Hp) (vs : List V) (Q : VK), RoomH k (A.deeper (envOfC qual (zac st) s.heap.objs.size f cd)) -> sp vs H Q E0 ->
   ∃ t, PSs (zjp P w K mg base N qual (zac st) f cd A outer s H).nox (zai st) t /\ t { nx := fun _ H' => Q .non H', rt := Q } (start N vs) H) : zjo P w K mg base (k + 1) f fd ps sp := by
 obtain ⟨oc, od, kV, doc, pm, an, cdv, ct, osl, rfl, lk, hcd⟩ := F.ex;refine zmF lk hcd S len fun A outer s H vs Q hr hsp => ?_;obtain ⟨t, h, q⟩ := hbody cdv A outer s H vs Q hr hsp;exact ⟨t, h.nox, q⟩
theorem Fun.okX {P : Program} {w : World} {K : W.Frag} {mg : Str -> Option Value} {base : Heap} {x qual : Str} {st : Stmt} {f : Addr} {fd : FuncData} {N ps : List Str} {k : Nat} {sp : Sp} (F : Fun K x qual st f fd) (S : zau N ps (zac st)) (len : ∀ vs H Q E, sp vs H Q E -> vs.length = ps.length)
  (hbody : ∀ (cdv : Value) (A : Around) (outer : List Env) (s : Shared) (H : Hp) (vs : List V) (Q : VK) (E : XK), Room k (A.deeper (envOfC qual (zac st) s.heap.objs.size f cdv)) -> sp vs H Q E ->
   ∃ t, PSs (cxOf (CXX P w) P w K mg base N qual (zac st) f cdv A outer s H E) (zai st) t /\ t { nx := fun _ H' => Q .non H', rt := Q } (start N vs) H) : FnOk P w K mg base (CXX P w) (k + 1) f fd ps sp := by
 obtain ⟨oc, od, kV, doc, pm, an, cdv, ct, osl, rfl, lk, hcd⟩ := F.ex;exact zlV lk hcd S len fun A outer s H vs Q E hr hsp => hbody cdv A outer s H vs Q E hr hsp
section
variable {X : Cx} {k : Nat} {f : Addr} {fd : FuncData} {ps : List Str} {sp : Sp} {dvs : List V} {ds : List Value} {x : Str} {p pos : Pos} {e : Expr} {es : List Expr} {t : TA}
theorem zjq (F : zjo X.prog X.w X.K X.mg X.base k f fd ps sp) (hr : RoomH k X.A) (hg : Gl X x) (hm : X.mg x = some (.ref f)) (hk : W.keepIn X.K (.ref f) = true) (hb : Binds X.K fd ps ds) (hd : Vals dvs ds)
  (ha : PA X (e :: es) t) (hdb : (x == ("__debug__" : Str)) = false := by decide) (he : starEach (e :: es) X.env = (false, eval e X.env) :: starEach es X.env := by rfl) (hpl : (backTo pos (starEach es X.env)).any (·.1) = false := by rfl) :
  PE X (.Call (.Name x p) (e :: es) [] pos) (zkx sp dvs E0 t) := by
 intro Qa s σ H Q I h;refine wpAny_Call_Name_kw (zcx I hg hm ?_ hdb);refine W.callWith_K (h₀ := X.base) I.ok.mod.kin hk (thn (ha pos Qa s σ H _ I h) fun us s1 ⟨vs, H1, I1, r, q⟩ => ⟨I1.kIn, ?_⟩) he hpl;have r2 : Vals (vs ++ dvs) (us ++ ds) := r.append hd;have hl : (us ++ ds).length = ps.length := by rw [<- r2.length]; exact F.len _ _ _ _ q
 refine wpAny_call (codeAny_mono (F.run X.A X.stack s1 H1 ⟨us, []⟩ (us ++ ds) (vs ++ dvs) Q hr I1.env0 (hb s1 us I1.kIn hl) r2 q) fun r s' hq => ?_);cases r with
 | error e => exact False.elim hq
 | ok fl =>
  cases fl with
  | ret u => exact I1.after hq
  | next => exact False.elim hq
  | brk => exact False.elim hq
  | cont => exact False.elim hq
end
structure CNs (K : W.Frag) (N : Addr) : Prop where
 ok : ∃ oc od es ep sl, K.lookup N = some ⟨oc, od, .dict (List.toArray es) ep, sl⟩ /\ (es.all fun e => match e.key with | .str _ _ => true | _ => false) = true
 n1 : W.nsIn K N "__init__" = some none
 n2 : W.nsIn K N "__getattribute__" = some none
 n3 : W.nsIn K N "__getattr__" = some none
 n4 : W.nsIn K N "__class__" = some none
theorem CNs.quiet {K : W.Frag} {h : Heap} {N : Addr} (c : CNs K N) (X : K.In h) : h.Ns N (h.nsMap N) /\ ∀ n ∈ xnames, h.nsMap N n = none := by
 have ok : W.nsOkIn K N = true := by
  obtain ⟨oc, od, es, ep, sl, e, q⟩ := c.ok;unfold W.nsOkIn;rw [e];exact (List.all_toArray (l := es)).trans q
 refine ⟨.of_isNs (W.isNs_of_in X ok), fun n hn => W.nsMap_none_of_in X ok ?_⟩;simp only [xnames, List.mem_cons, List.not_mem_nil, or_false] at hn;rcases hn with rfl | rfl | rfl | rfl
 ·exact c.n1
 ·exact c.n2
 ·exact c.n3
 ·exact c.n4
section
variable {K : W.Frag} {mg : Str -> Option Value} {x nm q nm' q' : Str} {C D N N' : Addr} {bm bs bs' bm' : List Value} {hdct hdct' : Bool} {sn sn' : List Str} {sub sub' : List Value} {ab ab' : Bool} {col col' : Option Bool} {dd dd' : Option Addr} {k0 k1 k2 k3 k5 k0' k1' k2' k3' k5' : Option Value} {newId newId' : String} {b : Bool}
theorem zog (m : mg x = some (.ref C)) (l : K.lookup C = some (excClassObj nm q C N bs bm hdct sn sub ab col dd k0 k1 k2 k3 k5 newId)) (c : CNs K N) : XCls K mg x C [] bm newId :=
 ⟨m, fun h X => ⟨N, nm, q, bs, hdct, sn, sub, ab, col, dd, k0, k1, k2, k3, k5, _, X _ _ l, (c.quiet X).1, (c.quiet X).2, .base⟩⟩
theorem zgE (m : mg x = some (.ref C)) (l : K.lookup C = some (excClassObj nm q C N bs (.ref D :: bm) hdct sn sub ab col dd k0 k1 k2 k3 k5 newId)) (c : CNs K N)
  (l' : K.lookup D = some (excClassObj nm' q' D N' bs' bm hdct' sn' sub' ab' col' dd' k0' k1' k2' k3' k5' newId')) (c' : CNs K N') : XCls K mg x C [D] bm newId :=
 ⟨m, fun h X => ⟨N, nm, q, bs, hdct, sn, sub, ab, col, dd, k0, k1, k2, k3, k5, _, X _ _ l, (c.quiet X).1, (c.quiet X).2, .own (X _ _ l') (c'.quiet X).1 (c'.quiet X).2 .base⟩⟩
theorem zcz (l : K.lookup C = some (excClassObj nm q C N bs bm hdct sn sub ab col dd k0 k1 k2 k3 k5 newId)) (l' : K.lookup D = some (excClassObj nm' q' D N' bs' bm' hdct' sn' sub' ab' col' dd' k0' k1' k2' k3' k5' newId'))
  (hb : bm'.contains (.type "BaseException") = true) (e : W.mroIn K C (.ref D) = some b) : SubX K C D b := by
 intro h X;refine ⟨⟨nm, q, N, bs, bm, hdct, sn, sub, ab, col, dd, k0, k1, k2, k3, k5, newId, X _ _ l, ?_⟩, ⟨nm', q', N', bs', bm', hdct', sn', sub', ab', col', dd', k0', k1', k2', k3', k5', newId', X _ _ l', ?_⟩⟩
 ·unfold W.mroIn W.clsIn at e;rw [l] at e;exact Option.some.inj e
 ·rw [List.contains_cons, hb, Bool.or_true]
theorem zca {ch : List Addr} (O : XCls K mg x C ch [.type "ValueError", .type "Exception", .type "BaseException", .type "object"] newId) : zjY K C := ⟨mg, x, ch, _, newId, _, zcX, O⟩
end
abbrev TJ := Str -> St -> Hp -> (Str -> Hp -> Prop) -> Prop
section
variable {X : Cx} {e v : Expr} {es : List Expr} {te : TE} {tr : TJ} {pos : Pos}
end
theorem zhF {y : Str} (h : ∀ c ∈ y.cps.toList, c < 1114112) {n : Nat} (hn : 10 * y.length + 2 <= n) : (PySem.reprText y).length <= n :=
 yat (PySem.StrLaws.reprText_len y fun c hc => Nat.lt_trans (h c hc) δ) hn
section
variable {σ : St} {H : Hp} {Q : VK} {D : Ends} {te : TE} {tr : TJ} {acc y : Str} {i : Int} {R : Str -> Hp -> Prop} {G : Addr -> St -> Hp -> Prop} {sp : Sp} {dvs : List V} {t : TA}
theorem zkH {p : Str -> Prop} : (∃ y', V.str y = V.str y' /\ p y') = p y := propext ⟨fun ⟨_, e, h⟩ => by cases e; exact h, fun h => ⟨y, rfl, h⟩⟩
theorem zkI {p : Str -> Prop} {q : Int -> Prop} : ((∃ y', V.str y = V.str y' /\ p y') \/ ∃ i, V.str y = V.int i /\ q i) = p y := propext ⟨fun h => by rcases h with ⟨_, e, h⟩ | ⟨_, e, _⟩ <;> cases e; exact h, fun h => .inl ⟨y, rfl, h⟩⟩
theorem zkJ {p : Str -> Prop} {q : Int -> Prop} : ((∃ y', V.int i = V.str y' /\ p y') \/ ∃ j, V.int i = V.int j /\ q j) = q i := propext ⟨fun h => by rcases h with ⟨_, e, _⟩ | ⟨_, e, h⟩ <;> cases e; exact h, fun h => .inr ⟨i, rfl, h⟩⟩
theorem zkK : zhD sp dvs G t σ H Q = t σ H fun vs H1 => sp (vs ++ dvs) H1 Q (fun c _ H' => ∃ C, c = .ref C /\ G C σ H') := rfl
theorem zoh {tb : (Addr -> St -> Hp -> Prop) -> TS} {th : Addr -> TS} {te : TS} : tTry tb th te D σ H = ∃ G : Addr -> St -> Hp -> Prop, tb G { D with nx := te D } σ H /\ ∀ C σ' H', G C σ' H' -> th C D σ' H' := rfl
end
abbrev TM := St -> Hp -> (Hp -> Prop) -> Prop
section
variable {X : Cx} {e v : Expr} {es : List Expr} {te : TE} {tp tr : TM} {pos : Pos}
end
section
variable {σ : St} {H : Hp} {Q : VK} {te : TE} {tp tr tm : TM} {R : Hp -> Prop} {y : Str} {i : Int}
end
section
variable {X : Cx} {G : Addr -> St -> Hp -> Prop} {k : Nat} {f C : Addr} {fd : FuncData} {ps : List Str} {sp : Sp} {dvs : List V} {ds : List Value} {x m : Str} {p pos apos : Pos} {e o : Expr} {es : List Expr} {ta : TE} {t : TA}
end
section
variable {K : W.Frag} {σ : St} {H : Hp} {Q : VK} {D : Ends} {ta tv : TE} {t : TA} {f m : Str} {p C : Addr} {sp : Sp} {dvs : List V} {E : XK} {G : Addr -> St -> Hp -> Prop} {rd : V -> V -> Hp -> VK -> Prop}
end
section
variable {X : Cx} {e : Expr} {es : List Expr} {st : Stmt} {rest : List Stmt} {te : TE} {ta : TA} {t u : TS} {pos : Pos}
end
structure zoC (P : Program) (w : World) (K : W.Frag) (mg : Str -> Option Value) (base : Heap) (CX : CXT) (k : Nat) (f : Addr) (fd : FuncData) (ps : List Str) (sp : Sp) : Prop where
 len : ∀ vs H Q E, sp vs H Q E -> vs.length = ps.length
 run : ∀ (A : Around) (outer : List Env) (s : Shared) (H : Hp) (args : Args) (us : List Value) (vs : List V) (Q : VK) (E : XK), 1 <= s.toks -> Room k A -> Env0 P w K mg base A outer s H -> BindsTo s fd args (ps.zip us) -> Vals vs us -> sp vs H Q E ->
  codeAny (model P w) A (.call (.ref f) args) (CR CX outer P w H s Q E) s
section
variable {X : Cx} {CX : CXT} {k : Nat} {f C : Addr} {fd : FuncData} {ps : List Str} {sp : Sp} {dvs : List V} {ds : List Value} {E : XK} {x : Str} {p pos : Pos} {e : Expr} {es : List Expr} {t : TA}
end
section
variable {X : Cx} {CX : CXT} {k : Nat} {f C : Addr} {fd : FuncData} {ps : List Str} {sp : Sp} {dvs : List V} {ds : List Value} {E : XK} {x : Str} {p pos : Pos} {e : Expr} {es : List Expr} {te : TE} {t : TA} {tt u : TS} {st : Stmt} {rest : List Stmt}
end
theorem zbL (c : Nat) (p : Str) : ∀ {r : List Str}, r ≠ [] -> (Str.join ⟨#[c]⟩ (p :: r)).cps.toList = p.cps.toList ++ c :: (Str.join ⟨#[c]⟩ r).cps.toList
 | [], h => absurd rfl h
 | q :: r, _ => by
  show (p ++ ⟨#[c]⟩ ++ Str.join ⟨#[c]⟩ (q :: r)).cps.toList = _;simp [Str.cps_append]
theorem zbp {a b : Str} (h : a.cps.toList = b.cps.toList) : a = b := by
 obtain ⟨⟨a⟩⟩ := a;obtain ⟨⟨b⟩⟩ := b;simp at h;rw [h]
theorem zga (x y : Str) : Txt.split x y ≠ [] := by
 unfold Txt.split
 split
 ·simp
 ·split
  ·simp
  ·intro h;have := congrArg List.length h;rw [length_partsBetween] at this;simp at this
def zcR (acc : List Nat) : List (List Nat) := if acc = [] then [] else [acc]
def wd (acc : List Nat) : List Nat -> List (List Nat)
 | [] => zcR acc
 | c :: r => if c = 32 then zcR acc ++ wd [] r else wd (acc ++ [c]) r
theorem zf0 : ∀ (p acc r : List Nat), 32 ∉ p -> wd acc (p ++ r) = wd (acc ++ p) r
 | [], acc, r, _ => by simp
 | c :: p, acc, r, h => by
  have h1 : c ≠ 32 := fun e => h (e ▸ List.mem_cons_self ..);have h2 : 32 ∉ p := fun m => h (List.mem_cons_of_mem _ m);show (if c = 32 then _ else wd (acc ++ [c]) (p ++ r)) = _;rw [if_neg h1, zf0 p (acc ++ [c]) r h2];simp
theorem zhG : ∀ {parts : List Str}, parts ≠ [] -> (∀ p ∈ parts, 32 ∉ p.cps.toList) -> wd [] (Str.join " " parts).cps.toList = (parts.filter fun r : Str => !decide (r = "")).map fun r => r.cps.toList
 | [], h, _ => absurd rfl h
 | [p], _, h => by
  have e := zf0 p.cps.toList [] [] (h p (yah.mpr rfl));rw [List.append_nil, List.nil_append] at e;show wd [] p.cps.toList = _;rw [e]
  by_cases hz : p = ""
  ·subst hz; rfl
  ·have : p.cps.toList ≠ [] := fun e => hz (zbp e);simp [wd, zcR, this, hz]
 | p :: q :: r, _, h => by
  have ih := zhG (parts := q :: r) ς fun a ha => h a (List.mem_cons_of_mem _ ha);have e : (Str.join " " (p :: q :: r)).cps.toList = p.cps.toList ++ 32 :: (Str.join " " (q :: r)).cps.toList := zbL 32 p ς;rw [e, zf0 _ _ _ (h p (List.mem_cons_self ..)), List.nil_append];show (if (32 : Nat) = 32 then zcR p.cps.toList ++ wd [] _ else _) = _;rw [if_pos rfl, ih]
  by_cases hz : p = ""
  ·subst hz; rfl
  ·have : p.cps.toList ≠ [] := fun e => hz (zbp e);rw [List.filter_cons_of_pos (a := p) (l := q :: r) (by simp [hz]), List.map_cons];unfold zcR;rw [if_neg this]
   rfl
def sgn (c : Nat) : Prop := c = 40 \/ c = 41 \/ c = 44
instance (c : Nat) : Decidable (sgn c) := by unfold sgn; infer_instance
inductive Dt where
 | int (i : Int) | str (x : Str) | non | tup (l : List Dt) | lst (l : List Dt)
mutual
def Dt.beq : Dt -> Dt -> Bool
 | .int i, .int j => i == j
 | .str x, .str y => decide (x = y)
 | .non, .non => true
 | .tup l, .tup m => Dt.beqs l m
 | .lst l, .lst m => Dt.beqs l m
 | _, _ => false
def Dt.beqs : List Dt -> List Dt -> Bool
 | [], [] => true
 | a :: l, b :: m => Dt.beq a b && Dt.beqs l m
 | _, _ => false
end
mutual
theorem Dt.beq_iff : ∀ a b : Dt, Dt.beq a b = true ↔ a = b
 | .int i, b => by cases b <;> simp [Dt.beq]
 | .str x, b => by cases b <;> simp [Dt.beq]
 | .non, b => by cases b <;> simp [Dt.beq]
 | .tup l, b => by cases b with
  | tup m => simp only [Dt.beq, Dt.tup.injEq]; exact Dt.beqs_iff l m
  | _ => simp [Dt.beq]
 | .lst l, b => by cases b with
  | lst m => simp only [Dt.beq, Dt.lst.injEq]; exact Dt.beqs_iff l m
  | _ => simp [Dt.beq]
theorem Dt.beqs_iff : ∀ l m : List Dt, Dt.beqs l m = true ↔ l = m
 | [], m => by cases m <;> simp [Dt.beqs]
 | a :: l, m => by cases m with
  | nil => simp [Dt.beqs]
  | cons b m => simp only [Dt.beqs, Bool.and_eq_true, List.cons.injEq]; rw [Dt.beq_iff a b, Dt.beqs_iff l m]
end
instance : DecidableEq Dt := fun a b => if h : Dt.beq a b = true then isTrue ((Dt.beq_iff a b).mp h) else isFalse fun e => h ((Dt.beq_iff a b).mpr e)
theorem Dt.beq_dec (a b : Dt) : Dt.beq a b = decide (a = b) := by
 by_cases h : a = b
 ·rw [ya9 h]; exact (Dt.beq_iff a b).mpr h
 ·rw [ya8 h]; exact Bool.eq_false_iff.mpr fun e => h ((Dt.beq_iff a b).mp e)
theorem Dt.beqs_all : ∀ (l m : List Dt) (e : Nat -> Bool), (∀ (j : Nat) a b, l[j]? = some a -> m[j]? = some b -> e j = Dt.beq a b) -> ((List.range (min l.length m.length)).all e && l.length == m.length) = Dt.beqs l m
 | [], [], e, _ => by simp [Dt.beqs]
 | [], b :: m, e, _ => by simp [Dt.beqs]
 | a :: l, [], e, _ => by simp [Dt.beqs]
 | a :: l, b :: m, e, h => by
  have ih := Dt.beqs_all l m (fun j => e (j + 1)) fun j x y h1 h2 => h (j + 1) x y (by simpa using h1) (by simpa using h2);have h0 := h 0 a b rfl rfl;simp only [Dt.beqs];rw [<- ih, <- h0];simp only [List.length_cons];rw [show min (l.length + 1) (m.length + 1) = min l.length m.length + 1 by omega, List.range_succ_eq_map];simp only [List.all_cons, List.all_map];have : ((l.length + 1 == m.length + 1) : Bool) = (l.length == m.length) := by simp
  rw [this, Bool.and_assoc]
  rfl
mutual
def Dt.dep : Dt -> Nat
 | .tup l => Dt.deps l + 1
 | .lst l => Dt.deps l + 1
 | _ => 0
def Dt.deps : List Dt -> Nat
 | [] => 0
 | a :: l => max (Dt.dep a) (Dt.deps l)
end
theorem Dt.dep_mem : ∀ {l : List Dt} {j : Nat} {a : Dt}, l[j]? = some a -> Dt.dep a <= Dt.deps l
 | [], j, a, h => by simp at h
 | b :: l, 0, a, h => by simp at h; subst h; simp only [Dt.deps]; omega
 | b :: l, j + 1, a, h => by have := Dt.dep_mem (l := l) (j := j) (a := a) (by simpa using h); simp only [Dt.deps]; omega
inductive RepD (K : W.Frag) (H : Hp) : Dt -> V -> Prop
 | int (i : Int) : RepD K H (.int i) (.int i)
 | str (x : Str) : RepD K H (.str x) (.str x)
 | non : RepD K H .non .non
 | tup {a : Addr} {xs : List V} {l : List Dt} (h : SqT K H a xs) (hl : l.length = xs.length) (hr : ∀ (j : Nat) d x, l[j]? = some d -> xs[j]? = some x -> RepD K H d x) : RepD K H (.tup l) (.ref a)
 | lst {a : Addr} {xs : List V} {l : List Dt} (h : SqL K H a xs) (hl : l.length = xs.length) (hr : ∀ (j : Nat) d x, l[j]? = some d -> xs[j]? = some x -> RepD K H d x) : RepD K H (.lst l) (.ref a)
theorem isL {X : Cx} {Qa : ZP} {σ : St} {H : Hp} {s : Shared} {a : Addr} {xs : List V} (I : Inv X Qa σ H s) (h : SqL X.K H a xs) : ∃ its : List Value, Vals xs its /\ s.heap.IsList a its.toArray := by
 obtain ⟨its, r, p, _⟩ := I.list h;exact ⟨its, r, p.isList⟩
theorem isT {X : Cx} {Qa : ZP} {σ : St} {H : Hp} {s : Shared} {a : Addr} {xs : List V} (I : Inv X Qa σ H s) (h : SqT X.K H a xs) : ∃ its : List Value, Vals xs its /\ s.heap.IsTuple a its.toArray := by
 obtain ⟨its, r, p, _⟩ := I.tuple h;exact ⟨its, r, p⟩
section
variable {X : Cx} {Qa : ZP} {σ : St} {H : Hp} {s : Shared}
theorem RepD.inj (I : Inv X Qa σ H s) {d : Dt} {x : V} (h : RepD X.K H d x) : ∀ {d' : Dt}, RepD X.K H d' x -> d = d' := by
 induction h with
 | int i => intro d' h; cases h; rfl
 | str x => intro d' h; cases h; rfl
 | non => intro d' h; cases h; rfl
 | @tup a xs l h hl hr ih =>
  intro d' h';cases h' with
  | @tup _ xs' l' h' hl' hr' =>
   obtain rfl := I.tuple_inj h h'
   congr 1
   apply List.ext_getElem?;intro j
   by_cases hj : j < l.length
   ·have e1 : l[j]? = some l[j] := by simp [hj]
    have e2 : xs[j]? = some xs[j] := by simp
    have hj' : j < l'.length := by omega
    have e3 : l'[j]? = some l'[j] := by simp [hj']
    rw [e1, e3, ih j _ _ e1 e2 (hr' j _ _ e3 e2)]
   ·rw [List.getElem?_eq_none ω, List.getElem?_eq_none ω]
  | @lst _ xs' l' h' hl' hr' =>
   obtain ⟨_, _, p⟩ := isT I h;obtain ⟨_, _, q⟩ := isL I h';exact absurd rfl (SeqAt.ne_of_list_tuple q p)
 | @lst a xs l h hl hr ih =>
  intro d' h';cases h' with
  | @lst _ xs' l' h' hl' hr' =>
   obtain rfl := I.list_inj h h'
   congr 1
   apply List.ext_getElem?;intro j
   by_cases hj : j < l.length
   ·have e1 : l[j]? = some l[j] := by simp [hj]
    have e2 : xs[j]? = some xs[j] := by simp
    have hj' : j < l'.length := by omega
    have e3 : l'[j]? = some l'[j] := by simp [hj']
    rw [e1, e3, ih j _ _ e1 e2 (hr' j _ _ e3 e2)]
   ·rw [List.getElem?_eq_none ω, List.getElem?_eq_none ω]
  | @tup _ xs' l' h' hl' hr' =>
   obtain ⟨_, _, p⟩ := isL I h;obtain ⟨_, _, q⟩ := isT I h';exact absurd rfl (SeqAt.ne_of_list_tuple p q)
theorem RepD.at (I : Inv X Qa σ H s) {d : Dt} {x : V} (h : RepD X.K H d x) : ∀ {d' : Dt} {y : V}, RepD X.K H d' y -> ∀ {A : Around} {u v : Value}, A.units + Dt.dep d < cLine -> RelV x u -> RelV y v ->
  SeqAt.RcAt A s u v (Dt.beq d d') /\ SeqAt.EqAt A s u v (Dt.beq d d') := by
 induction h with
 | int i =>
  intro d' y h' A u v hu ru rv;obtain ⟨t, rfl⟩ := ru;cases h' with
  | int j => obtain ⟨t', rfl⟩ := rv; exact ⟨SeqAt.RcAt.int_int _ _ _ _, SeqAt.EqAt.int_int _ _ _ _⟩
  | str z => obtain ⟨t', rfl⟩ := rv; exact ⟨SeqAt.RcAt.int_str _ _ _ _, SeqAt.EqAt.int_str _ _ _ _⟩
  | non => cases rv; exact ⟨SeqAt.RcAt.int_none _ _, SeqAt.EqAt.int_none _ _⟩
  | tup h => cases rv; obtain ⟨_, _, p⟩ := isT I h; exact ⟨SeqAt.RcAt.int_tuple _ _ p ω, SeqAt.EqAt.int_tuple _ _ p ω⟩
  | lst h => cases rv; obtain ⟨_, _, p⟩ := isL I h; exact ⟨SeqAt.RcAt.int_list _ _ p ω, SeqAt.EqAt.int_list _ _ p ω⟩
 | str z =>
  intro d' y h' A u v hu ru rv;obtain ⟨t, rfl⟩ := ru;cases h' with
  | int j => obtain ⟨t', rfl⟩ := rv; exact ⟨SeqAt.RcAt.str_int _ _ _ _, SeqAt.EqAt.str_int _ _ _ _⟩
  | str z' =>
   obtain ⟨t', rfl⟩ := rv;have e : (z == z') = Dt.beq (.str z) (.str z') := by simp only [Dt.beq]; rw [Bool.beq_eq_decide_eq]
   rw [<- e]; exact ⟨SeqAt.RcAt.str_str _ _ _ _, SeqAt.EqAt.str_str _ _ _ _⟩
  | non => cases rv; exact ⟨SeqAt.RcAt.str_none _ _, SeqAt.EqAt.str_none _ _⟩
  | tup h => cases rv; obtain ⟨_, _, p⟩ := isT I h; exact ⟨SeqAt.RcAt.str_tuple _ _ p ω, SeqAt.EqAt.str_tuple _ _ p ω⟩
  | lst h => cases rv; obtain ⟨_, _, p⟩ := isL I h; exact ⟨SeqAt.RcAt.str_list _ _ p ω, SeqAt.EqAt.str_list _ _ p ω⟩
 | non =>
  intro d' y h' A u v hu ru rv;cases ru;cases h' with
  | int j => obtain ⟨t', rfl⟩ := rv; exact ⟨SeqAt.RcAt.none_int _ _, SeqAt.EqAt.none_int _ _⟩
  | str z' => obtain ⟨t', rfl⟩ := rv; exact ⟨SeqAt.RcAt.none_str _ _, SeqAt.EqAt.none_str _ _⟩
  | non => cases rv; exact ⟨SeqAt.RcAt.none_none, SeqAt.EqAt.same _⟩
  | tup h => cases rv; obtain ⟨_, _, p⟩ := isT I h; exact ⟨SeqAt.RcAt.none_tuple p ω, SeqAt.EqAt.none_tuple p ω⟩
  | lst h => cases rv; obtain ⟨_, _, p⟩ := isL I h; exact ⟨SeqAt.RcAt.none_list p ω, SeqAt.EqAt.none_list p ω⟩
 | @tup a xs l h hl hr ih =>
  intro d' y h' A u v hu ru rv;have h0 := h';cases ru;obtain ⟨its, r1, p1⟩ := isT I h;cases h' with
  | int j => obtain ⟨t', rfl⟩ := rv; exact ⟨SeqAt.RcAt.tuple_int _ _ p1 ω, SeqAt.EqAt.tuple_int _ _ p1 ω⟩
  | str z' => obtain ⟨t', rfl⟩ := rv; exact ⟨SeqAt.RcAt.tuple_str _ _ p1 ω, SeqAt.EqAt.tuple_str _ _ p1 ω⟩
  | non => cases rv; exact ⟨SeqAt.RcAt.tuple_none p1 ω, SeqAt.EqAt.tuple_none p1 ω⟩
  | lst h2 => cases rv; obtain ⟨_, _, p2⟩ := isL I h2; exact ⟨SeqAt.RcAt.tuple_list p1 p2 ω, SeqAt.EqAt.tuple_list p1 p2 ω⟩
  | @tup b ys m h2 hl2 hr2 =>
   cases rv;obtain ⟨its2, r2, p2⟩ := isT I h2;have l1 : its.toArray.size = xs.length := by rw [yad]; exact r1.length.symm
   have l2 : its2.toArray.size = ys.length := by rw [yad]; exact r2.length.symm
   have rc : SeqAt.RcAt A s (.ref a) (.ref b) (Dt.beq (.tup l) (.tup m)) := by
    have hd : Dt.dep (.tup l) = Dt.deps l + 1 := by simp only [Dt.dep]
    rw [hd] at hu;have := SeqAt.RcAt.tuples (A := A) (e := fun j => match l[j]?, m[j]? with | some x, some y => Dt.beq x y | _, _ => true) p1 p2 ω (fun j h1 h2 => by
     obtain ⟨x, ex, rx⟩ := getD_some r1 h1;obtain ⟨y, ey, ry⟩ := getD_some r2 h2;have j1 : j < l.length := by omega
     have j2 : j < m.length := by omega
     have e1 : l[j]? = some l[j] := by simp [j1]
     have e2 : m[j]? = some m[j] := by simp [j2]
     rw [e1, e2];exact (ih j _ _ e1 ex (hr2 j _ _ e2 ey) (A := A.in1) (by show A.units + 1 + _ < cLine; have := Dt.dep_mem e1; omega) rx ry).2)
    rw [l1, l2, <- hl, <- hl2, Dt.beqs_all l m _ (fun j x y h1 h2 => by simp only [h1, h2])] at this;simp only [Dt.beq];exact this
   refine ⟨rc, ?_⟩
   by_cases hab : a = b
   ·subst hab;rw [(Dt.beq_iff _ _).mpr ((RepD.tup h hl hr).inj I h0)];exact SeqAt.EqAt.same _
   ·exact SeqAt.EqAt.of_refs hab rc
 | @lst a xs l h hl hr ih =>
  intro d' y h' A u v hu ru rv;have h0 := h';cases ru;obtain ⟨its, r1, p1⟩ := isL I h;cases h' with
  | int j => obtain ⟨t', rfl⟩ := rv; exact ⟨SeqAt.RcAt.list_int _ _ p1 ω, SeqAt.EqAt.list_int _ _ p1 ω⟩
  | str z' => obtain ⟨t', rfl⟩ := rv; exact ⟨SeqAt.RcAt.list_str _ _ p1 ω, SeqAt.EqAt.list_str _ _ p1 ω⟩
  | non => cases rv; exact ⟨SeqAt.RcAt.list_none p1 ω, SeqAt.EqAt.list_none p1 ω⟩
  | tup h2 => cases rv; obtain ⟨_, _, p2⟩ := isT I h2; exact ⟨SeqAt.RcAt.list_tuple p1 p2 ω, SeqAt.EqAt.list_tuple p1 p2 ω⟩
  | @lst b ys m h2 hl2 hr2 =>
   cases rv;obtain ⟨its2, r2, p2⟩ := isL I h2;have l1 : its.toArray.size = xs.length := by rw [yad]; exact r1.length.symm
   have l2 : its2.toArray.size = ys.length := by rw [yad]; exact r2.length.symm
   have rc : SeqAt.RcAt A s (.ref a) (.ref b) (Dt.beq (.lst l) (.lst m)) := by
    have hd : Dt.dep (.lst l) = Dt.deps l + 1 := by simp only [Dt.dep]
    rw [hd] at hu;simp only [Dt.beq]
    by_cases Qe : l.length = m.length
    ·have := SeqAt.RcAt.lists (A := A) (e := fun j => match l[j]?, m[j]? with | some x, some y => Dt.beq x y | _, _ => true) p1 p2 ω ω (fun j h1 h2 => by
      obtain ⟨x, ex, rx⟩ := getD_some r1 h1;obtain ⟨y, ey, ry⟩ := getD_some r2 h2;have j1 : j < l.length := by omega
      have j2 : j < m.length := by omega
      have e1 : l[j]? = some l[j] := by simp [j1]
      have e2 : m[j]? = some m[j] := by simp [j2]
      rw [e1, e2];exact (ih j _ _ e1 ex (hr2 j _ _ e2 ey) (A := A.in1) (by show A.units + 1 + _ < cLine; have := Dt.dep_mem e1; omega) rx ry).2)
     have q := Dt.beqs_all l m (fun j => match l[j]?, m[j]? with | some x, some y => Dt.beq x y | _, _ => true) (fun j x y h1 h2 => by simp only [h1, h2]);rw [<- q];have q1 : (l.length == m.length) = true := by simpa using Qe
     have q2 : min l.length m.length = its.toArray.size := by omega
     rw [q1, Bool.and_true, q2];exact this
    ·have q : Dt.beqs l m = false := Bool.eq_false_iff.mpr fun e => Qe (congrArg List.length ((Dt.beqs_iff l m).mp e));rw [q];exact SeqAt.RcAt.lists_lengths p1 p2 (by rw [l1, l2]; simp; omega) ω
   refine ⟨rc, ?_⟩
   by_cases hab : a = b
   ·subst hab;rw [(Dt.beq_iff _ _).mpr ((RepD.lst h hl hr).inj I h0)];exact SeqAt.EqAt.same _
   ·exact SeqAt.EqAt.of_refs hab rc
theorem RepD.ne (I : Inv X Qa σ H s) {d d' : Dt} {x y : V} (h : RepD X.K H d x) (h' : RepD X.K H d' y) {A : Around} {u v : Value} (hu : A.units + Dt.dep d < cLine) (ru : RelV x u) (rv : RelV y v) :
  SeqAt.RcNeAt A s u v (!Dt.beq d d') := by
 cases h with
 | int i =>
  obtain ⟨t, rfl⟩ := ru;cases h' with
  | int j => obtain ⟨t', rfl⟩ := rv; exact SeqAt.RcNeAt.int_int _ _ _ _
  | str z => obtain ⟨t', rfl⟩ := rv; exact SeqAt.RcNeAt.int_str _ _ _ _
  | non => cases rv; exact SeqAt.RcNeAt.int_none _ _
  | tup h => cases rv; obtain ⟨_, _, p⟩ := isT I h; exact SeqAt.RcNeAt.int_tuple _ _ p ω
  | lst h => cases rv; obtain ⟨_, _, p⟩ := isL I h; exact SeqAt.RcNeAt.int_list _ _ p ω
 | str z =>
  obtain ⟨t, rfl⟩ := ru;cases h' with
  | int j => obtain ⟨t', rfl⟩ := rv; exact SeqAt.RcNeAt.str_int _ _ _ _
  | str z' =>
   obtain ⟨t', rfl⟩ := rv;have e : (z == z') = Dt.beq (.str z) (.str z') := by simp only [Dt.beq]; rw [Bool.beq_eq_decide_eq]
   rw [<- e]; exact SeqAt.RcNeAt.str_str _ _ _ _
  | non => cases rv; exact SeqAt.RcNeAt.str_none _ _
  | tup h => cases rv; obtain ⟨_, _, p⟩ := isT I h; exact SeqAt.RcNeAt.str_tuple _ _ p ω
  | lst h => cases rv; obtain ⟨_, _, p⟩ := isL I h; exact SeqAt.RcNeAt.str_list _ _ p ω
 | non =>
  cases ru;cases h' with
  | int j => obtain ⟨t', rfl⟩ := rv; exact SeqAt.RcNeAt.none_int _ _
  | str z' => obtain ⟨t', rfl⟩ := rv; exact SeqAt.RcNeAt.none_str _ _
  | non => cases rv; exact SeqAt.RcNeAt.none_none
  | tup h => cases rv; obtain ⟨_, _, p⟩ := isT I h; exact SeqAt.RcNeAt.none_tuple p ω
  | lst h => cases rv; obtain ⟨_, _, p⟩ := isL I h; exact SeqAt.RcNeAt.none_list p ω
 | @tup a xs l h hl hr =>
  cases ru;obtain ⟨its, r1, p1⟩ := isT I h;cases h' with
  | int j => obtain ⟨t', rfl⟩ := rv; exact SeqAt.RcNeAt.tuple_int _ _ p1 ω
  | str z' => obtain ⟨t', rfl⟩ := rv; exact SeqAt.RcNeAt.tuple_str _ _ p1 ω
  | non => cases rv; exact SeqAt.RcNeAt.tuple_none p1 ω
  | lst h2 => cases rv; obtain ⟨_, _, p2⟩ := isL I h2; exact SeqAt.RcNeAt.tuple_list p1 p2 ω
  | @tup b ys m h2 hl2 hr2 =>
   cases rv;obtain ⟨its2, r2, p2⟩ := isT I h2;have l1 : its.toArray.size = xs.length := by rw [yad]; exact r1.length.symm
   have l2 : its2.toArray.size = ys.length := by rw [yad]; exact r2.length.symm
   have hd : Dt.dep (.tup l) = Dt.deps l + 1 := by simp only [Dt.dep]
   rw [hd] at hu;have := SeqAt.RcNeAt.tuples (A := A) (e := fun j => match l[j]?, m[j]? with | some x, some y => Dt.beq x y | _, _ => true) p1 p2 ω (fun j h1 h2 => by
    obtain ⟨x, ex, rx⟩ := getD_some r1 h1;obtain ⟨y, ey, ry⟩ := getD_some r2 h2;have j1 : j < l.length := by omega
    have j2 : j < m.length := by omega
    have e1 : l[j]? = some l[j] := by simp [j1]
    have e2 : m[j]? = some m[j] := by simp [j2]
    rw [e1, e2];exact (RepD.at I (hr j _ _ e1 ex) (hr2 j _ _ e2 ey) (A := A.in1) (by show A.units + 1 + _ < cLine; have := Dt.dep_mem e1; omega) rx ry).2)
   rw [l1, l2, <- hl, <- hl2, Dt.beqs_all l m _ (fun j x y h1 h2 => by simp only [h1, h2])] at this;simp only [Dt.beq];exact this
 | @lst a xs l h hl hr =>
  cases ru;obtain ⟨its, r1, p1⟩ := isL I h;cases h' with
  | int j => obtain ⟨t', rfl⟩ := rv; exact SeqAt.RcNeAt.list_int _ _ p1 ω
  | str z' => obtain ⟨t', rfl⟩ := rv; exact SeqAt.RcNeAt.list_str _ _ p1 ω
  | non => cases rv; exact SeqAt.RcNeAt.list_none p1 ω
  | tup h2 => cases rv; obtain ⟨_, _, p2⟩ := isT I h2; exact SeqAt.RcNeAt.list_tuple p1 p2 ω
  | @lst b ys m h2 hl2 hr2 =>
   cases rv;obtain ⟨its2, r2, p2⟩ := isL I h2;have l1 : its.toArray.size = xs.length := by rw [yad]; exact r1.length.symm
   have l2 : its2.toArray.size = ys.length := by rw [yad]; exact r2.length.symm
   have hd : Dt.dep (.lst l) = Dt.deps l + 1 := by simp only [Dt.dep]
   rw [hd] at hu;simp only [Dt.beq]
   by_cases Qe : l.length = m.length
   ·have := SeqAt.RcNeAt.lists (A := A) (e := fun j => match l[j]?, m[j]? with | some x, some y => Dt.beq x y | _, _ => true) p1 p2 ω ω (fun j h1 h2 => by
     obtain ⟨x, ex, rx⟩ := getD_some r1 h1;obtain ⟨y, ey, ry⟩ := getD_some r2 h2;have j1 : j < l.length := by omega
     have j2 : j < m.length := by omega
     have e1 : l[j]? = some l[j] := by simp [j1]
     have e2 : m[j]? = some m[j] := by simp [j2]
     rw [e1, e2];exact (RepD.at I (hr j _ _ e1 ex) (hr2 j _ _ e2 ey) (A := A.in1) (by show A.units + 1 + _ < cLine; have := Dt.dep_mem e1; omega) rx ry).2)
    have q := Dt.beqs_all l m (fun j => match l[j]?, m[j]? with | some x, some y => Dt.beq x y | _, _ => true) (fun j x y h1 h2 => by simp only [h1, h2]);rw [<- q];have q1 : (l.length == m.length) = true := by simpa using Qe
    have q2 : min l.length m.length = its.toArray.size := by omega
    rw [q1, Bool.and_true, q2];exact this
   ·have q : Dt.beqs l m = false := Bool.eq_false_iff.mpr fun e => Qe (congrArg List.length ((Dt.beqs_iff l m).mp e));rw [q];exact SeqAt.RcNeAt.lists_lengths p1 p2 (by rw [l1, l2]; simp; omega) ω
theorem RepD.mem (I : Inv X Qa σ H s) {d : Dt} {x : V} {l : List Dt} {xs : List V} {its : List Value} (hx : RepD X.K H d x) (hl : l.length = xs.length) (hr : ∀ (j : Nat) d x, l[j]? = some d -> xs[j]? = some x -> RepD X.K H d x)
  (r : Vals xs its) {A : Around} {v : Value} (hu : ∀ a ∈ l, A.units + Dt.dep a < cLine) (rv : RelV x v) :
  ∃ e : Value -> Bool, (∀ u ∈ its, SeqAt.EqAt A s u v (e u)) /\ its.any e = decide (d ∈ l) := by
 classical
 have item : ∀ u ∈ its, ∃ (j : Nat) (y : V) (a : Dt), its[j]? = some u /\ xs[j]? = some y /\ l[j]? = some a /\ RelV y u := fun u hm => by
  obtain ⟨j, hj, e⟩ := List.getElem_of_mem hm;have hx' : j < xs.length := by rw [r.length]; exact hj
  have hl' : j < l.length := by omega
  obtain ⟨u', e', ru⟩ := r.get (i := j) (x := xs[j]) (by simp [hx']);have : its[j]? = some u := by simp [hj, e]
  rw [this] at e'; cases e';exact ⟨j, xs[j], l[j], this, by simp [hx'], by simp [hl'], ru⟩
 refine ⟨fun u => decide (∃ y, RelV y u /\ RepD X.K H d y), fun u hm => ?_, ?_⟩
 ·obtain ⟨j, y, a, _, hy, ha, ru⟩ := item u hm;have ry := hr j a y ha hy;have e : decide (∃ y, RelV y u /\ RepD X.K H d y) = Dt.beq a d := by
   rw [Dt.beq_dec]
   congr 1
   refine propext ⟨fun ⟨y', r1, r2⟩ => ?_, fun z => ⟨y, ru, z ▸ ry⟩⟩;obtain rfl := ru.inj r1;exact ry.inj I r2
  show SeqAt.EqAt A s u v (decide (∃ y, RelV y u /\ RepD X.K H d y));rw [e];exact (ry.at I hx (hu a (ya1 ha)) ru rv).2
 ·apply Bool.eq_iff_iff.mpr;simp only [List.any_eq_true, decide_eq_true_eq]
  constructor
  ·rintro ⟨u, hm, y', r1, r2⟩
   obtain ⟨j, y, a, _, hy, ha, ru⟩ := item u hm;obtain rfl := ru.inj r1;have := (hr j a y ha hy).inj I r2;subst this;exact ya1 ha
  ·intro hm;obtain ⟨j, hj, e⟩ := List.getElem_of_mem hm;have hx' : j < xs.length := by omega
   obtain ⟨u, hu', ru⟩ := r.get (i := j) (x := xs[j]) (by simp [hx']);exact ⟨u, ya1 hu', xs[j], ru, e ▸ hr j l[j] xs[j] (by simp [hj]) (by simp [hx'])⟩
end
section
variable {X : Cx} {K : W.Frag} {H : Hp} {Q : VK}
def rEqT (K : W.Frag) : R2 := fun x y H Q => ∃ d d', RepD K H d x /\ RepD K H d' y /\ Dt.dep d <= 60 /\ Q (.bl (decide (d = d'))) H
def rNeT (K : W.Frag) : R2 := fun x y H Q => ∃ d d', RepD K H d x /\ RepD K H d' y /\ Dt.dep d <= 60 /\ Q (.bl (!decide (d = d'))) H
theorem zmG (hu : X.A.units + 64 < cLine) : OpR X (compareOp .Eq) (rEqT X.K) := by
 intro Qa s σ H x y v u Q I rx ry ⟨d, d', h, h', hd, q⟩;exact (h.at I h' (A := X.A) ω rx ry).1 X.prog X.w X.xe _ ⟨.bl _, H, I, rfl, by rw [Dt.beq_dec]; exact q⟩
theorem zmH (hu : X.A.units + 64 < cLine) : OpR X (compareOp .NotEq) (rNeT X.K) := by
 intro Qa s σ H x y v u Q I rx ry ⟨d, d', h, h', hd, q⟩;exact (h.ne I h' (A := X.A) ω rx ry) X.prog X.w X.xe _ ⟨.bl _, H, I, rfl, by rw [Dt.beq_dec]; exact q⟩
def rInT (K : W.Frag) (neg : Bool) : R2 := fun x y H Q => ∃ d l, RepD K H d x /\ (RepD K H (.tup l) y \/ RepD K H (.lst l) y) /\ Dt.deps l <= 60 /\ Q (.bl (if neg then !decide (d ∈ l) else decide (d ∈ l))) H
theorem Dt.deps_mem {l : List Dt} {a : Dt} (h : a ∈ l) : Dt.dep a <= Dt.deps l := by
 obtain ⟨j, hj, e⟩ := List.getElem_of_mem h;exact Dt.dep_mem (j := j) (by simp [hj, e])
theorem zmI (hu : X.A.units + 64 < cLine) : OpR X (compareOp .In) (rInT X.K false) := by
 intro Qa s σ H x y v u Q I rx ry ⟨d, l, h, h', hd, q⟩;rcases h' with h' | h'
 ·cases h' with
  | @tup a xs _ hq hl hr =>
   cases ry;obtain ⟨its, r, p⟩ := isT I hq;obtain ⟨e, he, ha⟩ := RepD.mem I h hl hr r (A := X.A.in1) (fun a hm => by show X.A.units + 1 + _ < cLine; have := Dt.deps_mem hm; omega) rx;refine SeqAt.in_tupleAt e p (fun w hw => he w (by simpa using hw)) ⟨.bl _, H, I, rfl, ?_⟩;rw [show its.toArray.any e = its.any e by simp, ha];exact q
 ·cases h' with
  | @lst a xs _ hq hl hr =>
   cases ry;obtain ⟨its, r, p⟩ := isL I hq;obtain ⟨e, he, ha⟩ := RepD.mem I h hl hr r (A := X.A.in1) (fun a hm => by show X.A.units + 1 + _ < cLine; have := Dt.deps_mem hm; omega) rx;refine SeqAt.in_listAt e p (fun w hw => he w (by simpa using hw)) ⟨.bl _, H, I, rfl, ?_⟩;rw [show its.toArray.any e = its.any e by simp, ha];exact q
theorem zhH (hu : X.A.units + 64 < cLine) : OpR X (compareOp .NotIn) (rInT X.K true) := by
 intro Qa s σ H x y v u Q I rx ry ⟨d, l, h, h', hd, q⟩;rcases h' with h' | h'
 ·cases h' with
  | @tup a xs _ hq hl hr =>
   cases ry;obtain ⟨its, r, p⟩ := isT I hq;obtain ⟨e, he, ha⟩ := RepD.mem I h hl hr r (A := X.A.in1) (fun a hm => by show X.A.units + 1 + _ < cLine; have := Dt.deps_mem hm; omega) rx;refine SeqAt.notIn_tupleAt e p (fun w hw => he w (by simpa using hw)) ⟨.bl _, H, I, rfl, ?_⟩;rw [show its.toArray.any e = its.any e by simp, ha];exact q
 ·cases h' with
  | @lst a xs _ hq hl hr =>
   cases ry;obtain ⟨its, r, p⟩ := isL I hq;obtain ⟨e, he, ha⟩ := RepD.mem I h hl hr r (A := X.A.in1) (fun a hm => by show X.A.units + 1 + _ < cLine; have := Dt.deps_mem hm; omega) rx;refine SeqAt.notIn_listAt e p (fun w hw => he w (by simpa using hw)) ⟨.bl _, H, I, rfl, ?_⟩;rw [show its.toArray.any e = its.any e by simp, ha];exact q
end
theorem RepD.same {K : W.Frag} {H H' : Hp} (e : Same H H') {d : Dt} {x : V} (h : RepD K H d x) : RepD K H' d x := by
 induction h with
 | int i => exact .int i
 | str x => exact .str x
 | non => exact .non
 | tup h hl hr ih => exact .tup (e.seqT h) hl ih
 | lst h hl hr ih => exact .lst (e.seq h) hl ih
theorem RepD.ints {K : W.Frag} {H : Hp} {a : Addr} {ts : List Int} (h : SqT K H a (ts.map V.int)) : RepD K H (.tup (ts.map Dt.int)) (.ref a) :=
 .tup h ς fun j d x h1 h2 => by
  rw [yav] at h1 h2;cases e : ts[j]? with
  | none => rw [e] at h1; cases h1
  | some t => rw [e] at h1 h2; cases h1; cases h2; exact .int t
theorem RepD.t2 {K : W.Frag} {H : Hp} {a : Addr} {x y : V} {d d2 : Dt} (h : SqT K H a [x, y]) (h1 : RepD K H d x) (h2 : RepD K H d2 y) : RepD K H (.tup [d, d2]) (.ref a) :=
 .tup h rfl fun j d' x' e1 e2 => match j, e1, e2 with
  | 0, e1, e2 => by cases e1; cases e2; exact h1
  | 1, e1, e2 => by cases e1; cases e2; exact h2
theorem RepD.t3 {K : W.Frag} {H : Hp} {a : Addr} {x y z : V} {d d2 d3 : Dt} (h : SqT K H a [x, y, z]) (h1 : RepD K H d x) (h2 : RepD K H d2 y) (h3 : RepD K H d3 z) : RepD K H (.tup [d, d2, d3]) (.ref a) :=
 .tup h rfl fun j d' x' e1 e2 => match j, e1, e2 with
  | 0, e1, e2 => by cases e1; cases e2; exact h1
  | 1, e1, e2 => by cases e1; cases e2; exact h2
  | 2, e1, e2 => by cases e1; cases e2; exact h3
namespace Stm
theorem deps_strs : ∀ ts : List Str, Dt.deps (ts.map Dt.str) = 0
 | [] => rfl
 | t :: r => by simp [Dt.deps, Dt.dep, deps_strs r]
end Stm
section
variable {X : Cx}
def rEqC (K : W.Frag) : R2 := fun x y H Q => rEq x y H Q \/ rEqT K x y H Q
def rNeC (K : W.Frag) : R2 := fun x y H Q => rNe x y H Q \/ rNeT K x y H Q
def rInC (K : W.Frag) (neg : Bool) : R2 := fun x y H Q => rInA K neg x y H Q \/ rInT K neg x y H Q
theorem zdv (K : W.Frag) (hu : X.A.units + 64 < cLine) (hK : X.K = K := by rfl) : OpR X (compareOp .Eq) (rEqC K) := hK ▸ (OpR.or zlQ (zmG hu) : OpR X (compareOp .Eq) (rEqC X.K))
theorem zdw (K : W.Frag) (hu : X.A.units + 64 < cLine) (hK : X.K = K := by rfl) : OpR X (compareOp .NotEq) (rNeC K) := hK ▸ (OpR.or zlR (zmH hu) : OpR X (compareOp .NotEq) (rNeC X.K))
theorem zmJ (K : W.Frag) (hu : X.A.units + 64 < cLine) (hK : X.K = K := by rfl) : OpR X (compareOp .In) (rInC K false) := hK ▸ (OpR.or (zhz X.K) (zmI hu) : OpR X (compareOp .In) (rInC X.K false))
theorem zeO (K : W.Frag) (hu : X.A.units + 64 < cLine) (hK : X.K = K := by rfl) : OpR X (compareOp .NotIn) (rInC K true) := hK ▸ (OpR.or (zci X.K) (zhH hu) : OpR X (compareOp .NotIn) (rInC X.K true))
end
section
variable {K : W.Frag} {H : Hp} {Q : VK} {i j : Int} {x y : Str} {p q : Addr} {u : V} {neg : Bool}
theorem RepD.of_int {d : Dt} (h : RepD K H d (.int i)) : d = .int i := by cases h; rfl
theorem RepD.of_str {d : Dt} (h : RepD K H d (.str x)) : d = .str x := by cases h; rfl
theorem zmK : rEqC K (.int i) (.int j) H Q = Q (.bl (decide (i = j))) H := by
 refine propext ⟨fun h => ?_, fun h => .inl ⟨rfl, by simpa using h⟩⟩;rcases h with ⟨_, h⟩ | ⟨d, d', h1, h2, _, h⟩
 ·simpa using h
 ·rw [h1.of_int, h2.of_int] at h; simpa using h
theorem zmL : rEqC K (.str x) (.str y) H Q = Q (.bl (decide (x = y))) H := by
 refine propext ⟨fun h => ?_, fun h => .inl ⟨rfl, by simpa using h⟩⟩;rcases h with ⟨_, h⟩ | ⟨d, d', h1, h2, _, h⟩
 ·simpa using h
 ·rw [h1.of_str, h2.of_str] at h; simpa using h
theorem zmM : rNeC K (.int i) (.int j) H Q = Q (.bl (!decide (i = j))) H := by
 refine propext ⟨fun h => ?_, fun h => .inl ⟨rfl, by simpa using h⟩⟩;rcases h with ⟨_, h⟩ | ⟨d, d', h1, h2, _, h⟩
 ·simpa using h
 ·rw [h1.of_int, h2.of_int] at h; simpa using h
theorem zmN : rNeC K (.str x) (.str y) H Q = Q (.bl (!decide (x = y))) H := by
 refine propext ⟨fun h => ?_, fun h => .inl ⟨rfl, by simpa using h⟩⟩;rcases h with ⟨_, h⟩ | ⟨d, d', h1, h2, _, h⟩
 ·simpa using h
 ·rw [h1.of_str, h2.of_str] at h; simpa using h
theorem zmO : rEqC K (.ref p) u H Q = ∃ d d', RepD K H d (.ref p) /\ RepD K H d' u /\ Dt.dep d <= 60 /\ Q (.bl (decide (d = d'))) H := by
 refine propext ⟨fun h => ?_, fun h => .inr h⟩;rcases h with ⟨e, _⟩ | h
 ·cases u <;> cases e
 ·exact h
theorem zmP : rEqC K u (.ref p) H Q = ∃ d d', RepD K H d u /\ RepD K H d' (.ref p) /\ Dt.dep d <= 60 /\ Q (.bl (decide (d = d'))) H := by
 refine propext ⟨fun h => ?_, fun h => .inr h⟩;rcases h with ⟨e, _⟩ | h
 ·cases u <;> cases e
 ·exact h
theorem zmQ : rNeC K (.ref p) u H Q = ∃ d d', RepD K H d (.ref p) /\ RepD K H d' u /\ Dt.dep d <= 60 /\ Q (.bl (!decide (d = d'))) H := by
 refine propext ⟨fun h => ?_, fun h => .inr h⟩;rcases h with ⟨e, _⟩ | h
 ·cases u <;> cases e
 ·exact h
theorem zmR : rNeC K u (.ref p) H Q = ∃ d d', RepD K H d u /\ RepD K H d' (.ref p) /\ Dt.dep d <= 60 /\ Q (.bl (!decide (d = d'))) H := by
 refine propext ⟨fun h => ?_, fun h => .inr h⟩;rcases h with ⟨e, _⟩ | h
 ·cases u <;> cases e
 ·exact h
theorem zmS : rInC K false (.str x) (.str y) H Q = Q (.bl (inS x y)) H := by
 refine propext ⟨fun h => ?_, fun h => .inl (.inl ⟨x, y, rfl, rfl, h⟩)⟩;rcases h with (⟨_, _, e1, e2, h⟩ | ⟨_, _, e, _⟩) | ⟨_, _, _, h, _⟩
 ·cases e1; cases e2; exact h
 ·cases e
 ·rcases h with h | h <;> cases h
theorem zhI : rInC K true (.str x) (.str y) H Q = Q (.bl (!inS x y)) H := by
 refine propext ⟨fun h => ?_, fun h => .inl (.inl ⟨x, y, rfl, rfl, h⟩)⟩;rcases h with (⟨_, _, e1, e2, h⟩ | ⟨_, _, e, _⟩) | ⟨_, _, _, h, _⟩
 ·cases e1; cases e2; exact h
 ·cases e
 ·rcases h with h | h <;> cases h
theorem zmT : rInC K neg u (.ref p) H Q = (rIn K neg u (.ref p) H Q \/ rInT K neg u (.ref p) H Q) := by
 refine propext ⟨fun h => ?_, fun h => ?_⟩
 ·rcases h with (⟨_, _, _, e2, _⟩ | h) | h
  ·cases e2
  ·exact .inl h
  ·exact .inr h
 ·rcases h with h | h
  ·exact .inl (.inr h)
  ·exact .inr h
end
section
variable {X : Cx}
def rAny (K : W.Frag) : List V -> Hp -> VK -> Prop := fun xs H Q => ∃ (p : Addr) (bs : List Bool), xs = [.ref p] /\ SqL K H p (bs.map V.bl) /\ Q (.bl (bs.any id)) H
theorem zoi {K : W.Frag} {p : Addr} {H : Hp} {Q : VK} : rAny K [.ref p] H Q = ∃ bs : List Bool, SqL K H p (bs.map V.bl) /\ Q (.bl (bs.any id)) H := by
 refine propext ⟨fun ⟨_, bs, e, h⟩ => ?_, fun ⟨bs, h⟩ => ⟨p, bs, rfl, h⟩⟩;cases e; exact ⟨bs, h⟩
def rSum (K : W.Frag) : List V -> Hp -> VK -> Prop := fun xs H Q => ∃ (p : Addr) (ns : List Int), xs = [.ref p] /\ SqL K H p (ns.map V.int) /\ Q (.int ns.sum) H
theorem zoj {K : W.Frag} {p : Addr} {H : Hp} {Q : VK} : rSum K [.ref p] H Q = ∃ ns : List Int, SqL K H p (ns.map V.int) /\ Q (.int ns.sum) H := by
 refine propext ⟨fun ⟨_, bs, e, h⟩ => ?_, fun ⟨bs, h⟩ => ⟨p, bs, rfl, h⟩⟩;cases e; exact ⟨bs, h⟩
end
section
variable {K : W.Frag} {σ : St} {H : Hp} {Q : VK} {D : Ends} {ta tb tc te : TE} {r r' : R2} {i n : Nat} {ti : TIp} {g : TG} {gs : TGs} {v : V} {vs : List V} {R : St -> Hp -> Prop} {f : Int -> Int -> Int} {a b : Int}
theorem zkL : zjP r r' ta tb tc σ H Q = ta σ H fun x H1 => tb σ H1 fun y H2 => r x y H2 fun z H3 => ∃ k, z = .bl k /\ (if k = true then tc σ H3 fun w' H4 => r' y w' H4 Q else Q (.bl false) H3) := rfl
theorem zok : tAug i te ti D σ H = ∃ x, σ[i]? = some (some x) /\ te σ H fun y H1 => ti x y H1 fun z H2 => D.nx (σ.set i (some z)) H2 := rfl
theorem zol : ipI f (.int a) (.int b) H Q = Q (.int (f a b)) H := propext ⟨fun ⟨_, _, e, e', h⟩ => by cases e; cases e'; exact h, fun h => ⟨a, b, rfl, rfl, h⟩⟩
theorem zka {p : Addr} : gTup K n gs (.ref p) σ H R = ∃ xs, SqT K H p xs /\ xs.length = n /\ gs xs σ H R := propext ⟨fun ⟨_, xs, e, h⟩ => by cases e; exact ⟨xs, h⟩, fun ⟨xs, h⟩ => ⟨p, xs, rfl, h⟩⟩
theorem zkM : zlH g gs (v :: vs) σ H R = g v σ H fun σ' H' => gs vs σ' H' R := propext ⟨fun ⟨_, _, e, h⟩ => by cases e; exact h, fun h => ⟨v, vs, rfl, h⟩⟩
theorem zmU : gNil [] σ H R = R σ H := propext ⟨fun h => h.2, fun h => ⟨rfl, h⟩⟩
end
end L2
namespace HT
open PySem PyProof.Rows
section
variable {prog : Program} {w : World} {A : Around} {E : ZQ} {s : Shared}
theorem getItem_tuple_whole {t sl : Addr} {items : Array Value} {vl vu : Value} {lo hi : Option Int} {Q : ZQ} (ht : IsTup s.heap t items) (hs : s.heap.IsSliceOf sl vl vu .none) (pl : IsPart vl lo) (pu : IsPart vu hi)
  (hw : sIx items.size 0 lo = 0 /\ sIx items.size items.size hi = items.size) (h : Q (.ref t) s) : wpAny (model prog w) A (getItem (.ref t) (.ref sl)) Q E s := by
 obtain ⟨os, hos, hcs, hds⟩ := id hs;have hTs : s.TypeIs (.ref sl) "slice" := ⟨os, hos, hcs⟩
 unfold getItem
 try with_reducible refine wpAny_holding ?_
 first | refine yaa (yab ?_) | skip
 refine yaa (wpAny_sequenceKey ht.typeIs δ ?_);refine yaa (wpAny_callSpecial?_slot (name := Str.ofString "__getitem__") ht.typeIs PyProof.Rows.slot_tuple_getitem
  (wpAny_call_entry PyProof.Rows.slot_tuple_getitem ht.typeIs entry_tuple_getitem ?_ (args_tuple_getitem _ _)))
 show wpAny _ _ (Builtin.Tuple.tupleItemsOf (.ref t) >>= _) _ _ s;refine yaa (tupleItemsOf_ ht ?_);refine yaa (wpAny_typeOf hTs ?_);rw [if_pos δ];refine yaa (zcf hs pl pu ?_);show wpAny _ _ (if (((sIx items.size 0 lo : Nat) : Int) == 0 && (1 : Int) == 1 && (sIx items.size items.size hi - sIx items.size 0 lo) == items.size) = true then _ else _) _ _ s;rw [hw.1, hw.2, if_pos ς];refine yaa (m := Builtin.Tuple.tupleIsExact _) (yaa (wpAny_typeOf ht.typeIs (yab ?_)));rw [if_pos δ];exact yaa (wpAny_rule (yab ⟨_, rfl, yab h⟩))
theorem cat_tup0 {t b : Addr} {vs ws : List Value} {Q : ZQ} (ht : IsTup s.heap t vs.toArray) (hb : IsTup s.heap b ws.toArray) (hv : vs = [])
  (h1 : Q (.ref b) s) : wpAny (model prog w) A (binaryOp .Add (.ref t) (.ref b)) Q E s := by
 obtain ⟨⟨cls, dd, data, sl⟩, ho, hc, n, hd⟩ := id ht;obtain ⟨⟨cls2, dd2, data2, sl2⟩, ho2, hc2, n2, hd2⟩ := id hb;simp only at hc hd hc2 hd2;subst hc hd hc2 hd2;exact concat_meets ⟨_, ho, rfl⟩ ⟨_, ho2, rfl⟩ noFill_tuple_add seq_tuple_add PySem.F.slot_tuple_add PySem.F.entry_tuple_add (PySem.F.args_tuple_add_2 _ _)
   (tuple_addW0 t b vs.toArray ws.toArray n n2 dd dd2 sl sl2 (by simp [hv])) ⟨ho, ho2, h1⟩
end
end HT
namespace L2
open PySem PySem.Spec PyProof.Rows
section
variable {X : Cx}
def zmV (K : W.Frag) : V -> Option Int -> Option Int -> Hp -> VK -> Prop := fun x lo hi H Q => ∃ a xs, x = .ref a /\ SqT K H a xs /\ ∀ q H', Same H H' -> SqT K H' q (cutV xs lo hi) -> Q (.ref q) H'
theorem zkN : SlR X (zmV X.K) := by
 intro Qa s σ H x v vl vu lo hi sl Q I rx hs pl pu h;obtain ⟨a, xs, rfl, hx, q⟩ := h
 by_cases hw : HT.sIx xs.length 0 lo = 0 /\ HT.sIx xs.length xs.length hi = xs.length
 ·cases rx;obtain ⟨its, r, ht, hz⟩ := I.tuple hx;have Qe : its.toArray.size = xs.length := by rw [yad]; exact r.length.symm
  refine ⟨"tuple", _, PyProof.Rows.slot_tuple_getitem.lookup, ht.typeIs, ?_⟩;refine HT.getItem_tuple_whole ht hs pl pu (by rw [Qe]; exact hw) ⟨.ref a, H, I, rfl, q a H (Same.refl H) ?_⟩;have e : cutV xs lo hi = xs := by unfold cutV; rw [hw.1, hw.2]; simp
  rw [e]; exact hx
 ·exact zlX Qa s σ H _ v vl vu lo hi sl Q I rx hs pl pu ⟨a, xs, rfl, hx, hw, fun p hp => q p _ (zad hp _) (SqT.of zae)⟩
def rSlB (K : W.Frag) : V -> Option Int -> Option Int -> Hp -> VK -> Prop := fun x lo hi H Q => rSlS x lo hi H Q \/ (rSlL K x lo hi H Q \/ zmV K x lo hi H Q)
theorem slB (K : W.Frag) (hK : X.K = K := by rfl) : SlR X (rSlB K) := hK ▸ (SlR.or zmf (SlR.or zk0 zkN) : SlR X (rSlB X.K))
def zkb (K : W.Frag) : R2 := fun x y H Q => ∃ a b xs ys, x = .ref a /\ y = .ref b /\ SqT K H a xs /\ SqT K H b ys /\ xs.length + ys.length <= sizeLine /\ ∀ q H', Same H H' -> SqT K H' q (xs ++ ys) -> Q (.ref q) H'
theorem zjr : OpR X (binaryOp .Add) (zkb X.K) := by
 intro Qa s σ H x y v u Q I rx ry h;obtain ⟨a, b, xs, ys, rfl, rfl, ha, hb, hz, q⟩ := h
 by_cases hx : xs = []
 ·subst hx;cases rx; cases ry;obtain ⟨its, r1, p1, _⟩ := I.tuple ha;obtain ⟨its2, r2, p2, _⟩ := I.tuple hb;exact HT.cat_tup0 p1 p2 (r1.nil_iff.mpr rfl) ⟨.ref b, H, I, rfl, q b H (Same.refl H) hb⟩
 ·exact zky Qa s σ H _ _ v u Q I rx ry ⟨a, b, xs, ys, rfl, rfl, ha, hb, hx, hz, fun e => q a H (Same.refl H) (by subst e; rw [List.append_nil]; exact ha), fun _ p hp => q p _ (zad hp _) (SqT.of zae)⟩
def zhJ (K : W.Frag) : R2 := fun x y H Q => rI0 (fun i j => .int (i + j)) x y H Q \/ (zmi x y H Q \/ (rCat x y H Q \/ zkb K x y H Q))
theorem zat (K : W.Frag) (hK : X.K = K := by rfl) : OpR X (binaryOp .Add) (zhJ K) := hK ▸ (OpR.or zlN (OpR.or zg2 (OpR.or zmd zjr)) : OpR X (binaryOp .Add) (zhJ X.K))
end
section
variable {K : W.Frag} {σ : St} {H : Hp} {Q : VK} {D : Ends} {p q : Addr} {x y : Str} {i j : Int} {lo hi : Option Int} {a b : Bool} {tc : TT} {tb : TS} {ta : TA} {te : TE} {R : It -> Hp -> Prop}
theorem zmW : rSlB K (.str x) lo hi H Q = (x.length <= sizeLine /\ Q (.str (Txt.slice x lo hi)) H) := by
 refine propext ⟨fun h => ?_, fun ⟨h, k⟩ => .inl ⟨x, rfl, h, k⟩⟩;rcases h with ⟨_, e, h⟩ | ⟨_, _, e, _⟩ | ⟨_, _, e, _⟩
 ·cases e; exact h
 ·cases e
 ·cases e
theorem zmX : rSlB K (.ref p) lo hi H Q = ∃ xs, (SqL K H p xs /\ ∀ q, H q = none -> Q (.ref q) (upd H q (.lst (cutV xs lo hi)))) \/
  (SqT K H p xs /\ ∀ q H', Same H H' -> SqT K H' q (cutV xs lo hi) -> Q (.ref q) H') := by
 refine propext ⟨fun h => ?_, fun ⟨xs, h⟩ => ?_⟩
 ·rcases h with ⟨_, e, _⟩ | ⟨_, xs, e, h⟩ | ⟨_, xs, e, h⟩
  ·cases e
  ·cases e; exact ⟨xs, .inl h⟩
  ·cases e; exact ⟨xs, .inr h⟩
 ·rcases h with h | h
  ·exact .inr (.inl ⟨p, xs, rfl, h⟩)
  ·exact .inr (.inr ⟨p, xs, rfl, h⟩)
theorem zkO : zhJ K (.int i) (.int j) H Q = Q (.int (i + j)) H := by
 refine propext ⟨fun h => ?_, fun h => .inl ⟨i, j, rfl, rfl, h⟩⟩;rcases h with ⟨_, _, e1, e2, h⟩ | ⟨_, _, e, _⟩ | ⟨_, _, _, _, e, _⟩ | ⟨_, _, _, _, e, _⟩
 ·cases e1; cases e2; exact h
 ·cases e
 ·cases e
 ·cases e
theorem zkP : zhJ K (.str x) (.str y) H Q = (x.length + y.length <= sizeLine /\ Q (.str (x ++ y)) H) := by
 refine propext ⟨fun h => ?_, fun ⟨h, k⟩ => .inr (.inl ⟨x, y, rfl, rfl, h, k⟩)⟩;rcases h with ⟨_, _, e, _⟩ | ⟨_, _, e1, e2, h⟩ | ⟨_, _, _, _, e, _⟩ | ⟨_, _, _, _, e, _⟩
 ·cases e
 ·cases e1; cases e2; exact h
 ·cases e
 ·cases e
theorem zkQ : zhJ K (.ref p) (.ref q) H Q = ∃ xs zs, (H p = some (.lst xs) /\ H q = some (.lst zs) /\ xs.length + zs.length <= sizeLine /\ ∀ r, H r = none -> Q (.ref r) (upd H r (.lst (xs ++ zs)))) \/
  (SqT K H p xs /\ SqT K H q zs /\ xs.length + zs.length <= sizeLine /\ ∀ r H', Same H H' -> SqT K H' r (xs ++ zs) -> Q (.ref r) H') := by
 refine propext ⟨fun h => ?_, fun ⟨xs, zs, h⟩ => ?_⟩
 ·rcases h with ⟨_, _, e, _⟩ | ⟨_, _, e, _⟩ | ⟨_, _, xs, zs, e1, e2, h⟩ | ⟨_, _, xs, zs, e1, e2, h⟩
  ·cases e
  ·cases e
  ·cases e1; cases e2; exact ⟨xs, zs, .inl h⟩
  ·cases e1; cases e2; exact ⟨xs, zs, .inr h⟩
 ·rcases h with h | h
  ·exact .inr (.inr (.inl ⟨p, q, xs, zs, rfl, rfl, h⟩))
  ·exact .inr (.inr (.inr ⟨p, q, xs, zs, rfl, rfl, h⟩))
theorem zhK {T : String} : zds K T [.bl a, .ty T] H Q = ∃ c, W.kitOne K (.type "bool") (.type T) = some c /\ Q (.bl c) H := by
 refine propext ⟨fun ⟨_, _, b, e, t, h⟩ => ?_, fun ⟨b, h⟩ => ⟨_, _, b, rfl, .of (.bl a), h⟩⟩;cases e;rcases t with t | t | t
 cases t; exact ⟨b, h⟩
theorem zgb : rEq (.bl a) (.bl b) H Q = Q (.bl (decide (a = b))) H := by
 refine propext ⟨fun ⟨_, h⟩ => ?_, fun h => ⟨rfl, ?_⟩⟩
 ·rw [zdK] at h; exact h
 ·rw [zdK]; exact h
theorem zhL : rNe (.bl a) (.bl b) H Q = Q (.bl (!decide (a = b))) H := by
 refine propext ⟨fun ⟨_, h⟩ => ?_, fun h => ⟨rfl, ?_⟩⟩
 ·rw [zdK] at h; exact h
 ·rw [zdK]; exact h
theorem zkR : rEqB K (.bl a) (.bl b) H Q = Q (.bl (decide (a = b))) H := by
 refine propext ⟨fun h => ?_, fun h => .inl (zgb ▸ h)⟩;rcases h with h | ⟨d, b, hd, h, _⟩
 ·rw [zgb] at h; exact h
 ·rcases h with h | h <;> cases h
theorem zkS : rEqC K (.bl a) (.bl b) H Q = Q (.bl (decide (a = b))) H := by
 refine propext ⟨fun h => ?_, fun h => .inl (zgb ▸ h)⟩;rcases h with h | ⟨d, d', h, _⟩
 ·rw [zgb] at h; exact h
 ·cases h
theorem zkT : rNeC K (.bl a) (.bl b) H Q = Q (.bl (!decide (a = b))) H := by
 refine propext ⟨fun h => ?_, fun h => .inl (zhL ▸ h)⟩;rcases h with h | ⟨d, d', h, _⟩
 ·rw [zhL] at h; exact h
 ·cases h
theorem zmY : zlL ta σ H R = ta σ H fun vs H1 => ∃ i j : Int, vs = [.int i, .int j] /\ (-(2 ^ 62) <= i /\ i < 2 ^ 62 /\ -(2 ^ 62) <= j /\ j < 2 ^ 62) /\ R (Itr i (j - i).toNat) H1 := rfl
theorem zom : tIsN te σ H Q = te σ H fun x H1 => Q (.bl (decide (x = .non))) H1 := rfl
theorem zkU : zjM tc tb D σ H = ∃ W : Nat -> St -> Hp -> Prop, (∃ m, W m σ H) /\ ∀ m σ H, W m σ H ->
 tc σ H fun b H1 => if b = true then ∃ N : St -> Hp -> Prop, (∀ σ' H', N σ' H' -> ∃ m', m' < m /\ W m' σ' H') /\ tb { D with nx := N, ct := N, bk := D.nx } σ H1 else D.nx σ H1 := rfl
theorem zkV : rLtA (.str x) (.str y) H Q = Q (.bl (decide (x.cps.toList < y.cps.toList))) H := by
 refine propext ⟨fun h => ?_, fun h => .inr ⟨x, y, rfl, rfl, h⟩⟩;rcases h with ⟨_, _, e, _⟩ | ⟨_, _, e1, e2, h⟩
 ·cases e
 ·cases e1; cases e2; exact h
theorem zkc (xs : List V) (n : Nat) : cutV xs none (some (n : Int)) = xs.take n := by
 unfold cutV;rw [HT.sIx_none, HT.sIx_nat, List.drop_zero, Nat.sub_zero]
 by_cases h : n <= xs.length
 ·rw [Nat.min_eq_left h]
 ·rw [Nat.min_eq_right ω, List.take_of_length_le (yai _), List.take_of_length_le ω]
theorem SqT.keepL {xs ys zs : List V} (h : SqT K H q xs) (hp : H p = some (.lst ys)) : SqT K (upd H p (.lst zs)) q xs := by
 rcases h with (h | ⟨o, h⟩) | h
 ·exact .inl (.inl (by rw [za6]; exact h; rintro rfl; rw [hp] at h; cases h))
 ·exact .inl (.inr ⟨o, by rw [za6]; exact h; rintro rfl; rw [hp] at h; cases h⟩)
 ·exact .inr h
end
section
variable {K : W.Frag} {H H' : Hp} {a q p : Addr} {us : List V} {f : Nat -> List Nat}
end
theorem at0 {α : Type} {xs : List α} {i : Nat} {v : α} (h : xs[i]? = some v) : atI xs (0 + (i : Int)) = some v := by rw [Int.zero_add]; exact zam h
theorem zbh {rs : List Str} {i : Nat} (h : i < rs.length) : (rs.map V.str)[i]? = some (.str (rs.getD i "")) := by simp [h, List.getD_eq_getElem?_getD]
def zon (K : W.Frag) : Sp := fun vs H Q _ => ∃ (a : Addr) (ns : List Int) (k : Int), vs = [.ref a, .int k] /\ SqL K H a (ns.map V.int) /\ 0 <= k /\ k < 100000 /\ ∀ n : Int, 0 <= n -> n < 2147483629 -> Q (.int n) H
section
variable {X : Cx}
end
section
variable {K : W.Frag} {σ : St} {H H' : Hp} {Q : VK} {ta : TA} {p : Addr} {k : Int}
theorem zmZ : ziU (.ref p) (.int k) H Q = ∃ xs, H p = some (.lst xs) /\ -(2 ^ 63) <= k /\ k < 2 ^ 63 /\ xs.length * k.toNat <= sizeLine /\ ∀ q, H q = none -> Q (.ref q) (upd H q (.lst (List.replicate k.toNat xs).flatten)) := by
 refine propext ⟨fun h => ?_, fun ⟨xs, h⟩ => .inr ⟨p, k, xs, rfl, rfl, h⟩⟩;rcases h with ⟨_, _, e, _⟩ | ⟨_, _, xs, e1, e2, h⟩
 ·cases e
 ·cases e1; cases e2; exact ⟨xs, h⟩
theorem zjs (x : V) (us : List V) : cutV (x :: us) (some 1) none = us := by
 unfold cutV;rw [HT.sIx_none];show List.take _ (List.drop (min 1 (us.length + 1)) (x :: us)) = us;rw [show min 1 (us.length + 1) = 1 by omega, List.drop_one, List.tail_cons];exact List.take_of_length_le (by show us.length <= (us.length + 1) - min 1 (us.length + 1); omega)
end
section
variable {X : Cx}
end
end L2
namespace L2
open PySem PySem.Spec PySem.Calls PyProof.V PyProof.Rows PyProof.Rows.KTD
section
variable {X : Cx}
def TabK (K : W.Frag) (a : Addr) (D : List (Str × V)) : Prop :=
 (a == sysModules) = false /\ ∃ (o : Obj) (es : Array DictEntry) (ep : Nat), K.lookup a = some o /\ o.ExactDict /\ o.data = .dict es ep /\ KTD.Rows (fun d v => RelV d v) es.toList D
def zna (K : W.Frag) : R2 := fun x y H Q => ∃ k p D, x = .str k /\ y = .ref p /\ TabK K p D /\ Q (.bl (inKeys k D)) H
def znb (K : W.Frag) : R2 := fun x y H Q => ∃ k p D z, x = .ref p /\ y = .str k /\ TabK K p D /\ datumAt k D = some z /\ Q z H
end
open AutoSeq1 (wpAny_loadPart')
section
variable {prog : Program} {w : World} {A : Around} {E : ZQ} {s : Shared}
end
section
variable {X : Cx} {Qa : ZP} {σ : St} {H : Hp} {s : Shared} {h' : Heap}
end
section
variable {X : Cx}
end
section
variable {X : Cx}
def cntE (k : V) (u : Value) : Bool := match absV u with | some y => eqV y k | none => false
def zhM (K : W.Frag) : V -> List V -> Hp -> VK -> Prop := fun x vs H Q => ∃ p xs k, x = .ref p /\ vs = [k] /\ SqL K H p xs /\ xs.all zb5 = true /\ zb5 k = true /\ Q (.int ((xs.countP fun y => eqV y k : Nat) : Int)) H
theorem zkd (k : V) : ∀ {xs : List V} {us : List Value}, Vals xs us -> us.countP (cntE k) = xs.countP fun y => eqV y k
 | _, _, .nil => rfl
 | _, _, .cons r t => by
  have e : ∀ {y : V} {u : Value}, RelV y u -> cntE k u = eqV y k := fun r => by unfold cntE; rw [r.abs]
  rw [List.countP_cons, List.countP_cons, zkd k t, e r]
theorem zhN {u : Value} : ∀ {xs : List V} {us : List Value}, Vals xs us -> u ∈ us -> ∃ x, x ∈ xs /\ RelV x u
 | _, _, .nil, h => by simp at h
 | _, _, .cons r t, h => by
  rcases yau.mp h with rfl | h
  ·exact ⟨_, List.mem_cons_self, r⟩
  ·obtain ⟨x, hx, rx⟩ := zhN t h;exact ⟨x, List.mem_cons_of_mem _ hx, rx⟩
theorem zjt : MtR X "list.count" (zhM X.K) := by
 intro Qa s σ H x vs v us Q I rx rv h;obtain ⟨p, xs, k, rfl, rfl, hq, fs, fk, q⟩ := h;cases rx;obtain ⟨u, rfl, ru⟩ := rv.one;obtain ⟨its, r, pl, hz⟩ := I.list hq;obtain ⟨⟨cls, dd, data, sl⟩, ho, hc, n, hd⟩ := pl.isList;simp only at hc hd;subst hc hd;refine call_meets PySem.F.slot_list_count ⟨_, ho, rfl⟩ PySem.F.entry_list_count (PySem.F.args_list_count_2 _ _) (SeqAt.list_countAt p its.toArray n dd sl u (cntE k)) ⟨ho, fun y hy => ?_, ?_⟩
 ·obtain ⟨x, hx, rx⟩ := zhN r (by simpa using hy);have e : cntE k y = eqV x k := by unfold cntE; rw [rx.abs]
  rw [e];exact zhp rx ru (List.all_eq_true.mp fs x hx) fk
 ·rw [show its.toArray.toList = its from rfl, zkd k r];exact ⟨.int _, H, I.tok _, ⟨s.toks, rfl⟩, q⟩
theorem zhO (K : W.Frag) (hK : X.K = K := by rfl) : MtR X "list.count" (zhM K) := hK ▸ zjt
theorem zkW {K : W.Frag} {p : Addr} {k : V} {H : Hp} {Q : VK} : zhM K (.ref p) [k] H Q = ∃ xs, SqL K H p xs /\ xs.all zb5 = true /\ zb5 k = true /\ Q (.int ((xs.countP fun y => eqV y k : Nat) : Int)) H := by
 refine propext ⟨fun ⟨_, xs, _, e1, e2, h⟩ => ?_, fun ⟨xs, h⟩ => ⟨p, xs, k, rfl, rfl, h⟩⟩;cases e1; cases e2; exact ⟨xs, h⟩
end
open AutoSeq1 (wpAny_loadPart')
section
variable {prog : Program} {w : World} {A : Around} {E : ZQ} {s : Shared}
end
section
variable {X : Cx} {Qa : ZP} {σ : St} {H : Hp} {s : Shared} {h' : Heap}
end
section
variable {X : Cx}
end
section
variable {K : W.Frag} {nt : Nat} {is : List Nat} {g : TG} {tt : TT} {te : TE} {σ : St} {H : Hp} {Q : VK}
end
section
variable {X : Cx}
def znc : TE := fun _ H Q => ∀ p, H p = none -> Q (.ref p) (upd H p (.dK []))
theorem Inv.past {Qa : ZP} {σ : St} {H : Hp} {s : Shared} (I : Inv X Qa σ H s) : sysModules < s.heap.objs.size := by
 exact Nat.lt_trans δ (I.mod.glob.keeps I.bk).lt
theorem zhP {pos : Pos} : PE X (.Dict [] [] pos) znc := fun Qa s σ H Q I h =>
 wpAny_Dict_empty ⟨.ref s.heap.objs.size, _, I.laid (a := s.heap.objs.size) (o := .dK []) (t' := s.toks) (fun _ _ q => yac _ q) (yai _)
  ⟨yaq _, beq_eq_false_iff_ne.mpr (Ne.symm (Nat.ne_of_lt I.past)), [], .nil, Heap.DictOf.new s.heap⟩, rfl, h _ (I.hok.fresh (yai _))⟩
theorem znd {σ : St} {H : Hp} {Q : VK} : znc σ H Q = ∀ p, H p = none -> Q (.ref p) (upd H p (.dK [])) := rfl
theorem zkX {K : W.Frag} {k : Str} {p : Addr} {H : Hp} {Q : VK} : zna K (.str k) (.ref p) H Q = ∃ D, TabK K p D /\ Q (.bl (KTD.inKeys k D)) H := by
 refine propext ⟨fun ⟨_, _, D, e1, e2, h⟩ => ?_, fun ⟨D, h⟩ => ⟨k, p, D, rfl, rfl, h⟩⟩;cases e1; cases e2; exact ⟨D, h⟩
theorem zkY {K : W.Frag} {k : Str} {p : Addr} {H : Hp} {Q : VK} : znb K (.ref p) (.str k) H Q = ∃ D z, TabK K p D /\ KTD.datumAt k D = some z /\ Q z H := by
 refine propext ⟨fun ⟨_, _, D, z, e1, e2, h⟩ => ?_, fun ⟨D, z, h⟩ => ⟨k, p, D, z, rfl, rfl, h⟩⟩;cases e1; cases e2; exact ⟨D, z, h⟩
end
theorem zhQ {x : Str} {i m : Int} {P : Nat -> Prop} (hm : 0 < m) (hx : m <= (x.length : Int)) (k : ∀ c ∈ x.cps.toList.take m.toNat, P c) : ∃ c, atI x.cps.toList (i % m) = some c /\ P c := by
 have e := za5 x;have h0 := yao i (show m ≠ 0 by omega);have h1 := yak i hm;generalize i % m = j at h0 h1;obtain ⟨j, rfl⟩ : ∃ n : Nat, j = n := ⟨j.toNat,ω⟩
 have hj : j < x.cps.toList.length := by omega
 exact ⟨x.cps.toList[j], zam (yal hj), k _ (List.mem_take_iff_getElem.mpr ⟨j,ω, rfl⟩)⟩
section
variable {K : W.Frag} {H : Hp} {p : Addr} {ys zs : List V}
end
section
variable {K : W.Frag} {H H' : Hp} {us : List V} {f : Nat -> Int × Str}
end
section
variable {prog : Program} {w : World} {A : Around} {E : ZQ} {s : Shared}
end
section
variable {X : Cx}
def dS (l : List (Str × V)) : List (Key × V) := l.map fun p => (Sum.inr p.1, p.2)
def valS (l : List (Str × V)) (k : Str) : Option V := (l.find? fun p => decide (p.1 = k)).map (·.2)
theorem zgc {k : Str} : ∀ {l : List (Str × V)} {vs : List (Key × Value)}, KV (dS l) vs -> (valS l k = none -> valueAt vs (Sum.inr k : Key) = none) /\ ∀ z, valS l k = some z -> ∃ u, valueAt vs (Sum.inr k : Key) = some u /\ RelV z u
 | [], _, .nil => ⟨fun _ => rfl, fun z e => by cases e⟩
 | p :: l, _, .cons (b := q) h1 h2 => by
  obtain ⟨i1, i2⟩ := zgc (k := k) (l := l) h2;obtain ⟨e1, r1⟩ := h1;have e1' : q.1 = (Sum.inr p.1 : Key) := e1.symm
  by_cases c : p.1 = k
  ·have ev : valS (p :: l) k = some p.2 := by simp [valS, List.find?_cons, c]
   have ew : ∀ m, valueAt (q :: m) (Sum.inr k : Key) = some q.2 := fun m => by simp [valueAt, List.find?_cons, e1', c]
   exact ⟨fun z => (by rw [ev] at z; cases z), fun z e => (by rw [ev] at e; cases e; exact ⟨_, ew _, r1⟩)⟩
  ·have ev : valS (p :: l) k = valS l k := by simp [valS, List.find?_cons, c]
   have ew : ∀ m, valueAt (q :: m) (Sum.inr k : Key) = valueAt m (Sum.inr k : Key) := fun m => by simp [valueAt, List.find?_cons, e1', c]
   rw [ev, ew];exact ⟨i1, i2⟩
def zoo : V -> List V -> Hp -> VK -> Prop := fun x xs H Q => ∃ a k v l, x = .ref a /\ xs = [.str k, v] /\ H a = some (.dK (dS l)) /\ Q ((valS l k).getD v) H
def zkZ : V -> List V -> Hp -> VK -> Prop := fun x xs H Q => ∃ a k v l, x = .ref a /\ xs = [.str k, v] /\ H a = some (.dK (dS l)) /\ l.length < 100000 /\ (∀ z, valS l k = some z -> Q z H) /\ (valS l k = none -> Q v (upd H a (.dK (dS (l ++ [(k, v)])))))
theorem znD {p : Addr} {k : Str} {v : V} {H : Hp} {Q : VK} : zkZ (.ref p) [.str k, v] H Q = ∃ l, H p = some (.dK (dS l)) /\ l.length < 100000 /\ (∀ z, valS l k = some z -> Q z H) /\ (valS l k = none -> Q v (upd H p (.dK (dS (l ++ [(k, v)]))))) :=
 propext ⟨fun ⟨_, _, _, l, e1, e2, h⟩ => by cases e1; cases e2; exact ⟨l, h⟩, fun ⟨l, h⟩ => ⟨p, k, v, l, rfl, rfl, h⟩⟩
theorem zo6 {p : Addr} {k : Str} {v : V} {H : Hp} {Q : VK} : zoo (.ref p) [.str k, v] H Q = ∃ l, H p = some (.dK (dS l)) /\ Q ((valS l k).getD v) H :=
 propext ⟨fun ⟨_, _, _, l, e1, e2, h⟩ => by cases e1; cases e2; exact ⟨l, h⟩, fun ⟨l, h⟩ => ⟨p, k, v, l, rfl, rfl, h⟩⟩
end
def EntsAt (h : Heap) (d : Addr) (es : Array DictEntry) (ep : Nat) : Prop := ∃ o, h.get? d = some o /\ o.ExactDict /\ o.data = .dict es ep
theorem EntsAt.ty {s : Shared} {d : Addr} {es : Array DictEntry} {ep : Nat} (h : EntsAt s.heap d es ep) : s.TypeIs (.ref d) "dict" := let ⟨o, ho, hc, _⟩ := h; ⟨o, ho, hc.1⟩
theorem EntsAt.at {h h' : Heap} {d : Addr} {es : Array DictEntry} {ep : Nat} (x : EntsAt h d es ep) (k : ∀ o, h.get? d = some o -> h'.get? d = some o) : EntsAt h' d es ep := let ⟨o, ho, r⟩ := x; ⟨o, k o ho, r⟩
section
variable {prog : Program} {w : World} {A : Around} {E : ZQ} {s : Shared} {d : Addr} {es : Array DictEntry} {ep : Nat}
theorem zeP {Q : ZQ} (hd : (d == sysModules) = false) (hm : EntsAt s.heap d es ep)
  (h : Q (.ref s.heap.objs.size) { s with heap := s.heap.push { cls := .type "dict_keyiterator", data := .fields #[.ref d, .int 0 0, .int es.size 0, .int ep 0] } }) : wpAny (model prog w) A (pyIter (.ref d)) Q E s := by
 have ty := hm.ty;obtain ⟨o, ho, _, hx⟩ := hm;refine wpAny_pyIter_slot ty F.slot_dict_iter (wpAny_call_entry F.slot_dict_iter ty F.entry_dict_iter ?_ (F.args_dict_iter_1 _));unfold Builtin.«dict.__iter__» Builtin.Dict.dictSlotNone;refine yaa (yaa (wpAny_notOrdered_dict ty (yab ?_)));show wpAny _ _ (Builtin.Dict.showsAll d >>= _) _ _ s;unfold Builtin.Dict.showsAll;rw [if_neg (by rw [hd]; decide)];refine yaa (yab (yaa (wpAny_dictEntries ho hx (yaa (wpAny_dictEpoch ho hx (yaa (wpAny_newObj_type (yab ⟨_, rfl, "dict_keyiterator", _, ⟨_, yaj _ rfl, rfl⟩, F.slot_dict_keyiterator_next.lookup, ?_⟩))))))));exact h
theorem zeQ {it : Addr} {i : Nat} {Q : Option Value -> Shared -> Prop} (hit : s.heap.IsKeyIter it d i es.size ep) (hm : EntsAt s.heap d es ep) (hi : i < es.size)
  (h : ∀ h', h'.IsKeyIter it d (i + 1) es.size ep -> Heap.SameBut it s.heap h' -> Q (some es[i].key) { s with heap := h' }) : wpAny (model prog w) A (pyNext (.ref it)) Q E s := by
 have ty := hit.typeIs;obtain ⟨o, ho, hc, hf⟩ := id hit;obtain ⟨od, hod, _, hx⟩ := hm;unfold pyNext;refine yaa (wpAny_attempt (wpAny_callSpecial?_slot (name := Str.ofString "__next__") ty F.slot_dict_keyiterator_next (wpAny_call_entry F.slot_dict_keyiterator_next ty F.entry_dict_keyiterator_next ?_ (F.args_dict_keyiterator_next_1 _))));refine yaa (yab (yaa (yaa ?_)))
 first | refine yaa (wpAny_typeNameOfWhole_keyiter ty (yab ?_)) | refine yaa (wpAny_typeNameOf_keyiter ty (yab ?_))
 refine yaa (wpAny_fieldsOf ho hf ?_);simp only [show Builtin.Dict_items.ownsTuple "dict_keyiterator" = false by decide, Bool.false_eq_true, if_false];show wpAny _ _ (if (Value.ref d == Value.none) = true then _ else _) _ _ s;rw [if_neg (show ¬ (Value.ref d == Value.none) = true from yam)];refine yaa (yab (yaa (wpAny_dictEntries hod hx ?_)));rw [if_neg ς];refine yaa (yab (yaa (wpAny_dictEpoch hod hx ?_)));rw [if_neg ς];refine yab ?_;simp only [show ¬ ((i : Int) < 0) from by omega, if_false, Int.toNat_natCast, Array.getElem?_eq_getElem hi];refine yaa ?_
 first | refine yaa (wpAny_typeNameOfWhole_keyiter ty (yab ?_)) | refine yaa (wpAny_typeNameOf_keyiter ty (yab ?_))
 refine yaa (wpAny_isOneOf_keyiter ty ?_);show wpAny _ _ (setField (.ref it) 1 (rawInt ((i : Int) + 1)) >>= _) _ _ s;refine yaa (wpAny_setField ho hf ς ?_);have hit' : (s.heap.update it (Obj.mapFields (·.setIfInBounds 1 (rawInt ((i : Int) + 1))))).IsKeyIter it d (i + 1) es.size ep :=
  ⟨_, Heap.get?_update_self _ ho (Obj.isFreed_of_fields (Obj.data_mapFields hf _)), (Obj.cls_mapFields ..).trans hc, by rw [Obj.data_mapFields hf]; simp [rawInt]⟩
 refine yaa (wpAny_holding (yaa (wpAny_isOneOf_keyiter (s := { s with heap := _ }) hit'.typeIs ?_)));show wpAny _ _ (pure es[i].key) _ _ _;exact yab (yab ⟨_, rfl, yab (h _ hit' (Heap.SameBut.update ..))⟩)
theorem zgd {it : Addr} {Q : Option Value -> Shared -> Prop} (hh : A.handled = none) (hit : s.heap.IsKeyIter it d es.size es.size ep) (hm : EntsAt s.heap d es ep)
  (h : ∀ h', Heap.ExtBut it s.heap h' -> Q none { s with heap := h' }) : wpAny (model prog w) A (pyNext (.ref it)) Q E s := by
 have ty := hit.typeIs;obtain ⟨o, ho, hc, hf⟩ := id hit;obtain ⟨od, hod, _, hx⟩ := hm;unfold pyNext;refine yaa (wpAny_attempt (wpAny_callSpecial?_slot (name := Str.ofString "__next__") ty F.slot_dict_keyiterator_next (wpAny_call_entry F.slot_dict_keyiterator_next ty F.entry_dict_keyiterator_next ?_ (F.args_dict_keyiterator_next_1 _))));refine yaa (yab (yaa (yaa ?_)))
 first | refine yaa (wpAny_typeNameOfWhole_keyiter ty (yab ?_)) | refine yaa (wpAny_typeNameOf_keyiter ty (yab ?_))
 refine yaa (wpAny_fieldsOf ho hf ?_);simp only [show Builtin.Dict_items.ownsTuple "dict_keyiterator" = false by decide, Bool.false_eq_true, if_false];show wpAny _ _ (if (Value.ref d == Value.none) = true then _ else _) _ _ s;rw [if_neg (show ¬ (Value.ref d == Value.none) = true from yam)];refine yaa (yab (yaa (wpAny_dictEntries hod hx ?_)));rw [if_neg ς];refine yaa (yab (yaa (wpAny_dictEpoch hod hx ?_)));rw [if_neg ς];refine yab ?_;simp only [show ¬ ((es.size : Int) < 0) from by omega, if_false, Int.toNat_natCast, Array.getElem?_eq_none (Nat.le_refl es.size)];refine yaa ?_
 first | refine yaa (wpAny_typeNameOfWhole_keyiter ty (yab ?_)) | refine yaa (wpAny_typeNameOf_keyiter ty (yab ?_))
 show wpAny _ _ (setField (.ref it) 0 .none >>= _) _ _ s;refine yaa (wpAny_setField ho hf ς ?_);show wpAny _ _ (newExc (.type "StopIteration") [] >>= _) _ _ _;refine yaa ?_;simp only [newExc, newTuple];refine yaa (wpAny_newObj_type ?_ (by size_fits));refine yaa (m := firstArgMember _ _) (wpAny_of_eq (a := Value.none) (by first | rfl | (simp only [firstArgMember]; rfl)) ?_);refine wpAny_newObj_type ?_ (by size_fits);simp only [raiseNew];refine yaa (wpAny_handled ?_);rw [show A.in1.handled = none from hh];refine yaa (yab (wpAny_throw ?_));refine yaa (wpAny_isInstance (T := "StopIteration") (b := true) ⟨_, yaj _ rfl, rfl⟩ isSubtype_stop ?_);exact yab (h _ (((Heap.SameBut.update ..).extBut.push _).push _))
theorem zhR (hh : A.handled = none) (I : Addr) (hne : d ≠ I) : Walks prog w A I [I, d] [I] es.size (fun i v => ∃ h : i < es.size, v = es[i].key) (fun i h => h.IsKeyIter I d i es.size ep /\ EntsAt h d es ep) where
 sub := fun b hb => by simp at hb; simp [hb]
 frame := fun _ _ _ st hk => ⟨st.1.at fun o e => hk I ς o e, st.2.at fun o e => hk d ς o e⟩
 item := fun i s Q E hi st hQ => zeQ st.1 st.2 hi fun h' hit' hs' => hQ _ h' s.toks ⟨hi, rfl⟩ ⟨hit', st.2.at fun o e => (hs'.2 d hne).trans e⟩ fun b o hb e => (hs'.2 b (fun z => hb (by simp [z]))).trans e
 done := fun s Q E st hQ => zgd hh st.1 st.2 fun h' he' => hQ h' s.toks fun b o hb e => he' b o (fun h => hb (by simp [h])) e
 self := fun _ _ _ _ st hQ => wpAny_pyIter_keyiter st.1 hQ
theorem zhS {Q : Bool -> Shared -> Prop} (ty : s.TypeIs (.ref d) "dict") (h : Q false s) : wpAny (model prog w) A (Builtin.List.listLengthHint (.ref d)) Q E s := by
 unfold Builtin.List.listLengthHint;refine yaa (wpAny_specialOf ty F.slot_dict_len.lookup ?_);generalize hid : ("dict.__len__" : String) = lid
 wp_delta
 rw [show splitId lid = some ("dict", "__len__") from by subst hid; decide +kernel];subst hid;refine yaa (wpAny_isInstance (b := true) ty (by rw [isSubtype_type]; kernel_rfl) ?_);rw [if_neg δ];dsimp only;refine wpAny_ite_split (fun _ => ?_) fun z => absurd (by decide +kernel) z;refine yaa (wpAny_typeOf ty ?_);exact yab h
theorem zf1 {R : Result -> Shared -> Prop} (hh : A.handled = none) (hd : (d == sysModules) = false) (hm : EntsAt s.heap d es ep) (hz : es.size <= sizeLine) (S : Addr) (res : Value) (c₀ : Nat) (hS : s.heap.get? S = some { cls := .type "list", data := .seq #[] c₀ })
  (hR : ∀ h' tk acc c', (∀ b o, b ≠ S -> s.heap.get? b = some o -> h'.get? b = some o) -> h'.get? S = some { cls := .type "list", dict := none, data := .seq acc c', slots := #[] } ->
   acc.toList = es.toList.map (·.key) -> R (.ok (.ret res)) { s with heap := h', toks := tk }) :
  wpAny (model prog w) A.in1 (Builtin.List.listExtendWith (.ref S) (.ref d) res)
   (fun fin s' => match fin with | .done f => R (.ok f) s' | .again c' => c'.quiet = true /\ codeAny (model prog w) A c' R s') (fun e s' => R (.error e) s') s := by
 have ty := hm.ty;have hSd : S ≠ d := fun e => by
  obtain ⟨o, ho, _, hx⟩ := hm;rw [e, ho] at hS; cases hS; cases hx
 have hdlt : d < s.heap.objs.size := by obtain ⟨o, ho, _⟩ := hm; exact yan ho
 have hSI : S ≠ s.heap.objs.size := Nat.ne_of_lt (yan hS);have W := (zhR (prog := prog) (w := w) (A := A.in1) (es := es) (ep := ep) hh s.heap.objs.size (Nat.ne_of_lt hdlt)).toS;have lf : S ∉ [s.heap.objs.size, d] := fun m => by
  rcases yau.mp m with z | z
  ·exact hSI z
  ·exact hSd (yah.mp z)
 have go : ∀ (h : Heap) (c₁ tk : Nat), (h.IsKeyIter s.heap.objs.size d 0 es.size ep /\ EntsAt h d es ep) -> (∀ b o, b ≠ S -> s.heap.get? b = some o -> h.get? b = some o) ->
   h.get? S = some { cls := .type "list", data := .seq #[] c₁ } -> codeAny (model prog w) A (.builtin "list.extend.loop" ⟨[.ref S, .ref s.heap.objs.size, res], []⟩) R { s with heap := h, toks := tk } := by
  intro h c₁ tk st hk hS₁;refine codeAny_extend_loopS W hz S lf res es.size 0 { s with heap := h, toks := tk } #[] c₁ rfl (yaq _) st hS₁ (ItemsOf.nil _) fun s' acc' c' mv hS' hacc => ?_;rw [Moved.eq_with mv];refine hR s'.heap s'.toks acc' c' (fun b o hb e => mv.heap b o (fun z => ?_) (hk b o hb e)) hS' ?_
  ·rcases yau.mp z with z | z
   ·exact hb z
   ·exact absurd (yan e) (by rw [yah.mp z]; exact Nat.lt_irrefl _)
  ·apply List.ext_getElem?;intro j
   by_cases hj : j < acc'.size
   ·have e1 : acc'[j]? = some acc'[j] := by simp [hj]
    obtain ⟨h1, e2⟩ := hacc.2 j _ e1;rw [Array.getElem?_toList, e1, e2, yav, Array.getElem?_toList, Array.getElem?_eq_getElem h1]
    rfl
   ·have := hacc.1;rw [Array.getElem?_toList, Array.getElem?_eq_none ω, yav, Array.getElem?_toList, Array.getElem?_eq_none ω]
    rfl
 unfold Builtin.List.listExtendWith;refine yaa (wpAny_typeOf ty ?_);have h1 : Builtin.List.listSameRef (.ref S) (.ref d) = false := by simp [Builtin.List.listSameRef, hSd]
 rw [h1];rw [if_neg δ];refine yaa (zeP hd hm ?_);have hm1 : EntsAt (s.heap.push { cls := .type "dict_keyiterator", data := .fields #[.ref d, .int 0 0, .int es.size 0, .int ep 0] }) d es ep := hm.at fun o e => yac _ e;have hi1 : (s.heap.push { cls := .type "dict_keyiterator", data := .fields #[.ref d, .int 0 0, .int es.size 0, .int ep 0] }).IsKeyIter s.heap.objs.size d 0 es.size ep := ⟨_, yaj _ rfl, rfl, rfl⟩
 have hS1 := yac { cls := .type "dict_keyiterator", data := .fields #[.ref d, .int 0 0, .int es.size 0, .int ep 0] } hS;have kp1 : ∀ b o, s.heap.get? b = some o -> (s.heap.push { cls := .type "dict_keyiterator", data := .fields #[.ref d, .int 0 0, .int es.size 0, .int ep 0] }).get? b = some o := fun b o e => yac _ e;generalize s.heap.push { cls := .type "dict_keyiterator", data := .fields #[.ref d, .int 0 0, .int es.size 0, .int ep 0] } = g at hm1 hi1 hS1 kp1;refine yaa (wpAny_holding (zhS (s := { s with heap := g }) hm1.ty ?_));refine wpAny_ite_split (fun _ => ?_) (fun _ => yab ⟨plainId_quiet F.plain_extend_loop _, go g c₀ _ ⟨hi1, hm1⟩ (fun b o _ e => kp1 b o e) hS1⟩);refine yaa (wpAny_rule (yaa ?_));show wpAny _ _ (updateSeq S (·.push .none) >>= fun _ => updateSeq S (·.pop)) _ _ _;refine yaa (wpAny_updateSeq hS1 rfl ?_);have hS2 := Heap.get?_update_self (Obj.mapSeq (·.push Value.none)) hS1 rfl;refine wpAny_updateSeq (hz := by seq_fits) hS2 rfl ?_;have hS3 := Heap.get?_update_self (Obj.mapSeq (·.pop)) hS2 rfl;have oth : ∀ b o, b ≠ S -> g.get? b = some o -> ((g.update S (Obj.mapSeq (·.push Value.none))).update S (Obj.mapSeq (·.pop))).get? b = some o := fun b o hb e =>
  (Heap.get?_update_other _ _ (Ne.symm hb)).trans ((Heap.get?_update_other _ _ (Ne.symm hb)).trans e)
 refine yab ⟨plainId_quiet F.plain_extend_loop _, go _ _ _ ⟨hi1.at fun o e => oth _ o (Ne.symm hSI) e, hm1.at fun o e => oth _ o (Ne.symm hSd) e⟩ (fun b o hb e => oth b o hb (kp1 b o e)) hS3⟩
theorem zhT {R : Result -> Shared -> Prop} (hh : A.handled = none) (hd : (d == sysModules) = false) (hm : EntsAt s.heap d es ep) (hz : es.size <= sizeLine) (S : Addr) (hS : s.heap.get? S = some { cls := .type "list", data := .seq #[] })
  (hR : ∀ h' tk acc c', (∀ b o, b ≠ S -> s.heap.get? b = some o -> h'.get? b = some o) -> h'.get? S = some { cls := .type "list", dict := none, data := .seq acc c', slots := #[] } ->
   acc.toList = es.toList.map (·.key) -> R (.ok (.ret .none)) { s with heap := h', toks := tk }) :
  wpAny (model prog w) A.in1 (Builtin.«list.__init__» ⟨[.ref S, .ref d], []⟩)
   (fun fin s' => match fin with | .done f => R (.ok f) s' | .again c' => c'.quiet = true /\ codeAny (model prog w) A c' R s') (fun e s' => R (.error e) s') s := by
 have hSd : S ≠ d := fun e => by
  obtain ⟨o, ho, _, hx⟩ := hm;rw [e, ho] at hS; cases hS; cases hx
 show wpAny _ _ (do let old <- Builtin.List.listItems (.ref S); Builtin.List.listUpdate (.ref S) (fun _ => #[]); letGo old.toList.reverse; Builtin.List.listExtendWith (.ref S) (.ref d) .none) _ _ s;refine yaa (listItems_at hS rfl ?_);show wpAny _ _ (updateSeq S (fun _ => #[]) >>= fun _ => letGo (#[] : Array Value).toList.reverse >>= fun _ => Builtin.List.listExtendWith (.ref S) (.ref d) .none) _ _ s;refine yaa (wpAny_updateSeq hS rfl ?_);have hS2 := Heap.get?_update_self (Obj.mapSeq (fun _ => (#[] : Array Value))) hS rfl;have oth : ∀ b o, b ≠ S -> s.heap.get? b = some o -> (s.heap.update S (Obj.mapSeq (fun _ => (#[] : Array Value)))).get? b = some o := fun b o hb e => (Heap.get?_update_other _ _ (Ne.symm hb)).trans e;refine yaa (wpAny_letGo ?_);exact zf1 hh hd (hm.at fun o e => oth d o (Ne.symm hSd) e) hz S .none _ hS2 fun h' tk acc c' hk hS' he => hR h' tk acc c' (fun b o hb e => hk b o hb (oth b o hb e)) hS' he
theorem zhU {Q : ZQ} (hh : A.handled = none) (hd : (d == sysModules) = false) (hm : EntsAt s.heap d es ep) (hz : es.size <= sizeLine)
  (hQ : ∀ h' tk acc c', (∀ b o, s.heap.get? b = some o -> h'.get? b = some o) -> h'.get? s.heap.objs.size = some { cls := .type "list", dict := none, data := .seq acc c', slots := #[] } -> acc.toList = es.toList.map (·.key) -> Q (.ref s.heap.objs.size) { s with heap := h', toks := tk }) :
  wpAny (model prog w) A (call (.type "list") [.ref d]) Q E s := by
 refine callType_codes (Q₁ := fun obj s₁ => obj = .ref s.heap.objs.size /\ s₁ = { s with heap := s.heap.push { cls := .type "list", data := .seq #[] } }) F.called_list (F.typeCall_list_1 _) F.entry_list_init (code_list_new _ ⟨rfl, rfl⟩) fun obj s₁ h₁ => ?_;obtain ⟨rfl, rfl⟩ := h₁;have hS : (s.heap.push { cls := .type "list", data := .seq #[] }).get? s.heap.objs.size = some { cls := .type "list", data := .seq #[] } := yaj _ rfl;refine ⟨⟨_, hS, rfl⟩, F.args_list_init_2 _ _, zhT (A := A.in1) (s := { s with heap := _ }) hh hd (hm.at fun o e => yac _ e) hz _ hS fun h' tk acc c' hk hS' he => ?_⟩;exact ⟨rfl, hQ h' tk acc c' (fun b o e => hk b o (Nat.ne_of_lt (yan e)) (yac _ e)) hS' he⟩
end
section
variable {prog : Program} {w : World} {A : Around} {E : ZQ} {s : Shared} {κ : KeyKind} {kx : SortKind}
def LtAt (κ : KeyKind) (kx : SortKind) (prog : Program) (w : World) (A : Around) (s : Shared) : Prop :=
 ∀ (E : ZQ) (x y : Value) (a b : κ.α) {Q : Bool -> Shared -> Prop}, κ.keyOf x = some a -> κ.keyOf y = some b -> Q (κ.blt a b) s -> wpAny (model prog w) A (keyLt' kx x y) Q E s
def kOf (κ : KeyKind) (x : Keyed) : κ.α := (κ.keyOf x.1).getD κ.dflt
def Kd (κ : KeyKind) (x : Keyed) : Prop := ∃ a, κ.keyOf x.1 = some a
theorem zdx {st : SortSt} {x y : Keyed} {Q : Option Bool -> SortSt -> Prop} (hO : LtAt κ kx prog w A s) (hk : kindOf st = kx) (hx : Kd κ x) (hy : Kd κ y) (h : Q (some (κ.blt (kOf κ x) (kOf κ y))) st) : wpS (model prog w) A E s (lt' x y) Q st := by
 obtain ⟨a, ha⟩ := hx;obtain ⟨b, hb⟩ := hy;have ea : kOf κ x = a := by unfold kOf; rw [ha]; rfl
 have eb : kOf κ y = b := by unfold kOf; rw [hb]; rfl
 rw [ea, eb] at h;rw [lt'_eq];refine wpS_bind (wpS_get ?_);rw [hk];refine wpS_bind (wpS_lift (wpAny_attempt (hO _ x.1 y.1 a b ha hb ⟨rfl, ?_⟩)));exact wpS_pure h
theorem za8 {st : SortSt} {arr : Array Keyed} {i : Nat} {Q : Keyed -> SortSt -> Prop} (hi : i < arr.size) (h : Q arr[i] st) : wpS (model prog w) A E s (elem' arr i) Q st := by
 rw [elem'_eq, getElem?_pos arr i hi];exact wpS_pure h
def zb6 : Bool -> Keyed -> Array Keyed -> Nat -> Nat -> Nat -> StateT SortSt Sem (Option Nat) := sortPriv% PySem.Builtin.gallop
def zhV (left : Bool) (key : Keyed) (arr : Array Keyed) (base i : Nat) : StateT SortSt Sem (Option Bool) := do
 let x <- elem' arr (base + i)
 if left then lt' x key else return (<- lt' key x).map (!·)
def bynd (κ : KeyKind) (left : Bool) (key : Keyed) (arr : Array Keyed) (base i : Nat) : Bool := match arr[base + i]? with
 | some x => if left then κ.blt (kOf κ x) (kOf κ key) else !κ.blt (kOf κ key) (kOf κ x)
 | none => false
theorem zgF {st : SortSt} {left : Bool} {key : Keyed} {arr : Array Keyed} {base i : Nat} {Q : Option Bool -> SortSt -> Prop} (hO : LtAt κ kx prog w A s) (hk : kindOf st = kx) (hy : Kd κ key) (ha : ∀ x ∈ arr, Kd κ x) (hi : base + i < arr.size) (h : Q (some (bynd κ left key arr base i)) st) : wpS (model prog w) A E s (zhV left key arr base i) Q st := by
 unfold zhV;refine wpS_bind (za8 hi ?_);unfold bynd at h;rw [getElem?_pos arr _ hi] at h;have hx := ha arr[base + i] (Array.getElem_mem hi);cases left with
 | true => exact zdx hO hk hx hy h
 | false => exact wpS_bind (zdx hO hk hy hx (wpS_pure h))
def srch (f : Nat -> StateT SortSt Sem (Option Bool)) (n lo hi : Nat) : StateT SortSt Sem (Option Nat) := do
 let mut lo := lo
 let mut hi := hi
 for _ in [0:n] do
  if lo ≥ hi then break
  let m := lo + (hi - lo) / 2
  let some more <- f m | return none
  if more then lo := m + 1 else hi := m
 return some hi
def gal (f : Nat -> StateT SortSt Sem (Option Bool)) (n hint : Nat) : StateT SortSt Sem (Option Nat) := do
 let some right <- f hint | return none
 if right then
  let maxofs := n - hint
  let mut lastofs := 0
  let mut ofs := 1
  for _ in [0:n] do
   if ofs ≥ maxofs then break
   let some more <- f (hint + ofs) | return none
   if !more then break
   lastofs := ofs
   ofs := 2 * ofs + 1
  srch f n (hint + lastofs + 1) (hint + min ofs maxofs)
 else
  let maxofs := hint + 1
  let mut lastofs := 0
  let mut ofs := 1
  for _ in [0:n] do
   if ofs ≥ maxofs then break
   let some found <- f (hint - ofs) | return none
   if found then break
   lastofs := ofs
   ofs := 2 * ofs + 1
  srch f n (hint + 1 - min ofs maxofs) (hint - lastofs)
theorem zf2 (left : Bool) (key : Keyed) (arr : Array Keyed) (base n hint : Nat) : zb6 left key arr base n hint = gal (zhV left key arr base) n hint := rfl
theorem zge {st : SortSt} {f : Nat -> StateT SortSt Sem (Option Bool)} {B : Nat -> Bool} {n lo hi : Nat} {Q : Option Nat -> SortSt -> Prop} (hf : ∀ i (Q : Option Bool -> SortSt -> Prop), i < n -> Q (some (B i)) st -> wpS (model prog w) A E s (f i) Q st) (hlh : lo <= hi) (hh : hi <= n)
  (hm : ∀ i j, i <= j -> j < n -> B j = true -> B i = true)
  (h1 : ∀ i, i < lo -> B i = true) (h2 : ∀ i, hi <= i -> i < n -> B i = false)
  (h : ∀ k, k <= n -> (∀ i, i < k -> B i = true) -> (∀ i, k <= i -> i < n -> B i = false) -> Q (some k) st) : wpS (model prog w) A E s (srch f n lo hi) Q st := by
 unfold srch;refine wpS_bind (wpS_mono (wpS_forRange (I := fun x c st' => st' = st /\ ∃ lo hi, c = (none, lo, hi) /\ lo <= hi /\ hi <= n /\ hi - lo <= n - x /\ (∀ i, i < lo -> B i = true) /\ ∀ i, hi <= i -> i < n -> B i = false)
  (Q := fun c st' => st' = st /\ ∃ k, c = (none, k, k) /\ k <= n /\ (∀ i, i < k -> B i = true) /\ ∀ i, k <= i -> i < n -> B i = false) ?step ?fin ⟨rfl, lo, hi, rfl, hlh, hh,ω, h1, h2⟩) ?post)
 case fin =>
  rintro c st' ⟨rfl, lo, hi, rfl, q1, q2, q3, q4, q5⟩
  have : lo = hi := by omega
  subst this;exact ⟨rfl, lo, rfl, q2, q4, q5⟩
 case post =>
  rintro c st' ⟨rfl, k, rfl, q1, q2, q3⟩
  exact wpS_pure (h k q1 q2 q3)
 case step =>
  rintro x c st' _ hx ⟨rfl, lo, hi, rfl, q1, q2, q3, q4, q5⟩
  dsimp only
  by_cases hge : lo ≥ hi
  ·rw [if_pos hge];have : lo = hi := by omega
   subst this;exact wpS_pure ⟨rfl, lo, rfl, q2, q4, q5⟩
  ·rw [if_neg hge];refine wpS_bind (hf _ _ ω ?_);cases e : B (lo + (hi - lo) / 2) with
   | true =>
    refine wpS_pure ⟨rfl, _, _, rfl,ω,ω,ω, fun i hi' => ?_, q5⟩;exact hm i (lo + (hi - lo) / 2) ω ω e
   | false =>
    refine wpS_pure ⟨rfl, _, _, rfl,ω,ω,ω, q4, fun i h1 h2 => ?_⟩;cases e' : B i with
    | false => rfl
    | true => rw [hm _ i h1 h2 e'] at e; cases e
theorem zla {st : SortSt} {f : Nat -> StateT SortSt Sem (Option Bool)} {B : Nat -> Bool} {n hint : Nat} {Q : Option Nat -> SortSt -> Prop} (hf : ∀ i (Q : Option Bool -> SortSt -> Prop), i < n -> Q (some (B i)) st -> wpS (model prog w) A E s (f i) Q st) (hh : hint < n)
  (hm : ∀ i j, i <= j -> j < n -> B j = true -> B i = true)
  (h : ∀ k, k <= n -> (∀ i, i < k -> B i = true) -> (∀ i, k <= i -> i < n -> B i = false) -> Q (some k) st) : wpS (model prog w) A E s (gal f n hint) Q st := by
 unfold gal;refine wpS_bind (hf _ _ ω ?_);have hm' : ∀ {i j}, i <= j -> j < n -> B i = false -> B j = false := fun {i j} h1 h2 e => by
  cases e' : B j with
  | false => rfl
  | true => rw [hm i j h1 h2 e'] at e; cases e
 cases e : B hint with
 | true =>
  dsimp only;rw [if_pos rfl];refine wpS_bind (wpS_mono (wpS_forRange (I := fun x c st' => st' = st /\ ∃ l o, c = (none, l, o) /\ l < o /\ x + 1 <= o /\ hint + l < n /\ B (hint + l) = true)
   (Q := fun c st' => st' = st /\ ∃ l o, c = (none, l, o) /\ l < o /\ hint + l < n /\ B (hint + l) = true /\ (hint + o < n -> B (hint + o) = false)) ?step ?fin ⟨rfl, 0, 1, rfl,ω,ω,ω, e⟩) ?post)
  case fin =>
   rintro c st' ⟨rfl, l, o, rfl, q1, q2, q3, q4⟩
   exact ⟨rfl, l, o, rfl, q1, q3, q4, fun z => by omega⟩
  case post =>
   rintro c st' ⟨rfl, l, o, rfl, q1, q2, q3, q4⟩
   dsimp only;refine zge hf ω ω hm (fun i hi => hm i (hint + l) ω q2 q3) (fun i h1 h2 => ?_) h;exact hm' (i := hint + o) ω h2 (q4 ω)
  case step =>
   rintro x c st' _ hx ⟨rfl, l, o, rfl, q1, q2, q3, q4⟩
   dsimp only
   by_cases hge : o ≥ n - hint
   ·rw [if_pos hge];exact wpS_pure ⟨rfl, l, o, rfl, q1, q3, q4, fun z => by omega⟩
   ·rw [if_neg hge];refine wpS_bind (hf _ _ ω ?_);cases e : B (hint + o) with
    | true => exact wpS_pure ⟨rfl, o, _, rfl,ω,ω,ω, e⟩
    | false => exact wpS_pure ⟨rfl, l, o, rfl, q1, q3, q4, fun _ => e⟩
 | false =>
  dsimp only;rw [if_neg δ];refine wpS_bind (wpS_mono (wpS_forRange (I := fun x c st' => st' = st /\ ∃ l o, c = (none, l, o) /\ l < o /\ x + 1 <= o /\ l <= hint /\ B (hint - l) = false)
   (Q := fun c st' => st' = st /\ ∃ l o, c = (none, l, o) /\ l < o /\ l <= hint /\ B (hint - l) = false /\ (o <= hint -> B (hint - o) = true)) ?step ?fin ⟨rfl, 0, 1, rfl,ω,ω,ω, e⟩) ?post)
  case fin =>
   rintro c st' ⟨rfl, l, o, rfl, q1, q2, q3, q4⟩
   exact ⟨rfl, l, o, rfl, q1, q3, q4, fun z => by omega⟩
  case post =>
   rintro c st' ⟨rfl, l, o, rfl, q1, q2, q3, q4⟩
   dsimp only;refine zge hf ω ω hm (fun i hi => hm i (hint - o) ω ω (q4 ω)) (fun i h1 h2 => ?_) h;exact hm' (i := hint - l) ω h2 q3
  case step =>
   rintro x c st' _ hx ⟨rfl, l, o, rfl, q1, q2, q3, q4⟩
   dsimp only
   by_cases hge : o ≥ hint + 1
   ·rw [if_pos hge];exact wpS_pure ⟨rfl, l, o, rfl, q1, q3, q4, fun z => by omega⟩
   ·rw [if_neg hge];refine wpS_bind (hf _ _ ω ?_);cases e : B (hint - o) with
    | false => exact wpS_pure ⟨rfl, o, _, rfl,ω,ω,ω, e⟩
    | true => exact wpS_pure ⟨rfl, l, o, rfl, q1, q3, q4, fun _ => e⟩
theorem zbH {st : SortSt} {left : Bool} {key : Keyed} {arr : Array Keyed} {base n hint : Nat} {Q : Option Nat -> SortSt -> Prop} (hO : LtAt κ kx prog w A s) (hk : kindOf st = kx) (hy : Kd κ key) (ha : ∀ x ∈ arr, Kd κ x) (hn : base + n <= arr.size) (hh : hint < n)
  (hm : ∀ i j, i <= j -> j < n -> bynd κ left key arr base j = true -> bynd κ left key arr base i = true)
  (h : ∀ k, k <= n -> (∀ i, i < k -> bynd κ left key arr base i = true) -> (∀ i, k <= i -> i < n -> bynd κ left key arr base i = false) -> Q (some k) st) : wpS (model prog w) A E s (zb6 left key arr base n hint) Q st := by
 rw [zf2];exact zla (B := bynd κ left key arr base) (fun i Q hi q => zgF hO hk hy ha ω q) hh hm h
end
section
variable {prog : Program} {w : World} {A : Around} {E : ZQ} {s : Shared} {κ : KeyKind} {kx : SortKind}
def zdF : Nat -> StateT SortSt Sem Unit := sortPriv% PySem.Builtin.setMinGallop
theorem zju (g : Nat) : zdF g = modify fun s => SortSt.mk' (kindOf s) (arrOf s) (pendingOf s) g (failedOf s) := rfl
def zde : Array Keyed -> Array Keyed -> StateT SortSt Sem (Array Keyed) := sortPriv% PySem.Builtin.mergeLo
theorem zf3 (a b : Array Keyed) : zde a b = (do
 rule "list.sort.merge-lo"
 let total := a.size + b.size
 let done (out : Array Keyed) (ia ib : Nat) := out ++ a.extract ia a.size ++ b.extract ib b.size
 let lastOfA (out : Array Keyed) (ia ib : Nat) := out ++ b.extract ib b.size ++ a.extract ia a.size
 let mut out : Array Keyed := #[<- elem' b 0]
 let mut ia := 0
 let mut ib := 1
 if ib == b.size then return done out ia ib
 if ia + 1 == a.size then return lastOfA out ia ib
 let mut minGallop := gallopOf (<- get)
 for _ in [0:total] do
  let mut acount := 0
  let mut bcount := 0
  for _ in [0:total] do
   let some bWins <- lt' (<- elem' b ib) (<- elem' a ia) | return done out ia ib
   if bWins then
    out := out.push (<- elem' b ib); ib := ib + 1; bcount := bcount + 1; acount := 0
    if ib == b.size then return done out ia ib
    if bcount ≥ minGallop then break
   else
    out := out.push (<- elem' a ia); ia := ia + 1; acount := acount + 1; bcount := 0
    if ia + 1 == a.size then return lastOfA out ia ib
    if acount ≥ minGallop then break
  rule "list.sort.gallop"
  minGallop := minGallop + 1
  for _ in [0:total] do
   if minGallop > 1 then minGallop := minGallop - 1
   zdF minGallop
   let some k <- zb6 false (<- elem' b ib) a ia (a.size - ia) 0 | return done out ia ib
   acount := k
   if k > 0 then
    out := out ++ a.extract ia (ia + k); ia := ia + k
    if ia + 1 == a.size then return lastOfA out ia ib
    if ia == a.size then return done out ia ib
   out := out.push (<- elem' b ib); ib := ib + 1
   if ib == b.size then return done out ia ib
   let some k <- zb6 true (<- elem' a ia) b ib (b.size - ib) 0 | return done out ia ib
   bcount := k
   if k > 0 then
    out := out ++ b.extract ib (ib + k); ib := ib + k
    if ib == b.size then return done out ia ib
   out := out.push (<- elem' a ia); ia := ia + 1
   if ia + 1 == a.size then return lastOfA out ia ib
   if acount < 7 && bcount < 7 then break
  minGallop := minGallop + 1
  zdF minGallop
 unsupported "internal:list.sort.merge-bound") := rfl
def Srt (κ : KeyKind) (l : List Keyed) : Prop := l.Pairwise fun x y => κ.kle (kOf κ x) (kOf κ y)
structure MI (κ : KeyKind) (a b out : List Keyed) (ia ib : Nat) : Prop where
 ha : ia <= a.length
 hb : ib <= b.length
 perm : out.Perm (a.take ia ++ b.take ib)
 srt : Srt κ out
 le : ∀ x ∈ out, ∀ y ∈ a.drop ia ++ b.drop ib, κ.kle (kOf κ x) (kOf κ y)
theorem MI.swap {a b out : List Keyed} {ia ib : Nat} (h : MI κ a b out ia ib) : MI κ b a out ib ia :=
 ⟨h.hb, h.ha, h.perm.trans List.perm_append_comm, h.srt, fun x hx y hy => h.le x hx y (by rw [yay] at hy ⊢; exact hy.symm)⟩
theorem Srt.drop {l : List Keyed} {n : Nat} (h : Srt κ l) : Srt κ (l.drop n) := List.Pairwise.sublist (List.drop_sublist n l) h
theorem Srt.take {l : List Keyed} {n : Nat} (h : Srt κ l) : Srt κ (l.take n) := List.Pairwise.sublist (List.take_sublist n l) h
theorem MI.addA {a b out : List Keyed} {ia ib k : Nat} (h : MI κ a b out ia ib) (hk : ia + k <= a.length) (sa : Srt κ a) (hle : ∀ x ∈ (a.drop ia).take k, ∀ y ∈ b.drop ib, κ.kle (kOf κ x) (kOf κ y)) : MI κ a b (out ++ (a.drop ia).take k) (ia + k) ib := by
 have ed : a.drop ia = (a.drop ia).take k ++ a.drop (ia + k) := by
  conv => lhs; rw [<- List.take_append_drop k (a.drop ia), List.drop_drop]
 have sd : Srt κ ((a.drop ia).take k ++ a.drop (ia + k)) := by rw [<- ed]; exact sa.drop
 obtain ⟨s1, s2, s3⟩ := List.pairwise_append.mp sd;refine ⟨hk, h.hb, ?_, List.pairwise_append.mpr ⟨h.srt, s1, fun x hx y hy => h.le x hx y (List.mem_append_left _ (List.mem_of_mem_take hy))⟩, fun x hx y hy => ?_⟩
 ·rw [List.take_add];refine (h.perm.append_right _).trans ?_;rw [List.append_assoc, List.append_assoc];exact List.Perm.append_left _ List.perm_append_comm
 ·rcases yay.mp hx with hx | hx
  ·refine h.le x hx y ?_;rcases yay.mp hy with hy | hy
   ·refine List.mem_append_left _ ?_;rw [ed];exact List.mem_append_right _ hy
   ·exact List.mem_append_right _ hy
  ·rcases yay.mp hy with hy | hy
   ·exact s3 x hx y hy
   ·exact hle x hx y hy
structure Mg (κ : KeyKind) (a b m : List Keyed) : Prop where
 perm : m.Perm (a ++ b)
 srt : Srt κ m
theorem MI.fin {a b out r : List Keyed} {ia ib : Nat} (h : MI κ a b out ia ib) (hr : r.Perm (a.drop ia ++ b.drop ib)) (sr : Srt κ r) : Mg κ a b (out ++ r) := by
 refine ⟨?_, List.pairwise_append.mpr ⟨h.srt, sr, fun x hx y hy => h.le x hx y (hr.mem_iff.mp hy)⟩⟩;refine ((h.perm.append_right _).trans ((List.Perm.append_left _ hr))).trans ?_
 conv => rhs; rw [<- List.take_append_drop ia a, <- List.take_append_drop ib b]
 rw [List.append_assoc, List.append_assoc];refine List.Perm.append_left _ ?_;rw [<- List.append_assoc, <- List.append_assoc];exact List.Perm.append_right _ List.perm_append_comm
theorem zbP (a : Array Keyed) (i j : Nat) : (a.extract i j).toList = (a.toList.drop i).take (j - i) := by
 simp [Array.toList_extract, List.extract_eq_drop_take]
theorem zgf {a : Array Keyed} {i : Nat} (h : i < a.size) : (a.toList.drop i).take 1 = [a[i]] := by
 rw [List.drop_eq_getElem_cons (by simpa using h)];simp
def LoOk (κ : KeyKind) (a b : Array Keyed) (m : Array Keyed) : Prop := Mg κ a.toList b.toList m.toList
theorem MI.done {a b out : Array Keyed} {ia ib : Nat} (h : MI κ a.toList b.toList out.toList ia ib) (sa : Srt κ a.toList) (sb : Srt κ b.toList) (he : ib = b.size \/ ia = a.size) : LoOk κ a b (out ++ a.extract ia a.size ++ b.extract ib b.size) := by
 have e : (out ++ a.extract ia a.size ++ b.extract ib b.size).toList = out.toList ++ (a.toList.drop ia ++ b.toList.drop ib) := by
  rw [Array.toList_append, Array.toList_append, zbP, zbP, List.append_assoc, List.take_of_length_le ς, List.take_of_length_le ς]
 show Mg κ _ _ _;rw [e];refine h.fin (List.Perm.refl _) ?_;rcases he with he | he
 ·rw [show b.toList.drop ib = [] from List.drop_eq_nil_of_le (by simp [he]), List.append_nil]; exact sa.drop
 ·rw [show a.toList.drop ia = [] from List.drop_eq_nil_of_le (by simp [he]), List.nil_append]; exact sb.drop
theorem MI.lastA {a b out : Array Keyed} {ia ib : Nat} (h : MI κ a.toList b.toList out.toList ia ib) (sb : Srt κ b.toList) (he : ia + 1 = a.size) (hz : ∀ y ∈ b.toList, ∀ z ∈ a.toList.drop ia, κ.kle (kOf κ y) (kOf κ z)) : LoOk κ a b (out ++ b.extract ib b.size ++ a.extract ia a.size) := by
 have e : (out ++ b.extract ib b.size ++ a.extract ia a.size).toList = out.toList ++ (b.toList.drop ib ++ a.toList.drop ia) := by
  rw [Array.toList_append, Array.toList_append, zbP, zbP, List.append_assoc, List.take_of_length_le ς, List.take_of_length_le ς]
 show Mg κ _ _ _;rw [e];refine h.fin List.perm_append_comm ?_;refine List.pairwise_append.mpr ⟨sb.drop, ?_, fun x hx y hy => hz x (List.mem_of_mem_drop hx) y hy⟩;have : (a.toList.drop ia).length = 1 := by rw [List.length_drop]; simp; omega
 match hl : a.toList.drop ia, this with
 | [z], _ => exact List.pairwise_singleton _ _
theorem MI.pushA {a b out : Array Keyed} {ia ib : Nat} (h : MI κ a.toList b.toList out.toList ia ib) (hi : ia < a.size) (sa : Srt κ a.toList) (hle : ∀ y ∈ b.toList.drop ib, κ.kle (kOf κ a[ia]) (kOf κ y)) : MI κ a.toList b.toList (out.push a[ia]).toList (ia + 1) ib := by
 have := h.addA (k := 1) (by rw [Array.length_toList]; omega) sa (by rw [zgf hi]; intro x hx; rw [yah.mp hx]; exact hle);rw [zgf hi] at this;simpa using this
theorem MI.pushB {a b out : Array Keyed} {ia ib : Nat} (h : MI κ a.toList b.toList out.toList ia ib) (hi : ib < b.size) (sb : Srt κ b.toList) (hle : ∀ y ∈ a.toList.drop ia, κ.kle (kOf κ b[ib]) (kOf κ y)) : MI κ a.toList b.toList (out.push b[ib]).toList ia (ib + 1) :=
 (h.swap.pushA hi sb hle).swap
theorem MI.extA {a b out : Array Keyed} {ia ib k : Nat} (h : MI κ a.toList b.toList out.toList ia ib) (hk : ia + k <= a.size) (sa : Srt κ a.toList) (hle : ∀ x ∈ (a.toList.drop ia).take k, ∀ y ∈ b.toList.drop ib, κ.kle (kOf κ x) (kOf κ y)) : MI κ a.toList b.toList (out ++ a.extract ia (ia + k)).toList (ia + k) ib := by
 have := h.addA (k := k) (by simpa using hk) sa hle;rw [Array.toList_append, zbP, Nat.add_sub_cancel_left];exact this
theorem MI.extB {a b out : Array Keyed} {ia ib k : Nat} (h : MI κ a.toList b.toList out.toList ia ib) (hk : ib + k <= b.size) (sb : Srt κ b.toList) (hle : ∀ x ∈ (b.toList.drop ib).take k, ∀ y ∈ a.toList.drop ia, κ.kle (kOf κ x) (kOf κ y)) : MI κ a.toList b.toList (out ++ b.extract ib (ib + k)).toList ia (ib + k) :=
 (h.swap.extA hk sb hle).swap
theorem Srt.at {a : Array Keyed} (h : Srt κ a.toList) {i j : Nat} (hij : i <= j) (hj : j < a.size) : κ.kle (kOf κ (a[i]'ω)) (kOf κ a[j]) := by
 by_cases e : i = j
 ·subst e; exact KeyOrd.kle_refl _
 ·have := List.pairwise_iff_getElem.mp h i j (by simp; omega) (by simpa using hj) ω;simpa using this
theorem zdf {a : Array Keyed} {i : Nat} {y : Keyed} (h : y ∈ a.toList.drop i) : ∃ j, ∃ hj : j < a.size, i <= j /\ y = a[j] := by
 obtain ⟨k, hk, e⟩ := List.getElem_of_mem h;rw [List.length_drop] at hk;refine ⟨i + k, by simpa using (by omega : i + k < a.toList.length),ω, ?_⟩;rw [<- e];simp
theorem zhW {a : Array Keyed} {i k : Nat} {y : Keyed} (h : y ∈ (a.toList.drop i).take k) : ∃ j, ∃ hj : j < a.size, i <= j /\ j < i + k /\ y = a[j] := by
 obtain ⟨m, hm, e⟩ := List.getElem_of_mem h;rw [ya3, List.length_drop] at hm;refine ⟨i + m, by simpa using (by omega : i + m < a.toList.length),ω,ω, ?_⟩;rw [<- e];simp
end
section
variable {prog : Program} {w : World} {A : Around} {E : ZQ} {s : Shared} {κ : KeyKind} {kx : SortKind}
abbrev setG (st : SortSt) (g : Nat) : SortSt := SortSt.mk' (kindOf st) (arrOf st) (pendingOf st) g (failedOf st)
theorem MI.nil (a b : List Keyed) : MI κ a b [] 0 0 := ⟨yaq _, yaq _,ς, List.Pairwise.nil, fun x hx => by cases hx⟩
theorem zc9 {st : SortSt} {g : Nat} {Q : Unit -> SortSt -> Prop} (h : Q () (setG st g)) : wpS (model prog w) A E s (zdF g) Q st := by
 rw [zju];exact wpS_modify h
theorem zcb {left : Bool} {key : Keyed} {arr : Array Keyed} {base i : Nat} (h : base + i < arr.size) : bynd κ left key arr base i = if left then κ.blt (kOf κ arr[base + i]) (kOf κ key) else !κ.blt (kOf κ key) (kOf κ arr[base + i]) := by
 unfold bynd;rw [getElem?_pos arr _ h]
theorem zcA {left : Bool} {key : Keyed} {arr : Array Keyed} {base n : Nat} (hn : base + n <= arr.size) (sa : Srt κ arr.toList) : ∀ i j, i <= j -> j < n -> bynd κ left key arr base j = true -> bynd κ left key arr base i = true := fun i j hij hj e => by
 rw [zcb ω] at e ⊢;have hle := sa.at (i := base + i) (j := base + j) ω ω;cases left with
 | true => exact KeyOrd.klt_of_kle_of_klt hle e
 | false =>
  simp only [Bool.false_eq_true, if_false, Bool.not_eq_true'] at e ⊢;exact KeyOrd.kle_trans hle e
abbrev LT := Option (Array Keyed) × Array Keyed × Nat × Nat × Nat × Nat × Nat
abbrev LU := Option (Array Keyed) × Array Keyed × Nat × Nat × Nat × Nat
abbrev LV := Option (Array Keyed) × Array Keyed × Nat × Nat × Nat
def loC (a b out : Array Keyed) (ia ib mg ac bc : Nat) : StateT SortSt Sem (ForInStep LT) := do
 let x <- elem' a ia
 if (ia + 1 + 1 == a.size) = true then pure (.done (some (out.push x ++ b.extract ib b.size ++ a.extract (ia + 1) a.size), out.push x, ia + 1, ib, mg, ac, bc))
 else if (decide (ac < 7) && decide (bc < 7)) = true then pure (.done (none, out.push x, ia + 1, ib, mg, ac, bc))
 else pure (.yield (none, out.push x, ia + 1, ib, mg, ac, bc))
def loB (a b out : Array Keyed) (ia ib mg ac bc : Nat) : StateT SortSt Sem (ForInStep LT) := do
 let x <- elem' b ib
 if (ib + 1 == b.size) = true then pure (.done (some (out.push x ++ a.extract ia a.size ++ b.extract (ib + 1) b.size), out.push x, ia, ib + 1, mg, ac, bc))
 else do
  let y <- elem' a ia
  let r <- zb6 true y b (ib + 1) (b.size - (ib + 1)) 0
  match r with
  | some k =>
   if k > 0 then
    if (ib + 1 + k == b.size) = true then pure (.done (some (out.push x ++ b.extract (ib + 1) (ib + 1 + k) ++ a.extract ia a.size ++ b.extract (ib + 1 + k) b.size), out.push x ++ b.extract (ib + 1) (ib + 1 + k), ia, ib + 1 + k, mg, ac, k))
    else loC a b (out.push x ++ b.extract (ib + 1) (ib + 1 + k)) ia (ib + 1 + k) mg ac k
   else loC a b (out.push x) ia (ib + 1) mg ac k
  | _ => pure (.done (some (out.push x ++ a.extract ia a.size ++ b.extract (ib + 1) b.size), out.push x, ia, ib + 1, mg, ac, bc))
def loA (a b out : Array Keyed) (ia ib mg ac bc : Nat) : StateT SortSt Sem (ForInStep LT) := do
 zdF mg
 let x <- elem' b ib
 let r <- zb6 false x a ia (a.size - ia) 0
 match r with
 | some k =>
  if k > 0 then
   if (ia + k + 1 == a.size) = true then pure (.done (some (out ++ a.extract ia (ia + k) ++ b.extract ib b.size ++ a.extract (ia + k) a.size), out ++ a.extract ia (ia + k), ia + k, ib, mg, k, bc))
   else if (ia + k == a.size) = true then pure (.done (some (out ++ a.extract ia (ia + k) ++ a.extract (ia + k) a.size ++ b.extract ib b.size), out ++ a.extract ia (ia + k), ia + k, ib, mg, k, bc))
   else loB a b (out ++ a.extract ia (ia + k)) (ia + k) ib mg k bc
  else loB a b out ia ib mg k bc
 | _ => pure (.done (some (out ++ a.extract ia a.size ++ b.extract ib b.size), out, ia, ib, mg, ac, bc))
def lo1 (a b : Array Keyed) (mg : Nat) (out : Array Keyed) (ia ib ac bc : Nat) : StateT SortSt Sem (ForInStep LU) := do
 let x <- elem' b ib
 let y <- elem' a ia
 let r <- lt' x y
 match r with
 | some w =>
  if w = true then do
   let x <- elem' b ib
   if (ib + 1 == b.size) = true then pure (.done (some (out.push x ++ a.extract ia a.size ++ b.extract (ib + 1) b.size), out.push x, ia, ib + 1, 0, bc + 1))
   else if bc + 1 ≥ mg then pure (.done (none, out.push x, ia, ib + 1, 0, bc + 1)) else pure (.yield (none, out.push x, ia, ib + 1, 0, bc + 1))
  else do
   let y <- elem' a ia
   if (ia + 1 + 1 == a.size) = true then pure (.done (some (out.push y ++ b.extract ib b.size ++ a.extract (ia + 1) a.size), out.push y, ia + 1, ib, ac + 1, 0))
   else if ac + 1 ≥ mg then pure (.done (none, out.push y, ia + 1, ib, ac + 1, 0)) else pure (.yield (none, out.push y, ia + 1, ib, ac + 1, 0))
 | _ => pure (.done (some (out ++ a.extract ia a.size ++ b.extract ib b.size), out, ia, ib, ac, bc))
def loO (a b out : Array Keyed) (ia ib mg : Nat) : StateT SortSt Sem (ForInStep LV) := do
 let t <- forIn [:a.size + b.size] ((none, out, ia, ib, 0, 0) : LU) fun _ t => lo1 a b mg t.2.1 t.2.2.1 t.2.2.2.1 t.2.2.2.2.1 t.2.2.2.2.2
 match t.1 with
 | some r => pure (.done (some r, t.2.1, t.2.2.1, t.2.2.2.1, mg))
 | none => do
  liftM (rule "list.sort.gallop")
  let t <- forIn [:a.size + b.size] ((none, t.2.1, t.2.2.1, t.2.2.2.1, mg + 1, t.2.2.2.2.1, t.2.2.2.2.2) : LT) fun _ t =>
   if t.2.2.2.2.1 > 1 then loA a b t.2.1 t.2.2.1 t.2.2.2.1 (t.2.2.2.2.1 - 1) t.2.2.2.2.2.1 t.2.2.2.2.2.2 else loA a b t.2.1 t.2.2.1 t.2.2.2.1 t.2.2.2.2.1 t.2.2.2.2.2.1 t.2.2.2.2.2.2
  match t.1 with
  | some r => pure (.done (some r, t.2.1, t.2.2.1, t.2.2.2.1, t.2.2.2.2.1))
  | none => do
   zdF (t.2.2.2.2.1 + 1)
   pure (.yield (none, t.2.1, t.2.2.1, t.2.2.2.1, t.2.2.2.2.1 + 1))
theorem zf4 (a b : Array Keyed) : zde a b = (do
 liftM (rule "list.sort.merge-lo")
 let x <- elem' b 0
 if (1 == b.size) = true then pure (#[x] ++ a.extract 0 a.size ++ b.extract 1 b.size)
 else if (0 + 1 == a.size) = true then pure (#[x] ++ b.extract 1 b.size ++ a.extract 0 a.size)
 else do
  let st <- get
  let t <- forIn [:a.size + b.size] ((none, #[x], 0, 1, gallopOf st) : LV) fun _ t => loO a b t.2.1 t.2.2.1 t.2.2.2.1 t.2.2.2.2
  match t.1 with
  | some r => pure r
  | none => unsupported "internal:list.sort.merge-bound") := by
 rw [zf3];dsimp only
 congr 1
 funext _
 congr 1
 funext x
 congr 1
 congr 1
 congr 1
 funext st
 congr 1
 ·congr 1
  funext _ t
  unfold loO
  congr 1
  funext t1
  obtain ⟨r1, out1, ia1, ib1, ac1, bc1⟩ := t1;cases r1 with
  | some r => rfl
  | none =>
   dsimp only
   congr 1
   funext _
   congr 1
   funext t2
   obtain ⟨r2, _⟩ := t2;cases r2 <;> rfl
 ·funext t
  obtain ⟨r1, _⟩ := t;cases r1 <;> rfl
structure LoH (κ : KeyKind) (kx : SortKind) (prog : Program) (w : World) (A : Around) (s : Shared) (a b : Array Keyed) : Prop where
 o : LtAt κ kx prog w A s
 ka : ∀ x ∈ a, Kd κ x
 kb : ∀ x ∈ b, Kd κ x
 sa : Srt κ a.toList
 sb : Srt κ b.toList
 z : ∀ y ∈ b.toList, ∀ z ∈ a.toList.drop (a.size - 1), κ.kle (kOf κ y) (kOf κ z)
theorem LoH.lst {a b out : Array Keyed} {ia ib : Nat} (h : LoH κ kx prog w A s a b) (m : MI κ a.toList b.toList out.toList ia ib) (e : ia + 1 = a.size) : LoOk κ a b (out ++ b.extract ib b.size ++ a.extract ia a.size) := m.lastA h.sb e (by rw [show ia = a.size - 1 by omega]; exact h.z)
theorem zdQ {a : Array Keyed} {i : Nat} {x : Keyed} (sa : Srt κ a.toList) (hi : i < a.size) (h : κ.kle (kOf κ x) (kOf κ a[i])) : ∀ y ∈ a.toList.drop i, κ.kle (kOf κ x) (kOf κ y) := fun y hy => by
 obtain ⟨j, hj, hij, rfl⟩ := zdf hy;exact KeyOrd.kle_trans h (sa.at hij hj)
structure LI (κ : KeyKind) (a b out : Array Keyed) (ia ib : Nat) : Prop where
 m : MI κ a.toList b.toList out.toList ia ib
 ia : ia + 1 < a.size
 ib : ib < b.size
def PTo (κ : KeyKind) (a b : Array Keyed) (n : Nat) (c : LT) : Prop := match c with
 | (some m, _) => LoOk κ a b m
 | (none, out, ia, ib, _) => LI κ a b out ia ib /\ n <= ia + ib
def QT (κ : KeyKind) (a b : Array Keyed) (n : Nat) (r : ForInStep LT) : Prop := match r with
 | .done c => PTo κ a b n c
 | .yield c => c.1 = none /\ PTo κ a b n c
theorem zhX {st : SortSt} {a b out : Array Keyed} {ia ib mg ac bc n : Nat} (H : LoH κ kx prog w A s a b) (L : LI κ a b out ia ib) (hle : ∀ y ∈ b.toList.drop ib, κ.kle (kOf κ (a[ia]'(by have := L.ia; omega))) (kOf κ y)) (hn : n <= ia + ib) : wpS (model prog w) A E s (loC a b out ia ib mg ac bc) (fun r st' => st' = st /\ QT κ a b n r) st := by
 unfold loC;have hia := L.ia;refine wpS_bind (za8 ω ?_);have m1 := L.m.pushA ω H.sa hle
 by_cases e : ia + 1 + 1 = a.size
 ·rw [if_pos (by simpa using e)];exact wpS_pure ⟨rfl, H.lst m1 e⟩
 ·rw [if_neg (by simpa using e)];have L1 : LI κ a b (out.push a[ia]) (ia + 1) ib := ⟨m1,ω, L.ib⟩
  split
  ·exact wpS_pure ⟨rfl, L1,ω⟩
  ·exact wpS_pure ⟨rfl, rfl, L1,ω⟩
theorem zhY {st : SortSt} {a b out : Array Keyed} {ia ib mg ac bc n : Nat} (H : LoH κ kx prog w A s a b) (hk : kindOf st = kx) (L : LI κ a b out ia ib) (hle : ∀ y ∈ a.toList.drop ia, κ.kle (kOf κ (b[ib]'L.ib)) (kOf κ y)) (hn : n <= ia + ib) : wpS (model prog w) A E s (loB a b out ia ib mg ac bc) (fun r st' => st' = st /\ QT κ a b n r) st := by
 unfold loB;have hia := L.ia;have hib := L.ib;refine wpS_bind (za8 L.ib ?_);have m1 := L.m.pushB L.ib H.sb hle
 by_cases e : ib + 1 = b.size
 ·rw [if_pos (by simpa using e)];exact wpS_pure ⟨rfl, m1.done H.sa H.sb (.inl e)⟩
 rw [if_neg (by simpa using e)];refine wpS_bind (za8 ω (wpS_bind (zbH H.o hk (H.ka _ (Array.getElem_mem _)) H.kb ω ω (zcA ω H.sb) fun k hk1 h1 h2 => ?_)));have hlt : ∀ j (hj : j < b.size), ib + 1 <= j -> j < ib + 1 + k -> κ.kle (kOf κ b[j]) (kOf κ (a[ia]'ω)) := fun j hj q1 q2 => by
  have := h1 (j - (ib + 1)) ω;rw [zcb ω] at this;simp only [if_true] at this;have e' : ib + 1 + (j - (ib + 1)) = j := by omega
  simp only [e'] at this;exact KeyOrd.kle_of_klt this
 have hge : ∀ hj : ib + 1 + k < b.size, κ.kle (kOf κ (a[ia]'ω)) (kOf κ b[ib + 1 + k]) := fun hj => by
  have := h2 k (yai _) ω;rw [zcb ω] at this;show κ.blt _ _ = false;simpa using this
 have m2 := m1.extB (k := k) ω H.sb (fun x hx y hy => by
  obtain ⟨j, hj, q1, q2, rfl⟩ := zhW hx;obtain ⟨i, hi, q3, rfl⟩ := zdf hy;exact KeyOrd.kle_trans (hlt j hj q1 q2) (H.sa.at q3 hi))
 dsimp only
 by_cases hk0 : k > 0
 ·rw [if_pos hk0]
  by_cases e2 : ib + 1 + k = b.size
  ·rw [if_pos (by simpa using e2)];exact wpS_pure ⟨rfl, m2.done H.sa H.sb (.inl e2)⟩
  ·rw [if_neg (by simpa using e2)];exact zhX H ⟨m2, hia,ω⟩ (zdQ H.sb ω (hge ω)) ω
 ·rw [if_neg hk0];have k0 : k = 0 := by omega
  subst k0;exact zhX H ⟨m1, hia,ω⟩ (zdQ H.sb ω (hge ω)) ω
theorem zlb {st : SortSt} {a b out : Array Keyed} {ia ib mg ac bc n : Nat} (H : LoH κ kx prog w A s a b) (hk : kindOf st = kx) (L : LI κ a b out ia ib) (hn : n <= ia + ib) : wpS (model prog w) A E s (loA a b out ia ib mg ac bc) (fun r st' => st' = setG st mg /\ QT κ a b n r) st := by
 unfold loA;have hia := L.ia;have hib := L.ib;refine wpS_bind (zc9 (wpS_bind (za8 L.ib (wpS_bind (zbH (st := setG st mg) H.o hk (H.kb _ (Array.getElem_mem _)) H.ka ω ω (zcA ω H.sa) fun k hk1 h1 h2 => ?_)))));have hle : ∀ j (hj : j < a.size), ia <= j -> j < ia + k -> κ.kle (kOf κ a[j]) (kOf κ (b[ib]'L.ib)) := fun j hj q1 q2 => by
  have := h1 (j - ia) ω;rw [zcb ω] at this;have e' : ia + (j - ia) = j := by omega
  simp only [Bool.false_eq_true, if_false, Bool.not_eq_true', e'] at this;exact this
 have hgt : ∀ hj : ia + k < a.size, κ.kle (kOf κ (b[ib]'L.ib)) (kOf κ a[ia + k]) := fun hj => by
  have := h2 k (yai _) ω;rw [zcb ω] at this;simp only [Bool.false_eq_true, if_false, Bool.not_eq_false'] at this;exact KeyOrd.kle_of_klt this
 have m2 := L.m.extA (k := k) ω H.sa (fun x hx y hy => by
  obtain ⟨j, hj, q1, q2, rfl⟩ := zhW hx;obtain ⟨i, hi, q3, rfl⟩ := zdf hy;exact KeyOrd.kle_trans (hle j hj q1 q2) (H.sb.at q3 hi))
 dsimp only
 by_cases hk0 : k > 0
 ·rw [if_pos hk0]
  by_cases e2 : ia + k + 1 = a.size
  ·rw [if_pos (by simpa using e2)];exact wpS_pure ⟨rfl, H.lst m2 e2⟩
  rw [if_neg (by simpa using e2)]
  by_cases e3 : ia + k = a.size
  ·rw [if_pos (by simpa using e3)];exact wpS_pure ⟨rfl, m2.done H.sa H.sb (.inr e3)⟩
  rw [if_neg (by simpa using e3)];exact zhY (st := setG st mg) H hk ⟨m2,ω, hib⟩ (zdQ H.sa ω (hgt ω)) ω
 ·rw [if_neg hk0];have k0 : k = 0 := by omega
  subst k0;exact zhY (st := setG st mg) H hk L (zdQ H.sa ω (hgt ω)) hn
def PU (κ : KeyKind) (a b : Array Keyed) (n : Nat) (c : LU) : Prop := match c with
 | (some m, _) => LoOk κ a b m
 | (none, out, ia, ib, _) => LI κ a b out ia ib /\ n <= ia + ib
theorem zlc {st : SortSt} {a b out : Array Keyed} {mg ia ib ac bc n : Nat} (H : LoH κ kx prog w A s a b) (hk : kindOf st = kx) (L : LI κ a b out ia ib) (hn : n <= ia + ib) : wpS (model prog w) A E s (lo1 a b mg out ia ib ac bc) (fun r st' => st' = st /\ match r with
  | .done c => PU κ a b (n + 1) c
  | .yield c => c.1 = none /\ PU κ a b (n + 1) c) st := by
 unfold lo1;have hia := L.ia;have hib := L.ib;refine wpS_bind (za8 L.ib (wpS_bind (za8 ω (wpS_bind (zdx H.o hk (H.kb _ (Array.getElem_mem _)) (H.ka _ (Array.getElem_mem _)) ?_)))));cases hw : κ.blt (kOf κ (b[ib]'L.ib)) (kOf κ (a[ia]'ω)) with
 | true =>
  dsimp only;rw [if_pos rfl];refine wpS_bind (za8 L.ib ?_);have m1 := L.m.pushB L.ib H.sb (zdQ H.sa ω (KeyOrd.kle_of_klt hw))
  by_cases e : ib + 1 = b.size
  ·rw [if_pos (by simpa using e)];exact wpS_pure ⟨rfl, m1.done H.sa H.sb (.inl e)⟩
  ·rw [if_neg (by simpa using e)];have L1 : LI κ a b (out.push (b[ib]'L.ib)) ia (ib + 1) := ⟨m1, hia,ω⟩
   split
   ·exact wpS_pure ⟨rfl, L1,ω⟩
   ·exact wpS_pure ⟨rfl, rfl, L1,ω⟩
 | false =>
  dsimp only;rw [if_neg δ];refine wpS_bind (za8 ω ?_);have m1 := L.m.pushA ω H.sa (zdQ H.sb L.ib (show κ.kle _ _ from hw))
  by_cases e : ia + 1 + 1 = a.size
  ·rw [if_pos (by simpa using e)];exact wpS_pure ⟨rfl, H.lst m1 e⟩
  ·rw [if_neg (by simpa using e)];have L1 : LI κ a b (out.push a[ia]) (ia + 1) ib := ⟨m1,ω, hib⟩
   split
   ·exact wpS_pure ⟨rfl, L1,ω⟩
   ·exact wpS_pure ⟨rfl, rfl, L1,ω⟩
theorem zld {st : SortSt} {a b out : Array Keyed} {ia ib mg n : Nat} (H : LoH κ kx prog w A s a b) (hk : kindOf st = kx) (L : LI κ a b out ia ib) (hn : n <= ia + ib) : wpS (model prog w) A E s (loO a b out ia ib mg) (fun r st' => (∃ g, st' = setG st g) /\ match r with
  | .done c => ∃ m t, c = (some m, t) /\ LoOk κ a b m
  | .yield c => ∃ out ia ib mg, c = (none, out, ia, ib, mg) /\ LI κ a b out ia ib /\ n + 1 <= ia + ib) st := by
 unfold loO;refine wpS_bind (wpS_mono (wpS_forRange (I := fun x c st' => st' = st /\ c.1 = none /\ PU κ a b (n + x) c) (Q := fun c st' => st' = st /\ PU κ a b (n + 1) c) ?step ?fin ⟨rfl, rfl, L,ω⟩) ?post)
 case step =>
  rintro x ⟨r, out, ia, ib, ac, bc⟩ st' _ hx ⟨rfl, hr, hP⟩
  cases (show r = none from hr);obtain ⟨L, hn'⟩ : LI κ a b out ia ib /\ n + x <= ia + ib := hP;refine wpS_mono (zlc H hk L hn') fun r st'' hq => ?_;obtain ⟨rfl, hq⟩ := hq;cases r with
  | done c =>
   refine ⟨rfl, ?_⟩;obtain ⟨r, out2, ia2, ib2, c3⟩ := c;cases r with
   | some m => exact hq
   | none =>
    obtain ⟨q1, q2⟩ : LI κ a b out2 ia2 ib2 /\ n + x + 1 <= ia2 + ib2 := hq;exact ⟨q1,ω⟩
  | yield c => exact ⟨rfl, hq.1, hq.2⟩
 case fin =>
  rintro ⟨r, out, ia, ib, ac, bc⟩ st' ⟨rfl, hr, hP⟩
  cases (show r = none from hr);obtain ⟨L, hn'⟩ : LI κ a b out ia ib /\ n + max 0 (a.size + b.size) <= ia + ib := hP;have := L.ia;have := L.ib;omega
 case post =>
  rintro ⟨r, out, ia, ib, ac, bc⟩ st' ⟨rfl, hP⟩
  cases r with
  | some m => exact wpS_pure ⟨⟨gallopOf st', rfl⟩, m, _, rfl, hP⟩
  | none =>
   obtain ⟨L, hn'⟩ : LI κ a b out ia ib /\ n + 1 <= ia + ib := hP;refine wpS_bind (wpS_lift (wpAny_rule ⟨rfl, ?_⟩));dsimp only;refine wpS_bind (wpS_mono (wpS_forRange (I := fun x c st'' => (∃ g, st'' = setG st' g) /\ c.1 = none /\ PTo κ a b (n + 1) c) (Q := fun c st'' => (∃ g, st'' = setG st' g) /\ PTo κ a b (n + 1) c) ?step2 ?fin2 ⟨⟨gallopOf st', rfl⟩, rfl, L, hn'⟩) ?post2)
   case step2 =>
    rintro x ⟨r, out, ia, ib, mg, ac, bc⟩ st'' _ hx ⟨⟨g, rfl⟩, hr, hP⟩
    cases (show r = none from hr);obtain ⟨L, hn'⟩ : LI κ a b out ia ib /\ n + 1 <= ia + ib := hP;have go : ∀ mg', wpS (model prog w) A E s (loA a b out ia ib mg' ac bc) (fun r st3 => match r with | .done c' => (∃ g, st3 = setG st' g) /\ PTo κ a b (n + 1) c' | .yield c' => (∃ g, st3 = setG st' g) /\ c'.1 = none /\ PTo κ a b (n + 1) c') (setG st' g) := fun mg' => by
     refine wpS_mono (zlb (st := setG st' g) H hk L hn') fun r st3 hq => ?_;obtain ⟨rfl, hq⟩ := hq;cases r with
     | done c => exact ⟨⟨mg', rfl⟩, hq⟩
     | yield c => exact ⟨⟨mg', rfl⟩, hq.1, hq.2⟩
    dsimp only
    split
    ·exact wpS_mono (go _) fun r st3 h => by cases r <;> exact h
    ·exact wpS_mono (go _) fun r st3 h => by cases r <;> exact h
   case fin2 =>
    rintro c st'' ⟨h1, _, h2⟩
    exact ⟨h1, h2⟩
   case post2 =>
    rintro ⟨r, out, ia, ib, mg, ac, bc⟩ st'' ⟨⟨g, rfl⟩, hP⟩
    cases r with
    | some m => exact wpS_pure ⟨⟨g, rfl⟩, m, _, rfl, hP⟩
    | none =>
     obtain ⟨L, hn'⟩ : LI κ a b out ia ib /\ n + 1 <= ia + ib := hP;exact wpS_bind (zc9 (wpS_pure ⟨⟨_, rfl⟩, out, ia, ib, _, rfl, L, hn'⟩))
theorem zf5 {st : SortSt} {a b : Array Keyed} {Q : Array Keyed -> SortSt -> Prop} (H : LoH κ kx prog w A s a b) (hk : kindOf st = kx) (h1a : 0 < a.size) (h1b : 0 < b.size)
  (h0 : ∀ y ∈ a.toList, κ.kle (kOf κ b[0]) (kOf κ y)) (h : ∀ m g, LoOk κ a b m -> Q m (setG st g)) : wpS (model prog w) A E s (zde a b) Q st := by
 rw [zf4];refine wpS_bind (wpS_lift (wpAny_rule ⟨rfl, ?_⟩));refine wpS_bind (za8 h1b ?_);have m0 : MI κ a.toList b.toList #[b[0]].toList 0 1 := by
  have := MI.pushB (out := #[]) (MI.nil (κ := κ) a.toList b.toList) h1b H.sb (by simpa using h0);simpa using this
 by_cases e1 : 1 = b.size
 ·rw [if_pos (by simpa using e1)];exact wpS_pure (h _ (gallopOf st) (m0.done H.sa H.sb (.inl e1)))
 rw [if_neg (by simpa using e1)]
 by_cases e2 : 0 + 1 = a.size
 ·rw [if_pos (by simpa using e2)];exact wpS_pure (h _ (gallopOf st) (H.lst m0 e2))
 rw [if_neg (by simpa using e2)];refine wpS_bind (wpS_get ?_);refine wpS_bind (wpS_mono (wpS_forRange (I := fun x c st' => (∃ g, st' = setG st g) /\ ∃ out ia ib mg, c = (none, out, ia, ib, mg) /\ LI κ a b out ia ib /\ x + 1 <= ia + ib) (Q := fun c st' => (∃ g, st' = setG st g) /\ ∃ m t, c = (some m, t) /\ LoOk κ a b m) ?step ?fin ⟨⟨gallopOf st, rfl⟩, _, 0, 1, _, rfl, ⟨m0,ω,ω⟩,ω⟩) ?post)
 case step =>
  rintro x c st' _ hx ⟨⟨g, rfl⟩, out, ia, ib, mg, rfl, L, hn⟩
  refine wpS_mono (zld (st := setG st g) H hk L hn) fun r st'' hq => ?_;obtain ⟨⟨g', rfl⟩, hq⟩ := hq;cases r with
  | done c => exact ⟨⟨g', rfl⟩, hq⟩
  | yield c => exact ⟨⟨g', rfl⟩, hq⟩
 case fin =>
  rintro c st' ⟨_, out, ia, ib, mg, rfl, L, hn⟩
  have := L.ia;have := L.ib;omega
 case post =>
  rintro c st' ⟨⟨g, rfl⟩, m, t, rfl, hm⟩
  exact wpS_pure (h m g hm)
end
section
variable {prog : Program} {w : World} {A : Around} {E : ZQ} {s : Shared} {κ : KeyKind} {kx : SortKind}
def zdg : Array Keyed -> Array Keyed -> StateT SortSt Sem (Array Keyed) := sortPriv% PySem.Builtin.mergeHi
theorem zf6 (a b : Array Keyed) : zdg a b = (do
 rule "list.sort.merge-hi"
 let total := a.size + b.size
 let done (out : Array Keyed) (na nb : Nat) := a.extract 0 na ++ b.extract 0 nb ++ out.reverse
 let firstOfB (out : Array Keyed) (na nb : Nat) := b.extract 0 nb ++ a.extract 0 na ++ out.reverse
 let mut na := a.size - 1
 let mut nb := b.size
 let mut out : Array Keyed := #[<- elem' a na]
 if na == 0 then return done out na nb
 if nb == 1 then return firstOfB out na nb
 let mut minGallop := gallopOf (<- get)
 for _ in [0:total] do
  let mut acount := 0
  let mut bcount := 0
  for _ in [0:total] do
   let some aWins <- lt' (<- elem' b (nb - 1)) (<- elem' a (na - 1)) | return done out na nb
   if aWins then
    na := na - 1; out := out.push (<- elem' a na); acount := acount + 1; bcount := 0
    if na == 0 then return done out na nb
    if acount ≥ minGallop then break
   else
    nb := nb - 1; out := out.push (<- elem' b nb); bcount := bcount + 1; acount := 0
    if nb == 1 then return firstOfB out na nb
    if bcount ≥ minGallop then break
  rule "list.sort.gallop"
  minGallop := minGallop + 1
  for _ in [0:total] do
   if minGallop > 1 then minGallop := minGallop - 1
   zdF minGallop
   let some at_ <- zb6 false (<- elem' b (nb - 1)) a 0 na (na - 1) | return done out na nb
   let k := na - at_
   acount := k
   if k > 0 then
    out := out ++ (a.extract at_ na).reverse; na := at_
    if na == 0 then return done out na nb
   nb := nb - 1; out := out.push (<- elem' b nb)
   if nb == 1 then return firstOfB out na nb
   let some at_ <- zb6 true (<- elem' a (na - 1)) b 0 nb (nb - 1) | return done out na nb
   let k := nb - at_
   bcount := k
   if k > 0 then
    out := out ++ (b.extract at_ nb).reverse; nb := at_
    if nb == 1 then return firstOfB out na nb
    if nb == 0 then return done out na nb
   na := na - 1; out := out.push (<- elem' a na)
   if na == 0 then return done out na nb
   if acount < 7 && bcount < 7 then break
  minGallop := minGallop + 1
  zdF minGallop
 unsupported "internal:list.sort.merge-bound") := rfl
structure MH (κ : KeyKind) (a b O : List Keyed) (na nb : Nat) : Prop where
 ha : na <= a.length
 hb : nb <= b.length
 perm : O.Perm (a.drop na ++ b.drop nb)
 srt : Srt κ O
 le : ∀ x ∈ a.take na ++ b.take nb, ∀ y ∈ O, κ.kle (kOf κ x) (kOf κ y)
theorem MH.swap {a b O : List Keyed} {na nb : Nat} (h : MH κ a b O na nb) : MH κ b a O nb na :=
 ⟨h.hb, h.ha, h.perm.trans List.perm_append_comm, h.srt, fun x hx y hy => h.le x (by rw [yay] at hx ⊢; exact hx.symm) y hy⟩
theorem MH.addA {a b O : List Keyed} {na nb m : Nat} (h : MH κ a b O na nb) (hm : m <= na) (sa : Srt κ a) (hle : ∀ x ∈ b.take nb, ∀ y ∈ (a.take na).drop m, κ.kle (kOf κ x) (kOf κ y)) : MH κ a b ((a.take na).drop m ++ O) m nb := by
 have hna := h.ha;have ed : a.drop m = (a.take na).drop m ++ a.drop na := by
  conv => lhs; rw [<- List.take_append_drop na a]
  rw [List.drop_append_of_le_length (by rw [ya3]; omega)]
 have et : a.take na = a.take m ++ (a.take na).drop m := by
  conv => lhs; rw [<- List.take_append_drop m (a.take na)]
  rw [List.take_take, Nat.min_eq_left hm]
 have st : Srt κ (a.take m ++ (a.take na).drop m) := by rw [<- et]; exact sa.take
 obtain ⟨s1, s2, s3⟩ := List.pairwise_append.mp st;refine ⟨ω, h.hb, ?_, List.pairwise_append.mpr ⟨s2, h.srt, fun x hx y hy => h.le x (List.mem_append_left _ (List.mem_of_mem_drop hx)) y hy⟩, fun x hx y hy => ?_⟩
 ·rw [ed, List.append_assoc];exact List.Perm.append_left _ h.perm
 ·rcases yay.mp hy with hy | hy
  ·rcases yay.mp hx with hx | hx
   ·exact s3 x hx y hy
   ·exact hle x hx y hy
  ·refine h.le x ?_ y hy;rcases yay.mp hx with hx | hx
   ·refine List.mem_append_left _ ?_;rw [et];exact List.mem_append_left _ hx
   ·exact List.mem_append_right _ hx
theorem MH.fin {a b O r : List Keyed} {na nb : Nat} (h : MH κ a b O na nb) (hr : r.Perm (a.take na ++ b.take nb)) (sr : Srt κ r) : Mg κ a b (r ++ O) := by
 refine ⟨?_, List.pairwise_append.mpr ⟨sr, h.srt, fun x hx y hy => h.le x (hr.mem_iff.mp hx) y hy⟩⟩;refine ((hr.append_right _).trans (List.Perm.append_left _ h.perm)).trans ?_
 conv => rhs; rw [<- List.take_append_drop na a, <- List.take_append_drop nb b]
 rw [List.append_assoc, List.append_assoc];refine List.Perm.append_left _ ?_;rw [<- List.append_assoc, <- List.append_assoc];exact List.Perm.append_right _ List.perm_append_comm
theorem zdh (a : Array Keyed) (n : Nat) : (a.extract 0 n).toList = a.toList.take n := by
 rw [zbP]; simp
theorem MH.done {a b out : Array Keyed} {na nb : Nat} (h : MH κ a.toList b.toList out.toList.reverse na nb) (sa : Srt κ a.toList) (sb : Srt κ b.toList) (he : na = 0 \/ nb = 0) : LoOk κ a b (a.extract 0 na ++ b.extract 0 nb ++ out.reverse) := by
 have e : (a.extract 0 na ++ b.extract 0 nb ++ out.reverse).toList = (a.toList.take na ++ b.toList.take nb) ++ out.toList.reverse := by
  rw [Array.toList_append, Array.toList_append, zdh, zdh, Array.toList_reverse]
 show Mg κ _ _ _;rw [e];refine h.fin (List.Perm.refl _) ?_;rcases he with rfl | rfl
 ·simpa using sb.take
 ·simpa using sa.take
theorem MH.firstB {a b out : Array Keyed} {na nb : Nat} (h : MH κ a.toList b.toList out.toList.reverse na nb) (sa : Srt κ a.toList) (he : nb = 1) (h0 : ∀ x ∈ b.toList.take 1, ∀ y ∈ a.toList, κ.kle (kOf κ x) (kOf κ y)) : LoOk κ a b (b.extract 0 nb ++ a.extract 0 na ++ out.reverse) := by
 have e : (b.extract 0 nb ++ a.extract 0 na ++ out.reverse).toList = (b.toList.take nb ++ a.toList.take na) ++ out.toList.reverse := by
  rw [Array.toList_append, Array.toList_append, zdh, zdh, Array.toList_reverse]
 show Mg κ _ _ _;rw [e];refine h.fin List.perm_append_comm ?_;subst he;refine List.pairwise_append.mpr ⟨?_, sa.take, fun x hx y hy => h0 x hx y (List.mem_of_mem_take hy)⟩;cases b.toList with
 | nil => exact List.Pairwise.nil
 | cons x l => exact List.pairwise_singleton _ _
theorem zeR {a : Array Keyed} {i : Nat} (h0 : 0 < i) (h : i <= a.size) : (a.toList.take i).drop (i - 1) = [a[i - 1]] := by
 have e : a.toList.take i = a.toList.take (i - 1) ++ [a[i - 1]] := by
  have := List.take_add_one (l := a.toList) (i := i - 1);rw [show i - 1 + 1 = i by omega] at this;rw [this];simp [show i - 1 < a.size by omega]
 rw [e, List.drop_left' (by rw [ya3]; simp; omega)]
theorem MH.pushA {a b out : Array Keyed} {na nb : Nat} (h : MH κ a.toList b.toList out.toList.reverse na nb) (hi : 0 < na) (hs : na <= a.size) (sa : Srt κ a.toList) (hle : ∀ x ∈ b.toList.take nb, κ.kle (kOf κ x) (kOf κ a[na - 1])) : MH κ a.toList b.toList (out.push a[na - 1]).toList.reverse (na - 1) nb := by
 have := h.addA (m := na - 1) ω sa (by rw [zeR hi hs]; intro x hx y hy; rw [yah.mp hy]; exact hle x hx);rw [zeR hi hs] at this;simpa using this
theorem MH.pushB {a b out : Array Keyed} {na nb : Nat} (h : MH κ a.toList b.toList out.toList.reverse na nb) (hi : 0 < nb) (hs : nb <= b.size) (sb : Srt κ b.toList) (hle : ∀ x ∈ a.toList.take na, κ.kle (kOf κ x) (kOf κ b[nb - 1])) : MH κ a.toList b.toList (out.push b[nb - 1]).toList.reverse na (nb - 1) :=
 (h.swap.pushA hi hs sb hle).swap
theorem MH.extA {a b out : Array Keyed} {na nb m : Nat} (h : MH κ a.toList b.toList out.toList.reverse na nb) (hm : m <= na) (sa : Srt κ a.toList) (hle : ∀ x ∈ b.toList.take nb, ∀ y ∈ (a.toList.take na).drop m, κ.kle (kOf κ x) (kOf κ y)) : MH κ a.toList b.toList (out ++ (a.extract m na).reverse).toList.reverse m nb := by
 have := h.addA hm sa hle;have e : (out ++ (a.extract m na).reverse).toList.reverse = (a.toList.take na).drop m ++ out.toList.reverse := by
  rw [Array.toList_append, Array.toList_reverse, List.reverse_append, List.reverse_reverse, zbP, List.drop_take]
 rw [e];exact this
theorem MH.extB {a b out : Array Keyed} {na nb m : Nat} (h : MH κ a.toList b.toList out.toList.reverse na nb) (hm : m <= nb) (sb : Srt κ b.toList) (hle : ∀ x ∈ a.toList.take na, ∀ y ∈ (b.toList.take nb).drop m, κ.kle (kOf κ x) (kOf κ y)) : MH κ a.toList b.toList (out ++ (b.extract m nb).reverse).toList.reverse na m :=
 (h.swap.extA hm sb hle).swap
theorem zcs {a : Array Keyed} {i : Nat} {y : Keyed} (h : y ∈ a.toList.take i) : ∃ j, ∃ hj : j < a.size, j < i /\ y = a[j] := by
 obtain ⟨m, hm, e⟩ := List.getElem_of_mem h;rw [ya3] at hm;refine ⟨m, by simpa using (by omega : m < a.toList.length),ω, ?_⟩;rw [<- e];simp
theorem zgg {a : Array Keyed} {i m : Nat} {y : Keyed} (h : y ∈ (a.toList.take i).drop m) : ∃ j, ∃ hj : j < a.size, m <= j /\ j < i /\ y = a[j] := by
 obtain ⟨k, hk, e⟩ := List.getElem_of_mem h;rw [List.length_drop, ya3] at hk;refine ⟨m + k, by simpa using (by omega : m + k < a.toList.length),ω,ω, ?_⟩;rw [<- e];simp
abbrev HT' := Option (Array Keyed) × Nat × Nat × Array Keyed × Nat × Nat × Nat
abbrev HU := Option (Array Keyed) × Nat × Nat × Array Keyed × Nat × Nat
abbrev HV := Option (Array Keyed) × Nat × Nat × Array Keyed × Nat
def hiC (a b out : Array Keyed) (na nb mg ac bc : Nat) : StateT SortSt Sem (ForInStep HT') := do
 let x <- elem' a (na - 1)
 if (na - 1 == 0) = true then pure (.done (some (a.extract 0 (na - 1) ++ b.extract 0 nb ++ (out.push x).reverse), na - 1, nb, out.push x, mg, ac, bc))
 else if (decide (ac < 7) && decide (bc < 7)) = true then pure (.done (none, na - 1, nb, out.push x, mg, ac, bc))
 else pure (.yield (none, na - 1, nb, out.push x, mg, ac, bc))
def hiB (a b out : Array Keyed) (na nb mg ac bc : Nat) : StateT SortSt Sem (ForInStep HT') := do
 let x <- elem' b (nb - 1)
 if (nb - 1 == 1) = true then pure (.done (some (b.extract 0 (nb - 1) ++ a.extract 0 na ++ (out.push x).reverse), na, nb - 1, out.push x, mg, ac, bc))
 else do
  let y <- elem' a (na - 1)
  let r <- zb6 true y b 0 (nb - 1) (nb - 1 - 1)
  match r with
  | some at_ =>
   if nb - 1 - at_ > 0 then
    if (at_ == 1) = true then pure (.done (some (b.extract 0 at_ ++ a.extract 0 na ++ (out.push x ++ (b.extract at_ (nb - 1)).reverse).reverse), na, at_, out.push x ++ (b.extract at_ (nb - 1)).reverse, mg, ac, nb - 1 - at_))
    else if (at_ == 0) = true then pure (.done (some (a.extract 0 na ++ b.extract 0 at_ ++ (out.push x ++ (b.extract at_ (nb - 1)).reverse).reverse), na, at_, out.push x ++ (b.extract at_ (nb - 1)).reverse, mg, ac, nb - 1 - at_))
    else hiC a b (out.push x ++ (b.extract at_ (nb - 1)).reverse) na at_ mg ac (nb - 1 - at_)
   else hiC a b (out.push x) na (nb - 1) mg ac (nb - 1 - at_)
  | _ => pure (.done (some (a.extract 0 na ++ b.extract 0 (nb - 1) ++ (out.push x).reverse), na, nb - 1, out.push x, mg, ac, bc))
def hiA (a b out : Array Keyed) (na nb mg ac bc : Nat) : StateT SortSt Sem (ForInStep HT') := do
 zdF mg
 let x <- elem' b (nb - 1)
 let r <- zb6 false x a 0 na (na - 1)
 match r with
 | some at_ =>
  if na - at_ > 0 then
   if (at_ == 0) = true then pure (.done (some (a.extract 0 at_ ++ b.extract 0 nb ++ (out ++ (a.extract at_ na).reverse).reverse), at_, nb, out ++ (a.extract at_ na).reverse, mg, na - at_, bc))
   else hiB a b (out ++ (a.extract at_ na).reverse) at_ nb mg (na - at_) bc
  else hiB a b out na nb mg (na - at_) bc
 | _ => pure (.done (some (a.extract 0 na ++ b.extract 0 nb ++ out.reverse), na, nb, out, mg, ac, bc))
def hi1 (a b : Array Keyed) (mg na nb : Nat) (out : Array Keyed) (ac bc : Nat) : StateT SortSt Sem (ForInStep HU) := do
 let x <- elem' b (nb - 1)
 let y <- elem' a (na - 1)
 let r <- lt' x y
 match r with
 | some w =>
  if w = true then do
   let y <- elem' a (na - 1)
   if (na - 1 == 0) = true then pure (.done (some (a.extract 0 (na - 1) ++ b.extract 0 nb ++ (out.push y).reverse), na - 1, nb, out.push y, ac + 1, 0))
   else if ac + 1 ≥ mg then pure (.done (none, na - 1, nb, out.push y, ac + 1, 0)) else pure (.yield (none, na - 1, nb, out.push y, ac + 1, 0))
  else do
   let x <- elem' b (nb - 1)
   if (nb - 1 == 1) = true then pure (.done (some (b.extract 0 (nb - 1) ++ a.extract 0 na ++ (out.push x).reverse), na, nb - 1, out.push x, 0, bc + 1))
   else if bc + 1 ≥ mg then pure (.done (none, na, nb - 1, out.push x, 0, bc + 1)) else pure (.yield (none, na, nb - 1, out.push x, 0, bc + 1))
 | _ => pure (.done (some (a.extract 0 na ++ b.extract 0 nb ++ out.reverse), na, nb, out, ac, bc))
def hiO (a b : Array Keyed) (na nb : Nat) (out : Array Keyed) (mg : Nat) : StateT SortSt Sem (ForInStep HV) := do
 let t <- forIn [:a.size + b.size] ((none, na, nb, out, 0, 0) : HU) fun _ t => hi1 a b mg t.2.1 t.2.2.1 t.2.2.2.1 t.2.2.2.2.1 t.2.2.2.2.2
 match t.1 with
 | some r => pure (.done (some r, t.2.1, t.2.2.1, t.2.2.2.1, mg))
 | none => do
  liftM (rule "list.sort.gallop")
  let t <- forIn [:a.size + b.size] ((none, t.2.1, t.2.2.1, t.2.2.2.1, mg + 1, t.2.2.2.2.1, t.2.2.2.2.2) : HT') fun _ t =>
   if t.2.2.2.2.1 > 1 then hiA a b t.2.2.2.1 t.2.1 t.2.2.1 (t.2.2.2.2.1 - 1) t.2.2.2.2.2.1 t.2.2.2.2.2.2 else hiA a b t.2.2.2.1 t.2.1 t.2.2.1 t.2.2.2.2.1 t.2.2.2.2.2.1 t.2.2.2.2.2.2
  match t.1 with
  | some r => pure (.done (some r, t.2.1, t.2.2.1, t.2.2.2.1, t.2.2.2.2.1))
  | none => do
   zdF (t.2.2.2.2.1 + 1)
   pure (.yield (none, t.2.1, t.2.2.1, t.2.2.2.1, t.2.2.2.2.1 + 1))
theorem zf7 (a b : Array Keyed) : zdg a b = (do
 liftM (rule "list.sort.merge-hi")
 let x <- elem' a (a.size - 1)
 if (a.size - 1 == 0) = true then pure (a.extract 0 (a.size - 1) ++ b.extract 0 b.size ++ #[x].reverse)
 else if (b.size == 1) = true then pure (b.extract 0 b.size ++ a.extract 0 (a.size - 1) ++ #[x].reverse)
 else do
  let st <- get
  let t <- forIn [:a.size + b.size] ((none, a.size - 1, b.size, #[x], gallopOf st) : HV) fun _ t => hiO a b t.2.1 t.2.2.1 t.2.2.2.1 t.2.2.2.2
  match t.1 with
  | some r => pure r
  | none => unsupported "internal:list.sort.merge-bound") := by
 rw [zf6];dsimp only
 congr 1
 funext _
 congr 1
 funext x
 congr 1
 congr 1
 congr 1
 funext st
 congr 1
 ·congr 1
  funext _ t
  unfold hiO
  congr 1
  funext t1
  obtain ⟨r1, na1, nb1, out1, ac1, bc1⟩ := t1;cases r1 with
  | some r => rfl
  | none =>
   dsimp only
   congr 1
   funext _
   congr 1
   funext t2
   obtain ⟨r2, _⟩ := t2;cases r2 <;> rfl
 ·funext t
  obtain ⟨r1, _⟩ := t;cases r1 <;> rfl
structure HiH (κ : KeyKind) (kx : SortKind) (prog : Program) (w : World) (A : Around) (s : Shared) (a b : Array Keyed) : Prop where
 o : LtAt κ kx prog w A s
 ka : ∀ x ∈ a, Kd κ x
 kb : ∀ x ∈ b, Kd κ x
 sa : Srt κ a.toList
 sb : Srt κ b.toList
 z : ∀ x ∈ b.toList.take 1, ∀ y ∈ a.toList, κ.kle (kOf κ x) (kOf κ y)
theorem zke {a : Array Keyed} {i : Nat} {y : Keyed} (sa : Srt κ a.toList) (h0 : 0 < i) (hi : i <= a.size) (h : κ.kle (kOf κ a[i - 1]) (kOf κ y)) : ∀ x ∈ a.toList.take i, κ.kle (kOf κ x) (kOf κ y) := fun x hx => by
 obtain ⟨j, hj, hij, rfl⟩ := zcs hx;exact KeyOrd.kle_trans (sa.at (i := j) (j := i - 1) ω ω) h
structure HI (κ : KeyKind) (a b out : Array Keyed) (na nb : Nat) : Prop where
 m : MH κ a.toList b.toList out.toList.reverse na nb
 na : 1 <= na
 nb : 2 <= nb
theorem HI.sa {a b out : Array Keyed} {na nb : Nat} (h : HI κ a b out na nb) : na <= a.size := by have := h.m.ha; simpa using this
theorem HI.sb {a b out : Array Keyed} {na nb : Nat} (h : HI κ a b out na nb) : nb <= b.size := by have := h.m.hb; simpa using this
def PHT (κ : KeyKind) (a b : Array Keyed) (n : Nat) (c : HT') : Prop := match c with
 | (some m, _) => LoOk κ a b m
 | (none, na, nb, out, _) => HI κ a b out na nb /\ na + nb + n <= a.size + b.size
def QHT (κ : KeyKind) (a b : Array Keyed) (n : Nat) (r : ForInStep HT') : Prop := match r with
 | .done c => PHT κ a b n c
 | .yield c => c.1 = none /\ PHT κ a b n c
theorem zhZ {st : SortSt} {a b out : Array Keyed} {na nb mg ac bc n : Nat} (H : HiH κ kx prog w A s a b) (L : HI κ a b out na nb) (hle : ∀ x ∈ b.toList.take nb, κ.kle (kOf κ x) (kOf κ (a[na - 1]'(by have := L.sa; have := L.na; omega)))) (hn : na + nb + n <= a.size + b.size) : wpS (model prog w) A E s (hiC a b out na nb mg ac bc) (fun r st' => st' = st /\ QHT κ a b n r) st := by
 unfold hiC;have hna := L.na;have hsa := L.sa;refine wpS_bind (za8 ω ?_);have m1 := L.m.pushA ω hsa H.sa hle
 by_cases e : na - 1 = 0
 ·rw [if_pos (by simpa using e)];exact wpS_pure ⟨rfl, m1.done H.sa H.sb (.inl e)⟩
 ·rw [if_neg (by simpa using e)];have L1 : HI κ a b (out.push a[na - 1]) (na - 1) nb := ⟨m1,ω, L.nb⟩
  split
  ·exact wpS_pure ⟨rfl, L1,ω⟩
  ·exact wpS_pure ⟨rfl, rfl, L1,ω⟩
theorem zia {st : SortSt} {a b out : Array Keyed} {na nb mg ac bc n : Nat} (H : HiH κ kx prog w A s a b) (hk : kindOf st = kx) (L : HI κ a b out na nb) (hle : ∀ x ∈ a.toList.take na, κ.kle (kOf κ x) (kOf κ (b[nb - 1]'(by have := L.sb; have := L.nb; omega)))) (hn : na + nb + n <= a.size + b.size) : wpS (model prog w) A E s (hiB a b out na nb mg ac bc) (fun r st' => st' = st /\ QHT κ a b n r) st := by
 unfold hiB;have hna := L.na;have hnb := L.nb;have hsa := L.sa;have hsb := L.sb;refine wpS_bind (za8 ω ?_);have m1 := L.m.pushB ω hsb H.sb hle
 by_cases e : nb - 1 = 1
 ·rw [if_pos (by simpa using e)];exact wpS_pure ⟨rfl, m1.firstB H.sa e H.z⟩
 rw [if_neg (by simpa using e)];refine wpS_bind (za8 ω (wpS_bind (zbH H.o hk (H.ka _ (Array.getElem_mem _)) H.kb ω ω (zcA ω H.sb) fun k hk1 h1 h2 => ?_)));have hlt : ∀ j (hj : j < b.size), j < k -> κ.kle (kOf κ b[j]) (kOf κ (a[na - 1]'ω)) := fun j hj q2 => by
  have := h1 j q2;rw [zcb ω] at this;simp only [if_true, Nat.zero_add] at this;exact KeyOrd.kle_of_klt this
 have hge : ∀ j (hj : j < b.size), k <= j -> j < nb - 1 -> κ.kle (kOf κ (a[na - 1]'ω)) (kOf κ b[j]) := fun j hj q1 q2 => by
  have := h2 j q1 q2;rw [zcb ω] at this;show κ.blt _ _ = false;simpa using this
 have m2 := m1.extB (m := k) hk1 H.sb (fun x hx y hy => by
  obtain ⟨j, hj, q1, q2, rfl⟩ := zgg hy;obtain ⟨i, hi, q3, rfl⟩ := zcs hx;exact KeyOrd.kle_trans (H.sa.at (i := i) (j := na - 1) ω ω) (hge j hj q1 q2))
 have hx : ∀ {m : Nat}, m <= k -> ∀ x ∈ b.toList.take m, κ.kle (kOf κ x) (kOf κ (a[na - 1]'ω)) := fun {m} hm x hx => by
  obtain ⟨j, hj, q, rfl⟩ := zcs hx;exact hlt j hj ω
 dsimp only
 by_cases hk0 : nb - 1 - k > 0
 ·rw [if_pos hk0]
  by_cases e2 : k = 1
  ·rw [if_pos (by simpa using e2)];exact wpS_pure ⟨rfl, m2.firstB H.sa e2 H.z⟩
  rw [if_neg (by simpa using e2)]
  by_cases e3 : k = 0
  ·rw [if_pos (by simpa using e3)];exact wpS_pure ⟨rfl, m2.done H.sa H.sb (.inr e3)⟩
  rw [if_neg (by simpa using e3)];exact zhZ H ⟨m2, hna,ω⟩ (hx (yai _)) ω
 ·rw [if_neg hk0];exact zhZ H ⟨m1, hna,ω⟩ (hx ω) ω
theorem zle {st : SortSt} {a b out : Array Keyed} {na nb mg ac bc n : Nat} (H : HiH κ kx prog w A s a b) (hk : kindOf st = kx) (L : HI κ a b out na nb) (hn : na + nb + n <= a.size + b.size) : wpS (model prog w) A E s (hiA a b out na nb mg ac bc) (fun r st' => st' = setG st mg /\ QHT κ a b n r) st := by
 unfold hiA;have hna := L.na;have hnb := L.nb;have hsa := L.sa;have hsb := L.sb;refine wpS_bind (zc9 (wpS_bind (za8 ω (wpS_bind (zbH (st := setG st mg) H.o hk (H.kb _ (Array.getElem_mem _)) H.ka ω ω (zcA ω H.sa) fun k hk1 h1 h2 => ?_)))));have hle : ∀ j (hj : j < a.size), j < k -> κ.kle (kOf κ a[j]) (kOf κ (b[nb - 1]'ω)) := fun j hj q2 => by
  have := h1 j q2;rw [zcb ω] at this;simp only [Bool.false_eq_true, if_false, Bool.not_eq_true', Nat.zero_add] at this;exact this
 have hgt : ∀ j (hj : j < a.size), k <= j -> j < na -> κ.kle (kOf κ (b[nb - 1]'ω)) (kOf κ a[j]) := fun j hj q1 q2 => by
  have := h2 j q1 q2;rw [zcb ω] at this;simp only [Bool.false_eq_true, if_false, Bool.not_eq_false', Nat.zero_add] at this;exact KeyOrd.kle_of_klt this
 have m2 := L.m.extA (m := k) hk1 H.sa (fun x hx y hy => by
  obtain ⟨j, hj, q1, q2, rfl⟩ := zgg hy;obtain ⟨i, hi, q3, rfl⟩ := zcs hx;exact KeyOrd.kle_trans (H.sb.at (i := i) (j := nb - 1) ω ω) (hgt j hj q1 q2))
 have hx : ∀ {m : Nat}, m <= k -> ∀ x ∈ a.toList.take m, κ.kle (kOf κ x) (kOf κ (b[nb - 1]'ω)) := fun {m} hm x hx => by
  obtain ⟨j, hj, q, rfl⟩ := zcs hx;exact hle j hj ω
 dsimp only
 by_cases hk0 : na - k > 0
 ·rw [if_pos hk0]
  by_cases e2 : k = 0
  ·rw [if_pos (by simpa using e2)];exact wpS_pure ⟨rfl, m2.done H.sa H.sb (.inl e2)⟩
  rw [if_neg (by simpa using e2)];exact zia (st := setG st mg) H hk ⟨m2,ω, hnb⟩ (hx (yai _)) ω
 ·rw [if_neg hk0];exact zia (st := setG st mg) H hk L (hx ω) hn
def PHU (κ : KeyKind) (a b : Array Keyed) (n : Nat) (c : HU) : Prop := match c with
 | (some m, _) => LoOk κ a b m
 | (none, na, nb, out, _) => HI κ a b out na nb /\ na + nb + n <= a.size + b.size
theorem zlf {st : SortSt} {a b out : Array Keyed} {mg na nb ac bc n : Nat} (H : HiH κ kx prog w A s a b) (hk : kindOf st = kx) (L : HI κ a b out na nb) (hn : na + nb + n <= a.size + b.size) : wpS (model prog w) A E s (hi1 a b mg na nb out ac bc) (fun r st' => st' = st /\ match r with
  | .done c => PHU κ a b (n + 1) c
  | .yield c => c.1 = none /\ PHU κ a b (n + 1) c) st := by
 unfold hi1;have hna := L.na;have hnb := L.nb;have hsa := L.sa;have hsb := L.sb;refine wpS_bind (za8 ω (wpS_bind (za8 ω (wpS_bind (zdx H.o hk (H.kb _ (Array.getElem_mem _)) (H.ka _ (Array.getElem_mem _)) ?_)))));cases hw : κ.blt (kOf κ (b[nb - 1]'ω)) (kOf κ (a[na - 1]'ω)) with
 | true =>
  dsimp only;rw [if_pos rfl];refine wpS_bind (za8 ω ?_);have m1 := L.m.pushA ω hsa H.sa (zke H.sb ω hsb (KeyOrd.kle_of_klt hw))
  by_cases e : na - 1 = 0
  ·rw [if_pos (by simpa using e)];exact wpS_pure ⟨rfl, m1.done H.sa H.sb (.inl e)⟩
  ·rw [if_neg (by simpa using e)];have L1 : HI κ a b (out.push a[na - 1]) (na - 1) nb := ⟨m1,ω, hnb⟩
   split
   ·exact wpS_pure ⟨rfl, L1,ω⟩
   ·exact wpS_pure ⟨rfl, rfl, L1,ω⟩
 | false =>
  dsimp only;rw [if_neg δ];refine wpS_bind (za8 ω ?_);have m1 := L.m.pushB ω hsb H.sb (zke H.sa ω hsa (show κ.kle _ _ from hw))
  by_cases e : nb - 1 = 1
  ·rw [if_pos (by simpa using e)];exact wpS_pure ⟨rfl, m1.firstB H.sa e H.z⟩
  ·rw [if_neg (by simpa using e)];have L1 : HI κ a b (out.push b[nb - 1]) na (nb - 1) := ⟨m1, hna,ω⟩
   split
   ·exact wpS_pure ⟨rfl, L1,ω⟩
   ·exact wpS_pure ⟨rfl, rfl, L1,ω⟩
theorem zlg {st : SortSt} {a b out : Array Keyed} {na nb mg n : Nat} (H : HiH κ kx prog w A s a b) (hk : kindOf st = kx) (L : HI κ a b out na nb) (hn : na + nb + n <= a.size + b.size) : wpS (model prog w) A E s (hiO a b na nb out mg) (fun r st' => (∃ g, st' = setG st g) /\ match r with
  | .done c => ∃ m t, c = (some m, t) /\ LoOk κ a b m
  | .yield c => ∃ na nb out mg, c = (none, na, nb, out, mg) /\ HI κ a b out na nb /\ na + nb + (n + 1) <= a.size + b.size) st := by
 unfold hiO;refine wpS_bind (wpS_mono (wpS_forRange (I := fun x c st' => st' = st /\ c.1 = none /\ PHU κ a b (n + x) c) (Q := fun c st' => st' = st /\ PHU κ a b (n + 1) c) ?step ?fin ⟨rfl, rfl, L,ω⟩) ?post)
 case step =>
  rintro x ⟨r, na, nb, out, ac, bc⟩ st' _ hx ⟨rfl, hr, hP⟩
  cases (show r = none from hr);obtain ⟨L, hn'⟩ : HI κ a b out na nb /\ na + nb + (n + x) <= a.size + b.size := hP;refine wpS_mono (zlf H hk L hn') fun r st'' hq => ?_;obtain ⟨rfl, hq⟩ := hq;cases r with
  | done c =>
   refine ⟨rfl, ?_⟩;obtain ⟨r, na2, nb2, out2, c3⟩ := c;cases r with
   | some m => exact hq
   | none =>
    obtain ⟨q1, q2⟩ : HI κ a b out2 na2 nb2 /\ na2 + nb2 + (n + x + 1) <= a.size + b.size := hq;exact ⟨q1,ω⟩
  | yield c => exact ⟨rfl, hq.1, hq.2⟩
 case fin =>
  rintro ⟨r, na, nb, out, ac, bc⟩ st' ⟨rfl, hr, hP⟩
  cases (show r = none from hr);obtain ⟨L, hn'⟩ : HI κ a b out na nb /\ na + nb + (n + max 0 (a.size + b.size)) <= a.size + b.size := hP;have := L.na;have := L.nb;omega
 case post =>
  rintro ⟨r, na, nb, out, ac, bc⟩ st' ⟨rfl, hP⟩
  cases r with
  | some m => exact wpS_pure ⟨⟨gallopOf st', rfl⟩, m, _, rfl, hP⟩
  | none =>
   obtain ⟨L, hn'⟩ : HI κ a b out na nb /\ na + nb + (n + 1) <= a.size + b.size := hP;refine wpS_bind (wpS_lift (wpAny_rule ⟨rfl, ?_⟩));dsimp only;refine wpS_bind (wpS_mono (wpS_forRange (I := fun x c st'' => (∃ g, st'' = setG st' g) /\ c.1 = none /\ PHT κ a b (n + 1) c) (Q := fun c st'' => (∃ g, st'' = setG st' g) /\ PHT κ a b (n + 1) c) ?step2 ?fin2 ⟨⟨gallopOf st', rfl⟩, rfl, L, hn'⟩) ?post2)
   case step2 =>
    rintro x ⟨r, na, nb, out, mg, ac, bc⟩ st'' _ hx ⟨⟨g, rfl⟩, hr, hP⟩
    cases (show r = none from hr);obtain ⟨L, hn'⟩ : HI κ a b out na nb /\ na + nb + (n + 1) <= a.size + b.size := hP;have go : ∀ mg', wpS (model prog w) A E s (hiA a b out na nb mg' ac bc) (fun r st3 => match r with | .done c' => (∃ g, st3 = setG st' g) /\ PHT κ a b (n + 1) c' | .yield c' => (∃ g, st3 = setG st' g) /\ c'.1 = none /\ PHT κ a b (n + 1) c') (setG st' g) := fun mg' => by
     refine wpS_mono (zle (st := setG st' g) H hk L hn') fun r st3 hq => ?_;obtain ⟨rfl, hq⟩ := hq;cases r with
     | done c => exact ⟨⟨mg', rfl⟩, hq⟩
     | yield c => exact ⟨⟨mg', rfl⟩, hq.1, hq.2⟩
    dsimp only
    split
    ·exact wpS_mono (go _) fun r st3 h => by cases r <;> exact h
    ·exact wpS_mono (go _) fun r st3 h => by cases r <;> exact h
   case fin2 =>
    rintro c st'' ⟨h1, _, h2⟩
    exact ⟨h1, h2⟩
   case post2 =>
    rintro ⟨r, na, nb, out, mg, ac, bc⟩ st'' ⟨⟨g, rfl⟩, hP⟩
    cases r with
    | some m => exact wpS_pure ⟨⟨g, rfl⟩, m, _, rfl, hP⟩
    | none =>
     obtain ⟨L, hn'⟩ : HI κ a b out na nb /\ na + nb + (n + 1) <= a.size + b.size := hP;exact wpS_bind (zc9 (wpS_pure ⟨⟨_, rfl⟩, na, nb, out, _, rfl, L, hn'⟩))
theorem MH.nil (a b : List Keyed) : MH κ a b [] a.length b.length := ⟨yai _, yai _,ς, List.Pairwise.nil, fun x _ y hy => by cases hy⟩
theorem zf8 {st : SortSt} {a b : Array Keyed} {Q : Array Keyed -> SortSt -> Prop} (H : HiH κ kx prog w A s a b) (hk : kindOf st = kx) (h1a : 0 < a.size) (h1b : 0 < b.size)
  (h0 : ∀ x ∈ b.toList, κ.kle (kOf κ x) (kOf κ a[a.size - 1])) (h : ∀ m g, LoOk κ a b m -> Q m (setG st g)) : wpS (model prog w) A E s (zdg a b) Q st := by
 rw [zf7];refine wpS_bind (wpS_lift (wpAny_rule ⟨rfl, ?_⟩));refine wpS_bind (za8 ω ?_);have mn := MH.nil (κ := κ) a.toList b.toList;rw [Array.length_toList, Array.length_toList] at mn;have m0 : MH κ a.toList b.toList #[a[a.size - 1]].toList.reverse (a.size - 1) b.size := by
  have := MH.pushA (out := #[]) mn ω (yai _) H.sa (fun x hx => h0 x (List.mem_of_mem_take hx));simpa using this
 by_cases e1 : a.size - 1 = 0
 ·rw [if_pos (by simpa using e1)];exact wpS_pure (h _ (gallopOf st) (m0.done H.sa H.sb (.inl e1)))
 rw [if_neg (by simpa using e1)]
 by_cases e2 : b.size = 1
 ·rw [if_pos (by simpa using e2)];exact wpS_pure (h _ (gallopOf st) (m0.firstB H.sa e2 H.z))
 rw [if_neg (by simpa using e2)];refine wpS_bind (wpS_get ?_);refine wpS_bind (wpS_mono (wpS_forRange (I := fun x c st' => (∃ g, st' = setG st g) /\ ∃ na nb out mg, c = (none, na, nb, out, mg) /\ HI κ a b out na nb /\ na + nb + (x + 1) <= a.size + b.size) (Q := fun c st' => (∃ g, st' = setG st g) /\ ∃ m t, c = (some m, t) /\ LoOk κ a b m) ?step ?fin ⟨⟨gallopOf st, rfl⟩, _, _, _, _, rfl, ⟨m0,ω,ω⟩,ω⟩) ?post)
 case step =>
  rintro x c st' _ hx ⟨⟨g, rfl⟩, na, nb, out, mg, rfl, L, hn⟩
  refine wpS_mono (zlg (st := setG st g) H hk L hn) fun r st'' hq => ?_;obtain ⟨⟨g', rfl⟩, hq⟩ := hq;cases r with
  | done c => exact ⟨⟨g', rfl⟩, hq⟩
  | yield c => exact ⟨⟨g', rfl⟩, hq⟩
 case fin =>
  rintro c st' ⟨_, na, nb, out, mg, rfl, L, hn⟩
  have := L.na;have := L.nb;omega
 case post =>
  rintro c st' ⟨⟨g, rfl⟩, m, t, rfl, hm⟩
  exact wpS_pure (h m g hm)
end
section
variable {prog : Program} {w : World} {A : Around} {E : ZQ} {s : Shared} {κ : KeyKind} {kx : SortKind}
theorem zkf (off : Nat) : ∀ (l : List Keyed) (n : Nat) (arr : Array Keyed), off + n + l.length <= arr.size -> ((l.zipIdx n).foldl (fun a (p : Keyed × Nat) => a.setIfInBounds (off + p.2) p.1) arr).toList = arr.toList.take (off + n) ++ l ++ arr.toList.drop (off + n + l.length)
 | [], n, arr, _ => by simp
 | x :: l, n, arr, h => by
  rw [List.length_cons] at h;rw [List.zipIdx_cons, List.foldl_cons, zkf off l (n + 1) _ (by rw [Array.size_setIfInBounds]; omega)];rw [Array.toList_setIfInBounds];have hl : off + n < arr.toList.length := by simp; omega
  rw [show off + (n + 1) = off + n + 1 by omega, List.take_add_one, List.take_set_of_le (yai _), List.getElem?_set_self hl, List.drop_set_of_lt ω];simp only [Option.toList_some, List.append_assoc, List.singleton_append, List.cons_append, List.nil_append];rw [List.length_cons, show off + n + 1 + l.length = off + n + (l.length + 1) by omega]
def zgh (i : Nat) : StateT SortSt Sem Bool := do
 let s <- get
 let (some (sa, na, power), some (sb, nb, _)) := ((pendingOf s)[i]?, (pendingOf s)[i + 1]?) | unsupported "internal:list.sort.pending"
 set (setPending s (((pendingOf s).setIfInBounds i (sa, na + nb, power)).eraseIdxIfInBounds (i + 1)))
 let some k <- zb6 false (<- elem' (arrOf s) sb) (arrOf s) sa na 0 | return false
 let (sa, na) := (sa + k, na - k)
 if na == 0 then return true
 let some nb <- zb6 true (<- elem' (arrOf s) (sa + na - 1)) (arrOf s) sb nb (nb - 1) | return false
 if nb == 0 then return true
 let x := (arrOf s).extract sa sb
 let y := (arrOf s).extract sb (sb + nb)
 let merged <- if na <= nb then zde x y else zdg x y
 modify fun s => setArr s (merged.toList.zipIdx.foldl (fun a (p, j) => a.setIfInBounds (sa + j) p) (arrOf s))
 return (failedOf (<- get)).isNone
theorem zf9 (i : Nat) : mergeAt' i = zgh i := rfl
def byl (κ : KeyKind) (left : Bool) (key : Keyed) (r : List Keyed) (i : Nat) : Bool := match r[i]? with
 | some x => if left then κ.blt (kOf κ x) (kOf κ key) else !κ.blt (kOf κ key) (kOf κ x)
 | none => false
theorem zeS {left : Bool} {key : Keyed} {arr : Array Keyed} {r : List Keyed} {base i : Nat} (h : arr[base + i]? = r[i]?) : bynd κ left key arr base i = byl κ left key r i := by
 unfold bynd byl;rw [h]
 all_goals (cases r[i]? <;> rfl)
theorem Srt.atL {r : List Keyed} (h : Srt κ r) {i j : Nat} (hij : i <= j) (hj : j < r.length) : κ.kle (kOf κ (r[i]'ω)) (kOf κ r[j]) := by
 by_cases e : i = j
 ·subst e; exact KeyOrd.kle_refl _
 ·exact List.pairwise_iff_getElem.mp h i j ω hj ω
theorem zib {left : Bool} {key : Keyed} {r : List Keyed} {i : Nat} (h : i < r.length) : byl κ left key r i = if left then κ.blt (kOf κ r[i]) (kOf κ key) else !κ.blt (kOf κ key) (kOf κ r[i]) := by
 unfold byl;rw [yal h]
theorem zgi {left : Bool} {key : Keyed} {r : List Keyed} (sr : Srt κ r) : ∀ i j, i <= j -> j < r.length -> byl κ left key r j = true -> byl κ left key r i = true := fun i j hij hj e => by
 rw [zib ω] at e ⊢;have hle := sr.atL hij hj;cases left with
 | true => exact KeyOrd.klt_of_kle_of_klt hle e
 | false =>
  simp only [Bool.false_eq_true, if_false, Bool.not_eq_true'] at e ⊢;exact KeyOrd.kle_trans hle e
theorem zgj {left : Bool} {key : Keyed} {r : List Keyed} {k : Nat} (h : ∀ i, i < k -> byl κ left key r i = true) : ∀ x ∈ r.take k, κ.kle (kOf κ x) (kOf κ key) := fun x hx => by
 obtain ⟨m, hm, e⟩ := List.getElem_of_mem hx;rw [ya3] at hm;have := h m ω;rw [zib ω] at this;have e2 : r[m]'ω = x := by rw [<- e]; simp
 rw [e2] at this;cases left with
 | true => exact KeyOrd.kle_of_klt this
 | false => show κ.blt _ _ = false; simpa using this
theorem zgk {left : Bool} {key : Keyed} {r : List Keyed} {k : Nat} (h : ∀ i, k <= i -> i < r.length -> byl κ left key r i = false) : ∀ x ∈ r.drop k, κ.kle (kOf κ key) (kOf κ x) := fun x hx => by
 obtain ⟨m, hm, e⟩ := List.getElem_of_mem hx;rw [List.length_drop] at hm;have := h (k + m) ω ω;rw [zib ω] at this;have e2 : r[k + m]'ω = x := by rw [<- e]; simp
 rw [e2] at this;cases left with
 | true => show κ.blt _ _ = false; simpa using this
 | false =>
  simp only [Bool.false_eq_true, if_false, Bool.not_eq_false'] at this;exact KeyOrd.kle_of_klt this
theorem zne {r1 r2 m : List Keyed} {k n : Nat} (s1 : Srt κ r1) (s2 : Srt κ r2) (hm : Mg κ (r1.drop k) (r2.take n) m) (q1 : ∀ x ∈ r1.take k, ∀ y ∈ r2, κ.kle (kOf κ x) (kOf κ y)) (q2 : ∀ x ∈ r1, ∀ y ∈ r2.drop n, κ.kle (kOf κ x) (kOf κ y)) : Mg κ r1 r2 (r1.take k ++ (m ++ r2.drop n)) := by
 have d1 : Srt κ (r1.take k ++ r1.drop k) := by rw [List.take_append_drop]; exact s1
 have d2 : Srt κ (r2.take n ++ r2.drop n) := by rw [List.take_append_drop]; exact s2
 obtain ⟨_, _, t1⟩ := List.pairwise_append.mp d1;obtain ⟨_, _, t2⟩ := List.pairwise_append.mp d2;have mm : ∀ x, x ∈ m ↔ x ∈ r1.drop k \/ x ∈ r2.take n := fun x => by rw [hm.perm.mem_iff, yay]
 refine ⟨?_, List.pairwise_append.mpr ⟨s1.take, List.pairwise_append.mpr ⟨hm.srt, s2.drop, fun x hx y hy => ?_⟩, fun x hx y hy => ?_⟩⟩
 ·refine (List.Perm.append_left _ (hm.perm.append_right _)).trans ?_;rw [List.append_assoc, List.take_append_drop, <- List.append_assoc, List.take_append_drop]
 ·rcases (mm x).mp hx with z | z
  ·exact q2 x (List.mem_of_mem_drop z) y hy
  ·exact t2 x z y hy
 ·rcases yay.mp hy with z | z
  ·rcases (mm y).mp z with z | z
   ·exact t1 x hx y z
   ·exact q1 x hx y (List.mem_of_mem_take z)
  ·exact q1 x hx y (List.mem_of_mem_drop z)
theorem zlh {st st' : SortSt} {Q : PUnit -> SortSt -> Prop} (h : Q ⟨⟩ st') : wpS (model prog w) A E s (set st' : StateT SortSt Sem PUnit) Q st := by
 unfold wpS; rw [StateT.run_set]; exact yab ⟨rfl, h⟩
theorem zkg {P r S : List Keyed} {arr : Array Keyed} (ha : arr.toList = P ++ (r ++ S)) {i : Nat} (hi : i < r.length) : arr[P.length + i]? = r[i]? := by
 rw [<- Array.getElem?_toList, ha, List.getElem?_append_right ω, Nat.add_sub_cancel_left, ya5 hi]
theorem zic {P r S : List Keyed} {arr : Array Keyed} (ha : arr.toList = P ++ (r ++ S)) {i j : Nat} (hi : i = P.length) (hj : j = P.length + r.length) : (arr.extract i j).toList = r := by
 subst hi hj;rw [zbP, ha, List.drop_left, Nat.add_sub_cancel_left, List.take_left]
theorem zfA {st : SortSt} {P r1 r2 S : List Keyed} {i p q : Nat} {Q : Bool -> SortSt -> Prop} (hO : LtAt κ kx prog w A s) (hk : kindOf st = kx) (hf : failedOf st = none) (hK : ∀ x ∈ (arrOf st).toList, Kd κ x) (ha : (arrOf st).toList = P ++ (r1 ++ (r2 ++ S)))
  (h1 : (pendingOf st)[i]? = some (P.length, r1.length, p)) (h2 : (pendingOf st)[i + 1]? = some (P.length + r1.length, r2.length, q)) (n1 : 0 < r1.length) (n2 : 0 < r2.length) (s1 : Srt κ r1) (s2 : Srt κ r2)
  (h : ∀ m xs g, Mg κ r1 r2 m -> xs.toList = P ++ (m ++ S) -> Q true (SortSt.mk' (kindOf st) xs (((pendingOf st).setIfInBounds i (P.length, r1.length + r2.length, p)).eraseIdxIfInBounds (i + 1)) g (failedOf st))) : wpS (model prog w) A E s (mergeAt' i) Q st := by
 rw [zf9];unfold zgh;refine wpS_bind (wpS_get ?_);rw [h1, h2];dsimp only;refine wpS_bind (zlh ?_);have hsz : (arrOf st).size = P.length + (r1.length + (r2.length + S.length)) := by rw [<- Array.length_toList, ha]; simp
 have ha2 : (arrOf st).toList = (P ++ r1) ++ (r2 ++ S) := by rw [ha, List.append_assoc]
 have A1 : ∀ {i}, i < r1.length -> (arrOf st)[P.length + i]? = r1[i]? := fun hi => zkg ha hi;have A2 : ∀ {i}, i < r2.length -> (arrOf st)[P.length + r1.length + i]? = r2[i]? := fun hi => by
  have := zkg ha2 hi
  rwa [yae] at this
 have hK' : ∀ x ∈ arrOf st, Kd κ x := fun x hx => hK x (by simpa using hx);have K1 : ∀ x ∈ r1, Kd κ x := fun x hx => hK x (by rw [ha]; simp [hx]);have K2 : ∀ x ∈ r2, Kd κ x := fun x hx => hK x (by rw [ha]; simp [hx]);have b0 : (arrOf st)[P.length + r1.length]'ω = r2[0] := by
  have := A2 (i := 0) n2;rw [Nat.add_zero, getElem?_pos _ _ ω, yal n2] at this;exact Option.some.inj this
 have aL : (arrOf st)[P.length + (r1.length - 1)]'ω = r1[r1.length - 1] := by
  have := A1 (i := r1.length - 1) ω;rw [getElem?_pos _ _ ω, yal ω] at this;exact Option.some.inj this
 have eq1 : ∀ {key : Keyed} {left : Bool} {i}, i < r1.length -> bynd κ left key (arrOf st) P.length i = byl κ left key r1 i := fun hi => zeS (A1 hi);have eq2 : ∀ {key : Keyed} {left : Bool} {i}, i < r2.length -> bynd κ left key (arrOf st) (P.length + r1.length) i = byl κ left key r2 i := fun hi => zeS (A2 hi);have top2 : ∀ y ∈ r2, κ.kle (kOf κ r2[0]) (kOf κ y) := fun y hy => by
  obtain ⟨j, hj, rfl⟩ := List.getElem_of_mem hy;exact s2.atL (yaq _) hj
 have end1 : ∀ x ∈ r1, κ.kle (kOf κ x) (kOf κ r1[r1.length - 1]) := fun x hx => by
  obtain ⟨j, hj, rfl⟩ := List.getElem_of_mem hx;exact s1.atL ω ω
 refine wpS_bind (za8 ω ?_);rw [b0];refine wpS_bind (zbH hO hk (K2 _ (List.getElem_mem _)) hK' ω n1 (fun i j hij hj e => by rw [eq1 ω]; rw [eq1 hj] at e; exact zgi s1 i j hij hj e) fun k k1 g1 g2 => ?_);have lo : ∀ x ∈ r1.take k, ∀ y ∈ r2, κ.kle (kOf κ x) (kOf κ y) := fun x hx y hy => KeyOrd.kle_trans (zgj (fun i hi => by rw [<- eq1 ω]; exact g1 i hi) x hx) (top2 y hy);have up : ∀ x ∈ r1.drop k, κ.kle (kOf κ r2[0]) (kOf κ x) := zgk fun i q1 q2 => by rw [<- eq1 q2]; exact g2 i q1 q2
 dsimp only
 by_cases e1 : r1.length - k = 0
 ·rw [if_pos (by simpa using e1)];refine wpS_pure (h (r1 ++ r2) _ _ ⟨List.Perm.refl _, List.pairwise_append.mpr ⟨s1, s2, fun x hx y hy => lo x (by rw [List.take_of_length_le ω]; exact hx) y hy⟩⟩ ?_);rw [ha, List.append_assoc]
 rw [if_neg (by simpa using e1)];have ei : P.length + k + (r1.length - k) - 1 = P.length + (r1.length - 1) := by omega
 refine wpS_bind (za8 ω ?_);simp only [ei];rw [aL];refine wpS_bind (zbH hO hk (K1 _ (List.getElem_mem _)) hK' ω ω (fun i j hij hj e => by rw [eq2 ω]; rw [eq2 hj] at e; exact zgi s2 i j hij hj e) fun n nn g3 g4 => ?_);have lo2 : ∀ y ∈ r2.take n, κ.kle (kOf κ y) (kOf κ r1[r1.length - 1]) := zgj fun i hi => by rw [<- eq2 ω]; exact g3 i hi
 have up2 : ∀ x ∈ r1, ∀ y ∈ r2.drop n, κ.kle (kOf κ x) (kOf κ y) := fun x hx y hy => KeyOrd.kle_trans (end1 x hx) (zgk (fun i q1 q2 => by rw [<- eq2 q2]; exact g4 i q1 q2) y hy);dsimp only
 by_cases e2 : n = 0
 ·rw [if_pos (by simpa using e2)];refine wpS_pure (h (r1 ++ r2) _ _ ⟨List.Perm.refl _, List.pairwise_append.mpr ⟨s1, s2, fun x hx y hy => up2 x hx y (by rw [e2]; exact hy)⟩⟩ ?_);rw [ha, List.append_assoc]
 rw [if_neg (by simpa using e2)];have hl1 : (r1.take k).length = k := by rw [ya3]; omega
 have hl2 : (r1.drop k).length = r1.length - k := List.length_drop ..;have hl3 : (r2.take n).length = n := by rw [ya3]; omega
 have ha3 : (arrOf st).toList = (P ++ r1.take k) ++ (r1.drop k ++ (r2 ++ S)) := by
  rw [ha, List.append_assoc, <- List.append_assoc (r1.take k), List.take_append_drop]
 have ha4 : (arrOf st).toList = (P ++ r1) ++ (r2.take n ++ (r2.drop n ++ S)) := by
  rw [ha2, <- List.append_assoc (r2.take n), List.take_append_drop]
 have ex : ((arrOf st).extract (P.length + k) (P.length + r1.length)).toList = r1.drop k := zic ha3 (by rw [yae, hl1]) (by rw [yae, hl1, hl2]; omega);have ey : ((arrOf st).extract (P.length + r1.length) (P.length + r1.length + n)).toList = r2.take n := zic ha4 (by rw [yae]) (by rw [yae, hl3]);generalize (arrOf st).extract (P.length + k) (P.length + r1.length) = X at ex;generalize (arrOf st).extract (P.length + r1.length) (P.length + r1.length + n) = Y at ey;have szX : X.size = r1.length - k := by rw [<- Array.length_toList, ex, hl2]
 have szY : Y.size = n := by rw [<- Array.length_toList, ey, hl3]
 have kX : ∀ x ∈ X, Kd κ x := fun x hx => K1 x (List.mem_of_mem_drop (i := k) (by rw [<- ex]; simpa using hx));have kY : ∀ x ∈ Y, Kd κ x := fun x hx => K2 x (List.mem_of_mem_take (i := n) (by rw [<- ey]; simpa using hx));have Y0 : ∀ hy : 0 < Y.size, Y[0] = r2[0] := fun hy => by
  have e : Y.toList[0]? = (r2.take n)[0]? := by rw [ey]
  rw [Array.getElem?_toList, getElem?_pos Y 0 hy, List.getElem?_take, if_pos ω, yal n2] at e;exact Option.some.inj e
 have XL : ∀ hx : X.size - 1 < X.size, X[X.size - 1] = r1[r1.length - 1] := fun hx => by
  have e : X.toList[X.size - 1]? = (r1.drop k)[X.size - 1]? := by rw [ex]
  rw [Array.getElem?_toList, getElem?_pos X (X.size - 1) hx, List.getElem?_drop, show k + (X.size - 1) = r1.length - 1 by omega, yal ω] at e;exact Option.some.inj e
 have last : ∀ (mr : Array Keyed) g, LoOk κ X Y mr -> wpS (model prog w) A E s (do
   modify fun s => setArr s (mr.toList.zipIdx.foldl (fun a (p, j) => a.setIfInBounds (P.length + k + j) p) (arrOf s))
   let t <- get
   pure (failedOf t).isNone) Q (setG (setPending st (((pendingOf st).setIfInBounds i (P.length, r1.length + r2.length, p)).eraseIdxIfInBounds (i + 1))) g) := fun mr g hm => by
  refine wpS_bind (wpS_modify (wpS_bind (wpS_get (wpS_pure ?_))));have hm' : Mg κ (r1.drop k) (r2.take n) mr.toList := by rw [<- ex, <- ey]; exact hm
  have Qe : mr.toList.length = r1.length - k + n := by rw [hm'.perm.length_eq, yae, hl2, hl3]
  have e3 := zkf (P.length + k) mr.toList 0 (arrOf st) (by rw [Qe]; omega);have e4 : (arrOf st).toList.take (P.length + k + 0) = P ++ r1.take k := by
   rw [ha3, Nat.add_zero, List.take_left' (by rw [yae, hl1])]
  have e5 : (arrOf st).toList.drop (P.length + k + 0 + mr.toList.length) = r2.drop n ++ S := by
   rw [ha4, <- List.append_assoc (P ++ r1), List.drop_left' (by rw [yae, yae, hl3, Qe]; omega)]
  rw [e4, e5] at e3;have := h (r1.take k ++ (mr.toList ++ r2.drop n)) _ g (zne s1 s2 hm' lo up2) (e3.trans (by simp [List.append_assoc]));have hfi : (failedOf st).isNone = true := by rw [hf]; rfl
  show Q (failedOf st).isNone _;rw [hfi];exact this
 by_cases e3 : r1.length - k <= n
 ·rw [if_pos e3];refine wpS_bind (zf5 (κ := κ) ⟨hO, kX, kY, by rw [ex]; exact s1.drop, by rw [ey]; exact s2.take, ?_⟩ hk ω ω (fun y hy => by rw [Y0]; exact up y (by rw [<- ex]; exact hy)) fun mr g hm => last mr g hm);intro y hy z hz;obtain ⟨j, hj, q1, rfl⟩ := zdf hz;have ej : j = X.size - 1 := by omega
  subst ej;rw [XL hj];exact lo2 y (by rw [<- ey]; exact hy)
 ·rw [if_neg e3];refine wpS_bind (zf8 (κ := κ) ⟨hO, kX, kY, by rw [ex]; exact s1.drop, by rw [ey]; exact s2.take, ?_⟩ hk ω ω (fun x hx => by rw [XL]; exact lo2 x (by rw [<- ey]; exact hx)) fun mr g hm => last mr g hm);intro x hx y hy;obtain ⟨j, hj, q1, rfl⟩ := zcs hx;have ej : j = 0 := by omega
  subst ej;rw [Y0 hj];exact up y (by rw [<- ex]; exact hy)
end
section
variable {prog : Program} {w : World} {A : Around} {E : ZQ} {s : Shared} {κ : KeyKind} {kx : SortKind}
theorem zdR {xs : Array Keyed} {i : Nat} (h : i < xs.size) : KK κ xs i = kOf κ xs[i] := by
 unfold KK kOf;rw [getElem?_pos xs i h]
theorem zdy {st : SortSt} {i j : Nat} {Q : Option Bool -> SortSt -> Prop} (hO : LtAt κ kx prog w A s) (hk : kindOf st = kx) (hK : ∀ x ∈ arrOf st, Kd κ x) (hi : i < (arrOf st).size) (hj : j < (arrOf st).size) (h : Q (some (κ.blt (KK κ (arrOf st) i) (KK κ (arrOf st) j))) st) : wpS (model prog w) A E s (ltAt' i j) Q st := by
 rw [ltAt'_eq];refine wpS_bind (wpS_get ?_);show wpS _ _ _ _ (do let x <- elem' (arrOf st) i; let y <- elem' (arrOf st) j; lt' x y) Q st;rw [zdR hi, zdR hj] at h;exact wpS_bind (za8 hi (wpS_bind (za8 hj (zdx hO hk (hK _ (Array.getElem_mem hi)) (hK _ (Array.getElem_mem hj)) h))))
def SegS (κ : KeyKind) (xs : Array Keyed) (lo n : Nat) : Prop := ∀ i j, i <= j -> j < n -> κ.kle (KK κ xs (lo + i)) (KK κ xs (lo + j))
def SegN (κ : KeyKind) (xs : Array Keyed) (lo n : Nat) : Prop := ∀ i j, i <= j -> j < n -> κ.kle (KK κ xs (lo + j)) (KK κ xs (lo + i))
structure Kp (lo : Nat) (xs0 xs : Array Keyed) : Prop where
 perm : xs.Perm xs0
 keep : ∀ i, i < lo -> xs[i]? = xs0[i]?
theorem Kp.refl (lo : Nat) (xs : Array Keyed) : Kp lo xs xs := ⟨Array.Perm.refl _, fun _ _ => rfl⟩
theorem Kp.trans {lo : Nat} {a b c : Array Keyed} (h : Kp lo a b) (g : Kp lo b c) : Kp lo a c := ⟨g.perm.trans h.perm, fun i hi => (g.keep i hi).trans (h.keep i hi)⟩
theorem Kp.size {lo : Nat} {a b : Array Keyed} (h : Kp lo a b) : b.size = a.size := h.perm.size_eq
theorem Kp.mirror {lo i j : Nat} {xs : Array Keyed} (hi : lo <= i) (hj : j <= xs.size) : Kp lo xs (mirror xs i j ((j - i) / 2)) := ⟨mirror_perm _ _ _ _, fun k hk => by rw [getElem?_mirror_all hj, if_neg ω]⟩
theorem Kp.kd {lo : Nat} {a b : Array Keyed} (h : Kp lo a b) (hK : ∀ x ∈ a, Kd κ x) : ∀ x ∈ b, Kd κ x := fun x hx => hK x (h.perm.mem_iff.mp hx)
def ascL (lo a nrem : Nat) : StateT SortSt Sem AscSt :=
 forIn [a:nrem] ((none, a) : AscSt) fun _ __s => do
  let __x <- ltAt' (lo + __s.snd) (lo + __s.snd - 1)
  match __x with
  | some smaller => if smaller = true then pure (ForInStep.done (none, __s.snd)) else pure (ForInStep.yield (none, __s.snd + 1))
  | _ => pure (ForInStep.done (some none, __s.snd))
def zeT (lo n nrem : Nat) : StateT SortSt Sem (Option Nat) := do
 reverseSlice' lo (lo + n)
 let __s <- ascL lo n nrem
 match __s.fst with
 | some r => pure r
 | none => pure (some __s.snd)
def zjv (lo n nrem : Nat) : StateT SortSt Sem DescSt :=
 forIn [n:nrem] ((none, n, 0) : DescSt) fun _ __s => do
  let __x <- ltAt' (lo + __s.snd.fst) (lo + __s.snd.fst - 1)
  match __x with
  | some smaller =>
   if smaller = true then
    if __s.snd.snd > 0 then do
     reverseSlice' (lo + __s.snd.fst - (__s.snd.snd + 1)) (lo + __s.snd.fst)
     pure (ForInStep.yield (none, __s.snd.fst + 1, 0))
    else pure (ForInStep.yield (none, __s.snd.fst + 1, 0))
   else do
    let __x <- ltAt' (lo + __s.snd.fst - 1) (lo + __s.snd.fst)
    match __x with
    | some larger =>
     if larger = true then pure (ForInStep.done (none, __s.snd.fst, __s.snd.snd))
     else pure (ForInStep.yield (none, __s.snd.fst + 1, __s.snd.snd + 1))
    | _ => pure (ForInStep.done (some none, __s.snd.fst, __s.snd.snd))
  | _ => pure (ForInStep.done (some none, __s.snd.fst, __s.snd.snd))
def zeU (lo n nrem : Nat) : StateT SortSt Sem (Option Nat) := do
 liftM (rule "list.sort.descending-run")
 let __s <- zjv lo (n + 1) nrem
 match __s.fst with
 | some r => pure r
 | none =>
  if __s.snd.snd > 0 then do
   reverseSlice' (lo + __s.snd.fst - (__s.snd.snd + 1)) (lo + __s.snd.fst)
   zeT lo __s.snd.fst nrem
  else zeT lo __s.snd.fst nrem
theorem zeV (lo nrem : Nat) : countRun' lo nrem = (do
  let __s <- ascL lo 1 nrem
  match __s.fst with
  | some r => pure r
  | none =>
   if (__s.snd == nrem) = true then pure (some __s.snd)
   else if __s.snd > 1 then do
    let __x <- ltAt' lo (lo + __s.snd - 1)
    match __x with
    | some rose => if rose = true then pure (some __s.snd) else do
      reverseSlice' lo (lo + __s.snd)
      zeU lo __s.snd nrem
    | _ => pure none
   else zeU lo __s.snd nrem) := by
 rw [countRun'_eq];dsimp only;unfold zeU zeT zjv ascL
 congr 1
 funext __s
 obtain ⟨r, n⟩ := __s;cases r with
 | some r => rfl
 | none =>
  dsimp only
  split
  ·rfl
  ·split
   ·congr 1
    funext x
    cases x with
    | none => rfl
    | some rose =>
     dsimp only
     split
     ·rfl
     ·congr 1
      funext _r
      congr 1; funext _u; congr 1; congr 1; funext s2; obtain ⟨r2, n2, q2⟩ := s2; cases r2 with
      | some r2 => rfl
      | none =>
       dsimp only
       split
       ·congr 1; funext _v; congr 1; funext _w; congr 1; funext s3; obtain ⟨r3, n3⟩ := s3; cases r3 <;> rfl
       ·congr 1; funext _w; congr 1; funext s3; obtain ⟨r3, n3⟩ := s3; cases r3 <;> rfl
   ·congr 1; funext _u; congr 1; congr 1; funext s2; obtain ⟨r2, n2, q2⟩ := s2; cases r2 with
    | some r2 => rfl
    | none =>
     dsimp only
     split
     ·congr 1; funext _v; congr 1; funext _w; congr 1; funext s3; obtain ⟨r3, n3⟩ := s3; cases r3 <;> rfl
     ·congr 1; funext _w; congr 1; funext s3; obtain ⟨r3, n3⟩ := s3; cases r3 <;> rfl
theorem zei {st : SortSt} {i j : Nat} {Q : Unit -> SortSt -> Prop} (h : Q () (setArr st (mirror (arrOf st) i j ((j - i) / 2)))) : wpS (model prog w) A E s (reverseSlice' i j) Q st := by
 rw [reverseSlice'_eq];exact wpS_modify h
theorem zgl {st : SortSt} {lo a nrem : Nat} {Q : AscSt -> SortSt -> Prop} (hO : LtAt κ kx prog w A s) (hk : kindOf st = kx) (hK : ∀ x ∈ arrOf st, Kd κ x) (hn : lo + nrem <= (arrOf st).size) (ha : 1 <= a) (han : a <= nrem) (hs : SegS κ (arrOf st) lo a)
  (h : ∀ n, a <= n -> n <= nrem -> SegS κ (arrOf st) lo n -> (n = nrem \/ κ.klt (KK κ (arrOf st) (lo + n)) (KK κ (arrOf st) (lo + n - 1))) -> Q (none, n) st) : wpS (model prog w) A E s (ascL lo a nrem) Q st := by
 unfold ascL;refine wpS_forRange (I := fun x c st' => st' = st /\ c = (none, x) /\ SegS κ (arrOf st) lo x) ?step ?fin ⟨rfl, rfl, hs⟩
 case fin =>
  rintro c st' ⟨rfl, rfl, hs'⟩
  rw [show max a nrem = nrem by omega] at hs' ⊢;exact h nrem han (yai _) hs' (.inl rfl)
 case step =>
  rintro x c st' hax hxn ⟨rfl, rfl, hs'⟩
  dsimp only;refine wpS_bind (zdy hO hk hK ω ω ?_);cases hless : κ.blt (KK κ (arrOf st') (lo + x)) (KK κ (arrOf st') (lo + x - 1))
  case true =>
   exact wpS_pure (h x hax ω hs' (.inr hless))
  case false =>
   refine wpS_pure ⟨rfl, rfl, fun i j hij hj => ?_⟩
   by_cases hjx : j < x
   ·exact hs' i j hij hjx
   ·have hj' : j = x := by omega
    subst hj'
    by_cases hi' : i = j
    ·subst hi'; exact KeyOrd.kle_refl _
    ·have q := hs' i (j - 1) ω ω;rw [show lo + (j - 1) = lo + j - 1 by omega] at q;exact KeyOrd.kle_trans q hless
def CRo (κ : KeyKind) (st : SortSt) (lo nrem : Nat) (Q : Option Nat -> SortSt -> Prop) : Prop := ∀ m xs, Kp lo (arrOf st) xs -> 1 <= m -> m <= nrem -> SegS κ xs lo m -> Q (some m) (setArr st xs)
theorem CRo.next {st : SortSt} {lo nrem : Nat} {xs : Array Keyed} {Q : Option Nat -> SortSt -> Prop} (h : CRo κ st lo nrem Q) (hp : Kp lo (arrOf st) xs) : CRo κ (setArr st xs) lo nrem Q := fun m ys k1 k2 k3 k4 => h m ys (hp.trans k1) k2 k3 k4
theorem zdS {st : SortSt} {lo n nrem : Nat} {Q : Option Nat -> SortSt -> Prop} (hO : LtAt κ kx prog w A s) (hk : kindOf st = kx) (hK : ∀ x ∈ arrOf st, Kd κ x) (hn : lo + nrem <= (arrOf st).size) (h1 : 1 <= n) (hnn : n <= nrem) (hs : SegN κ (arrOf st) lo n) (h : CRo κ st lo nrem Q) : wpS (model prog w) A E s (zeT lo n nrem) Q st := by
 unfold zeT;have hsz : lo + n <= (arrOf st).size := by omega
 have kp := Kp.mirror (lo := lo) (i := lo) (yai _) hsz;refine wpS_bind (zei ?_);refine wpS_bind (zgl hO hk (kp.kd hK) (by show lo + nrem <= (mirror _ _ _ _).size; rw [kp.size]; exact hn) h1 hnn ?_ fun m hm1 hm2 hsm _ => wpS_pure (h m _ kp ω hm2 hsm));intro i j hij hj;show κ.kle (KK κ (mirror (arrOf st) lo (lo + n) ((lo + n - lo) / 2)) (lo + i)) (KK κ (mirror (arrOf st) lo (lo + n) ((lo + n - lo) / 2)) (lo + j));rw [KK_mirror hsz, KK_mirror hsz, if_pos ω, if_pos ω];have := hs (n - 1 - j) (n - 1 - i) ω ω;rw [show lo + (n - 1 - j) = lo + (lo + n) - 1 - (lo + j) by omega, show lo + (n - 1 - i) = lo + (lo + n) - 1 - (lo + i) by omega] at this;exact this
theorem zid {st : SortSt} {lo n nrem : Nat} {Q : DescSt -> SortSt -> Prop} (hO : LtAt κ kx prog w A s) (hk : kindOf st = kx) (hK : ∀ x ∈ arrOf st, Kd κ x) (hn : lo + nrem <= (arrOf st).size) (h1 : 1 <= n) (hnn : n <= nrem) (hs : SegN κ (arrOf st) lo n)
  (h : ∀ m neq xs, Kp lo (arrOf st) xs -> n <= m -> m <= nrem -> SegN κ xs lo m -> neq + 1 <= m -> (∀ i, m - (neq + 1) <= i -> i < m -> KK κ xs (lo + i) = KK κ xs (lo + m - 1)) -> Q (none, m, neq) (setArr st xs)) : wpS (model prog w) A E s (zjv lo n nrem) Q st := by
 unfold zjv;refine wpS_forRange (I := fun x c st' => ∃ neq xs, c = (none, x, neq) /\ st' = setArr st xs /\ Kp lo (arrOf st) xs /\ SegN κ xs lo x /\ neq + 1 <= x /\ (∀ i, x - (neq + 1) <= i -> i < x -> KK κ xs (lo + i) = KK κ xs (lo + x - 1))) ?step ?fin ⟨0, arrOf st, rfl, rfl, .refl _ _, hs,ω, fun i h1 h2 => by congr 1; omega⟩
 case fin =>
  rintro c st' ⟨neq, xs, rfl, rfl, kp, hs', hq, he⟩
  rw [show max n nrem = nrem by omega] at hs' hq he ⊢;exact h nrem neq xs kp hnn (yai _) hs' hq he
 case step =>
  rintro x c st' hax hxn ⟨neq, xs, rfl, rfl, kp, hs', hq, he⟩
  dsimp only;have hsize := kp.size;have hsz : lo + x <= xs.size := by omega
  refine wpS_bind (zdy (st := setArr st xs) hO hk (kp.kd hK) (show lo + x < xs.size by omega) (show lo + x - 1 < xs.size by omega) ?_);have step1 : ∀ ys : Array Keyed, (∀ k, KK κ ys k = KK κ xs k) -> κ.blt (KK κ xs (lo + x)) (KK κ xs (lo + x - 1)) = true -> SegN κ ys lo (x + 1) := by
   intro ys hk' hless i j hij hj;rw [hk', hk']
   by_cases hjx : j < x
   ·exact hs' i j hij hjx
   ·have hj' : j = x := by omega
    subst hj'
    by_cases hi' : i = j
    ·subst hi'; exact KeyOrd.kle_refl _
    ·have q := hs' i (j - 1) ω ω;rw [show lo + (j - 1) = lo + j - 1 by omega] at q;exact KeyOrd.kle_trans (KeyOrd.kle_of_klt hless) q
  have heq' : ∀ k, lo + x - (neq + 1) <= k -> k < lo + x -> KK κ xs k = KK κ xs (lo + x - 1) := fun k k1 k2 => by
   have := he (k - lo) ω ω
   rwa [show lo + (k - lo) = k by omega] at this
  cases hless : κ.blt (KK κ xs (lo + x)) (KK κ xs (lo + x - 1))
  case true =>
   dsimp only;rw [if_pos rfl]
   by_cases hneq : neq > 0
   ·rw [if_pos hneq];refine wpS_bind (zei (wpS_pure ⟨0, _, rfl, rfl, kp.trans (Kp.mirror ω hsz), step1 _ (KK_mirror_equal hsz heq') hless,ω, fun i h1 h2 => by congr 1; omega⟩))
   ·rw [if_neg hneq];exact wpS_pure ⟨0, xs, rfl, rfl, kp, step1 _ (fun _ => rfl) hless,ω, fun i h1 h2 => by congr 1; omega⟩
  case false =>
   dsimp only;rw [if_neg δ];refine wpS_bind (zdy (st := setArr st xs) hO hk (kp.kd hK) (show lo + x - 1 < xs.size by omega) (show lo + x < xs.size by omega) ?_);cases hlarger : κ.blt (KK κ xs (lo + x - 1)) (KK κ xs (lo + x))
   case true => exact wpS_pure (h x neq xs kp hax ω hs' hq he)
   case false =>
    have heqx : KK κ xs (lo + x) = KK κ xs (lo + x - 1) := KeyOrd.kle_antisymm hlarger hless;refine wpS_pure ⟨neq + 1, xs, rfl, rfl, kp, fun i j hij hj => ?_,ω, fun i h1 h2 => ?_⟩
    ·by_cases hjx : j < x
     ·exact hs' i j hij hjx
     ·have hj' : j = x := by omega
      subst hj'
      by_cases hi' : i = j
      ·subst hi'; exact KeyOrd.kle_refl _
      ·rw [heqx];have q := hs' i (j - 1) ω ω
       rwa [show lo + (j - 1) = lo + j - 1 by omega] at q
    ·rw [show lo + (x + 1) - 1 = lo + x by omega]
     by_cases hix : i = x
     ·subst hix; rfl
     ·rw [heqx]; exact he i ω ω
theorem zdT {st : SortSt} {lo n nrem : Nat} {Q : Option Nat -> SortSt -> Prop} (hO : LtAt κ kx prog w A s) (hk : kindOf st = kx) (hK : ∀ x ∈ arrOf st, Kd κ x) (hn : lo + nrem <= (arrOf st).size) (hnn : n + 1 <= nrem) (hs : SegN κ (arrOf st) lo (n + 1)) (h : CRo κ st lo nrem Q) : wpS (model prog w) A E s (zeU lo n nrem) Q st := by
 unfold zeU;refine wpS_bind (wpS_lift (wpAny_rule ⟨rfl, ?_⟩));refine wpS_bind (zid hO hk hK hn ω hnn hs fun m neq xs kp hm1 hm2 hs' hq he => ?_);dsimp only;have hsize := kp.size;have hsz : lo + m <= xs.size := by omega
 have heq' : ∀ k, lo + m - (neq + 1) <= k -> k < lo + m -> KK κ xs k = KK κ xs (lo + m - 1) := fun k k1 k2 => by
  have := he (k - lo) ω ω
  rwa [show lo + (k - lo) = k by omega] at this
 by_cases hneq : neq > 0
 ·rw [if_pos hneq];have kp2 := kp.trans (Kp.mirror (lo := lo) (i := lo + m - (neq + 1)) ω hsz);refine wpS_bind (zei (zdS hO hk (kp2.kd hK) (by show lo + nrem <= (mirror _ _ _ _).size; rw [kp2.size]; exact hn) ω hm2 ?_ (h.next kp2)));intro i j hij hj;show κ.kle (KK κ (mirror xs _ _ _) (lo + j)) (KK κ (mirror xs _ _ _) (lo + i));rw [KK_mirror_equal hsz heq', KK_mirror_equal hsz heq'];exact hs' i j hij hj
 ·rw [if_neg hneq];exact zdS hO hk (kp.kd hK) (by show lo + nrem <= xs.size; omega) ω hm2 hs' (h.next kp)
theorem zeW {st : SortSt} {lo nrem : Nat} {Q : Option Nat -> SortSt -> Prop} (hO : LtAt κ kx prog w A s) (hk : kindOf st = kx) (hK : ∀ x ∈ arrOf st, Kd κ x) (hn : lo + nrem <= (arrOf st).size) (h1 : 1 <= nrem) (h : CRo κ st lo nrem Q) : wpS (model prog w) A E s (countRun' lo nrem) Q st := by
 rw [zeV];refine wpS_bind (zgl hO hk hK hn (yai 1) h1 (fun i j hij hj => by have : i = j := ω; subst this; exact KeyOrd.kle_refl _) fun n hn1 hn2 hsn hor => ?_);dsimp only;have h' : SegS κ (arrOf st) lo n -> Q (some n) st := fun z => h n (arrOf st) (.refl _ _) hn1 hn2 z
 by_cases hnn : n = nrem
 ·rw [if_pos (by simpa using hnn)];exact wpS_pure (h' hsn)
 ·rw [if_neg (by simpa using hnn)];have hlt : κ.klt (KK κ (arrOf st) (lo + n)) (KK κ (arrOf st) (lo + n - 1)) := hor.resolve_left hnn
  by_cases hgt : n > 1
  ·rw [if_pos hgt];refine wpS_bind (zdy hO hk hK ω ω ?_);cases hrose : κ.blt (KK κ (arrOf st) lo) (KK κ (arrOf st) (lo + n - 1))
   case true => exact wpS_pure (h' hsn)
   case false =>
    dsimp only;rw [if_neg δ];have hsz : lo + n <= (arrOf st).size := by omega
    have hall : ∀ k, lo <= k -> k < lo + n -> KK κ (arrOf st) k = KK κ (arrOf st) (lo + n - 1) := by
     intro k q hk';have a1 := hsn 0 (k - lo) ω ω;have a2 := hsn (k - lo) (n - 1) ω ω;rw [show lo + (k - lo) = k by omega] at a1 a2;rw [show lo + (n - 1) = lo + n - 1 by omega] at a2;exact KeyOrd.kle_antisymm a2 (KeyOrd.kle_trans hrose a1)
    have kp := Kp.mirror (lo := lo) (i := lo) (yai _) hsz;refine wpS_bind (zei (zdT hO hk (kp.kd hK) (by show lo + nrem <= (mirror _ _ _ _).size; rw [kp.size]; exact hn) ω ?_ (h.next kp)));intro i j hij hj;show κ.kle (KK κ (mirror (arrOf st) _ _ _) (lo + j)) (KK κ (mirror (arrOf st) _ _ _) (lo + i));rw [KK_mirror_equal hsz hall, KK_mirror_equal hsz hall]
    by_cases hjn : j < n
    ·rw [hall (lo + i) ω ω, hall (lo + j) ω ω]; exact KeyOrd.kle_refl _
    ·have hj' : j = n := by omega
     subst hj'
     by_cases hi' : i = j
     ·subst hi'; exact KeyOrd.kle_refl _
     ·rw [hall (lo + i) ω ω]; exact KeyOrd.kle_of_klt hlt
  ·rw [if_neg hgt];have hn1' : n = 1 := by omega
   subst hn1';refine zdT hO hk hK hn ω ?_ h;intro i j hij hj
   by_cases hi' : i = j
   ·subst hi'; exact KeyOrd.kle_refl _
   ·have hi0 : i = 0 := by omega
    have hj1 : j = 1 := by omega
    subst hi0; subst hj1;exact KeyOrd.kle_of_klt hlt
theorem zgG {st : SortSt} {lo n ok : Nat} {Q : Bool -> SortSt -> Prop} (hO : LtAt κ kx prog w A s) (hk : kindOf st = kx) (hK : ∀ x ∈ arrOf st, Kd κ x) (hn : lo + n <= (arrOf st).size) (hok : ok <= n) (hs : SegS κ (arrOf st) lo ok)
  (h : ∀ xs, Kp lo (arrOf st) xs -> SegS κ xs lo n -> Q true (setArr st xs)) : wpS (model prog w) A E s (binarySort' lo n ok) Q st := by
 rw [binarySort'_eq];refine wpS_bind (wpS_mono (wpS_forRange (I := fun k c st' => c = (none, ()) /\ ∃ xs, st' = setArr st xs /\ Kp lo (arrOf st) xs /\ SegS κ xs lo (min k n))
  (Q := fun c st' => c = (none, ()) /\ ∃ xs, st' = setArr st xs /\ Kp lo (arrOf st) xs /\ SegS κ xs lo n) ?step ?fin ?init) ?post)
 case post =>
  rintro c st' ⟨rfl, xs, rfl, kp, hs'⟩
  exact wpS_pure (h xs kp hs')
 case init =>
  refine ⟨rfl, arrOf st, rfl, .refl _ _, fun i j hij hj => ?_⟩
  by_cases h1 : ok = 0
  ·have : i = j := by omega
   subst this; exact KeyOrd.kle_refl _
  ·exact hs i j hij ω
 case fin =>
  rintro c st' ⟨hc, xs, e, kp, hs'⟩
  refine ⟨hc, xs, e, kp, ?_⟩
  rwa [show min (max (max ok 1) n) n = n by omega] at hs'
 case step =>
  rintro k c st' hak hkn ⟨rfl, xs, rfl, kp, hs'⟩
  rw [show min k n = k by omega] at hs';have hsize := kp.size;have hkx : lo + k < xs.size := by omega
  refine wpS_bind (wpS_mono (wpS_forRange (I := fun x c st'' => st'' = setArr st xs /\ ∃ l r, c = (none, l, r) /\ l <= r /\ r <= k /\ r - l <= k - x /\
    (∀ i, i < l -> κ.kle (KK κ xs (lo + i)) (KK κ xs (lo + k))) /\ (∀ i, r <= i -> i < k -> κ.klt (KK κ xs (lo + k)) (KK κ xs (lo + i))))
   (Q := fun c st'' => st'' = setArr st xs /\ ∃ l r, c = (none, l, r) /\ l <= k /\
    (∀ i, i < l -> κ.kle (KK κ xs (lo + i)) (KK κ xs (lo + k))) /\ (∀ i, l <= i -> i < k -> κ.klt (KK κ xs (lo + k)) (KK κ xs (lo + i)))) ?istep ?ifin ?iinit) ?ipost)
  case iinit => exact ⟨rfl, 0, k, rfl,ω,ω,ω, fun i hi => by omega, fun i h1 h2 => by omega⟩
  case ifin =>
   rintro c st'' ⟨rfl, l, r, rfl, hlr, hrk, hm, hlo, hhi⟩
   have : l = r := by omega
   subst this;exact ⟨rfl, l, l, rfl, hrk, hlo, hhi⟩
  case istep =>
   rintro x c st'' _ hxk ⟨rfl, l, r, rfl, hlr, hrk, hm, hlo, hhi⟩
   dsimp only
   by_cases hge : l ≥ r
   ·rw [if_pos hge];have : l = r := by omega
    subst this;exact wpS_pure ⟨rfl, l, l, rfl, hrk, hlo, hhi⟩
   ·rw [if_neg hge];refine wpS_bind (zdy (st := setArr st xs) hO hk (kp.kd hK) hkx (show lo + (l + r) / 2 < xs.size by omega) ?_);cases hless : κ.blt (KK κ xs (lo + k)) (KK κ xs (lo + (l + r) / 2))
    case true =>
     refine wpS_pure ⟨rfl, l, (l + r) / 2, rfl,ω,ω,ω, hlo, fun i h1 h2 => ?_⟩;exact KeyOrd.klt_of_klt_of_kle hless (hs' _ _ h1 h2)
    case false =>
     refine wpS_pure ⟨rfl, (l + r) / 2 + 1, r, rfl,ω,ω,ω, fun i h1 => ?_, hhi⟩;exact KeyOrd.kle_trans (hs' i ((l + r) / 2) ω ω) (show κ.kle _ _ from hless)
  case ipost =>
   rintro c st'' ⟨rfl, l, r, rfl, hlk, hlo, hhi⟩
   show wpS _ _ _ _ (do moveDown' (lo + k) (lo + l); pure (ForInStep.yield (none, ()))) _ _;rw [moveDown'_eq];refine wpS_bind (wpS_modify (wpS_pure ⟨rfl, _, rfl, kp.trans ⟨bubble_perm _ _ _, fun i hi => ?_⟩, ?_⟩))
   ·show (bubble xs (lo + k) (lo + k - (lo + l)))[i]? = xs[i]?;rw [getElem?_bubble hkx _ ω, if_neg ω, if_neg ω]
   rw [show min (k + 1) n = k + 1 by omega];intro i j hij hj;show κ.kle (KK κ (bubble xs (lo + k) (lo + k - (lo + l))) (lo + i)) (KK κ (bubble xs (lo + k) (lo + k - (lo + l))) (lo + j));rw [KK_bubble hkx ω, KK_bubble hkx ω, show lo + k - (lo + k - (lo + l)) = lo + l by omega];have ei : ∀ t, 0 < t -> lo + t - 1 = lo + (t - 1) := fun t ht => by omega
   repeat' split
   all_goals first
    | (exfalso; omega)
    | exact KeyOrd.kle_refl _
    | (rw [ei _ ω, ei _ ω]; exact hs' _ _ ω ω)
    | (rw [ei _ ω]; exact hlo _ ω)
    | (rw [ei _ ω]; exact KeyOrd.kle_of_klt (hhi _ ω ω))
    | (rw [ei _ ω]; exact hs' _ _ ω ω)
    | exact hlo _ ω
    | exact KeyOrd.kle_of_klt (hhi _ ω ω)
    | exact hs' _ _ ω ω
end
section
variable {prog : Program} {w : World} {A : Around} {E : ZQ} {s : Shared} {κ : KeyKind} {kx : SortKind}
def zb3 : Nat -> List (List Keyed) -> List (Nat × Nat)
 | _, [] => []
 | n, r :: rs => (n, r.length) :: zb3 (n + r.length) rs
theorem zbq : ∀ (n : Nat) (A B : List (List Keyed)), zb3 n (A ++ B) = zb3 n A ++ zb3 (n + A.flatten.length) B
 | n, [], B => by simp [zb3]
 | n, r :: A, B => by
  rw [List.cons_append, zb3, zbq (n + r.length) A B, zb3, List.flatten_cons, yae, List.cons_append, Nat.add_assoc]
theorem zbA : ∀ (n : Nat) (A : List (List Keyed)), (zb3 n A).length = A.length
 | _, [] => rfl
 | n, r :: A => by rw [zb3, List.length_cons, zbA, List.length_cons]
def pr (x : Nat × Nat × Nat) : Nat × Nat := (x.1, x.2.1)
structure Rn (κ : KeyKind) (l : List Keyed) (pend : List (Nat × Nat × Nat)) (runs : List (List Keyed)) (T : List Keyed) : Prop where
 eq : l = runs.flatten ++ T
 pos : ∀ r ∈ runs, 0 < r.length
 srt : ∀ r ∈ runs, Srt κ r
 pnd : pend.map pr = zb3 0 runs
theorem Rn.len {l : List Keyed} {pend : List (Nat × Nat × Nat)} {runs : List (List Keyed)} {T : List Keyed} (h : Rn κ l pend runs T) : pend.length = runs.length := by
 have := congrArg List.length h.pnd
 rwa [yaf, zbA] at this
theorem zgm : ∀ (runs : List (List Keyed)), (∀ r ∈ runs, 0 < r.length) -> runs.length <= runs.flatten.length
 | [], _ => yai _
 | r :: runs, h => by
  have := zgm runs fun x hx => h x (List.mem_cons_of_mem _ hx);have := h r (List.mem_cons_self ..);rw [List.flatten_cons, yae, List.length_cons];omega
theorem Rn.merge {l l' : List Keyed} {pend : List (Nat × Nat × Nat)} {R1 R2 : List (List Keyed)} {r1 r2 m T : List Keyed} {p : Nat} (h : Rn κ l pend (R1 ++ r1 :: r2 :: R2) T) (hm : Mg κ r1 r2 m) (hl : l' = R1.flatten ++ (m ++ (R2.flatten ++ T))) :
  Rn κ l' ((pend.set R1.length (R1.flatten.length, r1.length + r2.length, p)).eraseIdx (R1.length + 1)) (R1 ++ m :: R2) T := by
 have ml : m.length = r1.length + r2.length := by rw [hm.perm.length_eq, yae]
 refine ⟨by rw [hl, List.flatten_append, List.flatten_cons, List.append_assoc, List.append_assoc], fun r hr => ?_, fun r hr => ?_, ?_⟩
 ·rcases yay.mp hr with z | z
  ·exact h.pos r (List.mem_append_left _ z)
  ·rcases yau.mp z with z | z
   ·rw [z, ml]; have := h.pos r1 ς; omega
   ·exact h.pos r (by simp [z])
 ·rcases yay.mp hr with z | z
  ·exact h.srt r (List.mem_append_left _ z)
  ·rcases yau.mp z with z | z
   ·rw [z]; exact hm.srt
   ·exact h.srt r (by simp [z])
 ·have hp := h.pnd;rw [zbq, Nat.zero_add] at hp;obtain ⟨A, B, rfl, hA, hB⟩ := List.map_eq_append_iff.mp hp;have lA : A.length = R1.length := by have := congrArg List.length hA; rwa [yaf, zbA] at this
  rw [zb3, zb3] at hB
  match B, hB with
  | [], hB => simp at hB
  | [_], hB => simp at hB
  | x :: y :: B, hB =>
   simp only [List.map_cons, List.cons.injEq] at hB;obtain ⟨_, _, hB⟩ := hB;have e1 : (A ++ x :: y :: B).set R1.length (R1.flatten.length, r1.length + r2.length, p) = A ++ (R1.flatten.length, r1.length + r2.length, p) :: y :: B := by
    rw [List.set_append_right _ _ ω, lA, Nat.sub_self]; rfl
   have e2 : (A ++ (R1.flatten.length, r1.length + r2.length, p) :: y :: B).eraseIdx (R1.length + 1) = A ++ (R1.flatten.length, r1.length + r2.length, p) :: B := by
    rw [List.eraseIdx_append_of_length_le ω, lA, Nat.add_sub_cancel_left]; rfl
   rw [e1, e2, ya0, List.map_cons, hA, hB, zbq, zb3, ml];simp only [Nat.zero_add, pr];rw [Nat.add_assoc]
theorem zej {st : SortSt} {R1 R2 : List (List Keyed)} {r1 r2 T : List Keyed} {Q : Bool -> SortSt -> Prop} (hO : LtAt κ kx prog w A s) (hk : kindOf st = kx) (hf : failedOf st = none) (hK : ∀ x ∈ (arrOf st).toList, Kd κ x) (h : Rn κ (arrOf st).toList (pendingOf st).toList (R1 ++ r1 :: r2 :: R2) T)
  (hq : ∀ m xs pend g, xs.Perm (arrOf st) -> Rn κ xs.toList pend.toList (R1 ++ m :: R2) T -> xs.toList.drop (R1 ++ r1 :: r2 :: R2).flatten.length = T -> Q true (SortSt.mk' (kindOf st) xs pend g (failedOf st))) : wpS (model prog w) A E s (mergeAt' R1.length) Q st := by
 have hp := h.pnd;rw [zbq, Nat.zero_add] at hp;obtain ⟨PA, PB, hAB, hA, hB⟩ := List.map_eq_append_iff.mp hp;have lA : PA.length = R1.length := by have := congrArg List.length hA; rwa [yaf, zbA] at this
 rw [zb3, zb3] at hB
 match PB, hB with
 | [], hB => simp at hB
 | [_], hB => simp at hB
 | x :: y :: PB, hB =>
  simp only [List.map_cons, List.cons.injEq] at hB;obtain ⟨hx, hy, _⟩ := hB;obtain ⟨x1, x2, x3⟩ := x;obtain ⟨y1, y2, y3⟩ := y;cases hx;cases hy;have ea : (arrOf st).toList = R1.flatten ++ (r1 ++ (r2 ++ (R2.flatten ++ T))) := by rw [h.eq]; simp [List.append_assoc]
  refine zfA (P := R1.flatten) (r1 := r1) (r2 := r2) (S := R2.flatten ++ T) (p := x3) (q := y3) hO hk hf hK ea ?_ ?_ (h.pos r1 ς) (h.pos r2 ς) (h.srt r1 ς) (h.srt r2 ς) fun m xs g hm hxs => ?_
  ·rw [<- Array.getElem?_toList, hAB, List.getElem?_append_right ω, lA, Nat.sub_self]; rfl
  ·rw [<- Array.getElem?_toList, hAB, List.getElem?_append_right ω, lA, Nat.add_sub_cancel_left]; rfl
  ·have ml : m.length = r1.length + r2.length := by rw [hm.perm.length_eq, yae]
   have hr := h.merge (p := x3) hm hxs;refine hq m xs _ g ?_ (by rw [Array.toList_eraseIdxIfInBounds, Array.toList_setIfInBounds]; exact hr) ?_
   ·rw [Array.perm_iff_toList_perm, hxs, ea];refine List.Perm.append_left _ ?_;rw [<- List.append_assoc r1];exact hm.perm.append_right _
   ·rw [hxs];simp only [List.flatten_append, List.flatten_cons, <- List.append_assoc];exact List.drop_left' (by simp [ml]; omega)
end
section
variable {prog : Program} {w : World} {A : Around} {E : ZQ} {s : Shared} {κ : KeyKind} {kx : SortKind}
theorem Kp.take {lo : Nat} {xs ys : Array Keyed} (h : Kp lo xs ys) (hl : lo <= xs.size) : ys.toList.take lo = xs.toList.take lo := by
 refine List.ext_getElem? fun i => ?_;rw [List.getElem?_take, List.getElem?_take]
 by_cases c : i < lo
 ·rw [if_pos c, if_pos c, Array.getElem?_toList, Array.getElem?_toList]; exact h.keep i c
 ·rw [if_neg c, if_neg c]
theorem zli {lo n : Nat} {xs : Array Keyed} {F T : List Keyed} (hF : xs.toList.take lo = F) (hn : lo + n <= xs.size) (hs : SegS κ xs lo n) : ∃ R T', xs.toList = F ++ (R ++ T') /\ R.length = n /\ Srt κ R := by
 refine ⟨(xs.toList.drop lo).take n, (xs.toList.drop lo).drop n, ?_, ?_, ?_⟩
 ·rw [List.take_append_drop, <- hF, List.take_append_drop]
 ·rw [ya3, List.length_drop, Array.length_toList]; omega
 ·refine List.pairwise_iff_getElem.mpr fun i j hi hj hij => ?_;rw [ya3, List.length_drop, Array.length_toList] at hi hj;have := hs i j ω ω;rw [zdR ω, zdR ω] at this;simpa using this
theorem Rn.push {l l' : List Keyed} {pend : List (Nat × Nat × Nat)} {runs : List (List Keyed)} {R T T' : List Keyed} {lo n p : Nat} (h : Rn κ l pend runs T) (hl : l' = runs.flatten ++ (R ++ T')) (hlo : runs.flatten.length = lo) (hn : R.length = n) (h0 : 0 < n) (hs : Srt κ R) : Rn κ l' (pend ++ [(lo, n, p)]) (runs ++ [R]) T' := by
 refine ⟨by rw [hl]; simp [List.append_assoc], fun r hr => ?_, fun r hr => ?_, ?_⟩
 ·rcases yay.mp hr with z | z
  ·exact h.pos r z
  ·rw [yah.mp z]; omega
 ·rcases yay.mp hr with z | z
  ·exact h.srt r z
  ·rw [yah.mp z]; exact hs
 ·rw [ya0, h.pnd, zbq, Nat.zero_add, zb3, zb3, hlo, hn]; rfl
structure So (κ : KeyKind) (kx : SortKind) (st st' : SortSt) (runs : List (List Keyed)) (T : List Keyed) : Prop where
 kind : kindOf st' = kx
 failed : failedOf st' = none
 perm : (arrOf st').Perm (arrOf st)
 rn : Rn κ (arrOf st').toList (pendingOf st').toList runs T
theorem So.kd {st st' : SortSt} {runs : List (List Keyed)} {T : List Keyed} (h : So κ kx st st' runs T) (hK : ∀ x ∈ arrOf st, Kd κ x) : ∀ x ∈ arrOf st', Kd κ x := fun x hx => hK x (h.perm.mem_iff.mp hx)
theorem zkh {α : Type} : ∀ (l : List α) (i : Nat), i + 1 < l.length -> ∃ A x y B, l = A ++ x :: y :: B /\ A.length = i
 | x :: y :: B, 0, _ => ⟨[], x, y, B, rfl, rfl⟩
 | x :: l, i + 1, h => by
  obtain ⟨A, u, v, B, e, hl⟩ := zkh l i (by simpa using h);exact ⟨x :: A, u, v, B, by rw [e]; rfl, by rw [List.length_cons, hl]⟩
 | [_], 0, h => by simp at h
 | [], _, h => by simp at h
theorem zdz {st st' : SortSt} {runs : List (List Keyed)} {T : List Keyed} {i : Nat} {Q : Bool -> SortSt -> Prop} (hO : LtAt κ kx prog w A s) (hK : ∀ x ∈ arrOf st, Kd κ x) (h : So κ kx st st' runs T) (hi : i + 1 < runs.length)
  (hq : ∀ st2 runs2, So κ kx st st2 runs2 T -> runs2.length + 1 = runs.length -> runs2.flatten.length = runs.flatten.length -> Q true st2) : wpS (model prog w) A E s (mergeAt' i) Q st' := by
 obtain ⟨R1, r1, r2, R2, e, hl⟩ := zkh runs i hi;subst e hl;refine zej hO h.kind h.failed (fun x hx => h.kd hK x (by simpa using hx)) h.rn fun m xs pend g hp hr hd => ?_;refine hq _ (R1 ++ m :: R2) ⟨h.kind, h.failed, hp.trans h.perm, hr⟩ (by simp; omega) ?_;have e1 := congrArg List.length hr.eq;have e2 := congrArg List.length h.rn.eq;rw [yae, Array.length_toList] at e1 e2;have := hp.size_eq;show (R1 ++ m :: R2).flatten.length = _;have e3 : xs.size = (arrOf st').size := this;omega
theorem zgH {l : List (Nat × Nat × Nat)} {i : Nat} {f : Nat × Nat × Nat -> Nat × Nat × Nat} (hf : ∀ x, pr (f x) = pr x) : (l.modify i f).map pr = l.map pr := by
 refine List.ext_getElem? fun j => ?_;rw [yav, yav, List.getElem?_modify];cases l[j]? with
 | none => rfl
 | some x =>
  by_cases c : i = j
  ·simp [c, hf]
  ·simp [c]
theorem zek {st : SortSt} {Q : Unit -> SortSt -> Prop} (hO : LtAt κ kx prog w A s) (hk : kindOf st = kx) (hf : failedOf st = none) (hp : pendingOf st = #[]) (hK : ∀ x ∈ arrOf st, Kd κ x)
  (h : ∀ st', (arrOf st').Perm (arrOf st) -> failedOf st' = none -> Srt κ (arrOf st').toList -> Q () st') : wpS (model prog w) A E s sortRuns' Q st := by
 rw [sortRuns'_eq];refine wpS_bind (wpS_get ?_);dsimp only;generalize minRun' (arrOf st).size (arrOf st).size 0 = mr;generalize hsize : (arrOf st).size = size;refine wpS_bind (wpS_mono (wpS_forRange
  (I := fun x c st' => ∃ lo runs T, c = (none, lo) /\ So κ kx st st' runs T /\ runs.flatten.length = lo /\ x <= lo /\ lo <= size)
  (Q := fun c st' => ∃ runs, c = (none, size) /\ So κ kx st st' runs []) ?step ?fin ⟨0, [], (arrOf st).toList, rfl, ⟨hk, hf, Array.Perm.refl _, ⟨rfl,ς,ς, by rw [hp]; rfl⟩⟩, rfl,ω,ω⟩) ?post)
 case fin =>
  rintro c st' ⟨lo, runs, T, rfl, hS, hl, h1, h2⟩
  have e : lo = size := by omega
  have hT : T = [] := by
   have e1 := congrArg List.length hS.rn.eq;rw [yae, Array.length_toList, hS.perm.size_eq] at e1;exact List.eq_nil_of_length_eq_zero ω
  subst hT;exact ⟨runs, by rw [e], hS⟩
 case post =>
  rintro c st' ⟨runs, rfl, hS⟩
  dsimp only;have hsz : (arrOf st').size = size := hS.perm.size_eq.trans hsize;have hfl : runs.length <= size := by
   have e1 := congrArg List.length hS.rn.eq;rw [List.append_nil, Array.length_toList] at e1;have := zgm runs hS.rn.pos;omega
  refine wpS_bind (wpS_mono (wpS_forRange (I := fun x c st2 => c = (none, ()) /\ ∃ runs2, So κ kx st st2 runs2 [] /\ runs2.length + x <= size) (Q := fun c st2 => c = (none, ()) /\ ∃ runs2, So κ kx st st2 runs2 [] /\ runs2.length <= 1) ?step2 ?fin2 ⟨rfl, runs, hS,ω⟩) ?post2)
  case fin2 =>
   rintro c st2 ⟨hc, runs2, h1, h2⟩
   exact ⟨hc, runs2, h1,ω⟩
  case post2 =>
   rintro c st2 ⟨rfl, runs2, h1, h2⟩
   refine wpS_pure (h st2 h1.perm h1.failed ?_);rw [h1.rn.eq, List.append_nil]
   match runs2, h1.rn.srt, h2 with
   | [], _, _ => exact List.Pairwise.nil
   | [r], hs, _ => simpa using hs r ς
   | _ :: _ :: _, _, h2 => simp at h2
  case step2 =>
   rintro x c st2 _ hx ⟨rfl, runs2, h1, h2⟩
   refine wpS_bind (wpS_get ?_);have Qe : (pendingOf st2).size = runs2.length := by have := h1.rn.len; rwa [Array.length_toList] at this
   by_cases hle : (pendingOf st2).size <= 1
   ·rw [if_pos hle];exact wpS_pure ⟨rfl, runs2, h1,ω⟩
   rw [if_neg hle];have go : ∀ i, i + 1 < runs2.length -> wpS (model prog w) A E s (do
     let b <- mergeAt' i
     if (!b) = true then pure (ForInStep.done (some (), ())) else pure (ForInStep.yield (none, ()))) (fun r st3 => match r with
      | ForInStep.done c => c = (none, ()) /\ ∃ runs2, So κ kx st st3 runs2 [] /\ runs2.length <= 1
      | ForInStep.yield c => c = (none, ()) /\ ∃ runs2, So κ kx st st3 runs2 [] /\ runs2.length + (x + 1) <= size) st2 := fun i hi => by
    refine wpS_bind (zdz hO hK h1 hi fun st3 runs3 h3 h4 _ => ?_);exact wpS_pure ⟨rfl, runs3, h3,ω⟩
   have hif : ∀ (p : Prop) [Decidable p] (a b : Nat), a + 1 < runs2.length -> b + 1 < runs2.length -> (if p then a else b) + 1 < runs2.length := fun p _ a b ha hb => by split <;> assumption
   exact wpS_mono (go _ (hif _ _ _ ω ω)) fun r st3 hr => by cases r <;> exact hr
 case step =>
  rintro x c st' _ hx ⟨lo, runs, T, rfl, hS, hl, h1, h2⟩
  dsimp only;have hsz : (arrOf st').size = size := hS.perm.size_eq.trans hsize
  by_cases hge : lo ≥ size
  ·rw [if_pos hge];have hT : T = [] := by
    have e1 := congrArg List.length hS.rn.eq;rw [yae, Array.length_toList] at e1;exact List.eq_nil_of_length_eq_zero ω
   subst hT;exact wpS_pure ⟨runs, by rw [show lo = size by omega], hS⟩
  rw [if_neg hge];have hF : (arrOf st').toList.take lo = runs.flatten := by rw [hS.rn.eq, List.take_left' hl]
  refine wpS_bind (zeW hO hS.kind (hS.kd hK) ω ω fun m xs kp hm1 hm2 hseg => ?_);dsimp only;have mkS : ∀ {n : Nat} {ys : Array Keyed}, Kp lo (arrOf st') ys -> SegS κ ys lo n -> lo + n <= size -> ∃ R T', So κ kx st (setArr st' ys) runs (R ++ T') /\ R.length = n /\ Srt κ R := fun {n ys} k2 sg hn => by
   have e := k2.size;obtain ⟨R, T', e1, e2, e3⟩ := zli (κ := κ) (F := runs.flatten) (T := T) ((k2.take ω).trans hF) ω sg;exact ⟨R, T', ⟨hS.kind, hS.failed, k2.perm.trans hS.perm, ⟨e1, hS.rn.pos, hS.rn.srt, hS.rn.pnd⟩⟩, e2, e3⟩
  by_cases hlt : m < mr
  case' pos =>
   rw [if_pos hlt];refine wpS_bind (wpS_lift (wpAny_rule ⟨rfl, ?_⟩));refine wpS_bind (zgG (st := setArr st' xs) hO hS.kind (kp.kd (hS.kd hK)) (by show lo + min (size - lo) mr <= xs.size; rw [kp.size]; omega) ω hseg fun ys kp2 hs2 => ?_);rw [if_neg δ];have hn0 : 0 < min (size - lo) mr := by omega
   have hnl : lo + min (size - lo) mr <= size := by omega
   obtain ⟨R, T', hS2, eR, sR⟩ := mkS (kp.trans kp2) hs2 hnl;generalize min (size - lo) mr = n at hn0 hnl eR hs2 ⊢;generalize setArr (setArr st' xs) ys = st2 at hS2 ⊢
  case' neg =>
   rw [if_neg hlt];obtain ⟨R, T', hS2, eR, sR⟩ := mkS kp hseg ω;have hn0 : 0 < m := by omega
   have hnl : lo + m <= size := by omega
   generalize m = n at hn0 hnl eR hseg ⊢;generalize setArr st' xs = st2 at hS2 ⊢
  all_goals
   refine wpS_bind (wpS_get ?_);cases hb : (pendingOf st2).back? with
   | none =>
    refine wpS_bind (wpS_modify (wpS_pure ⟨lo + n, runs ++ [R], T', rfl, ⟨hS2.kind, hS2.failed, hS2.perm, ?_⟩, by simp [hl, eR],ω, hnl⟩));show Rn κ (arrOf st2).toList ((pendingOf st2).push (lo, n, 0)).toList _ _;rw [Array.toList_push];exact hS2.rn.push hS2.rn.eq hl eR hn0 sR
   | some b =>
    obtain ⟨s1, n1, p1⟩ := b;dsimp only;refine wpS_bind (wpS_mono (wpS_forRange (I := fun _ c st3 => c = (none, ()) /\ ∃ runs3, So κ kx st st3 runs3 (R ++ T') /\ runs3.flatten.length = lo) (Q := fun c st3 => c = (none, ()) /\ ∃ runs3, So κ kx st st3 runs3 (R ++ T') /\ runs3.flatten.length = lo) ?istep ?ifin ⟨rfl, runs, hS2, hl⟩) ?ipost)
    case ifin => exact fun _ _ hh => hh
    case istep =>
     rintro x3 c3 st3 _ _ ⟨rfl, runs3, hS3, hl3⟩
     refine wpS_bind (wpS_get ?_);have Qe : (pendingOf st3).size = runs3.length := by have := hS3.rn.len; rwa [Array.length_toList] at this
     by_cases hp1 : (pendingOf st3).size > 1
     ·rw [if_pos hp1, getElem?_pos (pendingOf st3) ((pendingOf st3).size - 2) ω];dsimp only
      split
      ·exact wpS_pure ⟨rfl, runs3, hS3, hl3⟩
      ·refine wpS_bind (zdz hO hK hS3 ω fun st4 runs4 h4 _ h5 => ?_);exact wpS_pure ⟨rfl, runs4, h4,ω⟩
     ·rw [if_neg hp1];exact wpS_pure ⟨rfl, runs3, hS3, hl3⟩
    case ipost =>
     rintro c3 st3 ⟨rfl, runs3, hS3, hl3⟩
     refine wpS_bind (wpS_modify (wpS_bind (wpS_modify (wpS_pure ⟨lo + n, runs3 ++ [R], T', rfl, ⟨hS3.kind, hS3.failed, hS3.perm, ?_⟩, by simp [hl3, eR],ω, hnl⟩))));show Rn κ (arrOf st3).toList (((pendingOf st3).modify ((pendingOf st3).size - 1) _).push (lo, n, 0)).toList _ _;rw [Array.toList_push, Array.toList_modify];have hr : Rn κ (arrOf st3).toList ((pendingOf st3).toList.modify ((pendingOf st3).size - 1) fun x => (x.1, x.2.1, power' size (2 * s1 + n1) (2 * s1 + n1 + n1 + n) size)) runs3 (R ++ T') := ⟨hS3.rn.eq, hS3.rn.pos, hS3.rn.srt, (by refine Eq.trans (zgH ?_) hS3.rn.pnd; exact fun _ => rfl)⟩
     exact hr.push hr.eq hl3 eR hn0 sR
end
section
variable {prog : Program} {w : World} {A : Around} {E : ZQ} {s : Shared}
theorem znf {κ : KeyKind} {xs : Array Keyed} (h : Srt κ xs.toList) : SortedToK κ xs xs.size := fun i j hij hj => by
 rw [zdR ω, zdR hj];exact h.at hij hj
def Kps (a : Addr) (s s2 : Shared) : Prop := ∀ b o, b ≠ a -> s.heap.get? b = some o -> s2.heap.get? b = some o
theorem zd0 {κ : KeyKind} {kx : SortKind} {a : Addr} {vs : List Value} {n : Nat} {P : PySem.Fin -> Shared -> Prop} (ho : s.heap.get? a = some (seqObj "list" vs.toArray n))
  (h0 : KeysOf κ (pairsOf vs)) (hO : ∀ s2, Kps a s s2 -> LtAt κ kx prog w A s2) (hkk : ∀ s2, Kps a s s2 -> 2 <= vs.length -> wpAny (model prog w) A (keyKind' vs.toArray) (fun k s3 => k = kx /\ s3 = s2) E s2) (hmx : vs.length <= 1000)
  (h : ∀ st' : SortSt, (arrOf st').Perm (pairsOf vs) -> SortedToK κ (arrOf st') (pairsOf vs).size -> P (.done (.ret .none)) { s with heap := sortedHeap s.heap a vs ((arrOf st').map (·.2)) }) :
  wpAny (model prog w) A (Builtin.«list.sort» ⟨[.ref a], []⟩) P E s := by
 rw [list_sort_plain];have ha : a < s.heap.objs.size := yan ho;refine yaa (listItems_at ho rfl ?_);refine yaa (listUpdate_at ho rfl ?_);obtain ⟨e1, ho1⟩ : ∃ e1, (s.heap.update a (Obj.mapSeq fun _ => #[])).get? a = some (seqObj "list" #[] e1) := ⟨_, get?_update_seq ho (fun _ => #[])⟩
 refine yaa (seqEpoch_at ho1 rfl ?_);refine yaa (wpAny_newTuple ?_);refine yaa (wpAny_newList ?_);refine wpAny_holding ?_;have ho6 : (((s.heap.update a (Obj.mapSeq fun _ => #[])).push (seqObj "tuple" vs.toArray 0)).push (seqObj "list" #[] 0)).get? a = some (seqObj "list" #[] e1) := by
  rw [Heap.get?_push_ne _ _ _ (by rw [size_push', Heap.size_update]; exact Nat.ne_of_lt (Nat.lt_succ_of_lt ha)), Heap.get?_push_ne _ _ _ (by rw [Heap.size_update]; exact Nat.ne_of_lt ha)];exact ho1
 show wpAny (model prog w) A _ P E { s with heap := ((s.heap.update a (Obj.mapSeq fun _ => #[])).push (seqObj "tuple" vs.toArray 0)).push (seqObj "list" #[] 0) };dsimp only;have hK2 : Kps a s { s with heap := ((s.heap.update a (Obj.mapSeq fun _ => #[])).push (seqObj "tuple" vs.toArray 0)).push (seqObj "list" #[] 0) } := fun b o hb hg => by
  have hlt := yan hg;show (((s.heap.update a (Obj.mapSeq fun _ => #[])).push (seqObj "tuple" vs.toArray 0)).push (seqObj "list" #[] 0)).get? b = some o;rw [Heap.get?_push_ne _ _ _ (by rw [size_push', Heap.size_update]; exact Nat.ne_of_lt (Nat.lt_succ_of_lt hlt)), Heap.get?_push_ne _ _ _ (by rw [Heap.size_update]; exact Nat.ne_of_lt hlt), Heap.get?_update_ne _ _ _ _ hb];exact hg
 have hsz : vs.toArray.size = vs.length := by simp
 by_cases h2 : vs.toArray.size < 2
 ·rw [if_pos h2, if_pos h2];refine yaa (yab ?_);rw [StateT.run_pure];refine yaa (yab ?_);dsimp only;refine yaa (seqEpoch_at ho6 rfl ?_);refine yaa (listUpdate_at ho6 rfl ?_ (hsz2 := by rw [Array.size_map]; show (pairsOf vs).size <= _; rw [pairsOf_size, sizeLine_eq]; omega));simp only [bne_self_eq_false, Bool.false_eq_true, if_false];refine yab (h (SortSt.mk' general' (vs.toArray.zip vs.toArray) #[] 7 none) (Array.Perm.refl _) ?_);intro i j hij hj;have : i = j := by rw [pairsOf_size] at hj; omega
  subst this; exact KeyOrd.kle_refl _
 ·rw [if_neg h2, if_neg h2];obtain ⟨v₁, v₂, rest, rfl⟩ : ∃ v₁ v₂ rest, vs = v₁ :: v₂ :: rest := by
   match vs, hsz, h2 with
   | [], _, h2 => simp at h2
   | [_], _, h2 => simp at h2
   | v₁ :: v₂ :: rest, _, _ => exact ⟨v₁, v₂, rest, rfl⟩
  refine yaa (wpAny_mono (hkk _ hK2 ς) (fun k s3 hk => ?_) fun _ _ e => e);obtain ⟨rfl, rfl⟩ := hk;refine yaa (wpAny_mono (zek (κ := κ) (hO _ hK2) (st := SortSt.mk' _ ((v₁ :: v₂ :: rest).toArray.zip (v₁ :: v₂ :: rest).toArray) #[] 7 none)
   (Q := fun _ st' => (arrOf st').Perm (pairsOf (v₁ :: v₂ :: rest)) /\ failedOf st' = none /\ SortedToK κ (arrOf st') (pairsOf (v₁ :: v₂ :: rest)).size)
   rfl rfl rfl (fun x hx => h0 x (Array.mem_toList_iff.2 hx)) fun st' a1 a2 a3 => ⟨a1, a2, by have := znf a3; rwa [a1.size_eq] at this⟩) ?_ fun _ _ e => e)
  rintro ⟨⟨⟩, st'⟩ s' ⟨rfl, hp, hf, hs⟩
  dsimp only;refine yaa (seqEpoch_at ho6 rfl ?_);refine yaa (listUpdate_at ho6 rfl ?_ (hsz2 := by refine yat (Nat.le_of_eq ((Array.size_map ..).trans (hp.size_eq.trans (pairsOf_size _)))) ?_; rw [sizeLine_eq]; omega));rw [hf];simp only [bne_self_eq_false, Bool.false_eq_true, if_false];exact yab (h st' hp hs)
theorem zjw {κ : KeyKind} {kx : SortKind} {l : Addr} {vs : List Value} {Q : ZQ} (hl : s.heap.IsList l vs.toArray) (h0 : KeysOf κ (pairsOf vs))
  (hO : ∀ s2, (∀ b o, s.heap.get? b = some o -> s2.heap.get? b = some o) -> LtAt κ kx prog w A.in1.in1 s2) (hkk : ∀ s2 E, (∀ b o, s.heap.get? b = some o -> s2.heap.get? b = some o) -> 2 <= vs.length -> wpAny (model prog w) A.in1.in1 (keyKind' vs.toArray) (fun k s3 => k = kx /\ s3 = s2) E s2) (hmx : vs.length <= 1000)
  (h : ∀ st' : SortSt, (arrOf st').Perm (pairsOf vs) -> SortedToK κ (arrOf st') (pairsOf vs).size -> Q (.ref (s.heap.objs.size + 1)) { s with heap := sortedAll s.heap vs ((arrOf st').map (·.2)) }) :
  wpAny (model prog w) A (call (.builtin "sorted") [.ref l]) Q E s := by
 refine Calls.call_function_entry kind_sorted plain_sorted entry_sorted (args_sorted1 _) ?_;unfold Builtin.«sorted»;refine yaa (m := checkCount "sorted" 1 1 _) (yab ?_);refine yaa (collect_list hl ?_);refine yaa (wpAny_newList ?_);have hsz : ((s.heap.push (seqObj "list" #[] 0)).update s.heap.objs.size (Obj.mapSeq (· ++ vs.toArray))).objs.size = s.heap.objs.size + 1 := by
  rw [Heap.size_update, size_push']
 have hoL : (((s.heap.push (seqObj "list" #[] 0)).update s.heap.objs.size (Obj.mapSeq (· ++ vs.toArray))).push (seqObj "list" vs.toArray 0)).get? (s.heap.objs.size + 1) = some (seqObj "list" vs.toArray 0) := by
  rw [<- hsz]; exact yaj _ rfl
 show wpAny _ _ _ _ _ { s with heap := ((s.heap.push (seqObj "list" #[] 0)).update s.heap.objs.size (Obj.mapSeq (· ++ vs.toArray))).push (seqObj "list" vs.toArray 0) };rw [hsz];have kk : ∀ b o, s.heap.get? b = some o -> b ≠ s.heap.objs.size + 1 /\ (((s.heap.push (seqObj "list" #[] 0)).update s.heap.objs.size (Obj.mapSeq (· ++ vs.toArray))).push (seqObj "list" vs.toArray 0)).get? b = some o := fun b o hg => by
  have hlt := yan hg;refine ⟨Nat.ne_of_lt (Nat.lt_succ_of_lt hlt), ?_⟩;rw [Heap.get?_push_ne _ _ _ (by rw [hsz]; exact Nat.ne_of_lt (Nat.lt_succ_of_lt hlt)), Heap.get?_update_ne _ _ _ _ (Nat.ne_of_lt hlt), Heap.get?_push_ne _ _ _ (Nat.ne_of_lt hlt)];exact hg
 refine yaa (wpAny_holding (wpAny_call_entry slot_list_sort ⟨_, hoL, rfl⟩ entry_list_sort (zd0 hoL h0 (fun s2 h2 => hO s2 fun b o hg => h2 b o (kk b o hg).1 (kk b o hg).2) (fun s2 h2 => hkk s2 _ fun b o hg => h2 b o (kk b o hg).1 (kk b o hg).2) hmx fun st' a1 a2 => ⟨_, rfl, ?_⟩) (args_list_sort _)));exact yab ⟨_, rfl, h st' a1 a2⟩
end
section
variable {X : Cx}
def zjx (P : Program) (w : World) (K : W.Frag) : List V -> Hp -> VK -> Prop := fun xs H Q => ∃ (a : Addr) (us : List Str), xs = [.ref a] /\ (H a = some (SetO P w a us) \/ SqL K H a (us.map V.str)) /\ us.length <= 1000 /\
 ∀ l vs, H l = none -> sortedS vs = true -> vs.Perm us -> Q (.ref l) (upd H l (.lst (vs.map V.str)))
variable {P : Program} {w : World} {K : W.Frag} {H : Hp} {Q : VK} {p : Addr}
theorem zng : zjx P w K [.ref p] H Q = ∃ us : List Str, (H p = some (SetO P w p us) \/ SqL K H p (us.map V.str)) /\ us.length <= 1000 /\ ∀ l vs, H l = none -> sortedS vs = true -> vs.Perm us -> Q (.ref l) (upd H l (.lst (vs.map V.str))) := by
 refine propext ⟨fun ⟨_, us, e, h⟩ => ?_, fun ⟨us, h⟩ => ⟨p, us, rfl, h⟩⟩;cases e; exact ⟨us, h⟩
end
end L2
namespace L2
open PySem PySem.Spec PyProof.Rows PySem.SeqAt
open AutoSeq1 (wpAny_loadPart')
open MeetsSeq MeetsSeq2 MeetsSeq3 SeqRoads2
def LtA (A : Around) (s : Shared) (u v : Value) (b : Bool) : Prop := ∀ (prog : Program) (w : World) (E : ZQ) (Q : ZQ), Q (.bool b) s -> wpAny (model prog w) A (richCompare .Lt u v) Q E s
section
variable {A : Around} {s : Shared}
theorem LtA.int (i j : Int) (t u : Tok) : LtA A s (.int i t) (.int j u) (decide (i < j)) := fun prog w E Q h => wpAny_lt_int h
theorem LtA.str (x y : Str) (t u : Tok) : LtA A s (.str x t) (.str y u) (decide (x.cps.toList < y.cps.toList)) := fun prog w E Q h =>
 wpAny_richCompare_same (op := .Lt) (T := "str") (typeIs_str s x t) (typeIs_str s y u) slot_str_lt (call_str_lt ⟨ς, h⟩)
end
def lexB (e l : Nat -> Bool) (z : Bool) : List Nat -> Bool
 | [] => z
 | i :: r => if e i then lexB e l z r else l i
theorem zie (a b : Addr) (xs ys : Array Value) (n n2 : Nat) (d1 d2 : Option Addr) (s1 s2 : Array (Option Value)) (e l : Nat -> Bool) :
  Meets (Builtin.«tuple.__lt__» ⟨[.ref a, .ref b], []⟩)
   (fun A R s => s.heap.get? a = some { cls := .type "tuple", dict := d1, data := .seq xs n, slots := s1 } /\ s.heap.get? b = some { cls := .type "tuple", dict := d2, data := .seq ys n2, slots := s2 } /\
    (∀ j (h1 : j < xs.size) (h2 : j < ys.size), EqAt A.in1 s xs[j] ys[j] (e j)) /\ (∀ j (h1 : j < xs.size) (h2 : j < ys.size), e j = false -> LtA A.in1 s xs[j] ys[j] (l j)) /\
    R (.ok (.ret (.bool (lexB e l (decide (xs.size < ys.size)) (List.range (min xs.size ys.size)))))) s) :=
 .of_wp fun prog w A R s h => by
  obtain ⟨hp, g, d, tk, os⟩ := s;obtain ⟨ha, hb, he, hlt, h⟩ := h;have f2 := AutoSeq1.sub_tuple_tuple;have hZ : (xs.toList.zip ys.toList).length = min xs.size ys.size := by simp
  wp_walk using wpAny_loadPart' ha, wpAny_loadPart' hb, wpAny_forIn_list _ (fun rest c s' => c.1 = none /\ s' = ⟨hp, g, d, tk, os⟩ /\ ∃ i, rest = (xs.toList.zip ys.toList).drop i /\
   R (.ok (.ret (.bool (lexB e l (decide (xs.size < ys.size)) ((List.range (min xs.size ys.size)).drop i))))) ⟨hp, g, d, tk, os⟩) _
  case turn =>
   rintro ⟨y, x⟩ rest c s' ⟨hc, rfl, i, hz, hR⟩
   have hl : i < (xs.toList.zip ys.toList).length := by
    by_cases z : i < (xs.toList.zip ys.toList).length
    ·exact z
    ·rw [List.drop_of_length_le ω] at hz; cases hz
   have hm : i < min xs.size ys.size := hZ ▸ hl;have k1 : i < xs.size := by omega
   have k2 : i < ys.size := by omega
   rw [List.drop_eq_getElem_cons hl] at hz
   injection hz with hyx hrest
   obtain rfl : y = xs[i] := by have := congrArg Prod.fst hyx; simpa using this
   obtain rfl : x = ys[i] := by have := congrArg Prod.snd hyx; simpa using this
   have hd : (List.range (min xs.size ys.size)).drop i = i :: (List.range (min xs.size ys.size)).drop (i + 1) := by simp [List.drop_eq_getElem_cons, hm]
   rw [hd, lexB] at hR;refine yaa (he i k1 k2 prog w _ _ ?_);cases hy : e i with
   | true =>
    rw [hy] at hR
    wp_walk
    exact ⟨rfl, rfl, i + 1, hrest, by simpa using hR⟩
   | false =>
    rw [hy] at hR;simp only [Bool.not_false, if_true];refine yaa (wpAny_rule (yaa (hlt i k1 k2 hy prog w _ _ (yaa (yab (yab ?_))))));exact yab ⟨_, rfl, by simpa using hR⟩
  case fin =>
   rintro ⟨c1, c2⟩ s' ⟨hc, rfl, i, hz, hR⟩
   simp only at hc;subst hc;have hge : min xs.size ys.size <= i := by
    by_cases z : i < (xs.toList.zip ys.toList).length
    ·rw [List.drop_eq_getElem_cons z] at hz; cases hz
    ·omega
   rw [List.drop_of_length_le (by simpa using hge), lexB] at hR
   wp_walk
   exact ⟨_, rfl, by simpa [Builtin.Tuple.tupleCompareSizes] using hR⟩
  case h =>
   exact ⟨rfl, rfl, 0, rfl, by simpa using h⟩
section
variable {A : Around} {s : Shared}
theorem LtA.tup {a b : Addr} {xs ys : Array Value} {e l : Nat -> Bool} (ha : s.heap.IsTuple a xs) (hb : s.heap.IsTuple b ys) (hu : A.units < cLine)
  (he : ∀ j (h1 : j < xs.size) (h2 : j < ys.size), EqAt A.in1 s xs[j] ys[j] (e j)) (hl : ∀ j (h1 : j < xs.size) (h2 : j < ys.size), e j = false -> LtA A.in1 s xs[j] ys[j] (l j)) :
  LtA A s (.ref a) (.ref b) (lexB e l (decide (xs.size < ys.size)) (List.range (min xs.size ys.size))) := fun prog w E Q h => by
 obtain ⟨⟨c1, d1, t1, s1⟩, ho, e1, n, e2⟩ := id ha;obtain ⟨⟨c2, d2, t2, s2⟩, ho2, e3, n2, e4⟩ := id hb;simp only at e1 e2 e3 e4;subst e1 e2 e3 e4;exact richCompare_meets_room (op := .Lt) ⟨_, ho, rfl⟩ ⟨_, ho2, rfl⟩ F.slot_tuple_lt F.entry_tuple_lt (F.args_tuple_lt_2 _ _) (zie a b xs ys n n2 d1 d2 s1 s2 e l)
  ⟨ho, ho2, he, hl, (fun x => nomatch x), h⟩ hu
end
end L2
namespace L2
open PySem PySem.Spec PyProof.Rows PySem.SeqAt
theorem zel (b : Bool) (x y : Value) : keyLt' (tuples' b) x y = (do
  let xs <- Builtin.List.listItems x
  let ys <- Builtin.List.listItems y
  for ((p, q), i) in (xs.toList.zip ys.toList).zipIdx do
   if !(<- eqBool p q) then return <- oneLt' (b && i == 0) p q
  return decide (xs.size < ys.size)) := rfl
section
variable {prog : Program} {w : World} {A : Around} {E : ZQ} {s : Shared}
theorem zif {a b : Addr} {x1 x2 y1 y2 : Value} {e1 e2 l1 l2 : Bool} {Q : Bool -> Shared -> Prop} (ha : s.heap.IsTuple a #[x1, x2]) (hb : s.heap.IsTuple b #[y1, y2])
  (h1 : EqAt A s x1 y1 e1) (h2 : EqAt A s x2 y2 e2) (k1 : e1 = false -> ∀ (E : ZQ) (Q : Bool -> Shared -> Prop), Q l1 s -> wpAny (model prog w) A (oneLt' true x1 y1) Q E s) (k2 : e2 = false -> LtA A s x2 y2 l2) (h : Q (if e1 then (if e2 then false else l2) else l1) s) :
  wpAny (model prog w) A (keyLt' (tuples' true) (.ref a) (.ref b)) Q E s := by
 obtain ⟨o, ho, _, n, hd⟩ := ha;obtain ⟨o2, ho2, _, n2, hd2⟩ := hb;rw [zel];refine yaa (listItems_at ho hd (yaa (listItems_at ho2 hd2 ?_)));simp only [List.zip_cons_cons, List.zip_nil_left, List.zipIdx_cons, List.zipIdx_nil, List.forIn_cons, List.forIn_nil, Nat.zero_add];refine yaa (yaa (yaa (h1 prog w _ _ ?_)));cases e1 with
 | false =>
  simp only [Bool.not_false, if_true];refine yaa (k1 rfl _ _ (yab (yab (yab ?_))));simpa using h
 | true =>
  simp only [Bool.not_true, Bool.false_eq_true, if_false];refine yab (yaa (yaa (h2 prog w _ _ ?_)));cases e2 with
  | false =>
   simp only [Bool.not_false, if_true];rw [show ((true && 1 == 0 : Bool)) = false from rfl, oneLt'_eq];simp only [Bool.false_eq_true, if_false];refine yaa (yaa (k2 rfl prog w _ _ (wpAny_truthy_bool (yab (yab (yab ?_))))));simpa using h
  | true =>
   simp only [Bool.not_true, Bool.false_eq_true, if_false];refine yab (yab (yab ?_));simpa using h
end
def zbf (a b : List Nat × List Int) : Prop := a.1 < b.1 \/ (a.1 = b.1 /\ a.2 < b.2)
instance (a b : List Nat × List Int) : Decidable (zbf a b) := by unfold zbf; infer_instance
theorem rowLt_tri (a b : List Nat × List Int) : zbf a b \/ a = b \/ zbf b a := by
 by_cases h1 : a.1 < b.1
 ·exact .inl (.inl h1)
 by_cases h2 : b.1 < a.1
 ·exact .inr (.inr (.inl h2))
 have e : a.1 = b.1 := List.le_antisymm (List.not_lt.mp h2) (List.not_lt.mp h1)
 by_cases h3 : a.2 < b.2
 ·exact .inl (.inr ⟨e, h3⟩)
 by_cases h4 : b.2 < a.2
 ·exact .inr (.inr (.inr ⟨e.symm, h4⟩))
 exact .inr (.inl (Prod.ext e (List.le_antisymm (List.not_lt.mp h4) (List.not_lt.mp h3))))
theorem zcB (a : List Nat × List Int) : ¬ zbf a a := fun h => by
 rcases h with h | ⟨_, h⟩
 ·exact List.lt_irrefl _ h
 ·exact List.lt_irrefl _ h
theorem zd1 {a b c : List Nat × List Int} (h1 : zbf a b) (h2 : zbf b c) : zbf a c := by
 rcases h1 with h1 | ⟨e1, h1⟩ <;> rcases h2 with h2 | ⟨e2, h2⟩
 ·exact .inl (List.lt_trans h1 h2)
 ·exact .inl (e2 ▸ h1)
 ·exact .inl (e1 ▸ h2)
 ·exact .inr ⟨e1.trans e2, List.lt_trans h1 h2⟩
def SecR (h : Heap) (f : Bool) (v : Value) (l : List Int) : Prop := match f with
 | false => ∃ i t, v = .int i t /\ l = [i]
 | true => ∃ c xs, v = .ref c /\ h.IsTuple c xs /\ IntsAre xs.toList l
def RowR (h : Heap) (f : Bool) (v : Value) (k : List Nat × List Int) : Prop := ∃ a x t u l, v = .ref a /\ h.IsTuple a #[.str x t, u] /\ SecR h f u l /\ k = (x.cps.toList, l)
theorem zbQ {h : Heap} {a : Addr} {xs ys : Array Value} (h1 : h.IsTuple a xs) (h2 : h.IsTuple a ys) : xs = ys := by
 obtain ⟨o, e1, _, n, d1⟩ := h1;obtain ⟨o2, e2, _, n2, d2⟩ := h2;rw [e1] at e2; cases e2;rw [d1] at d2; cases d2; rfl
theorem zem : ∀ {vs : List Value} {l m : List Int}, IntsAre vs l -> IntsAre vs m -> l = m
 | _, _, _, .nil, .nil => rfl
 | _, _, _, .cons n t h, .cons _ _ h' => by rw [zem h h']
theorem SecR.uniq {h : Heap} {f : Bool} {v : Value} {l m : List Int} (h1 : SecR h f v l) (h2 : SecR h f v m) : l = m := by
 cases f with
 | false => obtain ⟨i, t, rfl, rfl⟩ := h1; obtain ⟨j, t', e, rfl⟩ := h2; cases e; rfl
 | true =>
  obtain ⟨c, xs, rfl, p, q⟩ := h1;obtain ⟨c', ys, e, p', q'⟩ := h2;cases e;rw [zbQ p p'] at q;exact zem q q'
theorem RowR.uniq {h : Heap} {f : Bool} {v : Value} {k k' : List Nat × List Int} (h1 : RowR h f v k) (h2 : RowR h f v k') : k = k' := by
 obtain ⟨a, x, t, u, l, rfl, p, q, rfl⟩ := h1;obtain ⟨a', x', t', u', l', e, p', q', rfl⟩ := h2;cases e;have e := zbQ p p';simp only [Array.mk.injEq, List.cons.injEq, Value.str.injEq, and_true] at e;obtain ⟨⟨rfl, _⟩, rfl⟩ := e;rw [q.uniq q']
open Classical in
noncomputable def zbV (h : Heap) (f : Bool) : KeyKind where
 α := List Nat × List Int
 blt a b := decide (zbf a b)
 irrefl a := by simpa using zcB a
 trans a b c h1 h2 := by simp only [decide_eq_true_eq] at *; exact zd1 h1 h2
 negTrans a b c h := by
  simp only [decide_eq_true_eq] at *;rcases rowLt_tri a b with z | rfl | z
  ·exact .inl z
  ·exact .inr h
  ·exact .inr (zd1 z h)
 total a b h1 h2 := by
  simp only [decide_eq_false_iff_not] at *;rcases rowLt_tri a b with z | z | z
  ·exact absurd z h1
  ·exact z
  ·exact absurd z h2
 keyOf v := if z : ∃ k, RowR h f v k then some z.choose else none
 dflt := ([], [])
theorem zcS {h : Heap} {f : Bool} {v : Value} {k : List Nat × List Int} (hk : (zbV h f).keyOf v = some k) : RowR h f v k := by
 unfold zbV at hk;simp only at hk
 split at hk
 ·rename_i z; cases hk; exact z.choose_spec
 ·cases hk
theorem zdU {h : Heap} {f : Bool} {v : Value} {k : List Nat × List Int} (hk : RowR h f v k) : (zbV h f).keyOf v = some k := by
 unfold zbV;simp only;rw [dif_pos ⟨k, hk⟩];exact congrArg some ((⟨k, hk⟩ : ∃ k, RowR h f v k).choose_spec.uniq hk)
theorem zck {prog : Program} {w : World} : ∀ {vs : List Value} {l : List Int}, IntsAre vs l -> ItemsAre (intKind prog w) l vs
 | _, _, .nil => .nil
 | _, _, .cons n t h => .cons (by simp [intKind, Value.isInt]) (zck h)
theorem zbB : ∀ {vs : List Value} {l : List Int}, IntsAre vs l -> ∀ (j : Nat) (h : j < vs.length), ∃ t, ∃ h' : j < l.length, vs[j] = .int l[j] t
 | _, _, .nil, j, h => by simp at h
 | _, _, .cons n t _, 0, _ => ⟨t,ς, rfl⟩
 | _, _, .cons n t q, j + 1, h => by
  obtain ⟨t', h', e⟩ := zbB q j (by simpa using h);exact ⟨t', by simpa using h', by simpa using e⟩
theorem zcC : ∀ {vs : List Value} {l : List Int}, IntsAre vs l -> vs.length = l.length
 | _, _, .nil => rfl
 | _, _, .cons n t q => by simp [zcC q]
theorem zeX : ∀ (l m : List Int) (e lt : Nat -> Bool) (z : Bool) (k : Nat), (∀ j (h : j < l.length) (h' : j < m.length), e (k + j) = decide (l[j] = m[j])) -> (∀ j (h : j < l.length) (h' : j < m.length), lt (k + j) = decide (l[j] < m[j])) -> z = decide (l.length < m.length) ->
  lexB e lt z ((List.range (min l.length m.length)).map (k + ·)) = decide (l < m)
 | [], [], e, lt, z, k, _, _, hz => by subst hz; rfl
 | [], b :: m, e, lt, z, k, _, _, hz => by subst hz; simp [lexB]
 | a :: l, [], e, lt, z, k, _, _, hz => by subst hz; simp [lexB]
 | a :: l, b :: m, e, lt, z, k, he, hl, hz => by
  have e0 := he 0 ς ς;have l0 := hl 0 ς ς;simp only [Nat.add_zero, List.getElem_cons_zero] at e0 l0;have ih := zeX l m e lt z (k + 1) (fun j h h' => by have := he (j + 1) (by simpa using h) (by simpa using h'); rw [show k + 1 + j = k + (j + 1) by omega]; simpa using this)
   (fun j h h' => by have := hl (j + 1) (by simpa using h) (by simpa using h'); rw [show k + 1 + j = k + (j + 1) by omega]; simpa using this) (by rw [hz]; simp)
  have hr : (List.range (min (a :: l).length (b :: m).length)).map (k + ·) = k :: (List.range (min l.length m.length)).map (k + 1 + ·) := by
   rw [List.length_cons, List.length_cons, Nat.succ_min_succ, List.range_succ_eq_map, List.map_cons, List.map_map, Nat.add_zero]
   congr 1
   exact List.map_congr_left fun j _ => by simp; omega
  rw [hr, lexB, e0, l0, ih]
  by_cases c : a = b
  ·subst c; simp [List.cons_lt_cons_iff]
  ·simp [c, List.cons_lt_cons_iff]
section
variable {A : Around} {s : Shared}
theorem SecR.eqAt {f : Bool} {u v : Value} {l m : List Int} (hu : A.units < cLine) (h1 : SecR s.heap f u l) (h2 : SecR s.heap f v m) : EqAt A s u v (decide (l = m)) := by
 cases f with
 | false =>
  obtain ⟨i, t, rfl, rfl⟩ := h1; obtain ⟨j, t', rfl, rfl⟩ := h2;have : decide ([i] = [j]) = (i == j) := by simp [Bool.beq_eq_decide_eq]
  rw [this]; exact EqAt.int_int _ _ _ _
 | true =>
  obtain ⟨c, xs, rfl, p, q⟩ := h1;obtain ⟨c', ys, rfl, p', q'⟩ := h2;intro prog w E Q h;obtain ⟨o, ho, hc, n, hd⟩ := p;obtain ⟨o2, ho2, hc2, n2, hd2⟩ := p';exact wpAny_eqBool_tuple (knd := intKind prog w) hu ⟨o, xs, n, ho, hc, hd, zck q⟩ ⟨o2, ys, n2, ho2, hc2, hd2, zck q'⟩ h
theorem SecR.ltA {f : Bool} {u v : Value} {l m : List Int} (hu : A.units < cLine) (h1 : SecR s.heap f u l) (h2 : SecR s.heap f v m) : LtA A s u v (decide (l < m)) := by
 cases f with
 | false =>
  obtain ⟨i, t, rfl, rfl⟩ := h1; obtain ⟨j, t', rfl, rfl⟩ := h2;have : decide ([i] < [j]) = decide (i < j) := by simp [List.cons_lt_cons_iff]
  rw [this]; exact LtA.int _ _ _ _
 | true =>
  obtain ⟨c, xs, rfl, p, q⟩ := h1;obtain ⟨c', ys, rfl, p', q'⟩ := h2;have z := LtA.tup (A := A) (e := fun j => decide (l[j]? = m[j]?)) (l := fun j => decide (l.getD j 0 < m.getD j 0)) p p' hu (fun j k1 k2 => by
    obtain ⟨t, g1, e1⟩ := zbB q j (by simpa using k1);obtain ⟨t', g2, e2⟩ := zbB q' j (by simpa using k2);have z1 : xs[j] = .int l[j] t := by simpa using e1
    have z2 : ys[j] = .int m[j] t' := by simpa using e2
    rw [z1, z2];have : decide (l[j]? = m[j]?) = (l[j] == m[j]) := by simp [g1, g2, Bool.beq_eq_decide_eq]
    rw [this]; exact EqAt.int_int _ _ _ _) (fun j k1 k2 _ => by
    obtain ⟨t, g1, e1⟩ := zbB q j (by simpa using k1);obtain ⟨t', g2, e2⟩ := zbB q' j (by simpa using k2);have z1 : xs[j] = .int l[j] t := by simpa using e1
    have z2 : ys[j] = .int m[j] t' := by simpa using e2
    rw [z1, z2];have : decide (l.getD j 0 < m.getD j 0) = decide (l[j] < m[j]) := by simp [List.getD, g1, g2]
    rw [this]; exact LtA.int _ _ _ _)
  have n1 : xs.size = l.length := by have := zcC q; simpa using this
  have n2 : ys.size = m.length := by have := zcC q'; simpa using this
  rw [n1, n2] at z;have k := zeX l m (fun j => decide (l[j]? = m[j]?)) (fun j => decide (l.getD j 0 < m.getD j 0)) (decide (l.length < m.length)) 0 (fun j h h' => by simp [h, h']) (fun j h h' => by simp [List.getD, h, h']) rfl;rw [show ((List.range (min l.length m.length)).map (0 + ·)) = List.range (min l.length m.length) by simp] at k;rw [k] at z;exact z
theorem zdV {x y : Str} (h : x.cps.toList = y.cps.toList) : x = y := by
 cases x; cases y; simp only [Str.mk.injEq]; exact Array.ext' h
theorem zig {prog : Program} {w : World} {h : Heap} {f : Bool} (hu : A.units < cLine) (hk : ∀ b o, h.get? b = some o -> s.heap.get? b = some o) : LtAt (zbV h f) (tuples' true) prog w A s := fun E x y a b Q ha hb hq => by
 have up : ∀ {c : Addr} {xs : Array Value}, h.IsTuple c xs -> s.heap.IsTuple c xs := fun ⟨o, e, r⟩ => ⟨o, hk _ _ e, r⟩
 have upS : ∀ {u : Value} {l : List Int}, SecR h f u l -> SecR s.heap f u l := fun {u l} z => by
  cases f with
  | false => exact z
  | true => obtain ⟨c, xs, e, p, q⟩ := z; exact ⟨c, xs, e, up p, q⟩
 obtain ⟨p1, x1, t1, u1, l1, rfl, q1, r1, rfl⟩ := zcS ha;obtain ⟨p2, x2, t2, u2, l2, rfl, q2, r2, rfl⟩ := zcS hb;refine zif (up q1) (up q2) (EqAt.str_str _ _ _ _) ((upS r1).eqAt hu (upS r2)) (fun _ E Q h => oneLt_str h) (fun _ => (upS r1).ltA hu (upS r2)) ?_;have : (zbV h f).blt (x1.cps.toList, l1) (x2.cps.toList, l2) = (if (x1 == x2) = true then (if decide (l1 = l2) = true then false else decide (l1 < l2)) else decide (x1.cps.toList < x2.cps.toList)) := by
  show decide (zbf (x1.cps.toList, l1) (x2.cps.toList, l2)) = _
  by_cases c : x1 = x2
  ·subst c
   by_cases c2 : l1 = l2
   ·subst c2; simp [zcB]
   ·simp [zbf, c2, List.lt_irrefl]
  ·have c' : ¬ x1.cps.toList = x2.cps.toList := fun e => c (zdV e);have : (x1 == x2) = false := by simpa using c
   simp [zbf, this, c']
 rw [this] at hq;exact hq
end
end L2
namespace L2
open PySem PySem.Spec PyProof.Rows PySem.SeqAt
theorem zcY (v : Value) : firstOfTuple' v = (do
  if (<- typeOf v) != .type "tuple" then return none
  return (<- Builtin.List.listItems v)[0]?) := rfl
section
variable {prog : Program} {w : World} {A : Around} {E : ZQ} {s : Shared}
theorem zd2 {α β : Type} {f : α -> Sem β} {g : α -> β} : ∀ (l : List α) {Q : List β -> Shared -> Prop}, (∀ x ∈ l, ∀ Q : β -> Shared -> Prop, Q (g x) s -> wpAny (model prog w) A (f x) Q E s) -> Q (l.map g) s -> wpAny (model prog w) A (l.mapM f) Q E s
 | [], Q, _, h => by rw [List.mapM_nil]; exact yab h
 | x :: l, Q, hf, h => by
  rw [List.mapM_cons];refine yaa (hf x ς _ (yaa (zd2 l (fun y hy => hf y (by simp [hy])) (yab ?_))));exact h
theorem zih {f : Bool} {v : Value} {k : List Nat × List Int} (h : RowR s.heap f v k) : ∃ x t, ∀ Q : Option Value -> Shared -> Prop, Q (some (.str x t)) s -> wpAny (model prog w) A (firstOfTuple' v) Q E s := by
 obtain ⟨a, x, t, u, l, rfl, ⟨o, ho, hc, n, hd⟩, _, _⟩ := h;refine ⟨x, t, fun Q hq => ?_⟩;rw [zcY];refine yaa (wpAny_typeOf (T := "tuple") ⟨o, ho, hc⟩ ?_);simp only [bne_self_eq_false, Bool.false_eq_true, if_false];refine yaa (listItems_at ho hd (yab ?_));exact hq
theorem zd3 : ∀ {l : List (Option Value)}, (∀ o ∈ l, ∃ x t, o = some (.str x t)) -> (l.filterMap id).mapM typeOf = (pure (l.map fun _ => Value.type "str") : Sem _)
 | [], _ => by simp
 | o :: l, h => by
  obtain ⟨x, t, rfl⟩ := h o ς;have e : (some (Value.str x t) :: l).filterMap id = .str x t :: l.filterMap id := rfl;rw [e, List.mapM_cons, zd3 fun o ho => h o (by simp [ho])]
  rfl
theorem zeY {f : Bool} {vs : List Value} (h : ∀ v ∈ vs, ∃ k, RowR s.heap f v k) (h2 : 2 <= vs.length) : wpAny (model prog w) A (keyKind' vs.toArray) (fun k s3 => k = tuples' true /\ s3 = s) E s := by
 have hx : ∀ v : Value, ∃ o : Option Value, v ∈ vs -> (∃ x t, o = some (.str x t)) /\ ∀ Q : Option Value -> Shared -> Prop, Q o s -> wpAny (model prog w) A (firstOfTuple' v) Q E s := fun v => by
  by_cases c : v ∈ vs
  ·obtain ⟨k, hk⟩ := h v c;obtain ⟨x, t, z⟩ := zih (prog := prog) (w := w) (A := A) (E := E) hk;exact ⟨some (.str x t), fun _ => ⟨⟨x, t, rfl⟩, z⟩⟩
  ·exact ⟨none, fun z => absurd z c⟩
 have ⟨g, hg⟩ := Classical.axiomOfChoice hx;rw [keyKind'_eq, List.mapM_toArray];refine yaa ?_;rw [map_eq_pure_bind];refine yaa (zd2 (g := g) vs (fun v hv => (hg v hv).2) (yab ?_));have all : ∀ o ∈ vs.map g, ∃ x t, o = some (Value.str x t) := fun o ho => by
  obtain ⟨v, hv, rfl⟩ := ya6.mp ho;exact (hg v hv).1
 have c1 : ((vs.map g).toArray.all (·.isSome)) = true := by
  rw [List.all_toArray, List.all_eq_true];intro o ho;obtain ⟨x, t, rfl⟩ := all o ho
  rfl
 rw [if_pos c1];refine yaa (wpAny_rule (yaa ?_));rw [oneTypeOnly'_eq, List.filterMap_toArray, List.mapM_toArray, zd3 all]
 match vs, h2, all with
 | v :: r, _, all =>
  simp only [map_pure, pure_bind];have hall : ((List.map (fun _ => Value.type "str") (List.map g (v :: r))).toArray.all fun x => x == Value.type "str") = true := by
   rw [List.all_toArray, List.all_eq_true];intro x hx;obtain ⟨_, _, rfl⟩ := ya6.mp hx;simp
  have h0 : (List.map (fun _ => Value.type "str") (List.map g (v :: r))).toArray[0]? = some (Value.type "str") := by simp
  rw [h0];refine yab (yab ?_);rw [hall];exact ⟨rfl, rfl⟩
end
inductive F2 {α β : Type} (R : α -> β -> Prop) : List α -> List β -> Prop
 | nil : F2 R [] []
 | cons {a : α} {b : β} {l : List α} {m : List β} : R a b -> F2 R l m -> F2 R (a :: l) (b :: m)
theorem F2.perm {α β : Type} {R : α -> β -> Prop} {m' m : List β} (hp : m'.Perm m) : ∀ {l : List α}, F2 R l m -> ∃ l', l'.Perm l /\ F2 R l' m' := by
 induction hp with
 | nil => exact fun h => ⟨_, .refl _, h⟩
 | cons b _ ih =>
  intro l h;cases h with
  | cons r h => obtain ⟨l', p, q⟩ := ih h; exact ⟨_, p.cons _, .cons r q⟩
 | swap a b m =>
  intro l h;cases h with
  | cons r h =>
   cases h with
   | cons r2 h => exact ⟨_, .swap _ _ _, .cons r2 (.cons r h)⟩
 | trans _ _ ih1 ih2 =>
  intro l h;obtain ⟨l2, p2, q2⟩ := ih2 h;obtain ⟨l1, p1, q1⟩ := ih1 q2;exact ⟨l1, p1.trans p2, q1⟩
theorem F2.get {α β : Type} {R : α -> β -> Prop} : ∀ {l : List α} {m : List β}, F2 R l m -> ∀ (i : Nat) (h : i < l.length), ∃ h' : i < m.length, R l[i] m[i]
 | _, _, .nil, i, h => by simp at h
 | _, _, .cons r _, 0, _ => ⟨ς, r⟩
 | _, _, .cons _ q, i + 1, h => by
  obtain ⟨h', z⟩ := F2.get q i (by simpa using h);exact ⟨by simpa using h', by simpa using z⟩
theorem F2.len {α β : Type} {R : α -> β -> Prop} : ∀ {l : List α} {m : List β}, F2 R l m -> l.length = m.length
 | _, _, .nil => rfl
 | _, _, .cons _ q => by simp [F2.len q]
abbrev Rw : Type := Str × List Int
def rowK (k : Rw) : List Nat × List Int := (k.1.cps.toList, k.2)
def rowD (f : Bool) (k : Rw) : Dt := match f with
 | false => .tup [.str k.1, .int (k.2.headD 0)]
 | true => .tup [.str k.1, .tup (k.2.map .int)]
def SrtR (l : List (V × Rw)) : Prop := l.Pairwise fun a b => ¬ zbf (rowK b.2) (rowK a.2)
def zen (K : W.Frag) (f : Bool) : List V -> Hp -> VK -> Prop := fun xs H Q => ∃ (a : Addr) (zs : List (V × Rw)), xs = [.ref a] /\ SqL K H a (zs.map (·.1)) /\ (∀ z ∈ zs, RepD K H (rowD f z.2) z.1 /\ (f = false -> z.2.2.length = 1)) /\ zs.length <= 1000 /\
 ∀ l zs', H l = none -> zs'.Perm zs -> SrtR zs' -> Q (.ref l) (upd H l (.lst (zs'.map (·.1))))
section
variable {X : Cx} {Qa : ZP} {σ : St} {H : Hp} {s : Shared}
theorem zdW {us : List Value} (r : Vals [] us) : us = [] := by cases r; rfl
theorem zii : ∀ {l : List Int} {xs : List V} {its : List Value}, Vals xs its -> l.length = xs.length -> (∀ (j : Nat) d x, (l.map Dt.int)[j]? = some d -> xs[j]? = some x -> RepD X.K H d x) -> IntsAre its l
 | [], [], _, r, _, _ => by rw [zdW r]; exact .nil
 | i :: l, x :: xs, its, r, hl, hr => by
  have h0 := hr 0 (.int i) x rfl rfl;cases h0;cases r with
  | cons r rs =>
   obtain ⟨t, rfl⟩ := r;exact .cons i t (zii rs (by simpa using hl) fun j d x h1 h2 => hr (j + 1) d x (by simpa using h1) (by simpa using h2))
theorem RepD.two {K : W.Frag} {d1 d2 : Dt} {x : V} (h : RepD K H (.tup [d1, d2]) x) : ∃ a x1 x2, x = .ref a /\ SqT K H a [x1, x2] /\ RepD K H d1 x1 /\ RepD K H d2 x2 := by
 cases h with
 | @tup a xs _ h hl hr =>
  match xs, hl with
  | [x1, x2], _ => exact ⟨a, x1, x2, rfl, h, hr 0 _ _ rfl rfl, hr 1 _ _ rfl rfl⟩
theorem isT2 (I : Inv X Qa σ H s) {a : Addr} {x1 x2 : V} (h : SqT X.K H a [x1, x2]) : ∃ u1 u2, RelV x1 u1 /\ RelV x2 u2 /\ s.heap.IsTuple a #[u1, u2] := by
 obtain ⟨its, rv, p⟩ := isT I h;cases rv with
 | cons r1 rv =>
  cases rv with
  | cons r2 rv =>
   cases rv;exact ⟨_, _, r1, r2, p⟩
theorem zcM (I : Inv X Qa σ H s) {f : Bool} {k : Rw} {x : V} {v : Value} (h : RepD X.K H (rowD f k) x) (h1 : f = false -> k.2.length = 1) (r : RelV x v) : RowR s.heap f v (rowK k) := by
 obtain ⟨n, l⟩ := k;cases f with
 | false =>
  match l, h1 rfl, h with
  | [i], _, h =>
   obtain ⟨a, x1, x2, rfl, hs, e1, e2⟩ := RepD.two h;cases r;obtain ⟨u1, u2, r1, r2, p⟩ := isT2 I hs;cases e1;cases e2;obtain ⟨t1, rfl⟩ := r1;obtain ⟨t2, rfl⟩ := r2;exact ⟨a, n, t1, _, [i], rfl, p, ⟨i, t2, rfl, rfl⟩, rfl⟩
 | true =>
  obtain ⟨a, x1, x2, rfl, hs, e1, e2⟩ := RepD.two h;cases r;obtain ⟨u1, u2, r1, r2, p⟩ := isT2 I hs;cases e1;obtain ⟨t1, rfl⟩ := r1;generalize hm : l.map Dt.int = dl at e2;cases e2 with
  | @tup b ys _ g gl gr =>
   cases r2;subst hm;obtain ⟨its2, rv2, p2⟩ := isT I g;exact ⟨a, n, t1, _, l, rfl, p, ⟨b, _, rfl, p2, zii rv2 (by simpa using gl) gr⟩, rfl⟩
theorem znh (I : Inv X Qa σ H s) {f : Bool} : ∀ {zs : List (V × Rw)} {its : List Value}, Vals (zs.map (·.1)) its -> (∀ z ∈ zs, RepD X.K H (rowD f z.2) z.1 /\ (f = false -> z.2.2.length = 1)) -> F2 (fun z v => RelV z.1 v /\ RowR s.heap f v (rowK z.2)) zs its
 | [], its, r, _ => by rw [zdW r]; exact .nil
 | z :: zs, its, r, h => by
  cases r with
  | cons r rs =>
   obtain ⟨h1, h2⟩ := h z ς;exact .cons ⟨r, zcM I h1 h2 r⟩ (znh I rs fun y hy => h y (by simp [hy]))
theorem zij {P : V × Rw -> Value -> Prop} : ∀ {zs : List (V × Rw)} {its : List Value}, F2 (fun z v => RelV z.1 v /\ P z v) zs its -> Vals (zs.map (·.1)) its
 | _, _, .nil => .nil
 | _, _, .cons h q => .cons h.1 (zij q)
theorem F2.memR {α β : Type} {R : α -> β -> Prop} : ∀ {l : List α} {m : List β}, F2 R l m -> ∀ b ∈ m, ∃ a ∈ l, R a b
 | _, _, .cons r q, b, h => by
  rcases yau.mp h with rfl | h
  ·exact ⟨_,ς, r⟩
  ·obtain ⟨a, ha, z⟩ := F2.memR q b h; exact ⟨a, by simp [ha], z⟩
theorem zjy {h : Heap} {f : Bool} {vs : List Value} {zs : List (V × Rw)} (F : F2 (fun z v => RelV z.1 v /\ RowR h f v (rowK z.2)) zs vs) {xs : Array Keyed} (hp : xs.Perm (pairsOf vs)) (hs : SortedToK (zbV h f) xs (pairsOf vs).size) :
  ∃ zs', zs'.Perm zs /\ Vals (zs'.map (·.1)) (xs.map (·.2)).toList /\ SrtR zs' := by
 have hl : xs.toList.Perm (vs.zip vs) := by rw [<- pairsOf_toList]; exact Array.perm_iff_toList_perm.mp hp
 have hm : ∀ p, p ∈ xs.toList -> p.1 = p.2 /\ p.1 ∈ vs := fun p q => mem_zip_self (hl.mem_iff.mp q);have h1 : (xs.map (·.2)).toList.Perm vs := by
  have := hl.map Prod.snd;rw [List.map_snd_zip (yai _)] at this;rw [Array.toList_map]; exact this
 obtain ⟨zs', p, q⟩ := F2.perm h1 F;refine ⟨zs', p, zij q, List.pairwise_iff_getElem.mpr fun i j hi hj hij => ?_⟩;obtain ⟨g1, _, r1⟩ := F2.get q i hi;obtain ⟨g2, _, r2⟩ := F2.get q j hj;have s1 : i < xs.size := by simpa using g1
 have s2 : j < xs.size := by simpa using g2
 have key : ∀ (n : Nat) (hn : n < xs.size) (k : List Nat × List Int), RowR h f xs[n].2 k -> KK (zbV h f) xs n = k := fun n hn k hk => by
  unfold KK;rw [getElem?_pos xs n hn];have e := (hm xs[n] ς).1;show ((zbV h f).keyOf xs[n].1).getD _ = k;rw [e, zdU hk]; rfl
 have := hs i j (Nat.le_of_lt hij) (by rw [<- hp.size_eq]; exact s2);rw [key i s1 _ (by simpa using r1), key j s2 _ (by simpa using r2)] at this;have : decide (zbf (rowK zs'[j].2) (rowK zs'[i].2)) = false := this;simpa using this
theorem zeZ (f : Bool) (hu : X.A.units + 64 < cLine) : zb4 X (.builtin "sorted") (zen X.K f) := by
 intro Qa s σ H xs us Q I r h;obtain ⟨a, zs, rfl, hq, hz, hl, k⟩ := h;obtain ⟨u, rfl, ru⟩ := zcW r;cases ru;obtain ⟨its, rv, pl, _⟩ := I.list hq;have F := znh I rv hz;have Qe : its.length = zs.length := F.len.symm;have hr : ∀ v ∈ its, ∃ k, RowR s.heap f v k := fun v hv => by
  obtain ⟨z, _, _, q⟩ := F.memR v hv;exact ⟨_, q⟩
 refine zjw (κ := zbV s.heap f) (kx := tuples' true) pl.isList (fun p hp => ?_) (fun s2 h2 => zig (by show X.A.units + 1 + 1 < cLine; omega) h2) (fun s2 E h2 hn => zeY (f := f) (fun v hv => ?_) hn) ω fun st' hp hs => ?_
 ·rw [pairsOf_toList] at hp;obtain ⟨k, hk⟩ := hr _ (mem_zip_self hp).2;exact ⟨k, zdU hk⟩
 ·obtain ⟨k, a, x, t, u, l, e, ⟨o, g, g2⟩, q, e2⟩ := hr v hv;refine ⟨k, a, x, t, u, l, e, ⟨o, h2 _ _ g, g2⟩, ?_, e2⟩;cases f with
  | false => exact q
  | true => obtain ⟨c, ys, e3, ⟨o2, g3, g4⟩, q2⟩ := q; exact ⟨c, ys, e3, ⟨o2, h2 _ _ g3, g4⟩, q2⟩
 ·obtain ⟨zs', p, q, srt⟩ := zjy F hp hs;obtain ⟨c, hc'⟩ := sortedAll_at s.heap its ((arrOf st').map (·.2));refine ⟨.ref (s.heap.objs.size + 1), _, (I.laid (t' := s.toks) (o := .lst (zs'.map (·.1))) (fun b o e => sortedAll_old e) (Nat.le_succ _) ⟨?_, _, c, q, by rw [hc']⟩).draw s.drawn, rfl, k _ zs' (I.hok.fresh (Nat.le_succ _)) p srt⟩;rw [yaf, p.length_eq];exact zao ω
variable {K : W.Frag} {Q : VK} {p : Addr} {f : Bool}
theorem zcT (f : Bool) (K : W.Frag) (hu : X.A.units + 64 < cLine) (hK : X.K = K := by rfl) : zb4 X (.builtin "sorted") (zen K f) := by
 subst hK; exact zeZ f hu
theorem zik : zen K f [.ref p] H Q = ∃ zs : List (V × Rw), SqL K H p (zs.map (·.1)) /\ (∀ z ∈ zs, RepD K H (rowD f z.2) z.1 /\ (f = false -> z.2.2.length = 1)) /\ zs.length <= 1000 /\
  ∀ l zs', H l = none -> zs'.Perm zs -> SrtR zs' -> Q (.ref l) (upd H l (.lst (zs'.map (·.1)))) := by
 refine propext ⟨fun ⟨_, zs, e, h⟩ => ?_, fun ⟨zs, h⟩ => ⟨p, zs, rfl, h⟩⟩;cases e; exact ⟨zs, h⟩
end
end L2
namespace L2
open PySem PySem.Spec PyProof.Rows PySem.SeqAt
def FactAt (h : Heap) (k : Rw) (a : Addr) : Prop := ∃ t c ys, h.IsTuple a #[.str k.1 t, .ref c] /\ h.IsTuple c ys /\ IntsAre ys.toList k.2
def zeo (prog : Program) (w : World) (k : Rw) : Int := reduceHash (Builtin.Tuple.tupleHashOf [(PySem.strKind prog w).hash k.1, tupleKeyHash (intKind prog w) k.2])
theorem FactAt.inj {h : Heap} {k k' : Rw} {a : Addr} (h1 : FactAt h k a) (h2 : FactAt h k' a) : k = k' := by
 obtain ⟨t, c, ys, p, q, r⟩ := h1;obtain ⟨t', c', ys', p', q', r'⟩ := h2;have e := zbQ p p';simp only [Array.mk.injEq, List.cons.injEq, Value.str.injEq, Value.ref.injEq, and_true] at e;obtain ⟨⟨e1, _⟩, rfl⟩ := e;rw [zbQ q q'] at r;exact Prod.ext e1 (zem r r')
theorem zcD {h h' : Heap} {a d : Addr} {o : Obj} {xs : Array Value} {es ep} (x : h.IsTuple a xs) (ho : h.get? d = some o) (hd : o.data = .dict es ep) (hs : Heap.SameBut d h h') : h'.IsTuple a xs := by
 obtain ⟨u, e, c, n, q⟩ := x;have hne : a ≠ d := by
  rintro rfl
  cases e.symm.trans ho;cases hd.symm.trans q
 exact ⟨u, (hs.2 a hne).trans e, c, n, q⟩
section
variable {prog : Program} {w : World} {A : Around} {E : ZQ} {s : Shared}
theorem zil {k : Rw} {a : Addr} {Q : Int -> Shared -> Prop} (hu : A.units + 1 < cLine) (hk : FactAt s.heap k a) (h : Q (zeo prog w k) { s with toks := s.toks + (k.2.length + 3) }) : wpAny (model prog w) A (pyHash (.ref a)) Q E s := by
 obtain ⟨t, c, ys, p, q, r⟩ := hk;obtain ⟨o, ho, hc, n, hd⟩ := p;have hT : s.TypeIs (.ref a) "tuple" := ⟨o, ho, hc⟩
 unfold pyHash
 first | unfold pyHashByItsType | skip
 first | refine yaa (wpAny_cRoomFor_or (.inr ω) ?_) | skip
 refine yaa (wpAny_specialOf hT F.slot_tuple_hash.lookup ?_);rw [if_neg (show ¬ ((some (Value.builtin "tuple.__hash__") == some Value.none) = true) by rw [beq_builtin_none]; exact yam)];refine yaa (wpAny_specialOf hT F.slot_tuple_hash.lookup ?_);refine yaa (wpAny_callSpecialIfBoundUnlessNone?_slot hT F.slot_tuple_hash (wpAny_call_entry F.slot_tuple_hash hT F.entry_tuple_hash ?_ (F.args_tuple_hash_1 _)));show wpAny _ _ (Builtin.Tuple.tupleItemsOf (.ref a) >>= _) _ _ s;refine yaa (wpAny_tupleItemsOf ho hd (yaa ?_));rw [<- Array.forIn_toList];simp only [List.forIn_cons, List.forIn_nil];have q2 : IsTupleKey (intKind prog w) s.heap k.2 c := let ⟨o2, ho2, hc2, n2, hd2⟩ := q; ⟨o2, ys, n2, ho2, hc2, hd2, zck r⟩;refine yaa (yaa ((PySem.strKind prog w).pyHash (k := k.1) (by simp [PySem.strKind, Value.isStrOf]) (yab (yaa (yaa (wpAny_pyHash_tuple (s := { s with toks := s.toks + 1 }) (by show A.units + 1 < cLine; exact hu) q2 (yab (yab ?_))))))));show wpAny _ _ (retInt (Builtin.Tuple.tupleHashOf [(PySem.strKind prog w).hash k.1, tupleKeyHash (intKind prog w) k.2])) _ _ _;generalize hz : Builtin.Tuple.tupleHashOf [(PySem.strKind prog w).hash k.1, tupleKeyHash (intKind prog w) k.2] = z;unfold zeo reduceHash at h;rw [hz] at h;have tk : s.toks + 1 + (k.2.length + 1) + 1 = s.toks + (k.2.length + 3) := by omega
 refine wpAny_ret_mkInt ?_;show wpAny _ _ (if (decide (-(2 : Int) ^ 63 <= z) && decide (z < 2 ^ 63)) = true then _ else _) Q E _
 by_cases hr : (decide (-(2 : Int) ^ 63 <= z) && decide (z < 2 ^ 63)) = true
 ·rw [if_pos hr] at h ⊢;refine yab ?_;show Q _ { s with toks := s.toks + 1 + (k.2.length + 1) + 1 };rw [tk]; exact h
 ·rw [if_neg hr] at h ⊢;refine yaa (wpAny_rule (yab ?_));show Q _ { s with toks := s.toks + 1 + (k.2.length + 1) + 1 };rw [tk]; exact h
theorem zdX {n : Nat} {c : Addr} {ys : Array Value} {Q : Bool -> Shared -> Prop} (q : s.heap.IsTuple c ys) (hb : ∀ v ∈ ys, ∀ Q : Bool -> Shared -> Prop, Q true s -> wpAny (model prog w) A (eqIsQuiet n v) Q E s) (h : Q true s) : wpAny (model prog w) A (eqIsQuiet (n + 1) (.ref c)) Q E s := by
 obtain ⟨o, ho, hc, m, hd⟩ := q;have hT : s.TypeIs (.ref c) "tuple" := ⟨o, ho, hc⟩
 unfold eqIsQuiet;refine yaa (wpAny_specialOf hT F.slot_tuple_eq.lookup ?_);refine yaa (wpAny_isInstance hT isSubtype_tuple_tuple ?_);simp only [Bool.not_true, Bool.false_eq_true, if_false];refine yaa (wpAny_seqItems ho hd (yaa ?_));show wpAny _ _ (forIn ys _ _) _ _ s;rw [<- Array.forIn_toList];refine wpAny_forIn_list _ (fun rest r s' => r.1 = none /\ s' = s /\ ∀ v ∈ rest, v ∈ ys) _ ?_ ?_ _ _ ⟨rfl, rfl, fun v hv => by simpa using hv⟩
 ·rintro v rest r s' ⟨hr, rfl, hall⟩
  refine yaa (hb v (hall v ς) _ ?_);simp only [Bool.not_true, Bool.false_eq_true, if_false];exact yab ⟨rfl, rfl, fun u hu' => hall u (by simp [hu'])⟩
 ·rintro ⟨r1, r2⟩ s' ⟨hr, rfl, _⟩
  simp only at hr;subst hr;exact yab h
theorem zgI {k : Rw} {a : Addr} {Q : Bool -> Shared -> Prop} (hk : FactAt s.heap k a) (h : Q true s) : wpAny (model prog w) A (eqIsQuiet 8 (.ref a)) Q E s := by
 obtain ⟨t, c, ys, p, q, r⟩ := hk;refine zdX (n := 7) p (fun v hv Q hq => ?_) h;rcases (by simpa using hv : v = .str k.1 t \/ v = .ref c) with rfl | rfl
 ·rw [eqIsQuiet_byValue _ ρ]; exact yab hq
 ·refine zdX (n := 6) q (fun u hu Q hq => ?_) hq;rw [eqIsQuiet_byValue _ ((zck (prog := prog) (w := w) r).byValue u (by simpa using hu))]; exact yab hq
theorem zlj {x y : Rw} {a b : Addr} {Q : Bool -> Shared -> Prop} (hu : A.units + 1 < cLine) (hx : FactAt s.heap x a) (hy : FactAt s.heap y b) (h : Q (decide (x = y)) s) : wpAny (model prog w) A (eqBool (.ref a) (.ref b)) Q E s := by
 by_cases e : a = b
 ·subst e;rw [hx.inj hy] at h;simp only [decide_true] at h;exact EqAt.same _ prog w E Q h
 ·obtain ⟨t, c, ys, p, q, r⟩ := hx;obtain ⟨t', c', ys', p', q', r'⟩ := hy;have z := RcAt.tuples (A := A) (e := fun j => match j with | 0 => x.1 == y.1 | _ => decide (x.2 = y.2)) p p' ω (fun j h1 h2 => by
   have h1' : j < 2 := h1
   match j, h1' with
   | 0, _ => exact EqAt.str_str _ _ _ _
   | 1, _ => exact SecR.eqAt (f := true) (by show A.units + 1 < cLine; exact hu) ⟨c, ys, rfl, q, r⟩ ⟨c', ys', rfl, q', r'⟩)
  have ez : ((List.range (min (#[Value.str x.1 t, .ref c]).size (#[Value.str y.1 t', .ref c']).size)).all (fun j => match j with | 0 => x.1 == y.1 | _ => decide (x.2 = y.2)) && (#[Value.str x.1 t, .ref c]).size == (#[Value.str y.1 t', .ref c']).size) = decide (x = y) := by
   show ((List.range 2).all (fun j => match j with | 0 => x.1 == y.1 | _ => decide (x.2 = y.2)) && (2 == 2)) = _;have : List.range 2 = [0, 1] := rfl;rw [this];simp only [List.all_cons, List.all_nil, Bool.and_true, beq_self_eq_true];obtain ⟨x1, x2⟩ := x;obtain ⟨y1, y2⟩ := y;simp [Prod.ext_iff, Bool.beq_eq_decide_eq]
  rw [ez] at z;exact EqAt.of_refs e z prog w E Q h
end
def zct (prog : Program) (w : World) : HeapKind prog w Rw where
 is := FactAt
 hash := zeo prog w
 draws := fun k => k.2.length + 3
 room := fun A => A.units + 1 < cLine
 inj := fun h1 h2 => h1.inj h2
 keeps := fun x ho hd hs => let ⟨t, c, ys, p, q, r⟩ := x; ⟨t, c, ys, zcD p ho hd hs, zcD q ho hd hs, r⟩
 pyHash := fun hu hk h => zil hu hk h
 eqBool := fun hu hx hy h => zlj hu hx hy h
 quiet := fun hk h => zgI hk h
section
variable {X : Cx}
def putS (l : List (Str × V)) (k : Str) (v : V) : List (Str × V) := if l.any (fun p => decide (p.1 = k)) = true then l.map (fun p => if p.1 = k then (p.1, v) else p) else l ++ [(k, v)]
theorem zlk (l : List (Str × V)) (k : Str) (v : V) : dS (l ++ [(k, v)]) = dS l ++ [(Sum.inr k, v)] := by simp [dS]
theorem KV.snoc {κ : Type} {l : List (κ × V)} {m : List (κ × Value)} {k : κ} {v : V} {u : Value} (r : KV l m) (h : RelV v u) : KV (l ++ [(k, v)]) (m ++ [(k, u)]) := by
 induction r with
 | nil => exact .cons ⟨rfl, h⟩ .nil
 | cons h1 _ ih => exact .cons h1 ih
theorem zki {k : Str} : ∀ {l : List (Str × V)} {vs : List (Key × Value)}, KV (dS l) vs -> (vs.any fun kv => decide (kv.1 = (Sum.inr k : Key))) = l.any fun p => decide (p.1 = k)
 | [], _, .nil => rfl
 | p :: l, _, .cons (b := q) h1 h2 => by
  have e : q.1 = (Sum.inr p.1 : Key) := h1.1.symm;rw [List.any_cons, List.any_cons, zki (l := l) h2, e]
  congr 1
  simp
theorem zkj {k : Str} {v : V} {u : Value} (hv : RelV v u) : ∀ {l : List (Str × V)} {vs : List (Key × Value)}, KV (dS l) vs -> KV (dS (l.map fun p => if p.1 = k then (p.1, v) else p)) (vs.map fun kv => if kv.1 = (Sum.inr k : Key) then (kv.1, u) else kv)
 | [], _, .nil => .nil
 | p :: l, _, .cons (b := q) h1 h2 => by
  have e : (Sum.inr p.1 : Key) = q.1 := h1.1;refine .cons ?_ (zkj hv (l := l) h2);dsimp only
  by_cases c : p.1 = k
  ·rw [if_pos c, if_pos (by rw [<- e, c])]; exact ⟨e, hv⟩
  ·rw [if_neg c, if_neg (fun z => c (by rw [<- e] at z; exact Sum.inr.inj z))]; exact h1
theorem zjz {k : Str} {v : V} {u : Value} {l : List (Str × V)} {vs : List (Key × Value)} (r : KV (dS l) vs) (hv : RelV v u) : KV (dS (putS l k v)) (stored vs (Sum.inr k) u) := by
 unfold putS stored;have e := zki (k := k) r
 by_cases c : (l.any fun p => decide (p.1 = k)) = true
 ·rw [if_pos c, if_pos (by rw [<- c, <- e])]; exact zkj hv r
 ·rw [if_neg c, if_neg (fun z => c (by rw [<- z, <- e])), zlk]; exact KV.snoc r hv
theorem zep (l : List (Str × V)) (k : Str) (v : V) : (putS l k v).length <= l.length + 1 := by
 unfold putS; split <;> simp
def zni : V -> V -> V -> Hp -> (Hp -> Prop) -> Prop := fun o i v H Q => ∃ p k l, o = .ref p /\ i = .str k /\ H p = some (.dK (dS l)) /\ l.length < 4000 /\ Q (upd H p (.dK (dS (putS l k v))))
theorem zkk : PSet X zni := by
 intro Qa s σ H o i v ov iv u Q I ro ri rv h;obtain ⟨p, k, l, rfl, rfl, hp, hl, q⟩ := h;cases ro;obtain ⟨t, rfl⟩ := ri;obtain ⟨z, hd, vs, rel, dd⟩ := (show ObjOk X.prog X.w H s.heap p (.dK (dS l)) from I.hok p _ hp)
 have hz : vs.length <= sizeLine := by have := Paired.length rel; omega
 have hz2 : (dS (putS l k v)).length <= sizeLine := by
  have := zep l k v;have e : (dS (putS l k v)).length = (putS l k v).length := by simp [dS]
  rw [e];exact yat this (zao ω)
 refine wpAny_setItem_pairs (hsz := hz) (zdk X.prog X.w k t) dd fun h' dd' hs => ?_;have he : ∃ q, h'.get? p = some q := let ⟨q, _, _, hq, _⟩ := dd'; ⟨q, hq⟩;exact ⟨_, I.write (x := p) (e := p) (o := .dK (dS (putS l k v))) (by rw [hp]; trivial) (.inl rfl) (fun b q hb z => (hs.2 b hb).trans z) he ⟨hz2, hd, _, zjz rel rv, dd'⟩, q⟩
def znj : R2 := fun x y H Q => ∃ k p l z, x = .ref p /\ y = .str k /\ Rd H p (.dK (dS l)) /\ valS l k = some z /\ Q z H
theorem zop : IxR X znj := by
 intro value slice Qa s σ H x y v u Q I rx ry h hs;obtain ⟨k, p, l, z, rfl, rfl, hp, hat, q⟩ := h;cases rx;obtain ⟨t, rfl⟩ := ry;obtain ⟨_, hd, vs, rel, dd⟩ := (show ObjOk X.prog X.w H s.heap p (.dK (dS l)) from hp.ok I.hok)
 obtain ⟨w', hw, rw'⟩ := (zgc (k := k) rel).2 z hat;refine subscriptTail_builtinR (x := w') dd.typeIs slot_dict_getitem.lookup (wpAny_getItem_of (zdk X.prog X.w k t) dd.mapOf hw ?_) hs;exact ⟨rfl, z, H, I.tok _, rw', q⟩
theorem zll {P : Program} {w : World} {H : Hp} {h : Heap} {a : Addr} {l : List (Str × V)} (ok : ObjOk P w H h a (.dK (dS l))) : ∃ es ep, EntsAt h a es ep /\ es.size = l.length /\ ∀ (i : Nat) (h1 : i < es.size) (h2 : i < l.length), RelV (.str l[i].1) es[i].key := by
 obtain ⟨_, _, vs, rel, o, es, ep, ho, hc, hd, _, hp, _⟩ := ok;have e1 : es.size = vs.length := by have := hp.length; simpa using this
 have e2 : l.length = vs.length := by have := Paired.length rel; simpa [dS] using this
 refine ⟨es, ep, ⟨o, ho, hc, hd⟩,ω, fun i h1 h2 => ?_⟩;have key : ∀ {m : List (Key × V)} {n : List (Key × Value)}, KV m n -> ∀ (i : Nat) (h1 : i < m.length) (h2 : i < n.length), m[i].1 = n[i].1 := by
  intro m n r
  induction r with
  | nil => intro i h1; simp at h1
  | cons a _ ih => intro i h1 h2; cases i with
   | zero => exact a.1
   | succ j => simpa using ih j (by simpa using h1) (by simpa using h2)
 have k1 := key rel i (by simpa [dS] using h2) ω;have k2 : (dS l)[i]'(by simpa [dS] using h2) = (Sum.inr l[i].1, l[i].2) := by simp [dS]
 rw [k2] at k1;have k3 := (hp.get? (i := i) (e := es[i]) (k := (vs[i]'ω).1) (v := (vs[i]'ω).2) (by rw [Array.getElem?_toList, Array.getElem?_eq_getElem h1]) (yal ω)).1;rw [<- k1] at k3;rcases keyIs_shape (show keyIs (Sum.inr l[i].1) es[i].key = true from k3) with ⟨i', t, e, _⟩ | ⟨x, t, e, e'⟩
 ·cases e
 ·cases e; exact ⟨t, e'⟩
def Itd (d : Addr) (o : Obj) (l : List (Str × V)) : It := ⟨fun i H => H d = some (.frz o (.dK (dS l))) /\ i < l.length, fun i H x H' => H' = H /\ ∃ k, (l[i]?).map (·.1) = some k /\ x = .str k, fun i H => H d = some (.frz o (.dK (dS l))) /\ i = l.length⟩
theorem zlm {P : Program} {w : World} {K : W.Frag} {tg : Expr} (d it : Addr) (o : Obj) (l : List (Str × V)) (es : Array DictEntry) (ep : Nat) (hne : d ≠ it) (hc : o.ExactDict) (hx : o.data = .dict es ep) (hl : es.size = l.length)
  (hk : ∀ (i : Nat) (h1 : i < es.size) (h2 : i < l.length), RelV (.str l[i].1) es[i].key) : Turn P w K tg (Itd d o l) [it] it (fun i h => h.IsKeyIter it d i es.size ep) where
 mem := by simp
 obj := fun i h st b hb => by
  have e : b = it := by simpa using hb
  subst e;obtain ⟨o, e, c, d⟩ := st;exact ⟨o, e, fun v z => by rw [d] at z; cases z⟩
 keep := fun i h h' st k => st.at fun o e => k it ς o e
 item := by
  intro X hP hw hK hc' i Qa s σ H E I hf st hg;subst hP hw hK;obtain ⟨hq, hi⟩ := hg;obtain ⟨f0, f1, f2, f3, f4, f5⟩ := hf it ς;have he : EntsAt s.heap d es ep := ⟨o, (I.hok d _ hq).1, hc, hx⟩
  refine zeQ st he ω fun h' st' sb => ?_;have I1 : Inv X Qa σ H { s with heap := h' } := I.turned (t' := s.toks) (fun b o hb e => (sb.2 b hb).trans e) f0 f1 f3 f4 f5;obtain ⟨o', e, c, d'⟩ := id st';exact ⟨_, rfl, zgy (s := { s with heap := h' }) e c d' δ ⟨.str l[i].1, H, I1, hk i ω hi, ⟨rfl, _, by simp [hi], rfl⟩, st', fun b hb => (hf b hb).1⟩⟩
 done := by
  intro X hP hw hK hc' i Qa s σ H E I hf st hg;subst hP hw hK;obtain ⟨hq, hi⟩ := hg;obtain ⟨f0, f1, f2, f3, f4, f5⟩ := hf it ς;have he : EntsAt s.heap d es ep := ⟨o, (I.hok d _ hq).1, hc, hx⟩
  have hi' : i = es.size := by omega
  subst hi';exact zgd (I.ok.hd hc') st he fun h' eb => ⟨rfl, I.turned (t' := s.toks) (fun b o hb e => eb b o hb e) f0 f1 f3 f4 f5⟩
 self := fun _ _ _ _ _ st h => wpAny_pyIter_keyiter st h
def iDS (tl : TE) : TI := fun σ H R => tl σ H fun x H1 => ∃ a l, x = .ref a /\ H1 a = some (.dK (dS l)) /\ ∀ o, R (Itd a o l) (upd H1 a (.frz o (.dK (dS l))))
theorem zoq {tg e : Expr} {tl : TE} (hl : PE X e tl) : PI X tg e (iDS tl) := by
 intro Qa s σ H R I h;refine thn (hl Qa s σ H _ I h) fun v s1 ⟨x, H1, I1, r1, q1⟩ => ?_;obtain ⟨a, l, e, hq, q⟩ := q1;subst e;cases r1;have ok := (show ObjOk X.prog X.w H1 s1.heap a (.dK (dS l)) from I1.hok a _ hq)
 obtain ⟨es, ep, he, Qe, hk⟩ := zll ok;obtain ⟨o, ho, hc, hx⟩ := id he;have I2 : Inv X Qa σ (upd H1 a (.frz o (.dK (dS l)))) s1 := I1.write (x := a) (e := a) (h' := s1.heap) (t' := s1.toks) (by rw [hq]; trivial) (.inl rfl) (fun b u _ e => e) ⟨o, ho⟩ ⟨ho, ok⟩;have hne : a ≠ s1.heap.objs.size := Nat.ne_of_lt (yan ho);refine zeP ok.2.1 he ?_;refine ⟨s1.heap.objs.size, [s1.heap.objs.size], _, _, _, rfl, I2.kept (t' := s1.toks) fun b o e => yac _ e, zlm a _ o l es ep hne hc hx Qe hk, ⟨_, yaj _ rfl, rfl, rfl⟩, fun b hb => ?_, q o⟩;have e : b = s1.heap.objs.size := by simpa using hb
 subst e;exact I2.fpOk (yai _) (I2.hok.fresh (yai _))
def rawF (x : Rw × Addr) : Rw × Addr × Value := (x.1, x.2, .bool true)
def FdO (P : Program) (w : World) (d : Addr) (fs : List (Rw × Addr)) : HO := .ext fun h => (d == sysModules) = false /\ fs.length <= sizeLine /\ ∃ o es ep, h.get? d = some o /\ o.ExactDict /\ o.data = .dict es ep /\ es.toList = (fs.map rawF).map (entryOfKey (zct P w)) /\ (fs.map (·.1)).Nodup
def FdAt (P : Program) (w : World) (H : Hp) (d : Addr) (fs : List (Rw × Addr)) : Prop := H d = some (FdO P w d fs) \/ (fs = [] /\ H d = some (.dK []))
theorem FdAt.ok {P : Program} {w : World} {H : Hp} {h : Heap} {d : Addr} {fs : List (Rw × Addr)} (x : FdAt P w H d fs) (ok : HOk P w H h) : (d == sysModules) = false /\ fs.length <= sizeLine /\ ∃ o es ep, h.get? d = some o /\ o.ExactDict /\ o.data = .dict es ep /\ es.toList = (fs.map rawF).map (entryOfKey (zct P w)) /\ (fs.map (·.1)).Nodup := by
 rcases x with x | ⟨rfl, x⟩
 ·exact (ok d _ x).1
 ·obtain ⟨_, hd, vs, rel, o, es, ep, ho, hc, hx, _, hp, _⟩ := (show ObjOk P w H h d (.dK []) from ok d _ x)
  cases rel;refine ⟨hd, yaq _, o, es, ep, ho, hc, hx, ?_,ς⟩;have := hp.length;simpa using this
theorem FdAt.mut {P : Program} {w : World} {H : Hp} {d : Addr} {fs : List (Rw × Addr)} (x : FdAt P w H d fs) : Mut (H d) := by
 rcases x with x | ⟨_, x⟩ <;> rw [x] <;> trivial
theorem zfa {Qa : ZP} {σ : St} {H : Hp} {s : Shared} (I : Inv X Qa σ H s) {k : Rw} {b : Addr} (h : RepD X.K H (rowD true k) (.ref b)) : FactAt s.heap k b := by
 obtain ⟨a, x, t, u, l, e, p, ⟨c, xs, rfl, q, r⟩, e2⟩ := zcM I h (fun z => nomatch z) (rfl : RelV (.ref b) (.ref b));cases e;have e1 : k.1.cps.toList = x.cps.toList := congrArg Prod.fst e2;have e3 : k.2 = l := congrArg Prod.snd e2;subst e3;rw [<- zdV e1] at p;exact ⟨t, c, xs, p, q, r⟩
def pFs (fs : List (Rw × Addr)) (k : Rw) (b : Addr) : List (Rw × Addr) := if (fs.map (·.1)).contains k = true then fs else fs ++ [(k, b)]
theorem zim (fs : List (Rw × Addr)) (k : Rw) (b : Addr) : (pFs fs k b).length <= fs.length + 1 := by
 unfold pFs; split <;> simp
theorem zgJ (fs : List (Rw × Addr)) (k : Rw) (b : Addr) : storedH (fs.map rawF) k b (.bool true) = (pFs fs k b).map rawF := by
 have e : (atKey (fs.map rawF) k).isSome = (fs.map (·.1)).contains k := by
  unfold atKey;rw [Option.isSome_map]
  induction fs with
  | nil => rfl
  | cons f fs ih =>
   rw [List.map_cons, List.find?_cons, List.map_cons, List.contains_cons]
   by_cases c : f.1 = k
   ·have : decide ((rawF f).1 = k) = true := ya9 (show f.1 = k from c);rw [this]; simp [c]
   ·have : decide ((rawF f).1 = k) = false := ya8 (show ¬ f.1 = k from c);rw [this];have c' : (k == f.1) = false := by simpa using fun z => c z.symm
    rw [c', Bool.false_or]; exact ih
 unfold storedH pFs;rw [e]
 by_cases c : (fs.map (·.1)).contains k = true
 ·rw [if_pos c, if_pos c, List.map_map];refine List.map_congr_left fun f _ => ?_;show putAt k (.bool true) (rawF f) = rawF f;unfold putAt rawF
  split <;> rfl
 ·rw [if_neg c, if_neg c, ya0]; rfl
def znk (P : Program) (w : World) (K : W.Frag) : V -> V -> V -> Hp -> (Hp -> Prop) -> Prop := fun o i v H Q => ∃ p b k fs, o = .ref p /\ i = .ref b /\ v = .bl true /\ FdAt P w H p fs /\ RepD K H (rowD true k) (.ref b) /\ (∀ z ∈ fs, RepD K H (rowD true z.1) (.ref z.2)) /\ fs.length < 4000 /\ Q (upd H p (FdO P w p (pFs fs k b)))
theorem zj0 (P : Program) (w : World) (K : W.Frag) (hu : X.A.units + 64 < cLine) (hP : X.prog = P := by rfl) (hw : X.w = w := by rfl) (hK : X.K = K := by rfl) : PSet X (znk P w K) := by
 subst hP hw hK;intro Qa s σ H o i v ov iv u Q I ro ri rv h;obtain ⟨p, b, k, fs, rfl, rfl, rfl, hp, hk, hfs, hl, q⟩ := h;cases ro;cases ri;cases rv;obtain ⟨hd, hz, ob, es, ep, ho, hc, hx, he, hn⟩ := hp.ok I.hok;have D : s.heap.DictOfH (zct X.prog X.w) p (fs.map rawF) := ⟨ob, es, ep, ho, hc, hx, he, fun y hy => by
  obtain ⟨f, hf, rfl⟩ := ya6.mp hy;exact zfa I (hfs f hf), by rw [List.map_map]; exact hn⟩
 refine wpAny_setItem_heap (hsz := by rw [yaf]; exact zao ω) (knd := zct X.prog X.w) (show X.A.units + 1 + 1 < cLine by omega) (zfa I hk) D fun h' D' hs => ?_;rw [zgJ] at D';obtain ⟨o2, es2, ep2, g1, g2, g3, g4, _, g5⟩ := D';have body : (p == sysModules) = false /\ (pFs fs k b).length <= sizeLine /\ ∃ o es ep, h'.get? p = some o /\ o.ExactDict /\ o.data = .dict es ep /\ es.toList = ((pFs fs k b).map rawF).map (entryOfKey (zct X.prog X.w)) /\ ((pFs fs k b).map (·.1)).Nodup :=
  ⟨hd, zao (by have := zim fs k b; omega), o2, es2, ep2, g1, g2, g3, g4, by rw [List.map_map] at g5; exact g5⟩
 exact ⟨_, I.write (x := p) (e := p) (o := FdO X.prog X.w p (pFs fs k b)) hp.mut (.inl rfl) (fun b q hb z => (hs.2 b hb).trans z) ⟨o2, g1⟩ ⟨body, ⟨o2, g1⟩, fun h1 h2 ⟨a1, a2, o, es, ep, b1, r⟩ kk => ⟨a1, a2, o, es, ep, kk o b1, r⟩⟩, q⟩
def zkl (P : Program) (w : World) : List V -> Hp -> VK -> Prop := fun xs H Q => ∃ d fs, xs = [.ref d] /\ FdAt P w H d fs /\ ∀ l, H l = none -> Q (.ref l) (upd H l (.lst (fs.map fun f => .ref f.2)))
theorem zgK (P : Program) (w : World) (hc : X.calm = true) (hP : X.prog = P := by rfl) (hw : X.w = w := by rfl) : zb4 X (.type "list") (zkl P w) := by
 subst hP hw;intro Qa s σ H xs us Q I r h;obtain ⟨d, fs, rfl, hd, k⟩ := h;obtain ⟨u, rfl, ru⟩ := zcW r;cases ru;obtain ⟨hs, hz, ob, es, ep, ho, hcd, hx, he, hn⟩ := hd.ok I.hok;have hsz : es.size = fs.length := by have := congrArg List.length he; simpa using this
 refine zhU (I.ok.hd hc) hs ⟨ob, ho, hcd, hx⟩ (by rw [hsz]; exact hz) fun h' tk acc c' kp hS ha => ?_;refine ⟨.ref _, _, I.laid (t' := tk) (o := .lst (fs.map fun f => .ref f.2)) kp (yai _) ⟨by rw [yaf]; exact hz, acc.toList, c', ?_, by simpa using hS⟩, rfl, k _ (I.hok.fresh (yai _))⟩;rw [ha, he];have : ∀ fs : List (Rw × Addr), Vals (fs.map fun f => V.ref f.2) (((fs.map rawF).map (entryOfKey (zct X.prog X.w))).map (·.key)) := fun fs => by
  induction fs with
  | nil => exact .nil
  | cons f fs ih => exact .cons rfl ih
 exact this fs
end
section
variable {X : Cx}
variable {K : W.Frag} {H H' : Hp} {Q : VK} {i j : Int} {x y : Str}
def RepX (K : W.Frag) (H : Hp) (ds : List Dt) (xs : List V) : Prop := ds.length = xs.length /\ ∀ (j : Nat) d x, ds[j]? = some d -> xs[j]? = some x -> RepD K H d x
theorem RepX.nil : RepX K H [] [] := ⟨rfl, fun j d x e => by simp at e⟩
theorem RepX.same (e : Same H H') {ds : List Dt} {xs : List V} (h : RepX K H ds xs) : RepX K H' ds xs := ⟨h.1, fun j d x a b => (h.2 j d x a b).same e⟩
theorem RepX.snoc {ds : List Dt} {xs : List V} {d : Dt} {v : V} (h : RepX K H ds xs) (hd : RepD K H d v) : RepX K H (ds ++ [d]) (xs ++ [v]) := by
 refine ⟨by simp [h.1], fun j d' x e1 e2 => ?_⟩
 by_cases c : j < ds.length
 ·rw [ya5 c] at e1;rw [ya5 (by rw [<- h.1]; exact c)] at e2;exact h.2 j d' x e1 e2
 ·rw [List.getElem?_append_right ω] at e1;rw [List.getElem?_append_right (by have := h.1; omega)] at e2;have z : j - ds.length = 0 := by
   have := (yag.mp e1).1;simp at this; omega
  rw [z] at e1;rw [<- h.1, z] at e2;cases e1; cases e2; exact hd
theorem RepX.tup {a : Addr} {ds : List Dt} {xs : List V} (h : RepX K H ds xs) (s : SqT K H a xs) : RepD K H (.tup ds) (.ref a) := .tup s h.1 h.2
theorem RepD.toT {ds : List Dt} {v : V} (h : RepD K H (.tup ds) v) : ∃ a xs, v = .ref a /\ SqT K H a xs /\ RepX K H ds xs := by
 cases h with
 | @tup a xs _ h hl hr => exact ⟨a, xs, rfl, h, hl, hr⟩
theorem RepX.zs {f : Bool} : ∀ {ks : List Rw} {xs : List V}, RepX K H (ks.map (rowD f)) xs -> (xs.zip ks).map (·.1) = xs /\ (xs.zip ks).map (·.2) = ks /\ ∀ z ∈ xs.zip ks, RepD K H (rowD f z.2) z.1 := fun {ks xs} h => by
 have hl : ks.length = xs.length := by have := h.1; simpa using this
 refine ⟨by rw [List.map_fst_zip ω], by rw [List.map_snd_zip ω], fun z hz => ?_⟩;obtain ⟨n, hn, e⟩ := List.mem_iff_getElem.mp hz;rw [List.getElem_zip] at e;have n1 : n < xs.length := by simp at hn; omega
 have n2 : n < ks.length := by omega
 rw [<- e];exact h.2 n _ _ (by simp [n2]) (by simp [n1])
theorem RepX.ofZ {f : Bool} {zs : List (V × Rw)} (h : ∀ z ∈ zs, RepD K H (rowD f z.2) z.1) : RepX K H ((zs.map (·.2)).map (rowD f)) (zs.map (·.1)) := by
 refine ⟨ς, fun j d x e1 e2 => ?_⟩;rw [List.map_map, yav] at e1;rw [yav] at e2;cases c : zs[j]? with
 | none => rw [c] at e1; cases e1
 | some z =>
  rw [c] at e1 e2;cases e1; cases e2;exact h z (ya1 c)
def prR (p : Str × Int) : Rw := (p.1, [p.2])
structure Wd where
 size : Int
 cs : List (Str × Int)
 fs : List Rw
def Wd.dt (W : Wd) : Dt := .tup [.int W.size, .tup ((W.cs.map prR).map (rowD false)), .tup (W.fs.map (rowD true))]
def RisC (cs : List (Str × Int)) : Prop := cs.Pairwise fun a b => a.1.cps.toList < b.1.cps.toList
def RisF (fs : List Rw) : Prop := fs.Pairwise fun a b => zbf (rowK a) (rowK b)
structure Wd.Ok (W : Wd) : Prop where
 s1 : 1 <= W.size
 s2 : W.size <= 40
 rc : RisC W.cs
 rf : RisF W.fs
 nm : ∀ p ∈ W.cs, Nm smallS p.1 /\ 0 <= p.2 /\ p.2 < W.size
 ft : ∀ f ∈ W.fs, Nm smallS f.1 /\ f.2.length <= 3 /\ ∀ i ∈ f.2, 0 <= i /\ i < W.size
 lc : W.cs.length <= 40
 lf : W.fs.length <= 100
structure RepW (K : W.Frag) (H : Hp) (W : Wd) (a c f : Addr) (xs ys : List V) : Prop where
 top : SqT K H a [.int W.size, .ref c, .ref f]
 called : SqT K H c xs
 facts : SqT K H f ys
 rc : RepX K H ((W.cs.map prR).map (rowD false)) xs
 rf : RepX K H (W.fs.map (rowD true)) ys
theorem RepW.same (e : Same H H') {W : Wd} {a c f : Addr} {xs ys : List V} (h : RepW K H W a c f xs ys) : RepW K H' W a c f xs ys := ⟨e.seqT h.top, e.seqT h.called, e.seqT h.facts, h.rc.same e, h.rf.same e⟩
theorem RepW.repD {W : Wd} {a c f : Addr} {xs ys : List V} (h : RepW K H W a c f xs ys) : RepD K H W.dt (.ref a) := RepD.t3 h.top (.int _) (h.rc.tup h.called) (h.rf.tup h.facts)
theorem Wd.dep (W : Wd) : Dt.dep W.dt <= 60 := by
 have z : ∀ l : List Int, Dt.deps (l.map Dt.int) = 0 := fun l => by
  induction l with
  | nil => simp [Dt.deps]
  | cons a l ih => simp [Dt.deps, Dt.dep, ih]
 have h1 : ∀ ks : List Rw, Dt.deps (ks.map (rowD true)) <= 2 := fun ks => by
  induction ks with
  | nil => simp [Dt.deps]
  | cons a l ih =>
   rw [List.map_cons, Dt.deps];have : Dt.dep (rowD true a) <= 2 := by simp [rowD, Dt.dep, Dt.deps, z]
   omega
 have h2 : ∀ ks : List Rw, Dt.deps (ks.map (rowD false)) <= 2 := fun ks => by
  induction ks with
  | nil => simp [Dt.deps]
  | cons a l ih =>
   rw [List.map_cons, Dt.deps];have : Dt.dep (rowD false a) <= 2 := by simp [rowD, Dt.dep, Dt.deps]
   omega
 have a1 := h1 W.fs;have a2 := h2 (W.cs.map prR);simp only [Wd.dt, Dt.dep, Dt.deps];omega
theorem zgn {a b : Rw} (h : rowK a = rowK b) : a = b := Prod.ext (zdV (congrArg Prod.fst h)) (show (rowK a).2 = (rowK b).2 from congrArg Prod.snd h)
theorem zj1 {zs : List (V × Rw)} (h : SrtR zs) : (zs.map (·.2)).Pairwise fun a b => ¬ zbf (rowK b) (rowK a) := List.pairwise_map.mpr h
section
variable {K : W.Frag} {P : Program} {w : World} {H : Hp} {Q : VK} {p b : Addr} {k : Str} {v : V} {Qh : Hp -> Prop}
theorem znl : zni (.ref p) (.str k) v H Qh = ∃ l, H p = some (.dK (dS l)) /\ l.length < 4000 /\ Qh (upd H p (.dK (dS (putS l k v)))) := by
 refine propext ⟨fun ⟨_, _, l, e1, e2, h⟩ => ?_, fun ⟨l, h⟩ => ⟨p, k, l, rfl, rfl, h⟩⟩;cases e1; cases e2; exact ⟨l, h⟩
theorem znm : znk P w K (.ref p) (.ref b) (.bl true) H Qh = ∃ k fs, FdAt P w H p fs /\ RepD K H (rowD true k) (.ref b) /\ (∀ z ∈ fs, RepD K H (rowD true z.1) (.ref z.2)) /\ fs.length < 4000 /\ Qh (upd H p (FdO P w p (pFs fs k b))) := by
 refine propext ⟨fun ⟨_, _, k, fs, e1, e2, _, h⟩ => ?_, fun ⟨k, fs, h⟩ => ⟨p, b, k, fs, rfl, rfl, rfl, h⟩⟩;cases e1; cases e2; exact ⟨k, fs, h⟩
theorem zln : zkl P w [.ref p] H Q = ∃ fs, FdAt P w H p fs /\ ∀ l, H l = none -> Q (.ref l) (upd H l (.lst (fs.map fun f => .ref f.2))) := by
 refine propext ⟨fun ⟨_, fs, e, h⟩ => ?_, fun ⟨fs, h⟩ => ⟨p, fs, rfl, h⟩⟩;cases e; exact ⟨fs, h⟩
theorem znn : znj (.ref p) (.str k) H Q = ∃ l z, Rd H p (.dK (dS l)) /\ valS l k = some z /\ Q z H := by
 refine propext ⟨fun ⟨_, _, l, z, e1, e2, h⟩ => ?_, fun ⟨l, z, h⟩ => ⟨k, p, l, z, rfl, rfl, h⟩⟩;cases e1; cases e2; exact ⟨l, z, h⟩
theorem zor {tl : TE} {σ : St} {R : It -> Hp -> Prop} : iDS tl σ H R = tl σ H fun x H1 => ∃ a l, x = .ref a /\ H1 a = some (.dK (dS l)) /\ ∀ o, R (Itd a o l) (upd H1 a (.frz o (.dK (dS l)))) := rfl
theorem zlo {d : Addr} {o : Obj} {l : List (Str × V)} {nt : Nat} {is : List Nat} {g : TG} {tt : TT} {te : TE} {σ : St} (Pv : Nat -> List V -> Hp -> Prop) (h0 : Pv 0 [] H) (hl : ∀ i acc H, i <= l.length -> Pv i acc H -> H d = some (.frz o (.dK (dS l))))
  (hs : ∀ i z acc H, l[i]? = some z -> Pv i acc H -> acc.length < sizeLine /\ g (.str z.1) (za1 nt is σ) H fun σ2 H2 => tt σ2 H2 fun b H3 => if b = true then te σ2 H3 fun y H4 => Pv (i + 1) (acc ++ [y]) H4 else Pv (i + 1) acc H3)
  (hd : ∀ acc H, Pv l.length acc H -> ∀ p, H p = none -> Q (.ref p) (upd H p (.lst acc))) : zfw (Itd d o l) nt is g tt te σ H Q := by
 refine zc3 (n := l.length) Pv h0 (fun i acc H hi q => ?_) fun acc H q => ⟨⟨hl _ _ _ (yai _) q, rfl⟩, hd acc H q⟩
 obtain ⟨h1, h2⟩ := hs i l[i] acc H (yal hi) q;refine ⟨⟨hl i acc H (Nat.le_of_lt hi) q, hi⟩, h1, fun x H' y => ?_⟩;obtain ⟨rfl, k, hk, rfl⟩ := y;rw [yal hi] at hk;cases hk;exact h2
theorem zj2 {l : List (Str × V)} (hn : (l.map (·.1)).Nodup) {i : Nat} {z : Str × V} (h : l[i]? = some z) : valS l z.1 = some z.2 := by
 induction l generalizing i with
 | nil => simp at h
 | cons a l ih =>
  rw [List.map_cons, List.nodup_cons] at hn;cases i with
  | zero => cases h; simp [valS]
  | succ j =>
   have hj : l[j]? = some z := by simpa using h
   have : a.1 ≠ z.1 := fun e => hn.1 (e ▸ ya6.mpr ⟨z, ya1 hj, rfl⟩);have := ih hn.2 hj;simpa [valS, List.find?_cons, ‹a.1 ≠ z.1›] using this
theorem zfb (l : List (Str × V)) (k : Str) (v : V) (hn : (l.map (·.1)).Nodup) : ((putS l k v).map (·.1)).Nodup := by
 unfold putS
 by_cases c : l.any (fun p => decide (p.1 = k)) = true
 ·rw [if_pos c];have : (l.map fun p => if p.1 = k then (p.1, v) else p).map (·.1) = l.map (·.1) := by
   rw [List.map_map];refine List.map_congr_left fun p _ => ?_;show (if p.1 = k then (p.1, v) else p).1 = p.1
   split <;> rfl
  rw [this]; exact hn
 ·rw [if_neg c, ya0, List.nodup_append];refine ⟨hn,ς, fun a ha b hb e => c ?_⟩;have hb' : b = k := by simpa using hb
  obtain ⟨p, hp, rfl⟩ := ya6.mp ha;exact List.any_eq_true.mpr ⟨p, hp, by simp [e, hb']⟩
theorem zgo {R : Str × V -> Prop} {l : List (Str × V)} {k : Str} {v : V} (h : ∀ p ∈ l, R p) (hk : R (k, v)) : ∀ p ∈ putS l k v, R p := fun p hp => by
 unfold putS at hp
 by_cases c : l.any (fun p => decide (p.1 = k)) = true
 ·rw [if_pos c] at hp;obtain ⟨q, hq, rfl⟩ := ya6.mp hp
  by_cases e : q.1 = k
  ·rw [if_pos e, e]; exact hk
  ·rw [if_neg e]; exact h q hq
 ·rw [if_neg c] at hp;rcases yay.mp hp with z | z
  ·exact h p z
  ·rw [yah.mp z]; exact hk
theorem zj3 (fs : List (Rw × Addr)) (k : Rw) (b : Addr) (hn : (fs.map (·.1)).Nodup) : ((pFs fs k b).map (·.1)).Nodup := by
 unfold pFs
 by_cases c : (fs.map (·.1)).contains k = true
 ·rw [if_pos c]; exact hn
 ·rw [if_neg c, ya0, List.nodup_append];refine ⟨hn,ς, fun a ha b' hb e => c ?_⟩;have hb' : b' = k := by simpa using hb
  rw [List.contains_iff_mem, <- hb', <- e]; exact ha
theorem zin {R : Rw × Addr -> Prop} {fs : List (Rw × Addr)} {k : Rw} {b : Addr} (h : ∀ f ∈ fs, R f) (hk : R (k, b)) : ∀ f ∈ pFs fs k b, R f := fun f hf => by
 unfold pFs at hf
 by_cases c : (fs.map (·.1)).contains k = true
 ·rw [if_pos c] at hf; exact h f hf
 ·rw [if_neg c] at hf;rcases yay.mp hf with z | z
  ·exact h f z
  ·rw [yah.mp z]; exact hk
def Dct : HO -> Prop
 | .dK _ => True
 | .ext _ => True
 | .frz _ (.dK _) => True
 | _ => False
theorem SqT.keepD {K : W.Frag} {H : Hp} {p q : Addr} {u o : HO} {xs : List V} (h : SqT K H q xs) (hp : H p = some u) (hu : Dct u) : SqT K (upd H p o) q xs := by
 rcases h with (h | ⟨o', h⟩) | h
 ·exact .inl (.inl (by rw [za6]; exact h; rintro rfl; rw [hp] at h; cases h; exact hu))
 ·exact .inl (.inr ⟨o', by rw [za6]; exact h; rintro rfl; rw [hp] at h; cases h; exact hu⟩)
 ·exact .inr h
theorem SqL.keepD {K : W.Frag} {H : Hp} {p q : Addr} {u o : HO} {xs : List V} (h : SqL K H q xs) (hp : H p = some u) (hu : Dct u) : SqL K (upd H p o) q xs := by
 rcases h with (h | ⟨o', h⟩) | h
 ·exact .inl (.inl (by rw [za6]; exact h; rintro rfl; rw [hp] at h; cases h; exact hu))
 ·exact .inl (.inr ⟨o', by rw [za6]; exact h; rintro rfl; rw [hp] at h; cases h; exact hu⟩)
 ·exact .inr h
theorem RepD.keepD {K : W.Frag} {H : Hp} {p : Addr} {u o : HO} {d : Dt} {x : V} (h : RepD K H d x) (hp : H p = some u) (hu : Dct u) : RepD K (upd H p o) d x := by
 induction h with
 | int i => exact .int i
 | str x => exact .str x
 | non => exact .non
 | tup h hl hr ih => exact .tup (h.keepD hp hu) hl ih
 | lst h hl hr ih => exact .lst (h.keepD hp hu) hl ih
theorem FdAt.same {P : Program} {w : World} {H H' : Hp} {d : Addr} {fs : List (Rw × Addr)} (h : FdAt P w H d fs) (s : Same H H') : FdAt P w H' d fs := by
 rcases h with h | ⟨e, h⟩
 ·exact .inl (s _ _ h)
 ·exact .inr ⟨e, s _ _ h⟩
theorem FdAt.dct {P : Program} {w : World} {H : Hp} {d : Addr} {fs : List (Rw × Addr)} (h : FdAt P w H d fs) : ∃ u, H d = some u /\ Dct u := by
 rcases h with h | ⟨_, h⟩ <;> exact ⟨_, h, trivial⟩
theorem zlp {zs : List (V × Rw)} {l : List Rw} (h : SrtR zs) (p : (zs.map (·.2)).Perm l) (hn : l.Nodup) : RisF (zs.map (·.2)) := by
 have n2 : (zs.map (·.2)).Nodup := p.nodup_iff.mpr hn;refine ((zj1 h).and n2).imp fun {a b} ⟨h1, h2⟩ => ?_;rcases rowLt_tri (rowK a) (rowK b) with z | z | z
 ·exact z
 ·exact absurd (zgn z) h2
 ·exact absurd z h1
def rwP (k : Rw) : Str × Int := (k.1, k.2.headD 0)
theorem zlq {k : Rw} (h : k.2.length = 1) : prR (rwP k) = k := by
 obtain ⟨x, l⟩ := k
 match l, h with
 | [i], _ => rfl
theorem zlr {zs : List (V × Rw)} (h : SrtR zs) (hn : (zs.map (·.2.1)).Nodup) : RisC ((zs.map (·.2)).map rwP) := by
 have hn' : zs.Pairwise fun a b => a.2.1 ≠ b.2.1 := List.pairwise_map.mp hn;refine List.pairwise_map.mpr (List.pairwise_map.mpr ((h.and hn').imp fun {a b} ⟨h1, h2⟩ => ?_));show a.2.1.cps.toList < b.2.1.cps.toList;rcases rowLt_tri (rowK a.2) (rowK b.2) with (z | ⟨z, _⟩) | z | z
 ·exact z
 ·exact absurd (zdV z) h2
 ·exact absurd (congrArg Prod.fst (zgn z)) h2
 ·exact absurd z h1
def intV : V -> Int
 | .int i => i
 | _ => 0
def zcw (l : List (Str × V)) : List (Str × Int) := l.map fun q => (q.1, intV q.2)
theorem zfB (l : List (Str × V)) (i : Nat) (z : Str × V) (h : l[i]? = some z) : zcw (l.take (i + 1)) = zcw (l.take i) ++ [(z.1, intV z.2)] := by
 have hi := (yag.mp h).1;have e := (yag.mp h).2;rw [List.take_succ_eq_append_getElem hi, e];simp [zcw]
def nmB (x : Str) : Bool := match x.cps.toList with
 | c :: r => smallS.cps.toList.contains c && r.all (fun d => sofS.cps.toList.contains d) && decide (r.length <= 7) && !keptW.contains x
 | [] => false
theorem zos {x : Str} (h : nmB x = true) : Nm smallS x := by
 unfold nmB at h
 split at h
 ·rename_i c r e
  simp only [Bool.and_eq_true, List.contains_iff_mem, List.all_eq_true, decide_eq_true_eq, Bool.not_eq_true'] at h;obtain ⟨⟨⟨h1, h2⟩, h3⟩, h4⟩ := h;exact ⟨c, r, e, h1, h2, h3, fun z => by rw [<- List.contains_iff_mem] at z; rw [z] at h4; cases h4⟩
 ·cases h
theorem zno : ∀ i : Nat, i < 36 -> nmB (Str.ofString "n" ++ Str.ofString (toString (i : Int))) = true := by decide +kernel
end
end
theorem zot {X : Cx} {P : Program} {w : World} : zfL (CXX P w) X E0 := fun _ _ _ _ _ _ _ ⟨_, _, _, _, _, h, _⟩ => h.elim
end L2
namespace L2
open PySem PySem.Spec PyProof.Rows PySem.SeqAt
open AutoSeq1 (wpAny_loadPart')
open MeetsSeq MeetsSeq2 MeetsSeq3 SeqRoads2
def twoB (b c : Bool) : Nat -> Bool
 | 0 => b
 | _ => c
def LeA (A : Around) (s : Shared) (u v : Value) (b : Bool) : Prop := ∀ (prog : Program) (w : World) (E : ZQ) (Q : ZQ), Q (.bool b) s -> wpAny (model prog w) A (richCompare .LtE u v) Q E s
section
variable {A : Around} {s : Shared}
theorem LeA.int (i j : Int) (t u : Tok) : LeA A s (.int i t) (.int j u) (decide (i <= j)) := fun prog w E Q h => PyProof.Rows.le_int h
theorem LeA.str (x y : Str) (t u : Tok) : LeA A s (.str x t) (.str y u) (!decide (y.cps.toList < x.cps.toList)) := fun prog w E Q h => by
 refine wpAny_richCompare_same (op := .LtE) (T := "str") (typeIs_str s x t) (typeIs_str s y u) PyProof.Rows.slot_str_le (wpAny_call_entry PyProof.Rows.slot_str_le (typeIs_str s x t) PyProof.Rows.entry_str_le ?_ (PyProof.Rows.args_str_le _ _));show wpAny _ _ (ret (.bool (!decide (y.cps.toList < x.cps.toList)))) _ _ s;exact yab ⟨_, rfl,ς, h⟩
end
theorem zio (a b : Addr) (xs ys : Array Value) (n n2 : Nat) (d1 d2 : Option Addr) (s1 s2 : Array (Option Value)) (e l : Nat -> Bool) :
  Meets (Builtin.«tuple.__le__» ⟨[.ref a, .ref b], []⟩)
   (fun A R s => s.heap.get? a = some { cls := .type "tuple", dict := d1, data := .seq xs n, slots := s1 } /\ s.heap.get? b = some { cls := .type "tuple", dict := d2, data := .seq ys n2, slots := s2 } /\
    (∀ j (h1 : j < xs.size) (h2 : j < ys.size), EqAt A.in1 s xs[j] ys[j] (e j)) /\ (∀ j (h1 : j < xs.size) (h2 : j < ys.size), e j = false -> LeA A.in1 s xs[j] ys[j] (l j)) /\
    R (.ok (.ret (.bool (lexB e l (decide (xs.size <= ys.size)) (List.range (min xs.size ys.size)))))) s) :=
 .of_wp fun prog w A R s h => by
  obtain ⟨hp, g, d, tk, os⟩ := s;obtain ⟨ha, hb, he, hlt, h⟩ := h;have f2 := AutoSeq1.sub_tuple_tuple;have hZ : (xs.toList.zip ys.toList).length = min xs.size ys.size := by simp
  wp_walk using wpAny_loadPart' ha, wpAny_loadPart' hb, wpAny_forIn_list _ (fun rest c s' => c.1 = none /\ s' = ⟨hp, g, d, tk, os⟩ /\ ∃ i, rest = (xs.toList.zip ys.toList).drop i /\
   R (.ok (.ret (.bool (lexB e l (decide (xs.size <= ys.size)) ((List.range (min xs.size ys.size)).drop i))))) ⟨hp, g, d, tk, os⟩) _
  case turn =>
   rintro ⟨y, x⟩ rest c s' ⟨hc, rfl, i, hz, hR⟩
   have hl : i < (xs.toList.zip ys.toList).length := by
    by_cases z : i < (xs.toList.zip ys.toList).length
    ·exact z
    ·rw [List.drop_of_length_le ω] at hz; cases hz
   have hm : i < min xs.size ys.size := hZ ▸ hl;have k1 : i < xs.size := by omega
   have k2 : i < ys.size := by omega
   rw [List.drop_eq_getElem_cons hl] at hz
   injection hz with hyx hrest
   obtain rfl : y = xs[i] := by have := congrArg Prod.fst hyx; simpa using this
   obtain rfl : x = ys[i] := by have := congrArg Prod.snd hyx; simpa using this
   have hd : (List.range (min xs.size ys.size)).drop i = i :: (List.range (min xs.size ys.size)).drop (i + 1) := by simp [List.drop_eq_getElem_cons, hm]
   rw [hd, lexB] at hR;refine yaa (he i k1 k2 prog w _ _ ?_);cases hy : e i with
   | true =>
    rw [hy] at hR
    wp_walk
    exact ⟨rfl, rfl, i + 1, hrest, by simpa using hR⟩
   | false =>
    rw [hy] at hR;simp only [Bool.not_false, if_true];refine yaa (wpAny_rule (yaa (hlt i k1 k2 hy prog w _ _ (yaa (yab (yab ?_))))));exact yab ⟨_, rfl, by simpa using hR⟩
  case fin =>
   rintro ⟨c1, c2⟩ s' ⟨hc, rfl, i, hz, hR⟩
   simp only at hc;subst hc;have hge : min xs.size ys.size <= i := by
    by_cases z : i < (xs.toList.zip ys.toList).length
    ·rw [List.drop_eq_getElem_cons z] at hz; cases hz
    ·omega
   rw [List.drop_of_length_le (by simpa using hge), lexB] at hR
   wp_walk
   exact ⟨_, rfl, by simpa [Builtin.Tuple.tupleCompareSizes] using hR⟩
  case h =>
   exact ⟨rfl, rfl, 0, rfl, by simpa using h⟩
section
variable {A : Around} {s : Shared}
theorem LeA.tup {a b : Addr} {xs ys : Array Value} {e l : Nat -> Bool} (ha : s.heap.IsTuple a xs) (hb : s.heap.IsTuple b ys) (hu : A.units < cLine)
  (he : ∀ j (h1 : j < xs.size) (h2 : j < ys.size), EqAt A.in1 s xs[j] ys[j] (e j)) (hl : ∀ j (h1 : j < xs.size) (h2 : j < ys.size), e j = false -> LeA A.in1 s xs[j] ys[j] (l j)) :
  LeA A s (.ref a) (.ref b) (lexB e l (decide (xs.size <= ys.size)) (List.range (min xs.size ys.size))) := fun prog w E Q h => by
 obtain ⟨⟨c1, d1, t1, s1⟩, ho, e1, n, e2⟩ := id ha;obtain ⟨⟨c2, d2, t2, s2⟩, ho2, e3, n2, e4⟩ := id hb;simp only at e1 e2 e3 e4;subst e1 e2 e3 e4;exact richCompare_meets_room (op := .LtE) ⟨_, ho, rfl⟩ ⟨_, ho2, rfl⟩ F.slot_tuple_le F.entry_tuple_le (F.args_tuple_le_2 _ _) (zio a b xs ys n n2 d1 d2 s1 s2 e l)
  ⟨ho, ho2, he, hl, (fun x => nomatch x), h⟩ hu
theorem zd4 : ∀ (l m : List Int) (e lt : Nat -> Bool) (z : Bool) (k : Nat), (∀ j (h : j < l.length) (h' : j < m.length), e (k + j) = decide (l[j] = m[j])) -> (∀ j (h : j < l.length) (h' : j < m.length), lt (k + j) = decide (l[j] <= m[j])) -> z = decide (l.length <= m.length) ->
  lexB e lt z ((List.range (min l.length m.length)).map (k + ·)) = !decide (m < l)
 | [], [], e, lt, z, k, _, _, hz => by subst hz; rfl
 | [], b :: m, e, lt, z, k, _, _, hz => by subst hz; simp [lexB]
 | a :: l, [], e, lt, z, k, _, _, hz => by subst hz; simp [lexB]
 | a :: l, b :: m, e, lt, z, k, he, hl, hz => by
  have e0 := he 0 ς ς;have l0 := hl 0 ς ς;simp only [Nat.add_zero, List.getElem_cons_zero] at e0 l0;have ih := zd4 l m e lt z (k + 1) (fun j h h' => by have := he (j + 1) (by simpa using h) (by simpa using h'); rw [show k + 1 + j = k + (j + 1) by omega]; simpa using this)
   (fun j h h' => by have := hl (j + 1) (by simpa using h) (by simpa using h'); rw [show k + 1 + j = k + (j + 1) by omega]; simpa using this) (by rw [hz]; simp)
  have hr : (List.range (min (a :: l).length (b :: m).length)).map (k + ·) = k :: (List.range (min l.length m.length)).map (k + 1 + ·) := by
   rw [List.length_cons, List.length_cons, Nat.succ_min_succ, List.range_succ_eq_map, List.map_cons, List.map_map, Nat.add_zero]
   congr 1
   exact List.map_congr_left fun j _ => by simp; omega
  rw [hr, lexB, e0, l0, ih]
  by_cases c : a = b
  ·subst c; simp [List.cons_lt_cons_iff]
  ·have c' : ¬ b = a := fun z => c z.symm;simp only [decide_eq_true_eq, c, if_false, List.cons_lt_cons_iff, c', false_and, or_false]
   by_cases q : a <= b
   ·have : ¬ b < a := by omega
    simp [q, this]
   ·have : b < a := by omega
    simp [q, this]
theorem SecR.leA {f : Bool} {u v : Value} {l m : List Int} (hu : A.units < cLine) (h1 : SecR s.heap f u l) (h2 : SecR s.heap f v m) : LeA A s u v (!decide (m < l)) := by
 cases f with
 | false =>
  obtain ⟨i, t, rfl, rfl⟩ := h1; obtain ⟨j, t', rfl, rfl⟩ := h2;have : (!decide ([j] < [i])) = decide (i <= j) := by
   by_cases c : i <= j
   ·have : ¬ j < i := by omega
    simp [List.cons_lt_cons_iff, c, this]
   ·have : j < i := by omega
    simp [List.cons_lt_cons_iff, c, this]
  rw [this]; exact LeA.int _ _ _ _
 | true =>
  obtain ⟨c, xs, rfl, p, q⟩ := h1;obtain ⟨c', ys, rfl, p', q'⟩ := h2;have z := LeA.tup (A := A) (e := fun j => decide (l[j]? = m[j]?)) (l := fun j => decide (l.getD j 0 <= m.getD j 0)) p p' hu (fun j k1 k2 => by
    obtain ⟨t, g1, e1⟩ := zbB q j (by simpa using k1);obtain ⟨t', g2, e2⟩ := zbB q' j (by simpa using k2);have z1 : xs[j] = .int l[j] t := by simpa using e1
    have z2 : ys[j] = .int m[j] t' := by simpa using e2
    rw [z1, z2];have : decide (l[j]? = m[j]?) = (l[j] == m[j]) := by simp [g1, g2, Bool.beq_eq_decide_eq]
    rw [this]; exact EqAt.int_int _ _ _ _) (fun j k1 k2 _ => by
    obtain ⟨t, g1, e1⟩ := zbB q j (by simpa using k1);obtain ⟨t', g2, e2⟩ := zbB q' j (by simpa using k2);have z1 : xs[j] = .int l[j] t := by simpa using e1
    have z2 : ys[j] = .int m[j] t' := by simpa using e2
    rw [z1, z2];have : decide (l.getD j 0 <= m.getD j 0) = decide (l[j] <= m[j]) := by simp [List.getD, g1, g2]
    rw [this]; exact LeA.int _ _ _ _)
  have n1 : xs.size = l.length := by have := zcC q; simpa using this
  have n2 : ys.size = m.length := by have := zcC q'; simpa using this
  rw [n1, n2] at z;have k := zd4 l m (fun j => decide (l[j]? = m[j]?)) (fun j => decide (l.getD j 0 <= m.getD j 0)) (decide (l.length <= m.length)) 0 (fun j h h' => by simp [h, h']) (fun j h h' => by simp [List.getD, h, h']) rfl;rw [show ((List.range (min l.length m.length)).map (0 + ·)) = List.range (min l.length m.length) by simp] at k;rw [k] at z;exact z
theorem zkm {f : Bool} {x y : Str} {t t' : Tok} {u v : Value} {l m : List Int} (hu : A.units + 1 < cLine) (r : SecR s.heap f u l) (r' : SecR s.heap f v m) : ∀ j (h1 : j < (#[Value.str x t, u]).size) (h2 : j < (#[Value.str y t', v]).size), EqAt A.in1 s (#[Value.str x t, u])[j] (#[Value.str y t', v])[j] (twoB (x == y) (decide (l = m)) j) := fun j h1 h2 => by
 have h1' : j < 2 := h1
 match j, h1' with
 | 0, _ => exact EqAt.str_str _ _ _ _
 | 1, _ => exact r.eqAt (by show A.units + 1 < cLine; exact hu) r'
theorem znp {f : Bool} {u v : Value} {k k' : List Nat × List Int} (hu : A.units + 1 < cLine) (h1 : RowR s.heap f u k) (h2 : RowR s.heap f v k') : LtA A s u v (decide (zbf k k')) := by
 obtain ⟨a, x, t, u, l, rfl, p, r, rfl⟩ := h1;obtain ⟨b, y, t', v, m, rfl, p', r', rfl⟩ := h2;have z := LtA.tup (A := A) (e := twoB (x == y) (decide (l = m))) (l := twoB (decide (x.cps.toList < y.cps.toList)) (decide (l < m))) p p' ω (zkm hu r r') (fun j h1 h2 _ => by
  have h1' : j < 2 := h1
  match j, h1' with
  | 0, _ => exact LtA.str _ _ _ _
  | 1, _ => exact r.ltA (by show A.units + 1 < cLine; exact hu) r')
 have e : lexB (twoB (x == y) (decide (l = m))) (twoB (decide (x.cps.toList < y.cps.toList)) (decide (l < m))) (decide ((#[Value.str x t, u]).size < (#[Value.str y t', v]).size)) (List.range (min (#[Value.str x t, u]).size (#[Value.str y t', v]).size)) = decide (zbf (x.cps.toList, l) (y.cps.toList, m)) := by
  show lexB _ _ (decide (2 < 2)) (List.range 2) = _;rw [show List.range 2 = [0, 1] from rfl];simp only [lexB, twoB]
  by_cases c : x = y
  ·subst c
   by_cases c2 : l = m
   ·subst c2; simp [zcB]
   ·simp [zbf, c2, List.lt_irrefl]
  ·have c' : ¬ x.cps.toList = y.cps.toList := fun e => c (zdV e);have : (x == y) = false := by simpa using c
   simp [zbf, this, c']
 rw [e] at z;exact z
theorem znq {f : Bool} {u v : Value} {k k' : List Nat × List Int} (hu : A.units + 1 < cLine) (h1 : RowR s.heap f u k) (h2 : RowR s.heap f v k') : LeA A s u v (!decide (zbf k' k)) := by
 obtain ⟨a, x, t, u, l, rfl, p, r, rfl⟩ := h1;obtain ⟨b, y, t', v, m, rfl, p', r', rfl⟩ := h2;have z := LeA.tup (A := A) (e := twoB (x == y) (decide (l = m))) (l := twoB (!decide (y.cps.toList < x.cps.toList)) (!decide (m < l))) p p' ω (zkm hu r r') (fun j h1 h2 _ => by
  have h1' : j < 2 := h1
  match j, h1' with
  | 0, _ => exact LeA.str _ _ _ _
  | 1, _ => exact r.leA (by show A.units + 1 < cLine; exact hu) r')
 have e : lexB (twoB (x == y) (decide (l = m))) (twoB (!decide (y.cps.toList < x.cps.toList)) (!decide (m < l))) (decide ((#[Value.str x t, u]).size <= (#[Value.str y t', v]).size)) (List.range (min (#[Value.str x t, u]).size (#[Value.str y t', v]).size)) = !decide (zbf (y.cps.toList, m) (x.cps.toList, l)) := by
  show lexB _ _ (decide (2 <= 2)) (List.range 2) = _;rw [show List.range 2 = [0, 1] from rfl];simp only [lexB, twoB]
  by_cases c : x = y
  ·subst c
   by_cases c2 : l = m
   ·subst c2; simp [zcB]
   ·simp [zbf, c2, List.lt_irrefl]
  ·have c' : ¬ y.cps.toList = x.cps.toList := fun e => c (zdV e.symm);have : (x == y) = false := by simpa using c
   simp [zbf, this, c']
 rw [e] at z;exact z
end
section
variable {X : Cx}
def ziq (K : W.Frag) : R2 := fun x y H Q => ∃ f k k', RepD K H (rowD f k) x /\ RepD K H (rowD f k') y /\ (f = false -> k.2.length = 1 /\ k'.2.length = 1) /\ Q (.bl (decide (zbf (rowK k) (rowK k')))) H
def zir (K : W.Frag) : R2 := fun x y H Q => ∃ f k k', RepD K H (rowD f k) x /\ RepD K H (rowD f k') y /\ (f = false -> k.2.length = 1 /\ k'.2.length = 1) /\ Q (.bl (!decide (zbf (rowK k') (rowK k)))) H
theorem zj4 (hu : X.A.units + 64 < cLine) : OpR X (compareOp .Lt) (ziq X.K) := by
 intro Qa s σ H x y v u Q I rx ry h;obtain ⟨f, k, k', h1, h2, h3, q⟩ := h;exact znp ω (zcM I h1 (fun z => (h3 z).1) rx) (zcM I h2 (fun z => (h3 z).2) ry) _ _ _ _ (zaE I q rfl)
theorem zj5 (hu : X.A.units + 64 < cLine) : OpR X (compareOp .LtE) (zir X.K) := by
 intro Qa s σ H x y v u Q I rx ry h;obtain ⟨f, k, k', h1, h2, h3, q⟩ := h;exact znq ω (zcM I h1 (fun z => (h3 z).1) rx) (zcM I h2 (fun z => (h3 z).2) ry) _ _ _ _ (zaE I q rfl)
theorem zis : OpR X (compareOp .LtE) (fun x y H Q => ∃ i j, x = .str i /\ y = .str j /\ Q (.bl (!decide (j.cps.toList < i.cps.toList))) H) := by
 intro Qa s σ H x y v u Q I rx ry h;obtain ⟨i, j, rfl, rfl, q⟩ := h;obtain ⟨t, rfl⟩ := rx;obtain ⟨t', rfl⟩ := ry;exact LeA.str i j t t' _ _ _ _ (zaE I q rfl)
def rLtW (K : W.Frag) : R2 := fun x y H Q => rLtA x y H Q \/ ziq K x y H Q
def rLeW (K : W.Frag) : R2 := fun x y H Q => rI0 (fun i j => .bl (decide (i <= j))) x y H Q \/ ((∃ i j, x = .str i /\ y = .str j /\ Q (.bl (!decide (j.cps.toList < i.cps.toList))) H) \/ zir K x y H Q)
theorem znr (K : W.Frag) (hu : X.A.units + 64 < cLine) (hK : X.K = K := by rfl) : OpR X (compareOp .Lt) (rLtW K) := hK ▸ (OpR.or zch (zj4 hu) : OpR X (compareOp .Lt) (rLtW X.K))
theorem zns (K : W.Frag) (hu : X.A.units + 64 < cLine) (hK : X.K = K := by rfl) : OpR X (compareOp .LtE) (rLeW K) := hK ▸ (OpR.or zlS (OpR.or zis (zj5 hu)) : OpR X (compareOp .LtE) (rLeW X.K))
variable {K : W.Frag} {H : Hp} {Q : VK} {i j : Int} {x y : Str} {p q : Addr}
theorem RepD.rowRef {f : Bool} {k : Rw} {v : V} (h : RepD K H (rowD f k) v) : ∃ a, v = .ref a := by
 cases f <;> (obtain ⟨a, _, _, e, _⟩ := RepD.two h; exact ⟨a, e⟩)
theorem znt : rLtW K (.int i) (.int j) H Q = Q (.bl (decide (i < j))) H := by
 refine propext ⟨fun h => ?_, fun h => .inl (by rw [zk9]; exact h)⟩;rcases h with h | ⟨f, k, k', h1, _⟩
 ·rwa [zk9] at h
 ·obtain ⟨a, e⟩ := h1.rowRef; cases e
theorem zkn : rLtW K (.str x) (.str y) H Q = Q (.bl (decide (x.cps.toList < y.cps.toList))) H := by
 refine propext ⟨fun h => ?_, fun h => .inl (by rw [zkV]; exact h)⟩;rcases h with h | ⟨f, k, k', h1, _⟩
 ·rwa [zkV] at h
 ·obtain ⟨a, e⟩ := h1.rowRef; cases e
theorem zo7 : rLtW K (.ref p) (.ref q) H Q = ziq K (.ref p) (.ref q) H Q := by
 refine propext ⟨fun h => ?_, .inr⟩;rcases h with (⟨_, _, e, _⟩ | ⟨_, _, e, _⟩) | h
 ·cases e
 ·cases e
 ·exact h
theorem znu : rLeW K (.int i) (.int j) H Q = Q (.bl (decide (i <= j))) H := by
 refine propext ⟨fun h => ?_, fun h => .inl (by rw [ziY]; exact h)⟩;rcases h with h | ⟨_, _, e, _⟩ | ⟨f, k, k', h1, _⟩
 ·rwa [ziY] at h
 ·cases e
 ·obtain ⟨a, e⟩ := h1.rowRef; cases e
theorem zko : rLeW K (.str x) (.str y) H Q = Q (.bl (!decide (y.cps.toList < x.cps.toList))) H := by
 refine propext ⟨fun h => ?_, fun h => .inr (.inl ⟨_, _, rfl, rfl, h⟩)⟩;rcases h with ⟨_, _, e, _⟩ | ⟨_, _, e, e', h⟩ | ⟨f, k, k', h1, _⟩
 ·cases e
 ·cases e; cases e'; exact h
 ·obtain ⟨a, e⟩ := h1.rowRef; cases e
theorem zo8 : rLeW K (.ref p) (.ref q) H Q = zir K (.ref p) (.ref q) H Q := by
 refine propext ⟨fun h => ?_, fun h => .inr (.inr h)⟩;rcases h with ⟨_, _, e, _⟩ | ⟨_, _, e, _⟩ | h
 ·cases e
 ·cases e
 ·exact h
def zls : V -> List V -> Hp -> VK -> Prop := fun x vs H Q => ∃ l xs y n, x = .ref l /\ vs = [.int (n : Nat), y] /\ H l = some (.lst xs) /\ n <= xs.length /\ xs.length < 100000 /\ Q .non (upd H l (.lst (xs.take n ++ y :: xs.drop n)))
theorem zj6 {l : Addr} {y : V} {N : Int} : zls (.ref l) [.int N, y] H Q = ∃ xs n, N = (n : Nat) /\ H l = some (.lst xs) /\ n <= xs.length /\ xs.length < 100000 /\ Q .non (upd H l (.lst (xs.take n ++ y :: xs.drop n))) := by
 refine propext ⟨fun ⟨_, xs, _, n, e1, e2, h⟩ => ?_, fun ⟨xs, n, e, h⟩ => ⟨l, xs, y, n, rfl, by rw [e], h⟩⟩;cases e1;simp only [List.cons.injEq, V.int.injEq, and_true] at e2;obtain ⟨e3, rfl⟩ := e2;exact ⟨xs, n, e3, h⟩
def risQ (ks : List (List Nat × List Int)) : Bool := (List.range (ks.length - 1)).all fun j => decide (zbf (ks.getD j ([], [])) (ks.getD (j + 1) ([], [])))
def KeyIt (K : W.Frag) (H : Hp) (t : Bool) (v : V) (k : List Nat × List Int) : Prop := match t with
 | true => ∃ x : Str, v = .str x /\ k = (x.cps.toList, [])
 | false => ∃ (a : Addr) (r : Rw), v = .ref a /\ RepD K H (rowD true r) v /\ k = rowK r
theorem zfc {a b : List Nat} : zbf (a, []) (b, []) ↔ a < b := ⟨fun h => h.elim id fun z => absurd z.2 (List.lt_irrefl _), .inl⟩
theorem KeyIt.lt {t : Bool} {u v : V} {k k' : List Nat × List Int} (h1 : KeyIt K H t u k) (h2 : KeyIt K H t v k') (q : Q (.bl (decide (zbf k k'))) H) : rLtW K u v H Q := by
 cases t with
 | true =>
  obtain ⟨x, rfl, rfl⟩ := h1; obtain ⟨y, rfl, rfl⟩ := h2;rw [zkn]
  rwa [show decide (zbf (x.cps.toList, []) (y.cps.toList, [])) = decide (x.cps.toList < y.cps.toList) from decide_eq_decide.mpr zfc] at q
 | false =>
  obtain ⟨a, r, rfl, e2, rfl⟩ := h1; obtain ⟨b, r', rfl, e2', rfl⟩ := h2;exact Or.inr ⟨true, r, r', e2, e2', (fun z => nomatch z), q⟩
theorem KeyIt.le {t : Bool} {u v : V} {k k' : List Nat × List Int} (h1 : KeyIt K H t u k) (h2 : KeyIt K H t v k') (q : Q (.bl (!decide (zbf k' k))) H) : rLeW K u v H Q := by
 cases t with
 | true =>
  obtain ⟨x, rfl, rfl⟩ := h1; obtain ⟨y, rfl, rfl⟩ := h2;rw [zko]
  rwa [show decide (zbf (y.cps.toList, []) (x.cps.toList, [])) = decide (y.cps.toList < x.cps.toList) from decide_eq_decide.mpr zfc] at q
 | false =>
  obtain ⟨a, r, rfl, e2, rfl⟩ := h1; obtain ⟨b, r', rfl, e2', rfl⟩ := h2;exact Or.inr (Or.inr ⟨true, r, r', e2, e2', (fun z => nomatch z), q⟩)
def KeyRow (K : W.Frag) (H : Hp) (xs : List V) (ks : List (List Nat × List Int)) : Prop := ∃ t, ks.length = xs.length /\ ∀ (j : Nat) v k, xs[j]? = some v -> ks[j]? = some k -> KeyIt K H t v k
theorem KeyRow.facts {fs : List Rw} {ys : List V} (h : RepX K H (fs.map (rowD true)) ys) : KeyRow K H ys (fs.map rowK) := by
 refine ⟨false, by have := h.1; simpa using this, fun j v k e1 e2 => ?_⟩;rw [yav] at e2;cases c : fs[j]? with
 | none => rw [c] at e2; cases e2
 | some r =>
  rw [c] at e2;cases e2;have := h.2 j (rowD true r) v (by rw [yav, c]; rfl) e1;obtain ⟨a, rfl⟩ := this.rowRef;exact ⟨a, r, rfl, this, rfl⟩
theorem KeyRow.txts (ts : List Str) : KeyRow K H (ts.map V.str) (ts.map fun x => (x.cps.toList, [])) := by
 refine ⟨true,ς, fun j v k e1 e2 => ?_⟩;rw [yav] at e1 e2;cases c : ts[j]? with
 | none => rw [c] at e2; cases e2
 | some r => rw [c] at e1 e2; cases e1; cases e2; exact ⟨r, rfl, rfl⟩
theorem KeyRow.at {xs : List V} {ks : List (List Nat × List Int)} {t : Bool} (hl : ks.length = xs.length) (h : ∀ (j : Nat) v k, xs[j]? = some v -> ks[j]? = some k -> KeyIt K H t v k) {j : Nat} (hj : j < xs.length) : KeyIt K H t xs[j] (ks.getD j ([], [])) := by
 have h1 : j < ks.length := by omega
 have : ks.getD j ([], []) = ks[j] := by simp [List.getD, h1]
 rw [this];exact h j _ _ (yal hj) (yal h1)
end
section
variable {prog : Program} {w : World} {A : Around} {E : ZQ} {s : Shared}
end
section
variable {X : Cx}
end
theorem fl0 : zcR [] = [] := rfl
theorem zeq {x : Str} {k : Nat} (h : k < x.length) : x.cps.getD k 0 = x.cps.toList[k]'(by rw [za5]; exact h) := by
 have : k < x.cps.size := h;simp [Array.getD, this]
theorem zit (goes : Nat -> Bool) (x : Str) : ∃ u a z, x.cps.toList = u ++ a ++ z /\ (Txt.stripBy goes true true x).cps.toList = a /\ (∀ c ∈ u, goes c = true) /\ (∀ c ∈ z, goes c = true) /\ ((∀ c ∈ x.cps.toList, goes c = true) -> a = []) := by
 have hn := za5 x;obtain ⟨l1, l2, l3⟩ := lo_facts goes x;obtain ⟨h1, h2, h3, h4⟩ := hi_facts goes x _ l1;have es := stripBy_eq goes true true x;generalize stripLo goes true x = lo at *;generalize stripHi goes true x lo = hi at *;refine ⟨x.cps.toList.take lo, (x.cps.toList.drop lo).take (hi - lo), x.cps.toList.drop hi, ?_, by rw [es, StrLaws.strSub_toList], fun c hc => ?_, fun c hc => ?_, fun h => ?_⟩
 ·have e1 : (x.cps.toList.drop lo).drop (hi - lo) = x.cps.toList.drop hi := by rw [List.drop_drop]; congr 1; omega
  rw [List.append_assoc, <- e1, List.take_append_drop, List.take_append_drop]
 ·obtain ⟨k, hk, e⟩ := List.mem_iff_getElem.mp hc;rw [ya3] at hk;have := l2 k ω;rw [zeq ω] at this;rw [<- e, List.getElem_take]; exact this
 ·obtain ⟨k, hk, e⟩ := List.mem_iff_getElem.mp hc;rw [List.length_drop] at hk;have := h3 (hi + k) ω ω;rw [zeq ω] at this;rw [<- e, List.getElem_drop]; exact this
 ·have : lo = x.length := by
   rcases l3 with q | q
   ·exact q
   ·by_cases c : lo < x.length
    ·rw [zeq c, h _ (List.getElem_mem _)] at q; cases q
    ·omega
  rw [this, List.drop_of_length_le ω, List.take_nil]
theorem zcN (c : Nat) : (Str.ofString " ").cps.contains c = decide (c = 32) := by
 have : (Str.ofString " ").cps = #[32] := rfl;rw [this]; simp
theorem zkp : ∀ {l : List Nat}, (∀ c ∈ l, c = 32) -> wd [] l = []
 | [], _ => rfl
 | c :: l, h => by rw [h c ς, wd, if_pos rfl, fl0, List.nil_append]; exact zkp fun d hd => h d (List.mem_cons_of_mem _ hd)
theorem ziu : ∀ {l acc : List Nat}, acc ≠ [] -> wd acc l ≠ []
 | [], acc, h => by unfold wd zcR; rw [if_neg h]; simp
 | c :: l, acc, h => by
  rw [wd]
  by_cases e : c = 32
  ·rw [if_pos e]; unfold zcR; rw [if_neg h]; simp
  ·rw [if_neg e]; exact ziu ς
theorem znv : ∀ {l : List Nat}, (∃ c ∈ l, c ≠ 32) -> wd [] l ≠ []
 | [], h => by obtain ⟨c, hc, _⟩ := h; simp at hc
 | d :: l, ⟨c, hc, hn⟩ => by
  rw [wd]
  by_cases e : d = 32
  ·rw [if_pos e, fl0, List.nil_append];refine znv ⟨c, ?_, hn⟩;rcases yau.mp hc with rfl | hc
   ·exact absurd e hn
   ·exact hc
  ·rw [if_neg e]; exact ziu ς
theorem zd5 (x : Str) : Txt.stripChars x " " = "" ↔ wd [] x.cps.toList = [] := by
 obtain ⟨u, a, z, e1, e2, hu, hz, hall⟩ := zit (Str.ofString " ").cps.contains x;have key : Txt.stripChars x " " = "" ↔ a = [] := by
  constructor
  ·intro h;have : (Txt.stripChars x " ").cps.toList = [] := by rw [h]; rfl
   exact e2 ▸ this
  ·intro h;refine zbp ?_;show (Txt.stripBy (Str.ofString " ").cps.contains true true x).cps.toList = _;rw [e2, h]; rfl
 rw [key]
 constructor
 ·intro h;subst h;refine zkp fun c hc => ?_;rw [e1, List.append_nil] at hc;rcases yay.mp hc with hc | hc
  ·exact ya7 (zcN c ▸ hu c hc)
  ·exact ya7 (zcN c ▸ hz c hc)
 ·intro h;refine hall fun c hc => ?_;rw [zcN];refine ya9 (yax fun hn => znv ⟨c, hc, hn⟩ h)
section
variable {X : Cx}
def ziv (f : Str -> Str -> Str) : V -> List V -> Hp -> VK -> Prop := fun x vs H Q => ∃ z y, x = .str z /\ vs = [.str y] /\ z.length <= 1000000 /\ Q (.str (f z y)) H
theorem ziw : MtR X "str.strip" (ziv Txt.stripChars) := by
 intro Qa s σ H x vs v us Q I rx rv h;obtain ⟨z, y, rfl, rfl, hz, q⟩ := h;obtain ⟨t, rfl⟩ := rx;obtain ⟨u, rfl, ⟨t', rfl⟩⟩ := rv.one;exact SC.stripChars (fun t' k => ⟨.str _, H, I.tok _, ⟨t', rfl⟩, q⟩) (yat hz (by rw [sizeLine_eq]; decide))
theorem zj7 {f : Str -> Str -> Str} {x y : Str} {H : Hp} {Q : VK} : ziv f (.str x) [.str y] H Q = (x.length <= 1000000 /\ Q (.str (f x y)) H) := propext ⟨fun ⟨_, _, e, e', h⟩ => by cases e; cases e'; exact h, fun h => ⟨x, y, rfl, rfl, h⟩⟩
end
section
variable {X : Cx}
def zj8 : List V -> Hp -> VK -> Prop := fun xs H Q => zfS xs H Q \/ ∃ (x : Str) (n : Int), xs = [.str x] /\ PySem.intText? x = some n /\ x.length <= 640 /\ Q (.int n) H
theorem zd6 : zb4 X (.type "int") zj8 := by
 intro Qa s σ H xs us Q I r h;rcases h with h | ⟨x, n, rfl, hn, hl, q⟩
 ·exact zh0 Qa s σ H xs us Q I r h
 ·obtain ⟨u, rfl, ru⟩ := zcW r;obtain ⟨t, rfl⟩ := ru;exact W.KIN.call_text hn hl ⟨.int n, H, I.tok _, ⟨_, rfl⟩, q⟩
theorem zlt {H : Hp} {Q : VK} {i : Int} : zj8 [.int i] H Q = Q (.int i) H := by
 refine propext ⟨fun h => ?_, fun h => .inl (by rw [zh4]; exact h)⟩;rcases h with h | ⟨_, _, e, _⟩
 ·rwa [zh4] at h
 ·cases e
theorem zlu {H : Hp} {Q : VK} {b : Bool} : zj8 [.bl b] H Q = Q (.int (if b = true then 1 else 0)) H := by
 refine propext ⟨fun h => ?_, fun h => .inl (by rw [zh3]; exact h)⟩;rcases h with h | ⟨_, _, e, _⟩
 ·rwa [zh3] at h
 ·cases e
theorem zlv {H : Hp} {Q : VK} {x : Str} : zj8 [.str x] H Q = ∃ n, PySem.intText? x = some n /\ x.length <= 640 /\ Q (.int n) H := by
 refine propext ⟨fun h => ?_, fun ⟨n, h⟩ => .inr ⟨x, n, rfl, h⟩⟩;rcases h with h | ⟨_, n, e, h⟩
 ·rcases h with ⟨_, e, _⟩ | ⟨_, e, _⟩ <;> cases e
 ·cases e; exact ⟨n, h⟩
def znw (te : TE) : TE := fun σ H Q => te σ H fun x H1 => ∃ y, x = .str y /\ y.length <= 9000 /\ (∀ c ∈ y.cps.toList, c < 1114112) /\ ∀ out : Str, out.length <= 100000 -> Q (.str out) H1
theorem zlw {v : Expr} {te : TE} {x : Str} {j : Nat} {p1 p2 pos : Pos} (h : PE X v te) (hx : x.length <= 1000 := by decide)
  (hs : evalEach [.Constant (.str x) j p1, .FormattedValue v 114 none p2] X.env = [eval (.Constant (.str x) j p1) X.env, eval (.FormattedValue v 114 none p2) X.env] := by rfl) : PE X (.JoinedStr [.Constant (.str x) j p1, .FormattedValue v 114 none p2] pos) (znw te) := by
 intro Qa s σ H Q I hq;refine wpAny_JoinedStr ?_;rw [hs];refine Calls.Constant_str ⟨x, _, rfl, ?_, ?_⟩
 ·rw [strLen_append];exact yat (show Str.empty.length + x.length <= 1000 by show 0 + x.length <= 1000; omega) (by rw [sizeLine_eq]; decide)
 refine wpAny_FormattedValue_repr (thn (h Qa _ σ H _ (I.tok _) hq) fun u s1 ⟨z, H1, I1, r, q⟩ => ?_);obtain ⟨y, rfl, hl, hc, k⟩ := q;obtain ⟨t, rfl⟩ := (show ∃ t, u = Value.str y t from r)
 have hl : (PySem.reprText y).length <= 90002 := yat (zhF hc (yai _)) ω;have h2 : (Str.empty ++ x ++ PySem.reprText y).length <= 100000 := by
  rw [strLen_append, strLen_append];have : Str.empty.length = 0 := rfl;omega
 have h3 : (PySem.reprText y).length <= sizeLine := yat hl (by rw [sizeLine_eq]; decide);refine pyReprObj_str ?_ h3;have h4 : (Str.empty ++ x ++ PySem.reprText y).length <= sizeLine := yat h2 (by rw [sizeLine_eq]; decide);exact wpAny_formatField_str ⟨_, _, rfl, h4, h4, .str _, H1, I1.tok _, ⟨_, rfl⟩, k _ h2⟩ ⟨_, _, rfl, h4, h4, .str _, H1, I1.tok _, ⟨_, rfl⟩, k _ h2⟩ h3
def znx : V -> List V -> Hp -> VK -> Prop := fun x vs H Q => ∃ z y, x = .str z /\ vs = [.str y] /\ Q (.int (Txt.find z y)) H
theorem zlx : MtR X "str.find" znx := by
 intro Qa s σ H x vs v us Q I rx rv h;obtain ⟨z, y, rfl, rfl, q⟩ := h;obtain ⟨t, rfl⟩ := rx;obtain ⟨u, rfl, ⟨t', rfl⟩⟩ := rv.one;exact SC.find ⟨.int _, H, I.tok _, ⟨_, rfl⟩, q⟩
theorem zny {z y : Str} {H : Hp} {Q : VK} : znx (.str z) [.str y] H Q = Q (.int (Txt.find z y)) H := propext ⟨fun ⟨_, _, e, e', h⟩ => by cases e; cases e'; exact h, fun h => ⟨z, y, rfl, rfl, h⟩⟩
theorem znz {te : TE} {σ : St} {H : Hp} {Q : VK} : znw te σ H Q = te σ H fun x H1 => ∃ y, x = .str y /\ y.length <= 9000 /\ (∀ c ∈ y.cps.toList, c < 1114112) /\ ∀ out : Str, out.length <= 100000 -> Q (.str out) H1 := rfl
end
theorem zfC {h : Heap} {a : Addr} {o : Obj} {f : Obj -> Obj} (e : h.get? a = some o) (hf : f o = o) : h.update a f = h := by
 obtain ⟨e1, _⟩ := Heap.get?_some_iff.mp e;obtain ⟨objs, l⟩ := h;show (⟨objs.modify a f, l⟩ : Heap) = ⟨objs, l⟩;have : objs.modify a f = objs := by
  refine Array.ext_getElem? fun i => ?_;rw [Array.getElem?_modify]
  by_cases c : a = i
  ·subst c;rw [if_pos rfl, show objs[a]? = some o from e1, Option.map_some, hf]
  ·rw [if_neg c]
 rw [this]
section
variable {M : Model} {A : Around} {E : ZQ} {s : Shared} {env : Env}
def zd7 (M : Model) (A : Around) (E : ZQ) (Q : ZQ) (acc : Value) (cenv : Env) (r : Result) (s' : Shared) : Prop :=
 match r with
 | .ok _ => ∃ m, s'.heap.Ns cenv.locals m /\ ∀ h', Heap.SameBut cenv.locals s'.heap h' -> Q acc { s' with heap := h' }
 | .error x => ∃ m, s'.heap.Ns cenv.locals m /\ ∀ h', Heap.SameBut cenv.locals s'.heap h' -> wpAny M A (passOn "comprehension.variables-let-go" x cenv : Sem Value) (fun _ _ => False) E { s' with heap := h' }
theorem zfD {e : Expr} {scope : Scope} {pos : Pos} {newAcc first : Sem Value} {g : Comprehension} {gs : List Comprehension} {cl : List (Str × Addr)} {Q : ZQ}
  (hcl : clausesOf e = g :: gs) (hs : ∀ x, foldedSetIterable g.iter env x = pure x) (hclos : closureFor scope env = pure cl)
  (hkind : scope.kind = .function) (hnames : ∀ x ∈ scope.names, x.2 = .local -> scope.names.lookup x.1 = some .local)
  (h : wpAny M A first (fun x s₁ => wpAny M A (pyIter x) (fun it s₂ => wpAny M A newAcc (fun acc s₃ =>
   wpAny M A (newFunctionEnv scope env.globals cl [] env.qual none .none (some env)) (fun cenv s₄ =>
    codeAny M A (.compStart e 0 it acc { cenv with scope := relabel scope env }) (zd7 M A E Q acc { cenv with scope := relabel scope env }) s₄) E s₃) E s₂) E s₁) E s) :
  wpAny M A (comprehension e scope env pos newAcc false first none) Q E s := by
 unfold comprehension;rw [hclos, hcl];refine yaa (wpAny_mono h (fun x s₁ h₁ => yaa (wpAny_standAt (yaa (wpAny_of_eq (hs x) (yaa (wpAny_holding (wpAny_mono h₁ (fun it s₂ h₂ =>
  wpAny_standIf (yaa (wpAny_mono h₂ (fun acc s₃ h₃ => yaa (yab (yaa (wpAny_mono h₃ (fun cenv s₄ h₄ => ?_) fun _ _ h' => h')))) fun _ _ h' => h')))
   fun _ _ h' => h'))))))) fun _ _ h' => h')
 dsimp only;have hv : ∀ x ∈ (scope.names.filter fun x => (x.2 == .local || x.2 == .cell) && x.1 != (".0" : Str)).reverse, x.2 = .local ->
   Env.kindOf { cenv with scope := relabel scope env } x.1 = some .local := fun x hx hl => lookup_relabel_local (hnames x (List.mem_filter.mp (List.mem_reverse.mp hx)).1 hl)
 refine wpAny_holding (yaa (wpAny_attempt (wpAny_holding (wpAny_run (codeAny_mono h₄ fun r s' hr => ?_)))));cases r with
 | ok f =>
  obtain ⟨m, hn, hr⟩ := hr;exact yaa (wpAny_holding (wpAny_comp_letGo (cenv := { cenv with scope := relabel scope env }) hkind _ s' m hv hn fun h' m' _ hs' => yab (hr h' hs')))
 | error x =>
  obtain ⟨m, hn, hr⟩ := hr;exact yaa (wpAny_holding (wpAny_comp_letGo (cenv := { cenv with scope := relabel scope env }) hkind _ s' m hv hn fun h' m' _ hs' => wpAny_mono (hr h' hs') (fun _ _ f => f.elim) fun _ _ y => y))
end
section
variable {prog : Program} {w : World} {A : Around} {R : Result -> Shared -> Prop} {s : Shared}
theorem zer {elt target iter : Expr} {ifs : List Expr} {scope : Scope} {pos : Pos} {it acc : Value} {env : Env} {E : ZQ} (hE : ∀ u s, E u s -> notedBy (model prog w) A env (fun x s' => R (.error x) s') u s) (I : Nat -> Shared -> Prop)
  (turn : ∀ n s, I n s -> wpAny (model prog w) A (pyNext it) (fun r s₁ => match r with
   | none => R (.ok .next) s₁
   | some v => wpAny (model prog w) A (letOwnedTupleGo target it v) (fun _ s₁' => wpAny (model prog w) A (assign target env v) (fun _ s₂ =>
     wpAny (model prog w) A (forIn ifs true fun c r => if r = true then do let ok <- isTrue c env (eval c env); pure (ForInStep.yield ok) else pure (ForInStep.yield r)) (fun ok s₃ =>
      if ok = true then wpAny (model prog w) A (eval elt env) (fun x s₄ =>
       wpAny (model prog w) A (call (.builtin "list.append") [acc, x]) (fun _ s₅ => ∃ m, m < n /\ I m s₅) E s₄) E s₃
      else ∃ m, m < n /\ I m s₃) E s₂) E s₁') E s₁) E s)
  (n : Nat) (h : I n s) :
  codeAny (model prog w) A (.compLoop (.ListComp elt [⟨target, iter, ifs, 0⟩] scope pos) 0 it acc env) R s := by
 refine codeAny_loop rfl I (fun n s hI => ?_) n h;show wpAny _ A ((compTurn (.ListComp elt [⟨target, iter, ifs, 0⟩] scope pos) 0 it acc env).onRaise (fun x => do noteFrame x env; theTreesLotGoes x)) _ _ s;refine wpAny_noted ?_;rw [compTurn_list];refine yaa (wpAny_standAt (yaa (wpAny_mono (turn n s hI) (fun r s₁ h₁ => ?_) fun _ _ h' => hE _ _ h')));cases r with
 | none => exact yab h₁
 | some v =>
  refine yaa (wpAny_mono h₁ (fun _ s₁' h₁' => ?_) fun _ _ h' => hE _ _ h');refine yaa (wpAny_mono h₁' (fun _ s₂ h₂ => yaa (wpAny_mono h₂ (fun ok s₃ h₃ => ?_) fun _ _ h' => hE _ _ h')) fun _ _ h' => hE _ _ h');cases ok with
  | false => exact yab ⟨rfl, h₃⟩
  | true =>
   exact yaa (yaa (wpAny_mono h₃ (fun x s₄ h₄ => yaa (wpAny_mono h₄ (fun _ s₅ h₅ => yab (yab ⟨rfl, h₅⟩)) fun _ _ h' => hE _ _ h')) fun _ _ h' => hE _ _ h'))
end
def YE (X : Cx) (NC : List Str) (csc : Scope) (Gx : Addr -> Hp -> Prop) (C : Addr) (s₁ : Shared) (H₁ : Hp) (ex : List Addr) : ZQ := fun u s' =>
 ∃ e Cl l σ' H', u = .ref e /\ Inv (cxC X NC csc C s₁ H₁ ex) [] σ' H' s' /\ Air s'.heap e Cl (some .none) l /\ (∀ b ∈ l, (∀ o, s₁.heap.get? b = some o -> b ∈ ex) /\ H' b = none) /\ Gx Cl H'
abbrev cxX (X : Cx) (NC : List Str) (csc : Scope) (Gx : Addr -> Hp -> Prop) (C : Addr) (s₁ : Shared) (H₁ : Hp) (ex : List Addr) : Cx := (cxC X NC csc C s₁ H₁ ex).wish (YE X NC csc Gx C s₁ H₁ ex)
section
variable {X : Cx} {NC : List Str} {csc : Scope} {Gx : Addr -> Hp -> Prop} {C : Addr} {s₁ : Shared} {H₁ : Hp} {ex : List Addr}
theorem YE.comes {Qa : ZP} {σ : St} {H : Hp} {s s' : Shared} {u : Value} (I : Inv (cxX X NC csc Gx C s₁ H₁ ex) Qa σ H s) (h : CXX X.prog X.w X.stack H s (fun c _ H' => ∃ C, c = .ref C /\ Gx C H') u s') : YE X NC csc Gx C s₁ H₁ ex u s' := by
 obtain ⟨e, Cl, l, H', rfl, ⟨C', hc, g⟩, ho, hb, un, hok, a, hl⟩ := h;cases hc;have J : Inv (cxC X NC csc C s₁ H₁ ex) Qa σ H' s' := (I.unwish).call' (ch := []) ho un hok hb (fun b z => absurd z ς);refine ⟨e, Cl, l, σ, H', rfl, J.pins_of fun p hp => (nomatch hp), a, fun b hb => ⟨fun o q => ?_, (hl b hb).2⟩, g⟩;refine yax fun n => ?_;obtain ⟨o', k⟩ := I.base.there b o q n;rw [(hl b hb).1] at k; cases k
variable {k : Nat} {f : Addr} {fd : FuncData} {ps : List Str} {sp : Sp} {dvs : List V} {ds : List Value} {x : Str} {p pos : Pos} {e : Expr} {es : List Expr} {t : TA}
theorem zd8 (F : FnOk X.prog X.w X.K X.mg X.base (CXX X.prog X.w) k f fd ps sp) (hr : Room k X.A) (hg : Gl (cxX X NC csc Gx C s₁ H₁ ex) x) (hm : X.mg x = some (.ref f)) (hk : W.keepIn X.K (.ref f) = true) (hb : Binds X.K fd ps ds) (hd : Vals dvs ds)
  (ha : PA (cxX X NC csc Gx C s₁ H₁ ex) (e :: es) t) (hdb : (x == ("__debug__" : Str)) = false := by decide) (he : starEach (e :: es) (cxX X NC csc Gx C s₁ H₁ ex).env = (false, eval e (cxX X NC csc Gx C s₁ H₁ ex).env) :: starEach es (cxX X NC csc Gx C s₁ H₁ ex).env := by rfl) (hpl : (backTo pos (starEach es (cxX X NC csc Gx C s₁ H₁ ex).env)).any (·.1) = false := by rfl) :
  PE (cxX X NC csc Gx C s₁ H₁ ex) (.Call (.Name x p) (e :: es) [] pos) (zhD sp dvs (fun C _ H' => Gx C H') t) := by
 intro Qa s σ H Q I h;refine wpAny_Call_Name_kw (zcx I hg hm ?_ hdb);refine W.callWith_K (h₀ := X.base) I.ok.mod.kin hk (thn (ha pos Qa s σ H _ I h) fun us s1 ⟨vs, H1, I1, r, q⟩ => ⟨I1.kIn, ?_⟩) he hpl;have r2 : Vals (vs ++ dvs) (us ++ ds) := r.append hd;have hl : (us ++ ds).length = ps.length := by rw [<- r2.length]; exact F.len _ _ _ _ q
 refine wpAny_call (codeAny_mono (F.run X.A X.stack s1 H1 ⟨us, []⟩ (us ++ ds) (vs ++ dvs) Q _ hr I1.env0 (hb s1 us I1.kIn hl) r2 q) fun r s' hq => ?_);cases r with
 | error e => exact YE.comes I1 hq
 | ok fl =>
  cases fl with
  | ret u => exact I1.after hq
  | next => exact False.elim hq
  | brk => exact False.elim hq
  | cont => exact False.elim hq
end
section
variable {X : Cx} {NC : List Str} {csc : Scope} {nt : Nat} {is : List Nat} {Gx : Addr -> Hp -> Prop} {Qa : ZP} {σ : St} {H : Hp} {s : Shared}
theorem zix {elt tg iter : Expr} {ifs : List Expr} {pos : Pos} {wi : TI} {g : TG} {tt : TT} {te : TE} {Q : VK} {epos : Pos} (Fn : Fnc X) (ho : Out X fun C _ H' => Gx C H')
  (S : CompSc X NC nt is csc) (hc : X.calm = true) (hi : PI X tg iter wi)
  (hg : ∀ C s H ex, PG (cxX X NC csc Gx C s H ex) tg g) (ht : ∀ C s H ex, PIf (cxX X NC csc Gx C s H ex) ifs tt) (he : ∀ C s H ex, PE (cxX X NC csc Gx C s H ex) elt te)
  (hgk : ∀ x (σ : St) H Q, g x σ H Q -> g x σ H fun σ2 H2 => σ2.drop nt = σ.drop nt /\ Q σ2 H2)
  (I : Inv X Qa σ H s) (h : zg6 wi nt is g tt te σ H Q)
  (hs : ∀ x, foldedSetIterable iter X.env x = pure x) :
  wpAny (model X.prog X.w) X.A (comprehension (.ListComp elt [⟨tg, iter, ifs, 0⟩] csc pos) csc X.env epos (newList []) false (eval iter X.env) none) (EP X Qa σ Q) X.xe s := by
 have hcells := S.has_cells I;have hnames : ∀ x ∈ csc.names, x.2 = .local -> csc.names.lookup x.1 = some .local := fun x hx hl => by
  have q := List.all_eq_true.mp S.locs x hx;simpa [hl] using q
 have hcell : ∀ y ∈ csc.names, y.2 ≠ .cell := fun y hy e => by
  obtain ⟨n, k⟩ := y;have e' : k = .cell := e;subst e';exact S.no_cell hy
 refine zfD (g := ⟨tg, iter, ifs, 0⟩) (gs := []) (cl := clos X.env.cells csc.names []) rfl hs (zcg hcells) S.kind hnames ?_;refine thn (hi Qa s σ H _ I h) fun v s1 h1 => thn h1 fun itv s2 h2 => ?_;obtain ⟨it, fp, tn, J, H2, rfl, I2, T, st2, f2, W, ⟨m0, w0⟩, turn⟩ := h2;have fo : ∀ b ∈ fp, ∃ o, s2.heap.get? b = some o := fun b hb => let ⟨o, e, _⟩ := T.obj 0 _ st2 b hb; ⟨o, e⟩;have flt := zk3 fo;refine wpAny_newObj_type (wpAny_newFunctionEnv hcell (by intro y hy; simp at hy) (fun h₁ hns₁ hsb₁ => ?_) S.kind);dsimp only at hns₁ hsb₁ ⊢;generalize hH2 : s2.heap.push { cls := .type "list", dict := none, data := .seq ([] : List Value).toArray } = P2 at hns₁ hsb₁ ⊢;have hCs : P2.objs.size = s2.heap.objs.size + 1 := by rw [<- hH2, Heap.size_push]
 generalize hCC : P2.objs.size = C at hns₁ hsb₁ hCs ⊢;generalize hDD : s2.heap.objs.size = D at hCs ⊢;have hD : s2.heap.objs.size <= D := Nat.le_of_eq hDD;have hC : s2.heap.objs.size <= C := by omega
 have hDC : D ≠ C := by omega
 have old : ∀ b o, s2.heap.get? b = some o -> h₁.get? b = some o := fun b o e => hsb₁.extBut b o (Nat.ne_of_lt (Nat.lt_of_lt_of_le (yan e) hC)) (yac _ (hH2 ▸ yac _ e));have accO : h₁.get? D = some { cls := .type "list", data := .seq ([] : List Value).toArray 0 } := by
  refine hsb₁.extBut _ _ hDC (yac _ ?_);rw [<- hH2, <- hDD];exact yaj _ rfl
 have Istart : Inv (cxX X NC csc Gx C s2 H2 fp) [] (za1 nt is σ) H2 { s2 with heap := h₁, toks := s2.toks + ([] : List (Str × Value)).length } := (zeH S I2 f2 fo hC old hns₁).wish _;have HD0 : H2 D = none := I2.hok.fresh hD;have HC0 : H2 C = none := I2.hok.fresh hC;have fpY : ∀ {H' : Hp} {pl : ZP}, (∀ b ∈ fp, H' b = none) -> (∀ p ∈ pl, p.1 ∉ fp) -> ∀ b ∈ fp, FpOk (cxX X NC csc Gx C s2 H2 fp) pl H' b := fun {H' pl} hn hp b hb => by
  obtain ⟨_, g1, g2, g3, g4, g5⟩ := f2 b hb;refine ⟨hn b hb, Nat.ne_of_lt (Nat.lt_of_lt_of_le (flt b hb) hC), fun z => ?_, .inl hb, fun x c e => g4 x c (zbI csc.names [] x c hcells (by intro d hd; simp at hd) e), fun p hpp z => ?_⟩
  ·rcases yau.mp (I2.stkSub b z) with e | e
   ·exact g1 e
   ·exact g2 e
  ·exact hp p (by simpa using hpp) (z ▸ hb)
 have dne : D ∉ fp := fun hb => absurd (flt D hb) (Nat.not_lt.mpr hD);have cellD : ∀ {σ' : St} {H' : Hp} {s' : Shared} {pl : ZP} {its : List Value} {n : Nat}, Inv (cxX X NC csc Gx C s2 H2 fp) pl σ' H' s' -> s'.heap.get? D = some { cls := .type "list", data := .seq its.toArray n } ->
   ∀ x c, (cxX X NC csc Gx C s2 H2 fp).env.cells.lookup x = some c -> c ≠ D := fun {σ' H' s' pl its n} K e x c hx z => by
  obtain ⟨v, o, ho, hd⟩ := K.cell x c hx;rw [z, e] at ho; cases ho; cases hd
 have cellC : ∀ x c, X.env.cells.lookup x = some c -> c ≠ C := fun x c e z => by
  obtain ⟨v, o, ho, _⟩ := I2.cell x c e;exact absurd (yan ho) (Nat.not_lt.mpr (by rw [z]; exact hC))
 have pinC : ∀ p ∈ X.pn ++ Qa, p.1 ≠ C := fun p hp z => absurd (yan (I2.pin p hp).1) (Nat.not_lt.mpr (by rw [z]; exact hC));have cL : C ≠ X.env.locals := fun z => absurd I2.lt (Nat.not_lt.mpr (by rw [<- z]; exact hC));have exc : ∀ u s', YE X NC csc Gx C s2 H2 fp u s' -> notedBy (model X.prog X.w) X.A (compEnvC csc (clos X.env.cells csc.names []) C X.env) (fun x s' => zd7 (model X.prog X.w) X.A X.xe (EP X Qa σ Q) (.ref D) (compEnvC csc (clos X.env.cells csc.names []) C X.env) (.error x) s') u s' := by
  rintro u s' ⟨e, Cl, l, σ', H', rfl, J, a, hl, g⟩
  have JX : Inv X Qa σ H' s' := I2.call' (ch := fp) J.os J.base J.hok J.bare fun b hb => by
   obtain ⟨_, f1, _, f3, f4, f5⟩ := f2 b hb;exact ⟨f3, f1, f4, f5⟩
  obtain ⟨m, hm, _⟩ := J.loc;have nC : H' C = none := J.free;obtain ⟨oC, es, ep, hoC, hdC, hrC⟩ := hm;have hoC' : s'.heap.get? C = some oC := hoC;have lC : ∀ b ∈ l, b ≠ C := fun b hb z => by
   obtain ⟨o, vs, h1, h2⟩ := a.flds b hb;rw [z, hoC'] at h1; cases h1;rw [hdC] at h2; cases h2
  have JP : Inv X [(C, oC)] σ H' s' := JX.pins_of fun p hp => by
   have e : p = (C, oC) := by simpa using hp
   subst e;refine ⟨hoC', nC, cL, I2.nofs hC, fun v z => ?_⟩;rw [hdC] at z; cases z
  have F' : Fnc (X.at [(C, oC)] X.xe) := ⟨Fn.stk, Fn.fr, Fn.ex⟩
  have x : XF (X.at [(C, oC)] X.xe) (fun C _ H' => Gx C H') (.ref e) s' := by
   refine ⟨some .none, .inr (.inl rfl), e, Cl, l, σ, H', rfl, JP.at _, a, fun b hb => ⟨?_, (hl b hb).2, fun p hp z => ?_⟩, g⟩
   ·cases q : X.s₀.heap.get? b with
    | none => rfl
    | some o =>
     obtain ⟨o', k⟩ := I2.base.there b o q (by rw [Fn.ex]; simp);obtain ⟨_, _, _, f3, _⟩ := f2 b ((hl b hb).1 o' k);rcases f3 with f3 | f3
     ·rw [Fn.ex] at f3; cases f3
     ·exact absurd (yan q) (Nat.not_lt.mpr f3)
   ·rcases yay.mp hp with hp | hp
    ·have q := (I2.pin p (List.mem_append_left _ hp)).1;rw [z] at q;obtain ⟨_, _, _, _, _, f5⟩ := f2 b ((hl b hb).1 _ q);exact f5 p (List.mem_append_left _ hp) z
    ·have e : p = (C, oC) := by simpa using hp
     subst e;exact lC b hb z.symm
  show wpAny (model X.prog X.w) X.A (noteFrame (.ref e) X.env) _ _ s';refine XF.note (X := X.at [(C, oC)] X.xe) F' x fun s4 x4 => ?_;obtain ⟨e', Cl', l', σ4, H4, he, I4, a4, hl4, g4⟩ := x4;cases he;have hC4 : s4.heap.get? C = some oC := (I4.pin (C, oC) ς).1;have lC4 : ∀ b ∈ l', b ≠ C := fun b hb z => (hl4 b hb).2.2 (C, oC) ς z.symm;have J4 : Inv X [(C, oC)] σ4 H4 s4 := I4.unat;have nC4 : H4 C = none := (I4.pin (C, oC) ς).2.1;refine ⟨m, ⟨oC, es, ep, hC4, hdC, hrC⟩, fun h' hsb => ?_⟩;have J5 : Inv X [] σ4 H4 { s4 with heap := h' } := (J4.pins_of (pins' := []) fun p hp => (nomatch hp)).turned (t' := s4.toks) (fun b o hb e => hsb.extBut b o hb e) nC4 cL (.inr (yat I2.sz hC)) cellC fun p hp => pinC p (by rw [List.append_nil] at hp; exact List.mem_append_left _ hp);obtain ⟨oe, vs, a0, h1, h2, h3, h4, T', oT, ts, rfl, q1, q2, q3, q4, q5⟩ := a4;have k1 : h'.get? e = some oe := hsb.extBut e oe (lC4 e ς) h1;have k2 : h'.get? T' = some oT := hsb.extBut T' oT (lC4 T' ς) q3;have hsz : 3 < ts.size := (Array.getElem?_eq_some_iff.mp q5).1;unfold PySem.passOn;refine yaa (wpAny_field k1 h3 q1 ?_);rw [if_neg ς];refine yaa ?_;show wpAny _ _ (setFlight (.ref e) X.env.frame) _ _ _;rw [Fn.fr];unfold setFlight;refine yaa (wpAny_field k1 h3 q1 ?_);rw [if_pos ς];refine wpAny_setField k2 q4 hsz ?_;have same : Obj.mapFields (·.setIfInBounds 3 (rawInt X.env.locals)) oT = oT := by
   obtain ⟨oc, od, odt, osl⟩ := oT;have : odt = .fields ts := q4;subst this;show (⟨oc, od, .fields (ts.setIfInBounds 3 (rawInt X.env.locals)), osl⟩ : Obj) = _;have : ts.setIfInBounds 3 (rawInt X.env.locals) = ts := by
    refine Array.ext_getElem? fun i => ?_;rw [Array.getElem?_setIfInBounds]
    by_cases c : 3 = i
    ·subst c;rw [if_pos rfl, if_pos hsz, q5]
    ·rw [if_neg c]
   rw [this]
  have e6 : h'.update T' (Obj.mapFields fun x => x.setIfInBounds 3 (rawInt X.env.locals)) = h' := zfC k2 same;show wpAny _ _ (throw (Value.ref e) : Sem Value) _ _ { s4 with heap := h'.update T' (Obj.mapFields fun x => x.setIfInBounds 3 (rawInt X.env.locals)) };rw [e6];refine wpAny_throw (ho _ _ ⟨some (rawInt X.env.locals), .inr (.inr rfl), e, Cl', [e, T'], σ4, H4, rfl, J5, ⟨oe, vs, a0, k1, h2, h3, h4, T', oT, ts, rfl, q1, q2, k2, q4, q5⟩, fun b hb => ⟨(hl4 b hb).1, (hl4 b hb).2.1, fun p hp => (hl4 b hb).2.2 p (List.mem_append_left _ hp)⟩, g4⟩)
 have loop : ∀ s₃ : Shared, s₃ = { s2 with heap := h₁, toks := s2.toks + ([] : List (Str × Value)).length } ->
   codeAny (model X.prog X.w) X.A (.compLoop (.ListComp elt [⟨tg, iter, ifs, 0⟩] csc pos) 0 (.ref it) (.ref D) (compEnvC csc (clos X.env.cells csc.names []) C X.env)) (zd7 (model X.prog X.w) X.A X.xe (EP X Qa σ Q) (.ref D) (compEnvC csc (clos X.env.cells csc.names []) C X.env)) s₃ := by
  rintro s₃ rfl
  refine zer (E := YE X NC csc Gx C s2 H2 fp) exc (fun n s' => ∃ i H' acc its k, Inv (cxX X NC csc Gx C s2 H2 fp) [] (za1 nt is σ) H' s' /\ tn i s'.heap /\ (∀ b ∈ fp, H' b = none) /\ s'.heap.get? D = some { cls := .type "list", data := .seq its.toArray k } /\ H' D = none /\
   Vals acc its /\ acc.length <= sizeLine /\ W i n acc H') ?_ m0 ⟨0, H2, [], [], 0, Istart, T.keep _ _ _ st2 (fun b hb o e => old b o e), fun b hb => (f2 b hb).1, accO, HD0, .nil, yaq _, w0⟩
  rintro n s3 ⟨i, H3, acc, its, k, I3, st3, fr3, o3, n3, v3, z3, w3⟩
  have pinD : Inv (cxX X NC csc Gx C s2 H2 fp) [(D, { cls := .type "list", data := .seq its.toArray k })] (za1 nt is σ) H3 s3 := I3.pins_of fun p hp => by
   have e : p = (D, { cls := .type "list", data := .seq its.toArray k }) := by simpa using hp
   subst e;refine ⟨o3, n3, hDC, fun z => ?_, fun v z => by cases z⟩;rcases yau.mp (I2.stkSub D z) with e | e
   ·exact absurd I2.lt (Nat.not_lt.mpr (by rw [<- e]; exact hD))
   ·exact I2.nofs hD e
  have fpD : ∀ p ∈ [((D, { cls := .type "list", data := .seq its.toArray k }) : Addr × Obj)], p.1 ∉ fp := fun p hp => by
   have e : p = (D, { cls := .type "list", data := .seq its.toArray k }) := by simpa using hp
   subst e; exact dne
  rcases turn i n acc H3 w3 with ⟨stop, qn⟩ | ⟨go, Qe, N, hN, step⟩
  ·refine thn (T.done (cxX X NC csc Gx C s2 H2 fp) rfl rfl rfl hc i _ s3 _ H3 _ pinD (fpY fr3 fpD) st3 stop) fun r s4 ⟨hr, I4⟩ => ?_;subst hr;obtain ⟨e4, n4, _⟩ := I4.pin (D, { cls := .type "list", data := .seq its.toArray k }) (List.mem_append_right _ (yah.mpr rfl));have J := zdO (NC := NC) (csc := csc) I2 f2 I4.unwish hC hD e4 n4 v3 z3;obtain ⟨m4, hm4, _⟩ := I4.loc;have nC : H3 C = none := I4.free;have c1 : C ≠ X.env.locals := fun z => absurd I2.lt (Nat.not_lt.mpr (by rw [<- z]; exact hC));refine ⟨m4, hm4, fun h' hsb => ?_⟩;exact ⟨.ref D, _, J.turned (t' := s4.toks) (fun b o hb e => hsb.extBut b o hb e) (show upd H3 D (.lst acc) C = none by rw [za6 (Ne.symm hDC)]; exact nC) c1 (.inr (yat I2.sz hC)) cellC pinC, rfl, qn D n4⟩
  ·refine thn (T.item (cxX X NC csc Gx C s2 H2 fp) rfl rfl rfl hc i _ s3 _ H3 _ pinD (fpY fr3 fpD) st3 go) fun r s4 ⟨u, hr, h4⟩ => ?_;subst hr;refine thn h4 fun _ s5 ⟨x, H5, I5, r5, y5, st5, fr5⟩ => ?_;have I5' := I5.pinned (fpY fr5 fpD) (T.obj _ _ st5);refine thn (hg C s2 H2 fp _ s5 _ H5 x u _ I5' r5 (hgk _ _ _ _ (step x H5 y5))) fun _ s6 ⟨σ6, H6, I6, d6, q6⟩ => ?_;refine thn (ht C s2 H2 fp _ s6 σ6 H6 _ I6 q6) fun ok s7 ⟨H7, I7, q7⟩ => ?_;have tnk : ∀ {σ' : St} {H' : Hp} {s' : Shared}, Inv (cxX X NC csc Gx C s2 H2 fp) ([(D, { cls := .type "list", data := .seq its.toArray k })] ++ zdJ fp s5.heap) σ' H' s' ->
     tn (i + 1) s'.heap /\ (∀ b ∈ fp, H' b = none) /\ s'.heap.get? D = some { cls := .type "list", data := .seq its.toArray k } /\ H' D = none := fun {σ' H' s'} K => by
    refine ⟨T.keep _ _ _ st5 fun b hb o e => (K.pin (b, o) (List.mem_append_right _ (List.mem_append_right _ (zbF hb e)))).1, fun b hb => ?_, ?_, ?_⟩
    ·obtain ⟨o, e, d⟩ := T.obj _ _ st5 b hb;exact (K.pin (b, o) (List.mem_append_right _ (List.mem_append_right _ (zbF hb e)))).2.1
    ·exact (K.pin (D, { cls := .type "list", data := .seq its.toArray k }) (List.mem_append_right _ (List.mem_append_left _ (yah.mpr rfl)))).1
    ·exact (K.pin (D, { cls := .type "list", data := .seq its.toArray k }) (List.mem_append_right _ (List.mem_append_left _ (yah.mpr rfl)))).2.1
   have reset : ∀ {σ' : St} {H' : Hp} {s' : Shared} {pl : ZP}, σ'.drop nt = (za1 nt is σ).drop nt -> Inv (cxX X NC csc Gx C s2 H2 fp) pl σ' H' s' -> Inv (cxX X NC csc Gx C s2 H2 fp) [] (za1 nt is σ) H' s' := fun {σ' H' s' pl} hd K => by
    have K0 : Inv (cxX X NC csc Gx C s2 H2 fp) [] σ' H' s' := K.pins_of fun p hp => absurd hp ς;refine K0.weak ?_ fun j v hj => ?_
    ·rw [zcH, K.len]; exact S.len.symm
    ·by_cases hjn : j < nt
     ·exfalso
      unfold za1 at hj;rw [ya5 (by simpa using hjn), List.getElem?_replicate, if_pos hjn] at hj;cases hj
     ·have q := congrArg (fun l => l[j - nt]?) hd;simp only [List.getElem?_drop] at q;rw [show nt + (j - nt) = j by omega] at q;rw [q]; exact hj
   cases ok with
   | false =>
    obtain ⟨m', lt, w7⟩ : ∃ m', m' < n /\ W (i + 1) m' acc H7 := hN _ _ q7;obtain ⟨t7, f7, e7, n7⟩ := tnk I7;exact ⟨m', lt, i + 1, H7, acc, its, k, reset d6 I7, t7, f7, e7, n7, v3, z3, w7⟩
   | true =>
    have q7' : te σ6 H7 fun y H4 => N (acc ++ [y]) H4 := q7;refine thn (he C s2 H2 fp _ s7 σ6 H7 _ I7 q7') fun u8 s8 ⟨y, H8, I8, r8, qN⟩ => ?_;obtain ⟨m', lt, w8⟩ := hN _ _ qN;obtain ⟨t8, f8, e8, n8⟩ := tnk I8;have I8r := reset d6 I8;have hl := v3.length;refine call_meets F.slot_list_append ⟨_, e8, rfl⟩ F.entry_list_append (F.args_list_append_2 _ _) (PySem.list_append D its.toArray k u8 (by rw [yad]; omega)) ⟨e8, ?_⟩;have q := PySem.IsL.update e8 (fun a => a.push u8);have hq : (its.toArray.push u8) = (its ++ [u8]).toArray := by simp
    rw [hq] at q;have kk : ∀ b o, b ≠ D -> s8.heap.get? b = some o -> (s8.heap.update D (Obj.mapSeq fun a => a.push u8)).get? b = some o := fun b o hb e => (Heap.get?_update_other s8.heap _ (Ne.symm hb)).trans e;refine ⟨m', lt, i + 1, H8, acc ++ [y], its ++ [u8], _, I8r.turned (t' := s8.toks) kk n8 hDC (.inr hD) (cellD I8r e8) (fun p hp => absurd (show p ∈ ([] : ZP) from hp) ς), T.keep _ _ _ t8 (fun b hb o e => kk b o (fun z => dne (z ▸ hb)) e), f8, q, n8, v3.append (.cons r8 .nil), ?_, w8⟩;rw [yae, yas];omega
 exact codeAny_compStart_list (loop _ rfl) (T.self X.A 0 _ _ _ (T.keep _ _ _ st2 (fun b hb o e => old b o e)) (loop _ rfl))
theorem zes {elt tg iter : Expr} {ifs : List Expr} {pos : Pos} {wi : TI} {g : TG} {tt : TT} {te : TE} (nt : Nat) (is : List Nat) (NC : List Str) (Fn : Fnc X) (ho : Out X fun C _ H' => Gx C H')
  (S : CompSc X NC nt is csc) (hc : X.calm = true) (hi : PI X tg iter wi)
  (hg : ∀ C s H ex, PG (cxX X NC csc Gx C s H ex) tg g) (hgk : ∀ x (σ : St) H Q, g x σ H Q -> g x σ H fun σ2 H2 => σ2.drop nt = σ.drop nt /\ Q σ2 H2)
  (ht : ∀ C s H ex, PIf (cxX X NC csc Gx C s H ex) ifs tt) (he : ∀ C s H ex, PE (cxX X NC csc Gx C s H ex) elt te)
  (hs : ∀ x, foldedSetIterable iter X.env x = pure x := by intro _; rfl) : PE X (.ListComp elt [⟨tg, iter, ifs, 0⟩] csc pos) (zg6 wi nt is g tt te) := by
 intro Qa s σ H Q I h;rw [eval_ListComp];exact zix Fn ho S hc hi hg ht he hgk I h hs
end
end L2
namespace L2
open PySem
theorem i0 {x : V} {r : List V} : atI (x :: r) 0 = some x := zam (j := 0) rfl
theorem i1 {x y : V} {r : List V} : atI (x :: y :: r) 1 = some y := zam (j := 1) rfl
theorem i2 {x y z : V} {r : List V} : atI (x :: y :: z :: r) 2 = some z := zam (j := 2) rfl
theorem i3 {x y z u : V} {r : List V} : atI (x :: y :: z :: u :: r) 3 = some u := zam (j := 3) rfl
end L2
namespace L2
open PySem PySem.Spec PyProof.Rows
abbrev CB (K : W.Frag) (mg : Str -> Option Value) (n : Str) (a : Addr) (d : FuncData) (ps : List Str) : Prop := mg n = some (.ref a) /\ W.keepIn K (.ref a) = true /\ Binds K d ps []
theorem YC {X : Cx} {k : Nat} {f : Addr} {fd : FuncData} {ps : List Str} {sp : Sp} {x : Str} {p pos : Pos} {e : Expr} {es : List Expr} {t : TA} (F : FnOk X.prog X.w X.K X.mg X.base CX0 k f fd ps sp) (hr : Room k X.A) (hg : Gl X x) (hB : CB X.K X.mg x f fd ps) (ha : PA X (e :: es) t) (hdb : (x == ("__debug__" : Str)) = false := by decide) (he : starEach (e :: es) X.env = (false, eval e X.env) :: starEach es X.env := by rfl) (hpl : (backTo pos (starEach es X.env)).any (·.1) = false := by rfl) : PE X (.Call (.Name x p) (e :: es) [] pos) (zkx sp [] E0 t) := zan F hr hg hB.1 hB.2.1 hB.2.2 .nil zaA ha hdb he hpl
abbrev FU (K : W.Frag) (n : Str) (s : Stmt) (a : Addr) (d : FuncData) : Prop := Fun K n n s a d
end L2
namespace K17
open PySem L2
def top (i : Nat) : Stmt := PySem.Challenge.pw_boxproof_k17_texts_of_worlds_read.main.body.getD i (.Pass ⟨0, 0, 0, 0⟩)
abbrev zbr : Stmt := top 11
abbrev zbs : Stmt := top 12
abbrev zaU : Stmt := top 13
abbrev zav : Stmt := top 19
abbrev zbt : Stmt := top 20
abbrev zbu : Stmt := top 21
abbrev zaV : Stmt := top 24
abbrev zaJ : Stmt := top 25
abbrev zaW : Stmt := top 26
abbrev zbi : Stmt := top 27
abbrev zcc : Stmt := top 28
abbrev zaK : Stmt := top 30
abbrev zaX : Stmt := top 31
abbrev zaC : Stmt := top 32
abbrev zaY : Stmt := top 33
abbrev zaH : Stmt := top 34
abbrev zaZ : Stmt := top 36
abbrev zbv : Stmt := top 37
abbrev zba : Stmt := top 38
abbrev zaD : Stmt := top 39
abbrev zbC : Stmt := top 41
abbrev zaL : Stmt := top 42
abbrev zbb : Stmt := top 43
abbrev zaM : Stmt := top 44
abbrev zbw : Stmt := top 45
abbrev zbc : Stmt := top 46
abbrev zbx : Stmt := top 47
abbrev zbD : Stmt := top 48
abbrev zbd : Stmt := top 49
abbrev zaI : Stmt := top 50
abbrev zaN : Stmt := top 51
abbrev zbj : Stmt := top 52
abbrev zaO : Stmt := top 53
abbrev za2 : Stmt := top 54
abbrev zaQ : Stmt := top 55
abbrev zet : Stmt := top 56
set_option genInjectivity false in
set_option genSizeOf false in
structure Defs where
 (a_d0 : Addr) (d_d0 : FuncData)
 (a_c7 : Addr) (d_c7 : FuncData)
 (a_b7 : Addr) (d_b7 : FuncData)
 (a_a0 : Addr) (d_a0 : FuncData)
 (a_c9 : Addr) (d_c9 : FuncData)
 (a_c5 : Addr) (d_c5 : FuncData)
 (a_b3 : Addr) (d_b3 : FuncData)
 (a_b1 : Addr) (d_b1 : FuncData)
 (a_b6 : Addr) (d_b6 : FuncData)
 (a_c3 : Addr) (d_c3 : FuncData)
 (a_d4 : Addr) (d_d4 : FuncData)
 (a_a8 : Addr) (d_a8 : FuncData)
 (a_c2 : Addr) (d_c2 : FuncData)
 (a_a3 : Addr) (d_a3 : FuncData)
 (a_b4 : Addr) (d_b4 : FuncData)
 (a_a4 : Addr) (d_a4 : FuncData)
 (a_b9 : Addr) (d_b9 : FuncData)
 (a_c8 : Addr) (d_c8 : FuncData)
 (a_b2 : Addr) (d_b2 : FuncData)
 (a_a2 : Addr) (d_a2 : FuncData)
 (a_d3 : Addr) (d_d3 : FuncData)
 (a_b0 : Addr) (d_b0 : FuncData)
 (a_c1 : Addr) (d_c1 : FuncData)
 (a_a6 : Addr) (d_a6 : FuncData)
 (a_c6 : Addr) (d_c6 : FuncData)
 (a_b8 : Addr) (d_b8 : FuncData)
 (a_d1 : Addr) (d_d1 : FuncData)
 (a_d2 : Addr) (d_d2 : FuncData)
 (a_c0 : Addr) (d_c0 : FuncData)
 (a_a5 : Addr) (d_a5 : FuncData)
 (a_a7 : Addr) (d_a7 : FuncData)
 (a_c4 : Addr) (d_c4 : FuncData)
 (a_a9 : Addr) (d_a9 : FuncData)
 (a_a1 : Addr) (d_a1 : FuncData)
 (a_b5 : Addr) (d_b5 : FuncData)
 (a_d5 : Addr) (d_d5 : FuncData)
 (k_KEPT_WORDS : Addr)
 (x_BoxError : Addr)
 (x_NoStatement : Addr)
 (x_NoName : Addr)
 (x_NoWorld : Addr)
 (x_NoBox : Addr)
 (x_NoLines : Addr)
 (x_NotShut : Addr)
set_option genInjectivity false in
set_option genSizeOf false in
structure Tx (K : W.Frag) (mg : Str -> Option Value) (D : Defs) : Prop where
 F_d0 : FU K "rows_in" zbr D.a_d0 D.d_d0
 m_d0 : CB K mg "rows_in" D.a_d0 D.d_d0 ["text"]
 F_c7 : FU K "runs_in" zbs D.a_c7 D.d_c7
 m_c7 : CB K mg "runs_in" D.a_c7 D.d_c7 ["row"]
 F_b7 : FU K "is_number" zaU D.a_b7 D.d_b7
 m_b7 : CB K mg "is_number" D.a_b7 D.d_b7 ["text"]
 F_a0 : FU K "begins_and_goes_on" zav D.a_a0 D.d_a0
 m_a0 : CB K mg "begins_and_goes_on" D.a_a0 D.d_a0 ["text", "first_signs"]
 F_c9 : FU K "is_name" zbt D.a_c9 D.d_c9
 m_c9 : CB K mg "is_name" D.a_c9 D.d_c9 ["text"]
 F_c5 : FU K "is_word" zbu D.a_c5 D.d_c5
 m_c5 : CB K mg "is_word" D.a_c5 D.d_c5 ["text"]
 F_b3 : FU K "fit_world" zaV D.a_b3 D.d_b3
 m_b3 : CB K mg "fit_world" D.a_b3 D.d_b3 ["world"]
 F_b1 : FU K "fit_called" zaJ D.a_b1 D.d_b1
 m_b1 : CB K mg "fit_called" D.a_b1 D.d_b1 ["called", "size"]
 F_b6 : FU K "fit_facts" zaW D.a_b6 D.d_b6
 m_b6 : CB K mg "fit_facts" D.a_b6 D.d_b6 ["facts", "size"]
 F_c3 : FU K "is_thing" zbi D.a_c3 D.d_c3
 m_c3 : CB K mg "is_thing" D.a_c3 D.d_c3 ["thing", "size"]
 F_d4 : FU K "rises" zcc D.a_d4 D.d_d4
 m_d4 : CB K mg "rises" D.a_d4 D.d_d4 ["row"]
 F_a8 : FU K "read_world" zaK D.a_a8 D.d_a8
 m_a8 : CB K mg "read_world" D.a_a8 D.d_a8 ["text"]
 F_c2 : FU K "read_size" zaX D.a_c2 D.d_c2
 m_c2 : CB K mg "read_size" D.a_c2 D.d_c2 ["row"]
 F_a3 : FU K "is_names_row" zaC D.a_a3 D.d_a3
 m_a3 : CB K mg "is_names_row" D.a_a3 D.d_a3 ["row"]
 F_b4 : FU K "read_fact" zaY D.a_b4 D.d_b4
 m_b4 : CB K mg "read_fact" D.a_b4 D.d_b4 ["row"]
 F_a4 : FU K "read_number" zaH D.a_a4 D.d_a4
 m_a4 : CB K mg "read_number" D.a_a4 D.d_a4 ["run"]
 F_b9 : FU K "_law_cell_at" zaZ D.a_b9 D.d_b9
 m_b9 : CB K mg "_law_cell_at" D.a_b9 D.d_b9 ["_law_script", "_law_k"]
 F_c8 : FU K "_law_mixed" zbv D.a_c8 D.d_c8
 m_c8 : CB K mg "_law_mixed" D.a_c8 D.d_c8 ["_law_script", "_law_k"]
 F_b2 : FU K "_law_name_by" zba D.a_b2 D.d_b2
 m_b2 : CB K mg "_law_name_by" D.a_b2 D.d_b2 ["_law_number", "_law_firsts", "_law_turn"]
 F_a2 : FU K "_law_thing_name" zaD D.a_a2 D.d_a2
 m_a2 : CB K mg "_law_thing_name" D.a_a2 D.d_a2 ["_law_base", "_law_turn"]
 F_d3 : FU K "_law_word" zbC D.a_d3 D.d_d3
 m_d3 : CB K mg "_law_word" D.a_d3 D.d_d3 ["_law_base", "_law_turn"]
 F_b0 : FU K "_law_facts_by" zaL D.a_b0 D.d_b0
 m_b0 : CB K mg "_law_facts_by" D.a_b0 D.d_b0 ["_law_script", "_law_at", "_law_base", "_law_size"]
 F_c1 : FU K "_law_size_by" zbb D.a_c1 D.d_c1
 m_c1 : CB K mg "_law_size_by" D.a_c1 D.d_c1 ["_law_script"]
 F_a6 : FU K "_law_world_by" zaM D.a_a6 D.d_a6
 m_a6 : CB K mg "_law_world_by" D.a_a6 D.d_a6 ["_law_script", "_law_base"]
 F_c6 : FU K "_law_fewer" zbw D.a_c6 D.d_c6
 m_c6 : CB K mg "_law_fewer" D.a_c6 D.d_c6 ["_law_world", "_law_cell"]
 F_b8 : FU K "_law_is_name" zbc D.a_b8 D.d_b8
 m_b8 : CB K mg "_law_is_name" D.a_b8 D.d_b8 ["_law_text"]
 F_d1 : FU K "_law_rises" zbx D.a_d1 D.d_d1
 m_d1 : CB K mg "_law_rises" D.a_d1 D.d_d1 ["_law_row"]
 F_d2 : FU K "_law_fits" zbD D.a_d2 D.d_d2
 m_d2 : CB K mg "_law_fits" D.a_d2 D.d_d2 ["_law_size", "_law_called", "_law_facts"]
 F_c0 : FU K "_law_text_of" zbd D.a_c0 D.d_c0
 m_c0 : CB K mg "_law_text_of" D.a_c0 D.d_c0 ["_law_world"]
 F_a5 : FU K "_law_number_in" zaI D.a_a5 D.d_a5
 m_a5 : CB K mg "_law_number_in" D.a_a5 D.d_a5 ["_law_word_here"]
 F_a7 : FU K "_law_world_in" zaN D.a_a7 D.d_a7
 m_a7 : CB K mg "_law_world_in" D.a_a7 D.d_a7 ["_law_text"]
 F_c4 : FU K "_law_spoilt" zbj D.a_c4 D.d_c4
 m_c4 : CB K mg "_law_spoilt" D.a_c4 D.d_c4 ["_law_text", "_law_cell"]
 F_a9 : FU K "_law_odd_text" zaO D.a_a9 D.d_a9
 m_a9 : CB K mg "_law_odd_text" D.a_a9 D.d_a9 ["_law_cell"]
 F_a1 : FU K "_law_of_one_class" za2 D.a_a1 D.d_a1
 m_a1 : CB K mg "_law_of_one_class" D.a_a1 D.d_a1 ["_law_e"]
 F_b5 : FU K "_law_refused" zaQ D.a_b5 D.d_b5
 m_b5 : CB K mg "_law_refused" D.a_b5 D.d_b5 ["_law_text"]
 F_d5 : FU K "law" zet D.a_d5 D.d_d5
 m_d5 : CB K mg "law" D.a_d5 D.d_d5 ["_law_script"]
 c_FIGURES : ∃ t, mg "FIGURES" = some (.str "0123456789" t)
 c_MOST_FIGURES : ∃ t, mg "MOST_FIGURES" = some (.int 4 t)
 c_SMALL : ∃ t, mg "SMALL" = some (.str "abcdefghijklmnopqrstuvwxyz" t)
 c_SMALL_OR_FIGURE : ∃ t, mg "SMALL_OR_FIGURE" = some (.str "abcdefghijklmnopqrstuvwxyz0123456789" t)
 c_KEPT_WORDS : mg "KEPT_WORDS" = some (.ref D.k_KEPT_WORDS)
 q_KEPT_WORDS : ∀ H, SqT K H D.k_KEPT_WORDS [V.str "not", V.str "and", V.str "or", V.str "then", V.str "all", V.str "some", V.str "false"]
 c_MOST_SIGNS : ∃ t, mg "MOST_SIGNS" = some (.int 8 t)
 c_MOST_THINGS_OF_A_FACT : ∃ t, mg "MOST_THINGS_OF_A_FACT" = some (.int 3 t)
 z_ValueError : mg "ValueError" = none
 z_all : mg "all" = none
 z_int : mg "int" = none
 z_isinstance : mg "isinstance" = none
 z_len : mg "len" = none
 z_list : mg "list" = none
 z_range : mg "range" = none
 z_sorted : mg "sorted" = none
 z_str : mg "str" = none
 z_tuple : mg "tuple" = none
 x_BoxError : XCls K mg "BoxError" D.x_BoxError [] [.type "ValueError", .type "Exception", .type "BaseException", .type "object"] "ValueError.__new__"
 x_NoStatement : XCls K mg "NoStatement" D.x_NoStatement [D.x_BoxError] [.type "ValueError", .type "Exception", .type "BaseException", .type "object"] "ValueError.__new__"
 x_NoName : XCls K mg "NoName" D.x_NoName [D.x_BoxError] [.type "ValueError", .type "Exception", .type "BaseException", .type "object"] "ValueError.__new__"
 x_NoWorld : XCls K mg "NoWorld" D.x_NoWorld [D.x_BoxError] [.type "ValueError", .type "Exception", .type "BaseException", .type "object"] "ValueError.__new__"
 x_NoBox : XCls K mg "NoBox" D.x_NoBox [D.x_BoxError] [.type "ValueError", .type "Exception", .type "BaseException", .type "object"] "ValueError.__new__"
 x_NoLines : XCls K mg "NoLines" D.x_NoLines [D.x_BoxError] [.type "ValueError", .type "Exception", .type "BaseException", .type "object"] "ValueError.__new__"
 x_NotShut : XCls K mg "NotShut" D.x_NotShut [D.x_BoxError] [.type "ValueError", .type "Exception", .type "BaseException", .type "object"] "ValueError.__new__"
 v_NoWorld_NoWorld : SubX K D.x_NoWorld D.x_NoWorld true
 i_NoWorld_NoWorld : W.kitOne K (.ref D.x_NoWorld) (.ref D.x_NoWorld) = some true
 v_NoWorld_BoxError : SubX K D.x_NoWorld D.x_BoxError true
 i_NoWorld_BoxError : W.kitOne K (.ref D.x_NoWorld) (.ref D.x_BoxError) = some true
 v_NoWorld_NoBox : SubX K D.x_NoWorld D.x_NoBox false
 i_NoWorld_NoBox : W.kitOne K (.ref D.x_NoWorld) (.ref D.x_NoBox) = some false
 v_NoWorld_NoLines : SubX K D.x_NoWorld D.x_NoLines false
 i_NoWorld_NoLines : W.kitOne K (.ref D.x_NoWorld) (.ref D.x_NoLines) = some false
 v_NoWorld_NoName : SubX K D.x_NoWorld D.x_NoName false
 i_NoWorld_NoName : W.kitOne K (.ref D.x_NoWorld) (.ref D.x_NoName) = some false
 v_NoWorld_NoStatement : SubX K D.x_NoWorld D.x_NoStatement false
 i_NoWorld_NoStatement : W.kitOne K (.ref D.x_NoWorld) (.ref D.x_NoStatement) = some false
 v_NoWorld_NotShut : SubX K D.x_NoWorld D.x_NotShut false
 i_NoWorld_NotShut : W.kitOne K (.ref D.x_NoWorld) (.ref D.x_NotShut) = some false
 i_NoWorld_ValueError : W.kitOne K (.ref D.x_NoWorld) (.type "ValueError") = some true
theorem Tx.g_FIGURES {K : W.Frag} {mg : Str -> Option Value} {D : Defs} (T : Tx K mg D) {X : Cx} {pos : Pos} (h : Gl X "FIGURES") (hm : X.mg = mg := by rfl) : PE X (.Name "FIGURES" pos) (tC (.str "0123456789")) := by
 obtain ⟨t, e⟩ := T.c_FIGURES;exact zby h (hm ▸ e) ⟨t, rfl⟩
theorem Tx.g_MOST_FIGURES {K : W.Frag} {mg : Str -> Option Value} {D : Defs} (T : Tx K mg D) {X : Cx} {pos : Pos} (h : Gl X "MOST_FIGURES") (hm : X.mg = mg := by rfl) : PE X (.Name "MOST_FIGURES" pos) (tC (.int 4)) := by
 obtain ⟨t, e⟩ := T.c_MOST_FIGURES;exact zby h (hm ▸ e) ⟨t, rfl⟩
theorem Tx.g_SMALL {K : W.Frag} {mg : Str -> Option Value} {D : Defs} (T : Tx K mg D) {X : Cx} {pos : Pos} (h : Gl X "SMALL") (hm : X.mg = mg := by rfl) : PE X (.Name "SMALL" pos) (tC (.str "abcdefghijklmnopqrstuvwxyz")) := by
 obtain ⟨t, e⟩ := T.c_SMALL;exact zby h (hm ▸ e) ⟨t, rfl⟩
theorem Tx.g_SMALL_OR_FIGURE {K : W.Frag} {mg : Str -> Option Value} {D : Defs} (T : Tx K mg D) {X : Cx} {pos : Pos} (h : Gl X "SMALL_OR_FIGURE") (hm : X.mg = mg := by rfl) : PE X (.Name "SMALL_OR_FIGURE" pos) (tC (.str "abcdefghijklmnopqrstuvwxyz0123456789")) := by
 obtain ⟨t, e⟩ := T.c_SMALL_OR_FIGURE;exact zby h (hm ▸ e) ⟨t, rfl⟩
theorem Tx.g_KEPT_WORDS {K : W.Frag} {mg : Str -> Option Value} {D : Defs} (T : Tx K mg D) {X : Cx} {pos : Pos} (h : Gl X "KEPT_WORDS") (hm : X.mg = mg := by rfl) : PE X (.Name "KEPT_WORDS" pos) (tC (.ref D.k_KEPT_WORDS)) := zby h (hm ▸ T.c_KEPT_WORDS) rfl
theorem Tx.g_MOST_SIGNS {K : W.Frag} {mg : Str -> Option Value} {D : Defs} (T : Tx K mg D) {X : Cx} {pos : Pos} (h : Gl X "MOST_SIGNS") (hm : X.mg = mg := by rfl) : PE X (.Name "MOST_SIGNS" pos) (tC (.int 8)) := by
 obtain ⟨t, e⟩ := T.c_MOST_SIGNS;exact zby h (hm ▸ e) ⟨t, rfl⟩
theorem Tx.g_MOST_THINGS_OF_A_FACT {K : W.Frag} {mg : Str -> Option Value} {D : Defs} (T : Tx K mg D) {X : Cx} {pos : Pos} (h : Gl X "MOST_THINGS_OF_A_FACT") (hm : X.mg = mg := by rfl) : PE X (.Name "MOST_THINGS_OF_A_FACT" pos) (tC (.int 3)) := by
 obtain ⟨t, e⟩ := T.c_MOST_THINGS_OF_A_FACT;exact zby h (hm ▸ e) ⟨t, rfl⟩
local macro_rules | `(tactic| walk_at "s") => `(tactic| exact ⟨rfl, rfl, rfl, by decide +kernel, rfl, by decide +kernel, by decide +kernel⟩)
theorem zgL : zau ["text"] ["text"] (zac zbr) := by walk_at "s"
theorem zgM : zau ["row"] ["row"] (zac zbs) := by walk_at "s"
theorem zfd : zau ["text"] ["text"] (zac zaU) := by walk_at "s"
theorem zcl : zau ["text", "first_signs"] ["text", "first_signs"] (zac zav) := by walk_at "s"
theorem zgN : zau ["text"] ["text"] (zac zbt) := by walk_at "s"
theorem zgO : zau ["text"] ["text"] (zac zbu) := by walk_at "s"
theorem sc_b3 : zau ["world", "size"] ["world"] (zac zaV) := by walk_at "s"
theorem sc_b1 : zau ["called", "size", "name", "thing"] ["called", "size"] (zac zaJ) := by walk_at "s"
theorem sc_b6 : zau ["facts", "size", "word", "things"] ["facts", "size"] (zac zaW) := by walk_at "s"
theorem zfE : zau ["thing", "size"] ["thing", "size"] (zac zbi) := by walk_at "s"
theorem zj9 : zau ["row"] ["row"] (zac zcc) := by walk_at "s"
theorem sc_a8 : zau ["text", "rows", "size", "behind_names", "called", "facts", "world"] ["text"] (zac zaK) := by walk_at "s"
theorem zfe : zau ["row"] ["row"] (zac zaX) := by walk_at "s"
theorem zd9 : zau ["row"] ["row"] (zac zaC) := by walk_at "s"
theorem zff : zau ["row"] ["row"] (zac zaY) := by walk_at "s"
theorem zdG : zau ["run"] ["run"] (zac zaH) := by walk_at "s"
theorem zfg : zau ["_law_script", "_law_k"] ["_law_script", "_law_k"] (zac zaZ) := by walk_at "s"
theorem sc_c8 : zau ["_law_script", "_law_k", "_law_cell", "_law_number"] ["_law_script", "_law_k"] (zac zbv) := by walk_at "s"
theorem sc_b2 : zau ["_law_number", "_law_firsts", "_law_turn", "_law_some", "_law_plain", "_law_signs", "_law_size", "_law_at", "_law_text"] ["_law_number", "_law_firsts", "_law_turn"] (zac zba) := by walk_at "s"
theorem zdA : zau ["_law_base", "_law_turn"] ["_law_base", "_law_turn"] (zac zaD) := by walk_at "s"
theorem ziy : zau ["_law_base", "_law_turn"] ["_law_base", "_law_turn"] (zac zbC) := by walk_at "s"
theorem sc_b0 : zau ["_law_script", "_law_at", "_law_base", "_law_size", "_law_facts", "_law_many", "_law_k", "_law_number", "_law_things"] ["_law_script", "_law_at", "_law_base", "_law_size"] (zac zaL) := by walk_at "s"
theorem zfh : zau ["_law_script"] ["_law_script"] (zac zbb) := by walk_at "s"
theorem sc_a6 : zau ["_law_script", "_law_base", "_law_size", "_law_called", "_law_k", "_law_turn"] ["_law_script", "_law_base"] (zac zaM) := by walk_at "s"
theorem sc_c6 : zau ["_law_world", "_law_cell", "_law_called"] ["_law_world", "_law_cell"] (zac zbw) := by walk_at "s"
theorem sc_b8 : zau ["_law_text", "_law_sign"] ["_law_text"] (zac zbc) := by walk_at "s"
theorem sc_d1 : zau ["_law_row", "_law_k"] ["_law_row"] (zac zbx) := by walk_at "s"
theorem sc_d2 : zau ["_law_size", "_law_called", "_law_facts", "_law_pair", "_law_fact", "_law_thing"] ["_law_size", "_law_called", "_law_facts"] (zac zbD) := by walk_at "s"
theorem sc_c0 : zau ["_law_world", "_law_rows", "_law_pair", "_law_fact", "_law_row", "_law_thing"] ["_law_world"] (zac zbd) := by walk_at "s"
theorem sc_a5 : zau ["_law_word_here", "_law_sign"] ["_law_word_here"] (zac zaI) := by walk_at "s"
theorem sc_a7 : zau ["_law_text", "_law_rows", "_law_called", "_law_facts", "_law_row", "_law_size"] ["_law_text"] (zac zaN) := by walk_at "s"
theorem sc_c4 : zau ["_law_text", "_law_cell", "_law_way", "_law_at", "_law_sign", "_law_rows", "_law_one", "_law_other", "_law_kept"] ["_law_text", "_law_cell"] (zac zbj) := by walk_at "s"
theorem sc_a9 : zau ["_law_cell", "_law_some"] ["_law_cell"] (zac zaO) := by walk_at "s"
theorem sc_a1 : zau ["_law_e", "_law_found"] ["_law_e"] (zac za2) := by walk_at "s"
theorem sc_b5 : zau ["_law_text", "_law_refused_here", "_law_e"] ["_law_text"] (zac zaQ) := by walk_at "s"
theorem sc_d5 : zau ["_law_script", "_law_base", "_law_clean", "_law_text", "_law_k", "_law_at", "_law_due", "_law_found"] ["_law_script"] (zac zet) := by walk_at "s"
end K17
namespace K17
open PySem L2
seal PE PS PSs PA PT PW PG PI PO PIf OpR UnR zb4 IxR SlR MtR MtM PSet PH
local macro_rules | `(tactic| walk_at "bpW") => `(tactic| simp only [↓w_v0, ↓w_v1, ↓w_v2, ↓w_v3, ↓w_v4, ↓w_v5, ↓w_v6, ↓w_v7, ↓w_v8, ↓w_v9, ↓znH, ↓znI, ↓w_c, ↓znJ, ↓znK, ↓zmj, ↓znL, ↓zmk, ↓znM, ↓zk8, ↓w_op, ↓w_un, ↓zml, ↓w_B, ↓w_bl, ↓znN, ↓w_or, ↓w_not, ↓zmm, ↓zmn, ↓znO, ↓zmo, ↓znP, ↓znQ, ↓zmp, ↓w_CB, ↓w_BM, ↓ziW, ↓zh2, ↓w_sl, ↓ziX, ↓zmq, ↓znR, ↓ziY, ↓w_rI, ↓zmr, ↓znS, ↓znT, ↓zk9, ↓znU, ↓ziZ, ↓znV, ↓zja, ↓znW, ↓znX, ↓zms, ↓zmt, ↓znY, ↓zmu, ↓zh3, ↓zh4, ↓znZ, ↓zoa, ↓zmv, ↓zmw, ↓zmx, ↓zkA, ↓zh5, ↓zjb, ↓zjc, ↓zjd, ↓zmy, ↓zmz, ↓zh6, ↓zh7, ↓zkB, ↓zm5, ↓zm6, ↓zm7, ↓zm8, ↓zgA, ↓zgB, ↓zjk, ↓zk7, ↓ziT, ↓List.set_cons_zero, ↓List.set_cons_succ, ↓List.nil_append, ↓List.cons_append, ↓List.append_nil, ↓reduceIte, Bool.false_eq_true, decide_eq_true_eq, Bool.not_eq_true', decide_eq_false_iff_not, ↓zkD, ↓zjn, ↓zkK, ↓zoh, ↓zkH, ↓zkI, ↓zkJ, ↓zmK, ↓zmL, ↓zmO, ↓zmP, ↓zmM, ↓zmN, ↓zmQ, ↓zmR, ↓zmS, ↓zhI, ↓zmT, ↓w_is, ↓zoc, ↓zkF, ↓zkG, ↓zmC, ↓zoi, ↓zoj, ↓zkL, ↓zok, ↓zol, ↓zka, ↓zkM, ↓zmU, ↓zmW, ↓zmX, ↓zkO, ↓zkP, ↓zkQ, ↓zhK, ↓zkR, ↓zhL, ↓zkS, ↓zkT, ↓zmY, ↓zom, ↓zkU, ↓zkV, ↓zkW, ↓zka, ↓znd, ↓zkX, ↓zkY, ↓zmZ, ↓zj7, ↓zlt, ↓zlu, ↓zlv, ↓znz, ↓zny, ↓zik, ↓znl, ↓znm, ↓zln, ↓znn, ↓zor, ↓znt, ↓zkn, ↓znu, ↓zko, ↓zj6])
local macro_rules | `(tactic| walk_at "S") => `(tactic| simp only [L2.start, List.map_cons, List.map_nil, List.length_cons, List.length_nil, Nat.reduceAdd, Nat.reduceSub, List.replicate_succ, List.replicate_zero, List.cons_append, List.nil_append, List.append_nil, Nat.zero_add, Nat.sub_self])
local macro_rules | `(tactic| walk_at "o") => `(tactic| first | exact Or.inl ρ | exact Or.inr ρ)
local macro_rules | `(tactic| walk_at "") => `(tactic| walk_at "bpW")
local macro_rules | `(tactic| walk_at "T") => `(tactic| simp only [za1, List.replicate_succ, List.replicate_zero, List.map_cons, List.map_nil, List.nil_append, List.cons_append, List.getElem?_cons_zero, List.getElem?_cons_succ, Option.join_some])
local macro_rules | `(tactic| walk_at "t") => `(tactic| try walk_at "bpW")
section
variable {P : Program} {w : World} {K : W.Frag} {mg : Str -> Option Value} {Qd : Heap} {D : Defs}
theorem zbR (T : Tx K mg D) : FnOk P w K mg Qd CX0 1 D.a_b9 D.d_b9 ["_law_script", "_law_k"] (zm0 K) := by
 refine T.F_b9.ok zfg (fun vs H Q E h => ?_) (fun cdv A outer s H vs Q E hr h => ?_)
 ·obtain ⟨a, ns, n, rfl, _⟩ := h; rfl
 obtain ⟨a, ns, n, rfl, hS, h0, k⟩ := h;have hu := hr.units;refine ⟨_, (zag (zaS (zaq zch (pv 1) (zas (za3 K) ρ T.z_len yap (zaa (pv 0) zaf)) (zaw _)) (zah (zar (za4 (ixA K) (pv 0) (pv 1) (fun _ _ => rfl)))) zay)
  (zah (zar zab))), ?_⟩
 walk_at "S";walk_at "";refine ⟨_, .inl hS, ?_⟩;unfold cellI at k;rw [yaf];refine ite2 (fun c => ?_) fun c => ?_
 ·rw [if_pos c] at k;exact ⟨_, .inl hS, _, zfV h0 c, k⟩
 ·rw [if_neg c] at k; exact k
theorem zcO (T : Tx K mg D) : FnOk P w K mg Qd CX0 1 D.a_c8 D.d_c8 ["_law_script", "_law_k"] (zon K) := by
 refine T.F_c8.ok sc_c8 (fun vs H Q E h => ?_) (fun cdv A outer s H vs Q E hr h => ?_)
 ·obtain ⟨a, ns, n, rfl, _⟩ := h; rfl
 obtain ⟨a, ns, n, rfl, hS, h0, h1, k⟩ := h;have hu := hr.units;refine ⟨_, (zag (zax (i := 2) sc_c8.nd ρ (by walk_at "o") zab)
  (zag (zaS (zaq zft (zas (za3 K) ρ T.z_len yap (zaa (pv 0) zaf)) zab (zaw _)) (zah (zax (i := 2) sc_c8.nd ρ (by walk_at "o") (za4 (ixA K) (pv 0) (zak zap (pv 1) (zas (za3 K) ρ T.z_len yap (zaa (pv 0) zaf))) (fun _ _ => rfl)))) zay)
  (zag (zax (i := 3) sc_c8.nd ρ (by walk_at "o") (zak zap (zak zbm (zak (zat K) (pv 2) (zak zbm zab (pv 1))) zab) zab))
  (zah (zar (zak zap (zak (zat K) (zak zbm (pv 3) (pv 3)) (zak zbm zab (pv 3))) zab)))))), ?_⟩
 walk_at "S";walk_at "";have hm : CMul 7919 n := zg7;have fin : ∀ c : Int, CMul (c + 7919 * n) 48271 /\ (0 : Int) < 2147483647 /\ CMul ((c + 7919 * n) * 48271 % 2147483647) ((c + 7919 * n) * 48271 % 2147483647) /\ CMul 16807 ((c + 7919 * n) * 48271 % 2147483647) /\ (0 : Int) < 2147483629 /\
   Q (V.int (((c + 7919 * n) * 48271 % 2147483647 * ((c + 7919 * n) * 48271 % 2147483647) + 16807 * ((c + 7919 * n) * 48271 % 2147483647)) % 2147483629)) H := fun c =>
  ⟨zeI,δ, .inl ⟨ω,ω⟩, zg7,δ, k _ (yao _ δ) (yak _ δ)⟩
 have hl : (ns.map V.int).length = ns.length := yaf _;refine ⟨_, .inl hS, ite2 (fun c => ?_) fun c => ⟨hm, fin 0⟩⟩;rw [hl] at c;refine ⟨_, .inl hS, by rw [hl]; exact c, _, .inl hS, _, zfV (yao _ (by rw [hl]; omega)) (by rw [hl]; exact yak _ c), hm, ?_⟩;walk_at "";exact fin _
def zjA : Sp := fun vs H Q _ => ∃ z : Str, vs = [.str z] /\ z.length <= 1000000 /\ ∀ p H', Same H H' -> H p = none -> H' p = some (.lst (((Txt.split z " ").filter fun r : Str => !decide (r = "")).map V.str)) -> Q (.ref p) H'
theorem zgP (T : Tx K mg D) : FnOk P w K mg Qd CX0 1 D.a_c7 D.d_c7 ["row"] zjA := by
 refine T.F_c7.ok zgM (fun vs H Q E h => ?_) (fun cdv A outer s H vs Q E hr h => ?_)
 ·obtain ⟨z, rfl, _⟩ := h; rfl
 obtain ⟨z, rfl, hpl, k⟩ := h;have hu := hr.units;refine ⟨_, (zah (zar (zbJ 1 [] ["run"] ⟨ρ,ρ,ρ,ρ,ρ,ρ,ρ⟩ ρ (zaT K (zb9 K PySem.F.plainAttrs_str PySem.F.slot_str_split PySem.F.type_str_split zc6 (pv 0) (zaa zal zaf))) (fun _ _ _ _ => zaz (i := 0) (show List.Nodup (["run"] : List Str) by decide +kernel) ρ (Or.inl ρ) (Or.inr ρ)) (za0 δ) (fun _ _ _ _ => zdq (zaq (zdw K hu) (pv 0) zal (zaw _))) (fun _ _ _ _ => (pv 0))))), ?_⟩;walk_at "S";walk_at "";refine ⟨trivial,δ,ω, fun p hp => .inl ⟨⟨_, SqL.of zae⟩, ?_⟩⟩;have hsz : (Txt.split (z) " ").length <= 1000002 := yat (zbK _ _) ω;refine zbe (xs := (Txt.split (z) " ").map V.str) (fun i acc Hc => Hc = upd H p (.lst ((Txt.split (z) " ").map V.str)) /\ acc = (((Txt.split (z) " ").take i).filter fun r : Str => !decide (r = "")).map V.str) ⟨rfl, rfl⟩ (fun i acc Hc _ h => h.1 ▸ SqL.of zae) (fun i v acc Hc hv h => ?_) fun acc Hc h p2 hp2 => ?_
 ·obtain ⟨rfl, rfl⟩ := h;rw [yav] at hv;cases hr : (Txt.split (z) " ")[i]? with
  | none => rw [hr] at hv; cases hv
  | some r =>
   rw [hr] at hv;cases hv;have e : List.take (i + 1) (Txt.split (z) " ") = List.take i (Txt.split (z) " ") ++ [r] := by rw [List.take_succ, hr]; rfl
   refine ⟨?_, ?_⟩
   ·rw [yaf];refine Nat.lt_of_le_of_lt (List.length_filter_le _ _) ?_;rw [ya3, sizeLine_eq];omega
   ·simp only [za1, L2.start, List.map_cons, List.map_nil, List.length_cons, List.length_nil, Nat.reduceAdd, Nat.reduceSub, List.replicate_succ, List.replicate_zero, List.cons_append, List.nil_append, List.append_nil, Nat.zero_add, Nat.sub_self];walk_at "";rw [e, List.filter_append];refine ite2 (fun c => ?_) fun c => ?_
    ·have : [r].filter (fun r : Str => !decide (r = "")) = [r] := by simp [c]
     rw [this, ya0];exact ⟨trivial, rfl⟩
    ·have : [r].filter (fun r : Str => !decide (r = "")) = [] := by simp [c]
     rw [this, List.append_nil];exact ⟨trivial, rfl⟩
 ·obtain ⟨rfl, rfl⟩ := h;rw [yaf, List.take_length] at *;refine k p2 _ ?_ ?_ zae
  ·exact ((Same.refl _).upd hp).trans ((Same.refl _).upd hp2)
  ·exact ((Same.refl _).upd hp : Same H _).free hp2
def zb1 (x : Str) : List Str := (Txt.split x ⟨#[10]⟩).filter fun r : Str => !decide (Txt.stripChars r " " = "")
def zjB : Sp := fun vs H Q _ => ∃ z : Str, vs = [.str z] /\ z.length <= 100000 /\ ∀ p H', Same H H' -> H' p = some (.lst ((zb1 z).map V.str)) -> Q (.ref p) H'
theorem zcE {x : Str} {c : Nat} {r : Str} (h : r ∈ Txt.split x ⟨#[c]⟩) : r.length <= x.length := by
 have e : Str.join ⟨#[c]⟩ (Txt.split x ⟨#[c]⟩) = x := StrLaws.join_split x ⟨#[c]⟩;have key : ∀ {l : List Str}, r ∈ l -> r.length <= (Str.join ⟨#[c]⟩ l).length := by
  intro l
  induction l with
  | nil => intro h; simp at h
  | cons a l ih =>
   intro h
   by_cases hl : l = []
   ·subst hl;rw [yah.mp h];exact yai _
   ·have e2 := congrArg List.length (zbL c a hl);rw [yae, List.length_cons, za5, za5, za5] at e2;rcases yau.mp h with rfl | h
    ·omega
    ·have := ih h; omega
 have := key h;rw [e] at this;exact this
theorem zgQ (T : Tx K mg D) : FnOk P w K mg Qd CX0 1 D.a_d0 D.d_d0 ["text"] zjB := by
 refine T.F_d0.ok zgL (fun vs H Q E h => ?_) (fun cdv A outer s H vs Q E hr h => ?_)
 ·obtain ⟨z, rfl, _⟩ := h; rfl
 obtain ⟨z, rfl, hpl, k⟩ := h;have hu := hr.units;refine ⟨_, (zah (zar (zbJ 1 [] ["row"] ⟨ρ,ρ,ρ,ρ,ρ,ρ,ρ⟩ ρ (zaT K (zb9 K PySem.F.plainAttrs_str PySem.F.slot_str_split PySem.F.type_str_split zc6 (pv 0) (zaa zal zaf))) (fun _ _ _ _ => zaz (i := 0) (show List.Nodup (["row"] : List Str) by decide +kernel) ρ (Or.inl ρ) (Or.inr ρ)) (za0 δ) (fun _ _ _ _ => zdq (zaq (zdw K hu) (zb9 K PySem.F.plainAttrs_str PySem.F.slot_str_strip PySem.F.type_str_strip ziw (pv 0) (zaa zal zaf)) zal (zaw _))) (fun _ _ _ _ => (pv 0))))), ?_⟩;walk_at "S";walk_at "";refine ⟨trivial,δ,ω, fun p hp => .inl ⟨⟨_, SqL.of zae⟩, ?_⟩⟩;have hsz : (Txt.split z ⟨#[10]⟩).length <= 100002 := yat (zbK _ _) ω;refine zbe (xs := (Txt.split z ⟨#[10]⟩).map V.str) (fun i acc Hc => Hc = upd H p (.lst ((Txt.split z ⟨#[10]⟩).map V.str)) /\ acc = (((Txt.split z ⟨#[10]⟩).take i).filter fun r : Str => !decide (Txt.stripChars r " " = "")).map V.str) ⟨rfl, rfl⟩ (fun i acc Hc _ h => h.1 ▸ SqL.of zae) (fun i v acc Hc hv h => ?_) fun acc Hc h p1 hp1 => ?_
 ·obtain ⟨rfl, rfl⟩ := h;rw [yav] at hv;cases hr : (Txt.split z ⟨#[10]⟩)[i]? with
  | none => rw [hr] at hv; cases hv
  | some r =>
   rw [hr] at hv;cases hv;have hi := (yag.mp hr).1;have er := (yag.mp hr).2;have hrl := zcE (ya1 hr);have e : (Txt.split z ⟨#[10]⟩).take (i + 1) = (Txt.split z ⟨#[10]⟩).take i ++ [r] := by rw [List.take_succ_eq_append_getElem hi, er]
   refine ⟨?_, ?_⟩
   ·rw [yaf];refine Nat.lt_of_le_of_lt (List.length_filter_le _ _) ?_;rw [ya3, sizeLine_eq];omega
   ·walk_at "T";walk_at "";rw [e, List.filter_append];refine ⟨trivial,ω, ite2 (fun c => ?_) fun c => ?_⟩
    ·exact ⟨trivial, by rw [ya0]; simp [c]⟩
    ·exact ⟨trivial, by rw [ya0]; simp [c]⟩
 ·obtain ⟨rfl, rfl⟩ := h;rw [yaf, List.take_length];exact k p1 _ ((zad hp _).trans (zad hp1 _)) zae
def tS (i : Int) : Str := Str.ofString (toString i)
def numQ (x : Str) : Bool := if x = "" then false else if (4 : Int) < x.length then false else if (⟨#[x.cps.toList.headD 0]⟩ : Str) = "0" /\ ¬ x = "0" then false else x.cps.toList.all fun c => inS ⟨#[c]⟩ "0123456789"
theorem zgp {x : Str} (h : ¬ x = "") : atI x.cps.toList 0 = some (x.cps.toList.headD 0) := by
 cases q : x.cps.toList with
 | nil => exact absurd (zbp (q.trans rfl)) h
 | cons c r => exact zam (j := 0) rfl
theorem zfi (T : Tx K mg D) : FnOk P w K mg Qd CX0 1 D.a_b7 D.d_b7 ["text"] (fun vs H Q _ => ∃ x, vs = [.str x] /\ x.length <= 9000 /\ ∀ H', Same H H' -> Q (.bl (numQ x)) H') := by
 refine T.F_b7.ok zfd (fun vs H Q E h => ?_) (fun cdv A outer s H vs Q E hr h => ?_)
 ·obtain ⟨x, rfl, _⟩ := h; rfl
 obtain ⟨x, rfl, hx, k⟩ := h;have hu := hr.units;refine ⟨_, (zag (zaS (PW.pt (zcu (zaq (zbo K hu) (pv 0) zal (zaw _)) (zce (zaq zft (zas (za3 K) ρ T.z_len yap (zaa (pv 0) zaf)) (T.g_MOST_FIGURES ρ) (zaw _))))) (zah (zar zbU)) zay)
  (zag (zaS (PW.pt (zfI (zaq (zbo K hu) (za4 (ixA K) (pv 0) zab (fun _ _ => rfl)) zal (zaw _)) (zeb (zaq (zhy hu) (pv 0) zal (zaw _))))) (zah (zar zbU)) zay)
  (zah (zar (zas (zc4 K ρ) ρ T.z_all ρ (zaa (zbJ 1 [] ["sign"] ⟨ρ,ρ,ρ,ρ,ρ,ρ,ρ⟩ ρ (zaT K (pv 0)) (fun _ _ _ _ => zaz (i := 0) (show List.Nodup (["sign"] : List Str) by decide +kernel) ρ (Or.inl ρ) (Or.inr ρ)) (za0 δ) (fun _ _ _ _ => zbl) (fun _ _ _ _ => (zbz (zhz K) (pv 0) (T.g_FIGURES ρ) ρ))) zaf)))))), ?_⟩
 walk_at "S";walk_at "";have hz : x.length <= sizeLine := zao ω;have kf : numQ x = false -> Q (.bl false) H := fun e => by have := k H (Same.refl _); rw [e] at this; exact this
 refine ite2 (fun c => kf (by unfold numQ; rw [if_pos c])) fun c => ⟨hz, ite2 (fun c2 => kf (by unfold numQ; rw [if_neg c, if_pos c2])) fun c2 => ⟨hz, _, zgp c, ?_⟩⟩
 refine ite2 (fun c3 => ite2 (fun c4 => kf (by unfold numQ; rw [if_neg c, if_neg c2, if_pos ⟨c3, c4⟩])) fun c4 => ?_) fun c3 => ?_
 all_goals
  have hn : numQ x = x.cps.toList.all fun c => inS ⟨#[c]⟩ "0123456789" := by
   unfold numQ;rw [if_neg c, if_neg c2, if_neg (fun z => by first | exact c4 z.2 | exact c3 z.1)]
  have Qe : x.cps.toList.length <= 9000 := by rw [za5]; exact hx
  refine zfQ (fun i acc H2 => H2 = H /\ acc = ((x.cps.toList.take i).map fun c => inS ⟨#[c]⟩ "0123456789").map V.bl) ⟨rfl,ς⟩ (fun i c acc H2 hi hp => ?_) fun acc H2 hp p hn' => ?_
  ·obtain ⟨rfl, rfl⟩ := hp;have hil : i < x.cps.toList.length := (yag.mp hi).1;have ec := (yag.mp hi).2;refine ⟨zaG (by simp only [List.length_map, List.length_take]; omega), ?_⟩;walk_at "T";walk_at "";refine ⟨trivial, ?_⟩;rw [List.take_succ_eq_append_getElem hil, ec, ya0, ya0]; rfl
  ·obtain ⟨rfl, rfl⟩ := hp;rw [List.take_length];walk_at "";refine ⟨_, SqL.of zae, ?_⟩;have := k _ (zad hn' (.lst ((x.cps.toList.map fun c => inS ⟨#[c]⟩ "0123456789").map V.bl)));rw [hn] at this;rw [List.all_map];exact this
def sof : Str := "abcdefghijklmnopqrstuvwxyz0123456789"
def zcU (x : Str) : Bool := (Txt.slice x (some 1) none).cps.toList.all fun c => inS ⟨#[c]⟩ sof
def base (x f : Str) : Bool := if x = "" then false else if (8 : Int) < x.length then false else if inS ⟨#[x.cps.toList.headD 0]⟩ f then zcU x else false
def ziz : List V := [V.str "not", V.str "and", V.str "or", V.str "then", V.str "all", V.str "some", V.str "false"]
theorem zfF {x : Str} (h : ¬ x = "") : atI x.cps.toList 0 = some (x.cps.toList.headD 0) := by
 have e : x.cps.toList ≠ [] := fun e => h (by
  obtain ⟨c⟩ := x;have : c = #[] := by simpa using e
  subst this
  rfl)
 cases q : x.cps.toList with
 | nil => exact absurd q e
 | cons c r => exact zam (j := 0) rfl
def zn0 : Sp := fun vs H Q _ => ∃ x f, vs = [.str x, .str f] /\ x.length <= 9000 /\ ∀ H', Same H H' -> Q (.bl (base x f)) H'
def sp1 (r : Str -> Bool) : Sp := fun vs H Q _ => ∃ x, vs = [.str x] /\ x.length <= 9000 /\ ∀ H', Same H H' -> Q (.bl (r x)) H'
theorem zi0 (T : Tx K mg D) : FnOk P w K mg Qd CX0 1 D.a_a0 D.d_a0 ["text", "first_signs"] zn0 := by
 refine T.F_a0.ok zcl (fun vs H Q E h => ?_) (fun cdv A outer s H vs Q E hr h => ?_)
 ·obtain ⟨x, f, rfl, _⟩ := h; rfl
 obtain ⟨x, f, rfl, hx, k⟩ := h;have hu := hr.units;refine ⟨_, (zag (zaS (PW.pt (zcu (zaq (zdv K hu) (pv 0) zal (zaw _)) (zcu (zaq zft (zas (za3 K) ρ T.z_len yap (zaa (pv 0) zaf)) (T.g_MOST_SIGNS ρ) (zaw _)) (zce (zaq (zeO K hu) (za4 (ixA K) (pv 0) zab (fun _ _ => rfl)) (pv 1) ρ))))) (zah (zar zbU)) zay)
  (zah (zar (zas (zc4 K ρ) ρ T.z_all ρ (zaa (zbJ 1 [] ["sign"] ⟨ρ,ρ,ρ,ρ,ρ,ρ,ρ⟩ ρ (zaT K (zaR (slB K) (pv 0) (zbg zab) zbk)) (fun _ _ _ _ => zaz (i := 0) (show List.Nodup (["sign"] : List Str) by decide +kernel) ρ (Or.inl ρ) (Or.inr ρ)) (za0 δ) (fun _ _ _ _ => zbl) (fun _ _ _ _ => (zbz (zmJ K hu) (pv 0) (T.g_SMALL_OR_FIGURE ρ) ρ))) zaf))))), ?_⟩
 walk_at "S";walk_at "";have hz : x.length <= sizeLine := zao ω;have kf : base x f = false -> Q (.bl false) H := fun e => by have q := k H (Same.refl H); rw [e] at q; exact q
 refine ite2 (fun c => kf (by unfold base; rw [if_pos c])) fun c => ⟨hz, ite2 (fun c2 => kf (by unfold base; rw [if_neg c, if_pos c2])) fun c2 => ⟨hz, _, zfF c, ?_⟩⟩
 refine ite2 (fun c3 => kf (by unfold base; rw [if_neg c, if_neg c2, if_neg (by rw [c3]; exact yam)])) fun c3 => ⟨hz, ?_⟩
 have c3' : inS ⟨#[x.cps.toList.headD 0]⟩ f = true := by simpa using c3
 have hb : base x f = zcU x := by unfold base; rw [if_neg c, if_neg c2, if_pos c3']
 have Qe : (Txt.slice x (some 1) none).cps.toList.length <= 9000 := yat (Nat.le_of_eq (by simp [Str.length])) (yat (Txt.slice_le x (some 1) none) hx);refine zfQ (fun i acc H2 => H2 = H /\ acc = ((Txt.slice x (some 1) none).cps.toList.take i).map fun c => V.bl (inS ⟨#[c]⟩ sof)) ⟨rfl,ς⟩ (fun i c acc H2 hi hp => ?_) fun acc H2 hp p hn => ?_
 ·obtain ⟨rfl, rfl⟩ := hp;have hil : i < (Txt.slice x (some 1) none).cps.toList.length := (yag.mp hi).1;refine ⟨zaG (by rw [yaf, ya3]; omega), ?_⟩;simp only [za1, List.replicate_succ, List.replicate_zero, List.map_nil, List.nil_append, List.cons_append];walk_at "";refine ⟨trivial, ?_⟩;rw [List.take_add_one, hi];simp [sof]
 ·obtain ⟨rfl, rfl⟩ := hp;walk_at "";refine ⟨(Txt.slice x (some 1) none).cps.toList.map fun c => inS ⟨#[c]⟩ sof, SqL.of (by rw [zae, List.take_of_length_le (yai _), List.map_map]; rfl), ?_⟩;have q := k _ (zad hn (.lst (((Txt.slice x (some 1) none).cps.toList.take (Txt.slice x (some 1) none).cps.toList.length).map fun c => V.bl (inS ⟨#[c]⟩ sof))));rw [hb] at q;have e : ((Txt.slice x (some 1) none).cps.toList.map fun c => inS ⟨#[c]⟩ sof).all id = zcU x := by unfold zcU; rw [List.all_map]; rfl
  rw [e];exact q
theorem zi1 (T : Tx K mg D) : FnOk P w K mg Qd CX0 2 D.a_c9 D.d_c9 ["text"] (sp1 fun x => base x "abcdefghijklmnopqrstuvwxyz" && !inV (.str x) ziz) := by
 have G_a0 := @zi0 P w _ _ Qd _ T;refine T.F_c9.ok zgN (fun vs H Q E h => ?_) (fun cdv A outer s H vs Q E hr h => ?_)
 ·obtain ⟨x, rfl, _⟩ := h; rfl
 obtain ⟨x, rfl, hx, k⟩ := h;have hu := hr.units;have hr_a0 : Room 1 _ := hr.mono δ;refine ⟨_, (zah (zar (zcQ (YC G_a0 hr_a0 ρ T.m_a0 (zaa (pv 0) (zaa (T.g_SMALL ρ) zaf))) (zdl (zbz (zeO K hu) (pv 0) (T.g_KEPT_WORDS ρ) ρ))))), ?_⟩;walk_at "S";walk_at "";refine ⟨x, _, rfl, hx, fun H' hs => ?_⟩;walk_at "";have q : Q (.bl (base x "abcdefghijklmnopqrstuvwxyz" && !inV (.str x) ziz)) H' := k H' hs;cases e : base x "abcdefghijklmnopqrstuvwxyz" with
 | false => rw [e] at q; exact iteF q
 | true => rw [e] at q; exact iteT (.inl ⟨_, _, rfl, .inr (T.q_KEPT_WORDS _), rfl,δ, q⟩)
theorem zly (T : Tx K mg D) : FnOk P w K mg Qd CX0 3 D.a_c5 D.d_c5 ["text"] (sp1 fun x => base x "abcdefghijklmnopqrstuvwxyz" && !inV (.str x) ziz) := by
 have G_c9 := @zi1 P w _ _ Qd _ T;refine T.F_c5.ok zgO (fun vs H Q E h => ?_) (fun cdv A outer s H vs Q E hr h => ?_)
 ·obtain ⟨x, rfl, _⟩ := h; rfl
 obtain ⟨x, rfl, hx, k⟩ := h;have hu := hr.units;have hr_c9 : Room 2 _ := hr.mono δ;refine ⟨_, (zah (zar (YC G_c9 hr_c9 ρ T.m_c9 (zaa (pv 0) zaf)))), ?_⟩;walk_at "S";walk_at "";exact ⟨x, rfl, hx, k⟩
def zi2 (K : W.Frag) : Sp := fun vs H Q _ => ∃ (a : Addr) (xs : List V) (ks : List (List Nat × List Int)), vs = [.ref a] /\ (SqL K H a xs \/ SqT K H a xs) /\ KeyRow K H xs ks /\ xs.length <= 9000 /\ ∀ H', Same H H' -> Q (.bl (risQ ks)) H'
theorem zgq (T : Tx K mg D) : FnOk P w K mg Qd CX0 1 D.a_d4 D.d_d4 ["row"] (zi2 K) := by
 refine T.F_d4.ok zj9 (fun vs H Q E h => ?_) (fun cdv A outer s H vs Q E hr h => ?_)
 ·obtain ⟨a, xs, ks, rfl, _⟩ := h; rfl
 obtain ⟨a, xs, ks, rfl, hA, ⟨t, hl, hK⟩, hx, k⟩ := h;have hu := hr.units;refine ⟨_, (zah (zar (zas (zc4 K ρ) ρ T.z_all ρ (zaa (zbJ 1 [0] ["k", "row"] ⟨ρ,ρ,ρ,ρ,ρ,ρ,ρ⟩ ρ (zb2 ρ T.z_range (zaa (zak zjN (zas (za3 K) ρ T.z_len yap (zaa (pv 0) zaf)) zab) zaf)) (fun _ _ _ _ => zaz (i := 0) (show List.Nodup (["k", "row"] : List Str) by decide +kernel) ρ (Or.inl ρ) (Or.inr ρ)) (za0 δ) (fun _ _ _ _ => zbl) (fun _ _ _ _ => (zbz (znr K hu) (za4 (ixA K) (pv 1) (pv 0) (fun _ _ => rfl)) (za4 (ixA K) (pv 1) (zak (zat K) (pv 0) zab) (fun _ _ => rfl)) (zaw _)))) zaf)))), ?_⟩;walk_at "S";walk_at "";refine ⟨_, hA,ω,ω, ?_⟩;refine zcp (fun i acc H5 => H5 = H /\ acc = (List.range i).map fun j => V.bl (decide (zbf (ks.getD j ([], [])) (ks.getD (j + 1) ([], []))))) ⟨rfl, rfl⟩ (fun i acc H5 hi hv => ?_) fun acc H5 hv p hp => ?_
 ·obtain ⟨rfl, rfl⟩ := hv;have hi' : i + 1 < xs.length := by omega
  refine ⟨zaG (by simp; omega), ?_⟩;walk_at "T";walk_at "";have e0 : atI xs (0 + (i : Int)) = some (xs[i]'ω) := at0 (yal ω);have e1 : atI xs (0 + (i : Int) + 1) = some (xs[i + 1]'hi') := by
   rw [show (0 + (i : Int) + 1) = ((i + 1 : Nat) : Int) by omega];exact zam (yal hi')
  refine ⟨_, hA, _, e0, _, hA, _, e1, KeyIt.lt (KeyRow.at hl hK ω) (KeyRow.at hl hK hi') ⟨rfl, ?_⟩⟩;rw [List.range_succ, ya0]; rfl
 ·obtain ⟨rfl, rfl⟩ := hv;walk_at "";have en : ((xs.length : Int) - 1).toNat = ks.length - 1 := by omega
  rw [en];refine ⟨(List.range (ks.length - 1)).map fun j => decide (zbf (ks.getD j ([], [])) (ks.getD (j + 1) ([], []))), SqL.of (by rw [zae, List.map_map]; rfl), ?_⟩;rw [List.all_map];exact k _ (zad hp _)
theorem zgR {ks : List (List Nat × List Int)} {j : Nat} (hj : j + 1 < ks.length) (h : ¬ zbf (ks.getD j ([], [])) (ks.getD (j + 1) ([], []))) : risQ ks = false := by
 unfold risQ;rw [List.all_eq_false];exact ⟨j, List.mem_range.mpr ω, by simpa using h⟩
theorem zi3 {ks : List (List Nat × List Int)} (h : ∀ j, j + 1 < ks.length -> zbf (ks.getD j ([], [])) (ks.getD (j + 1) ([], []))) : risQ ks = true := by
 unfold risQ;rw [List.all_eq_true];intro j hj;exact ya9 (h j (by have := List.mem_range.mp hj; omega))
theorem zgS (T : Tx K mg D) : FnOk P w K mg Qd CX0 1 D.a_d1 D.d_d1 ["_law_row"] (zi2 K) := by
 refine T.F_d1.ok sc_d1 (fun vs H Q E h => ?_) (fun cdv A outer s H vs Q E hr h => ?_)
 ·obtain ⟨a, xs, ks, rfl, _⟩ := h; rfl
 obtain ⟨a, xs, ks, rfl, hA, ⟨t, hl, hK⟩, hx, k⟩ := h;have hu := hr.units;refine ⟨_, (zag (zb8 PassesOwn.never ρ (zhc ρ T.z_range (zaa zab (zaa (zas (za3 K) ρ T.z_len yap (zaa (pv 0) zaf)) zaf))) (zaz (i := 1) sc_d1.nd ρ (by walk_at "o"))
   (zah (zaS (zaq (zns K hu) (za4 (ixA K) (pv 0) (pv 1) (fun _ _ => rfl)) (za4 (ixA K) (pv 0) (zak zjN (pv 1) zab) (fun _ _ => rfl)) (zaw _)) (zah (zar zbU)) zay)))
  (zah (zar zbU))), ?_⟩
 walk_at "S";walk_at "";refine ⟨_, hA, ⟨δ,δ,ω,ω⟩, ?_⟩;refine zbZ (fun i σ H2 => H2 = H /\ (∃ u1, σ = [some (.ref a), u1]) /\ ∀ j, j < i -> zbf (ks.getD j ([], [])) (ks.getD (j + 1) ([], []))) ⟨rfl, ⟨_, rfl⟩, fun j hj => absurd hj ω⟩ (fun i σ H2 hi hv => ?_) fun σ H2 hv => ?_
 ·obtain ⟨rfl, ⟨u1, rfl⟩, hv⟩ := hv;have hi' : i + 1 < xs.length := by omega
  walk_at "";have e1 : atI xs (1 + (i : Int)) = some (xs[i + 1]'hi') := by
   rw [show (1 + (i : Int)) = ((i + 1 : Nat) : Int) by omega];exact zam (yal hi')
  have e0 : atI xs (1 + (i : Int) - 1) = some (xs[i]'ω) := by
   rw [show (1 + (i : Int) - 1) = ((i : Nat) : Int) by omega];exact zam (yal ω)
  refine ⟨_, hA, _, e1, _, hA, _, e0, KeyIt.le (KeyRow.at hl hK hi') (KeyRow.at hl hK ω) ⟨_, rfl, ?_⟩⟩
  by_cases c : zbf (ks.getD i ([], [])) (ks.getD (i + 1) ([], []))
  ·rw [if_neg (by simpa using c)];refine ⟨rfl, ⟨_, rfl⟩, fun j hj => ?_⟩
   by_cases e : j = i
   ·subst e; exact c
   ·exact hv j ω
  ·rw [if_pos (by simpa using c)];have q := k H2 (Same.refl _);rw [zgR ω c] at q;exact q
 ·obtain ⟨rfl, ⟨u1, rfl⟩, hv⟩ := hv;walk_at "";have q := k H2 (Same.refl _);rw [zi3 fun j hj => hv j ω] at q;exact q
def nmQ (x : Str) : Bool := base x "abcdefghijklmnopqrstuvwxyz" && !inV (.str x) ziz
def thQ (n i : Int) : Bool := decide (0 <= i /\ i < n)
def prQ (n : Int) (p : Str × Int) : Bool := nmQ p.1 && thQ n p.2
def ftQ (n : Int) (r : Rw) : Bool := nmQ r.1 && decide (r.2.length <= 3) && r.2.all (thQ n)
def clQ (n : Int) (cs : List (Str × Int)) : Bool := cs.all (prQ n) && risQ (cs.map fun p => (p.1.cps.toList, []))
def fsQ (n : Int) (fs : List Rw) : Bool := fs.all (ftQ n) && risQ (fs.map rowK)
def fitQ (W : Wd) : Bool := decide (1 <= W.size) && clQ W.size W.cs && fsQ W.size W.fs
theorem zdB (T : Tx K mg D) : FnOk P w K mg Qd CX0 1 D.a_c3 D.d_c3 ["thing", "size"] (fun vs H Q _ => ∃ i n, vs = [.int i, .int n] /\ Q (.bl (thQ n i)) H) := by
 refine T.F_c3.ok zfE (fun vs H Q E h => ?_) (fun cdv A outer s H vs Q E hr h => ?_)
 ·obtain ⟨i, n, rfl, _⟩ := h; rfl
 obtain ⟨i, n, rfl, k⟩ := h;have hu := hr.units;refine ⟨_, (zah (zar (zcQ (zbz zlS zab (pv 0) (zaw _)) (zdl (zbz zch (pv 0) (pv 1) (zaw _)))))), ?_⟩;walk_at "S";walk_at "";unfold thQ at k
 by_cases c : 0 <= i
 ·rw [if_pos c];have : decide (0 <= i /\ i < n) = decide (i < n) := by simp [c]
  rw [this] at k; exact k
 ·rw [if_neg c];have : decide (0 <= i /\ i < n) = false := by simp [c]
  rw [this] at k; exact k
theorem zbE {α : Type} {f : α -> Bool} {l : List α} {j : Nat} (hj : j < l.length) (h : (l.take j).all f = true) (c : f l[j] = true) : (l.take (j + 1)).all f = true := by
 rw [List.take_succ_eq_append_getElem hj, List.all_append, h, List.all_cons, c, List.all_nil]; rfl
theorem zbS {α : Type} {f : α -> Bool} {l : List α} {j : Nat} (hj : j < l.length) (c : f l[j] = false) : l.all f = false := List.all_eq_false.mpr ⟨l[j], List.getElem_mem hj, by rw [c]; exact yam⟩
def zou (K : W.Frag) : Sp := fun vs H Q _ => ∃ (a : Addr) (xs : List V) (cs : List (Str × Int)) (n : Int), vs = [.ref a, .int n] /\ SqT K H a xs /\ RepX K H ((cs.map prR).map (rowD false)) xs /\ xs.length <= 9000 /\ (∀ p ∈ cs, p.1.length <= 9000) /\ ∀ H', Same H H' -> Q (.bl (clQ n cs)) H'
theorem zeu (T : Tx K mg D) : FnOk P w K mg Qd CX0 3 D.a_b1 D.d_b1 ["called", "size"] (zou K) := by
 have G_c9 := @zi1 P w _ _ Qd _ T;have G_c3 := @zdB P w _ _ Qd _ T;have G_d4 := @zgq P w _ _ Qd _ T;refine T.F_b1.ok sc_b1 (fun vs H Q E h => ?_) (fun cdv A outer s H vs Q E hr h => ?_)
 ·obtain ⟨a, xs, cs, n, rfl, _⟩ := h; rfl
 obtain ⟨a, xs, cs, n, rfl, hA, hX, hx, hn, k⟩ := h;have hu := hr.units;have hr_c9 : Room 2 _ := hr.mono δ;have hr_c3 : Room 1 _ := hr.mono δ;have hr_d4 : Room 1 _ := hr.mono δ;have hlx : xs.length = cs.length := by have := hX.1; simpa using this.symm
 refine ⟨_, (zag (zb8 PassesOwn.never ρ (zaT K (pv 0)) (zjL ρ (zda (zaz (i := 2) sc_b1.nd ρ (by walk_at "o")) (zda (zaz (i := 3) sc_b1.nd ρ (by walk_at "o")) zha)))
   (zah (zaS (PW.pt (zcu (zbY (zcd (YC G_c9 hr_c9 ρ T.m_c9 (zaa (pv 2) zaf)))) (zce (zbY (zcd (YC G_c3 hr_c3 ρ T.m_c3 (zaa (pv 3) (zaa (pv 1) zaf)))))))) (zah (zar zbU)) zay)))
  (zah (zar (YC G_d4 hr_d4 ρ T.m_d4 (zaa (zbJ 1 [] ["pair"] ⟨ρ,ρ,ρ,ρ,ρ,ρ,ρ⟩ ρ (zaT K (pv 0)) (fun _ _ _ _ => zaz (i := 0) (show List.Nodup (["pair"] : List Str) by decide +kernel) ρ (Or.inl ρ) (Or.inr ρ)) (za0 δ) (fun _ _ _ _ => zbl) (fun _ _ _ _ => (za4 (ixA K) (pv 0) zab (fun _ _ => rfl)))) zaf))))), ?_⟩
 walk_at "S";walk_at "";refine .inr ⟨⟨_, hA⟩, zcq (xs := xs) (fun i σ H2 => Same H H2 /\ (∃ u2 u3, σ = [some (.ref a), some (.int n), u2, u3]) /\ (cs.take i).all (prQ n) = true) ⟨Same.refl _, ⟨_, _, rfl⟩, rfl⟩ (fun i σ H2 _ hv => hv.1.seqT hA) (fun j x σ H2 hx' hv => ?_) fun σ H2 hv => ?_⟩
 ·obtain ⟨s2, ⟨u2, u3, rfl⟩, hall⟩ := hv;have hj : j < cs.length := by have := (yag.mp hx').1; omega
  have hd := (hX.2 j (rowD false (prR cs[j])) x (by simp [hj]) hx').same s2;obtain ⟨q, x1, x2, rfl, hq, e1, e2⟩ := RepD.two hd;cases e1;cases e2;walk_at "";refine ⟨_, hq, rfl, ?_⟩;walk_at "";refine ⟨_, rfl, hn _ (List.getElem_mem hj), fun H3 s3 => ?_⟩;have stop : prQ n cs[j] = false -> Q (.bl false) H3 := fun e => by
   have q := k H3 (s2.trans s3);unfold clQ at q;rw [zbS hj e, Bool.false_and] at q;exact q
  refine ⟨nmQ cs[j].1, rfl, ?_⟩;cases c1 : nmQ cs[j].1 with
  | false => rw [if_pos rfl]; exact stop (by unfold prQ; rw [c1]; rfl)
  | true =>
   rw [if_neg (fun z => nomatch z)];show if thQ n cs[j].2 = false then _ else _;cases c2 : thQ n cs[j].2 with
   | false => rw [if_pos rfl]; exact stop (by unfold prQ; rw [c1, c2]; rfl)
   | true =>
    rw [if_neg (fun z => nomatch z)];exact ⟨s2.trans s3, ⟨_, _, rfl⟩, zbE hj hall (by unfold prQ; rw [c1, c2]; rfl)⟩
 ·obtain ⟨s2, ⟨u2, u3, rfl⟩, hall⟩ := hv;rw [hlx, List.take_length] at hall;walk_at "";refine .inr ⟨⟨_, s2.seqT hA⟩, zfR (xs := xs) (fun i acc H5 => H5 = H2 /\ acc = ((cs.take i).map (·.1)).map V.str) ⟨rfl, rfl⟩ (fun i acc H5 _ hv => hv.1 ▸ s2.seqT hA) (fun j x acc H5 hx' hv => ?_) fun acc H5 hv p hp => ?_⟩
  ·obtain ⟨rfl, rfl⟩ := hv;have hj : j < cs.length := by have := (yag.mp hx').1; omega
   have hd := (hX.2 j (rowD false (prR cs[j])) x (by simp [hj]) hx').same s2;obtain ⟨q, x1, x2, rfl, hq, e1, e2⟩ := RepD.two hd;cases e1;refine ⟨zaG (by simp; omega), ?_⟩;walk_at "T";walk_at "";refine ⟨_, .inr hq, _, i0, trivial, ?_⟩;rw [List.take_succ_eq_append_getElem hj, ya0, ya0]; rfl
  ·obtain ⟨rfl, rfl⟩ := hv;rw [hlx, List.take_length];walk_at "t";refine ⟨p, _, _, rfl, .inl (SqL.of zae), KeyRow.txts (cs.map (·.1)), by simp; omega, fun H6 s6 => ?_⟩;have q := k H6 ((s2.trans (zad hp _)).trans s6);unfold clQ at q;rw [hall, Bool.true_and] at q;rw [List.map_map];exact q
def zov (K : W.Frag) : Sp := fun vs H Q _ => ∃ (a : Addr) (xs : List V) (fs : List Rw) (n : Int), vs = [.ref a, .int n] /\ SqT K H a xs /\ RepX K H (fs.map (rowD true)) xs /\ xs.length <= 9000 /\ (∀ p ∈ fs, p.1.length <= 9000 /\ p.2.length <= 9000) /\ ∀ H', Same H H' -> Q (.bl (fsQ n fs)) H'
theorem RepD.intsT {K : W.Frag} {H : Hp} {l : List Int} {v : V} (h : RepD K H (.tup (l.map .int)) v) : ∃ a, v = .ref a /\ SqT K H a (l.map V.int) := by
 obtain ⟨a, xs, rfl, hs, hx⟩ := RepD.toT h;refine ⟨a, rfl, ?_⟩;have : xs = l.map V.int := by
  apply List.ext_getElem?;intro j;rw [yav];have hl : l.length = xs.length := by have := hx.1; simpa using this
  by_cases c : j < l.length
  ·have h1 := hx.2 j (.int l[j]) (xs[j]'ω) (by simp [c]) (yal ω);rw [yal (by omega : j < xs.length), yal c];have : ∀ {i : Int} {v : V}, RepD K H (.int i) v -> v = .int i := fun h => by cases h; rfl
   rw [this h1]; rfl
  ·rw [List.getElem?_eq_none ω, List.getElem?_eq_none ω]; rfl
 rw [<- this]; exact hs
theorem zfj (T : Tx K mg D) : FnOk P w K mg Qd CX0 4 D.a_b6 D.d_b6 ["facts", "size"] (zov K) := by
 have G_c5 := @zly P w _ _ Qd _ T;have G_c3 := @zdB P w _ _ Qd _ T;have G_d4 := @zgq P w _ _ Qd _ T;refine T.F_b6.ok sc_b6 (fun vs H Q E h => ?_) (fun cdv A outer s H vs Q E hr h => ?_)
 ·obtain ⟨a, xs, cs, n, rfl, _⟩ := h; rfl
 obtain ⟨a, xs, fs, n, rfl, hA, hX, hx, hn, k⟩ := h;have hu := hr.units;have hr_c5 : Room 3 _ := hr.mono δ;have hr_c3 : Room 1 _ := hr.mono δ;have hr_d4 : Room 1 _ := hr.mono δ;have hlx : xs.length = fs.length := by have := hX.1; simpa using this.symm
 refine ⟨_, (zag (zb8 PassesOwn.never ρ (zaT K (pv 0)) (zjL ρ (zda (zaz (i := 2) sc_b6.nd ρ (by walk_at "o")) (zda (zaz (i := 3) sc_b6.nd ρ (by walk_at "o")) zha)))
   (zag (zaS (PW.pt (zcu (zbY (zcd (YC G_c5 hr_c5 ρ T.m_c5 (zaa (pv 2) zaf)))) (zce (zaq zft (zas (za3 K) ρ T.z_len yap (zaa (pv 3) zaf)) (T.g_MOST_THINGS_OF_A_FACT ρ) (zaw _))))) (zah (zar zbU)) zay)
  (zah (zaS (zbY (zcd (zas (zc4 K ρ) ρ T.z_all ρ (zaa (zbJ 1 [1] ["thing", "size"] ⟨ρ,ρ,ρ,ρ,ρ,ρ,ρ⟩ ρ (zaT K (pv 3)) (fun _ _ _ _ => zaz (i := 0) (show List.Nodup (["thing", "size"] : List Str) by decide +kernel) ρ (Or.inl ρ) (Or.inr ρ)) (za0 δ) (fun _ _ _ _ => zbl) (fun _ _ _ _ => (YC G_c3 hr_c3 ρ T.m_c3 (zaa (pv 0) (zaa (pv 1) zaf))))) zaf)))) (zah (zar zbU)) zay))))
  (zah (zar (YC G_d4 hr_d4 ρ T.m_d4 (zaa (pv 0) zaf))))), ?_⟩
 walk_at "S";walk_at "";refine .inr ⟨⟨_, hA⟩, zcq (xs := xs) (fun i σ H2 => Same H H2 /\ (∃ u2 u3, σ = [some (.ref a), some (.int n), u2, u3]) /\ (fs.take i).all (ftQ n) = true) ⟨Same.refl _, ⟨_, _, rfl⟩, rfl⟩ (fun i σ H2 _ hv => hv.1.seqT hA) (fun j x σ H2 hx' hv => ?_) fun σ H2 hv => ?_⟩
 ·obtain ⟨s2, ⟨u2, u3, rfl⟩, hall⟩ := hv;have hj : j < fs.length := by have := (yag.mp hx').1; omega
  have hd := (hX.2 j (rowD true fs[j]) x (by simp [hj]) hx').same s2;obtain ⟨q, x1, x2, rfl, hq, e1, e2⟩ := RepD.two hd;cases e1;obtain ⟨b, rfl, hb⟩ := RepD.intsT e2;walk_at "";refine ⟨_, hq, rfl, ?_⟩;walk_at "";obtain ⟨hn1, hn2⟩ := hn _ (List.getElem_mem hj);refine ⟨_, rfl, hn1, fun H3 s3 => ?_⟩;have stop : ∀ H4, Same H3 H4 -> ftQ n fs[j] = false -> Q (.bl false) H4 := fun H4 s4 e => by
   have q := k H4 ((s2.trans s3).trans s4);unfold fsQ at q;rw [zbS hj e, Bool.false_and] at q;exact q
  refine ⟨nmQ fs[j].1, rfl, ?_⟩;cases c1 : nmQ fs[j].1 with
  | false => rw [if_pos rfl]; exact stop _ (Same.refl _) (by unfold ftQ; rw [c1]; rfl)
  | true =>
   rw [if_neg (fun z => nomatch z)];walk_at "t";refine ⟨_, .inr (s3.seqT hb), ?_⟩;walk_at "t";rw [yaf]
   by_cases c2 : (3 : Int) < fs[j].2.length
   ·rw [if_pos c2];exact stop _ (Same.refl _) (by unfold ftQ; rw [ya8 (show ¬ fs[j].2.length <= 3 by omega)]; simp)
   rw [if_neg c2];refine .inr ⟨⟨_, s3.seqT hb⟩, zfR (xs := fs[j].2.map V.int) (fun i acc H5 => H5 = H3 /\ acc = ((fs[j].2.take i).map (thQ n)).map V.bl) ⟨rfl, rfl⟩ (fun i acc H5 _ hv => hv.1 ▸ s3.seqT hb) (fun i x acc H5 hx'' hv => ?_) fun acc H5 hv p hp => ?_⟩
   ·obtain ⟨rfl, rfl⟩ := hv;have hi : i < fs[j].2.length := by have := (yag.mp hx'').1; simpa using this
    have ex : x = .int fs[j].2[i] := by
     rw [yav, yal hi] at hx'';cases hx''; rfl
    subst ex;refine ⟨zaG (by simp; omega), ?_⟩;walk_at "T";walk_at "";refine ⟨trivial, ?_⟩;rw [List.take_succ_eq_append_getElem hi, ya0, ya0]; rfl
   ·obtain ⟨rfl, rfl⟩ := hv;walk_at "t";rw [yaf, List.take_length];refine ⟨fs[j].2.map (thQ n), SqL.of zae, ?_⟩;rw [show (fs[j].2.map (thQ n)).all id = fs[j].2.all (thQ n) by rw [List.all_map]; rfl];cases c3 : fs[j].2.all (thQ n) with
    | false => rw [if_pos rfl]; exact stop _ (zad hp _) (by unfold ftQ; rw [c3]; simp)
    | true =>
     rw [if_neg (fun z => nomatch z)];exact ⟨(s2.trans s3).trans (zad hp _), ⟨_, _, rfl⟩, zbE hj hall (by unfold ftQ; rw [c1, c3, ya9 (show fs[j].2.length <= 3 by omega)]; rfl)⟩
 ·obtain ⟨s2, ⟨u2, u3, rfl⟩, hall⟩ := hv;rw [hlx, List.take_length] at hall;walk_at "";refine ⟨a, xs, _, rfl, .inr (s2.seqT hA), (KeyRow.facts (hX.same s2)),ω, fun H6 s6 => ?_⟩;have q := k H6 (s2.trans s6);unfold fsQ at q;rw [hall, Bool.true_and] at q;exact q
structure Bnd (W : Wd) : Prop where
 c : W.cs.length <= 9000
 f : W.fs.length <= 9000
 nc : ∀ p ∈ W.cs, p.1.length <= 9000
 nf : ∀ p ∈ W.fs, p.1.length <= 9000 /\ p.2.length <= 9000
def zn1 (K : W.Frag) : Sp := fun vs H Q _ => ∃ (r c f : Addr) (W : Wd) (xs ys : List V), vs = [.ref r] /\ RepW K H W r c f xs ys /\ Bnd W /\ ∀ H', Same H H' -> Q (.bl (fitQ W)) H'
theorem zfk (T : Tx K mg D) : FnOk P w K mg Qd CX0 5 D.a_b3 D.d_b3 ["world"] (zn1 K) := by
 have G_b1 := @zeu P w _ _ Qd _ T;have G_b6 := @zfj P w _ _ Qd _ T;refine T.F_b3.ok sc_b3 (fun vs H Q E h => ?_) (fun cdv A outer s H vs Q E hr h => ?_)
 ·obtain ⟨r, c, f, W, xs, ys, rfl, _⟩ := h; rfl
 obtain ⟨r, c, f, W, xs, ys, rfl, hW, hB, k⟩ := h;have hu := hr.units;have hr_b1 : Room 3 _ := hr.mono δ;have hr_b6 : Room 4 _ := hr.mono δ;have lx : xs.length = W.cs.length := by have := hW.rc.1; simpa using this.symm
 have ly : ys.length = W.fs.length := by have := hW.rf.1; simpa using this.symm
 have b1 := hB.c;have b2 := hB.f;refine ⟨_, (zag (zax (i := 1) sc_b3.nd ρ (by walk_at "o") (za4 (ixA K) (pv 0) zab (fun _ _ => rfl)))
  (zah (zar (zcQ (zbz zku (pv 1) zab (zaw _)) (zcQ (YC G_b1 hr_b1 ρ T.m_b1 (zaa (za4 (ixA K) (pv 0) zab (fun _ _ => rfl)) (zaa (pv 1) zaf))) (zdl (YC G_b6 hr_b6 ρ T.m_b6 (zaa (za4 (ixA K) (pv 0) zab (fun _ _ => rfl)) (zaa (pv 1) zaf))))))))), ?_⟩
 walk_at "S";walk_at "";refine ⟨_, .inr hW.top, _, i0, ?_⟩;walk_at ""
 by_cases c0 : 1 <= W.size
 ·rw [if_pos c0];refine ⟨_, .inr hW.top, _, i1, c, xs, W.cs, W.size, rfl, hW.called, hW.rc,ω, hB.nc, fun H1 s1 => ?_⟩;walk_at "t";cases c1 : clQ W.size W.cs with
  | false =>
   rw [if_neg (fun z => nomatch z)];have q := k H1 s1;unfold fitQ at q;rw [c1, Bool.and_false, Bool.false_and] at q;exact q
  | true =>
   rw [if_pos rfl];refine ⟨_, .inr (s1.seqT hW.top), _, i2, f, ys, W.fs, W.size, rfl, s1.seqT hW.facts, hW.rf.same s1,ω, hB.nf, fun H2 s2 => ?_⟩;have q := k H2 (s1.trans s2);unfold fitQ at q;rw [c1, ya9 c0, Bool.true_and, Bool.true_and] at q;exact q
 ·rw [if_neg c0];have q := k H (Same.refl _);unfold fitQ at q;rw [ya8 c0, Bool.false_and, Bool.false_and] at q;exact q
theorem zjC {t : Str} {c : Nat} (h : t.cps.toList.head? = some c) (hc : inS ⟨#[c]⟩ "abcdefghijklmnopqrstuvwxyz" = true) : (t.cps.toList.all fun c => inS ⟨#[c]⟩ sof) = zcU t := by
 unfold zcU;have e := zcL t 1;rw [show ((1 : Nat) : Int) = 1 from rfl] at e;rw [e];cases q : t.cps.toList with
 | nil => rw [q] at h; cases h
 | cons d r =>
  rw [q] at h;cases h;have h1 : inS ⟨#[c]⟩ sof = true := by
   rw [zh8] at hc ⊢;exact ya9 (zeK c (ya7 hc))
  rw [List.all_cons, h1, Bool.true_and]
  rfl
def zn2 : Sp := fun vs H Q _ => ∃ x, vs = [.str x] /\ x.length <= 9000 /\ ∀ H', Same H H' -> Q (.bl (nmQ x)) H'
theorem zfl (T : Tx K mg D) : FnOk P w K mg Qd CX0 1 D.a_b8 D.d_b8 ["_law_text"] zn2 := by
 refine T.F_b8.ok sc_b8 (fun vs H Q E h => ?_) (fun cdv A outer s H vs Q E hr h => ?_)
 ·obtain ⟨x, rfl, _⟩ := h; rfl
 obtain ⟨x, rfl, hx, k⟩ := h;have hu := hr.units;refine ⟨_, (zag (zaS (PW.pt (zcu (zbY (zfK zch zch zab (zas (za3 K) ρ T.z_len yap (zaa (pv 0) zaf)) zab)) (zce (zaq (zci K) (za4 (ixA K) (pv 0) zab (fun _ _ => rfl)) zal ρ)))) (zah (zar zbU)) zay)
  (zag (zb8 PassesOwn.never ρ (zaT K (pv 0)) (zaz (i := 1) sc_b8.nd ρ (by walk_at "o"))
   (zah (zaS (zaq (zci K) (pv 1) zal ρ) (zah (zar zbU)) zay)))
  (zah (zar (zbz (zci K) (pv 0) (zbn (zaa zal (zaa zal (zaa zal (zaa zal (zaa zal (zaa zal (zaa zal zaf)))))))) ρ))))), ?_⟩
 walk_at "S";walk_at "";have hz : x.length <= sizeLine := zao ω;have kf : nmQ x = false -> Q (.bl false) H := fun e => by have := k H (Same.refl _); rw [e] at this; exact this
 refine ⟨hz, ite2 (fun c1 => ?_) fun c1 => kf ?_⟩
 ·have hne : ¬ x = "" := fun e => by subst e; exact absurd c1 δ
  refine ite2 (fun c2 => kf ?_) fun c2 => ⟨hz, _, zfF hne, ite2 (fun c3 => kf ?_) fun c3 => ?_⟩
  ·unfold nmQ base;rw [if_neg hne, if_pos ω]; rfl
  ·unfold nmQ base;rw [if_neg hne, if_neg ω, if_neg (by rw [c3]; exact yam)]; rfl
  have c3' : inS ⟨#[x.cps.toList.headD 0]⟩ "abcdefghijklmnopqrstuvwxyz" = true := by simpa using c3
  have hb : base x "abcdefghijklmnopqrstuvwxyz" = zcU x := by unfold base; rw [if_neg hne, if_neg ω, if_pos c3']
  have hta : (x.cps.toList.all fun c => inS ⟨#[c]⟩ sof) = zcU x := by
   refine zjC (c := x.cps.toList.headD 0) ?_ c3';have := zfF hne;cases q : x.cps.toList with
   | nil => rw [q] at this; cases this
   | cons d r => rfl
  refine zfT (fun i σ H2 => H2 = H /\ (∃ u1, σ = [some (.str x), u1]) /\ (x.cps.toList.take i).all (fun c => inS ⟨#[c]⟩ sof) = true) ⟨rfl, ⟨_, rfl⟩, rfl⟩ (fun i c σ H2 hc hv => ?_) fun σ H2 hv => ?_
  ·obtain ⟨rfl, ⟨u1, rfl⟩, hall⟩ := hv;have hil : i < x.cps.toList.length := (yag.mp hc).1;have ec : x.cps.toList[i] = c := (yag.mp hc).2;walk_at "";cases c4 : inS ⟨#[c]⟩ (Str.ofString "abcdefghijklmnopqrstuvwxyz0123456789") with
   | false =>
    rw [if_pos rfl];refine kf ?_;unfold nmQ;rw [hb, <- hta, zbS hil (by rw [ec]; exact c4)]; rfl
   | true =>
    rw [if_neg (fun z => nomatch z)];exact ⟨trivial, ⟨_, rfl⟩, zbE hil hall (by rw [ec]; exact c4)⟩
  ·obtain ⟨rfl, ⟨u1, rfl⟩, hall⟩ := hv;rw [List.take_length] at hall;walk_at "";refine ⟨zao (show 7 <= 100000 by decide), fun p2 hp2 => ⟨_, .inl (SqL.of zae), rfl, rfl, ?_⟩⟩;have := k _ (zad hp2 (.lst ziz));unfold nmQ at this;rw [hb, <- hta, hall, Bool.true_and] at this;exact this
 ·have : x = "" := by
   obtain ⟨c⟩ := x;have h' : ¬ 0 < (c.size : Int) := c1;have : c = #[] := Array.eq_empty_of_size_eq_zero ω;subst this
   rfl
  subst this
  rfl
structure RepP (K : W.Frag) (H : Hp) (W : Wd) (c f : Addr) (xs ys : List V) : Prop where
 called : H c = some (.lst xs)
 facts : H f = some (.lst ys)
 rc : RepX K H ((W.cs.map prR).map (rowD false)) xs
 rf : RepX K H (W.fs.map (rowD true)) ys
theorem RepP.same {H H' : Hp} {W : Wd} {c f : Addr} {xs ys : List V} (h : RepP K H W c f xs ys) (e : Same H H') : RepP K H' W c f xs ys := ⟨e _ _ h.called, e _ _ h.facts, h.rc.same e, h.rf.same e⟩
def zn3 (K : W.Frag) : Sp := fun vs H Q _ => ∃ (c f : Addr) (W : Wd) (xs ys : List V), vs = [.int W.size, .ref c, .ref f] /\ RepP K H W c f xs ys /\ Bnd W /\ ∀ H', Same H H' -> Q (.bl (fitQ W)) H'
theorem zi4 (T : Tx K mg D) : FnOk P w K mg Qd CX0 2 D.a_d2 D.d_d2 ["_law_size", "_law_called", "_law_facts"] (zn3 K) := by
 have G_b8 := @zfl P w _ _ Qd _ T;have G_d1 := @zgS P w _ _ Qd _ T;refine T.F_d2.ok sc_d2 (fun vs H Q E h => ?_) (fun cdv A outer s H vs Q E hr h => ?_)
 ·obtain ⟨c, f, W, xs, ys, rfl, _⟩ := h; rfl
 obtain ⟨c, f, W, xs, ys, rfl, hP, hB, k⟩ := h;have hu := hr.units;have hr_b8 : Room 1 _ := hr.mono δ;have hr_d1 : Room 1 _ := hr.mono δ;have lx : xs.length = W.cs.length := by have := hP.rc.1; simpa using this.symm
 have ly : ys.length = W.fs.length := by have := hP.rf.1; simpa using this.symm
 have b1 := hB.c;have b2 := hB.f;refine ⟨_, (zag (zaS (PW.pt (zcu (zaq zch (pv 0) zab (zaw _)) (zcu (zbY (zcd (YC G_d1 hr_d1 ρ T.m_d1 (zaa (zbJ 1 [] ["_law_pair"] ⟨ρ,ρ,ρ,ρ,ρ,ρ,ρ⟩ ρ (zaT K (pv 1)) (fun _ _ _ _ => zaz (i := 0) (show List.Nodup (["_law_pair"] : List Str) by decide +kernel) ρ (Or.inl ρ) (Or.inr ρ)) (za0 δ) (fun _ _ _ _ => zbl) (fun _ _ _ _ => (za4 (ixA K) (pv 0) zab (fun _ _ => rfl)))) zaf)))) (zce (zbY (zcd (YC G_d1 hr_d1 ρ T.m_d1 (zaa (pv 2) zaf)))))))) (zah (zar zbU)) zay)
  (zag (zb8 PassesOwn.never ρ (zaT K (pv 1)) (zaz (i := 3) sc_d2.nd ρ (by walk_at "o"))
   (zah (zaS (PW.pt (zcu (zbY (zcd (YC G_b8 hr_b8 ρ T.m_b8 (zaa (za4 (ixA K) (pv 3) zab (fun _ _ => rfl)) zaf)))) (zcu (zaq zch (za4 (ixA K) (pv 3) zab (fun _ _ => rfl)) zab (zaw _)) (zce (zaq zku (za4 (ixA K) (pv 3) zab (fun _ _ => rfl)) (pv 0) (zaw _)))))) (zah (zar zbU)) zay)))
  (zag (zb8 PassesOwn.never ρ (zaT K (pv 2)) (zaz (i := 4) sc_d2.nd ρ (by walk_at "o"))
   (zag (zaS (PW.pt (zcu (zbY (zcd (YC G_b8 hr_b8 ρ T.m_b8 (zaa (za4 (ixA K) (pv 4) zab (fun _ _ => rfl)) zaf)))) (zce (zaq zft (zas (za3 K) ρ T.z_len yap (zaa (za4 (ixA K) (pv 4) zab (fun _ _ => rfl)) zaf)) zab (zaw _))))) (zah (zar zbU)) zay)
  (zah (zb8 PassesOwn.never ρ (zaT K (za4 (ixA K) (pv 4) zab (fun _ _ => rfl))) (zaz (i := 5) sc_d2.nd ρ (by walk_at "o"))
   (zah (zaS (PW.pt (zcu (zaq zch (pv 5) zab (zaw _)) (zce (zaq zku (pv 5) (pv 0) (zaw _))))) (zah (zar zbU)) zay))))))
  (zah (zar zbU))))), ?_⟩
 walk_at "S";walk_at "";have kf : ∀ H', Same H H' -> fitQ W = false -> Q (.bl false) H' := fun H' s' e => by have := k H' s'; rw [e] at this; exact this
 refine ite2 (fun c0 => kf H (Same.refl _) (by unfold fitQ; rw [ya8 (show ¬ 1 <= W.size by omega)]; rfl)) fun c0 => .inl ⟨⟨_, SqL.of hP.called⟩, ?_⟩;refine zbe (xs := xs) (fun i acc H5 => H5 = H /\ acc = ((W.cs.take i).map (·.1)).map V.str) ⟨rfl, rfl⟩ (fun i acc H5 _ hv => hv.1 ▸ SqL.of hP.called) (fun j x acc H5 hx' hv => ?_) fun acc H5 hv p hp => ?_
 ·obtain ⟨rfl, rfl⟩ := hv;have hj : j < W.cs.length := by have := (yag.mp hx').1; omega
  have hd := hP.rc.2 j (rowD false (prR W.cs[j])) x (by simp [hj]) hx';obtain ⟨q, x1, x2, rfl, hq, e1, e2⟩ := RepD.two hd;cases e1;refine ⟨zaG (by simp; omega), ?_⟩;walk_at "T";walk_at "";refine ⟨_, .inr hq, _, i0, trivial, ?_⟩;rw [List.take_succ_eq_append_getElem hj, ya0, ya0]; rfl
 obtain ⟨rfl, rfl⟩ := hv;rw [lx, List.take_length];walk_at "t";refine ⟨p, _, _, rfl, .inl (SqL.of zae), KeyRow.txts (W.cs.map (·.1)), by simp; omega, fun H6 s6 => ?_⟩;rw [List.map_map];have s06 := (zad hp (.lst ((W.cs.map (·.1)).map V.str))).trans s6;have hP6 := hP.same s06;refine ⟨risQ (W.cs.map fun p => (p.1.cps.toList, [])), rfl, ?_⟩;cases c1 : risQ (W.cs.map fun p => (p.1.cps.toList, [])) with
 | false => rw [if_pos rfl]; exact kf H6 s06 (by unfold fitQ clQ; rw [c1]; simp)
 | true =>
 rw [if_neg (fun z => nomatch z)];refine ⟨f, ys, _, rfl, .inl (SqL.of hP6.facts), KeyRow.facts hP6.rf,ω, fun H7 s7 => ?_⟩;have s07 := s06.trans s7;have hP7 := hP6.same s7;refine ⟨risQ (W.fs.map rowK), rfl, ?_⟩;cases c2 : risQ (W.fs.map rowK) with
 | false => rw [if_pos rfl]; exact kf H7 s07 (by unfold fitQ fsQ; rw [c2]; simp)
 | true =>
 rw [if_neg (fun z => nomatch z)];refine .inl ⟨⟨_, SqL.of hP7.called⟩, zdr (xs := xs) (fun i σ H2 => Same H7 H2 /\ (∃ u3, σ = [some (.int W.size), some (.ref c), some (.ref f), u3, none, none]) /\ (W.cs.take i).all (prQ W.size) = true) ⟨Same.refl _, ⟨_, rfl⟩, rfl⟩ (fun i σ H2 _ hv => SqL.of (hv.1 _ _ hP7.called)) (fun j x σ H2 hx' hv => ?_) fun σ H2 hv => ?_⟩
 ·obtain ⟨s2, ⟨u3, rfl⟩, hall⟩ := hv;have hj : j < W.cs.length := by have := (yag.mp hx').1; omega
  have hd := (hP7.rc.2 j (rowD false (prR W.cs[j])) x (by simp [hj]) hx').same s2;obtain ⟨q, x1, x2, rfl, hq, e1, e2⟩ := RepD.two hd;cases e1;cases e2;walk_at "";refine ⟨_, .inr hq, _, i0, _, rfl, hB.nc _ (List.getElem_mem hj), fun H3 s3 => ?_⟩;have stop : prQ W.size W.cs[j] = false -> Q (.bl false) H3 := fun e => kf H3 ((s07.trans s2).trans s3) (by unfold fitQ clQ; rw [zbS hj e]; simp);refine ⟨nmQ W.cs[j].1, rfl, ?_⟩;cases c3 : nmQ W.cs[j].1 with
  | false => rw [if_pos rfl]; exact stop (by unfold prQ; rw [c3]; rfl)
  | true =>
  rw [if_neg (fun z => nomatch z)];refine ⟨_, .inr (s3.seqT hq), _, i1, ?_⟩;walk_at "";have ev : (prR W.cs[j]).2.headD 0 = W.cs[j].2 := rfl;rw [ev];refine ite2 (fun c4 => stop (by unfold prQ thQ; rw [ya8 ω]; simp)) fun c4 => ?_;refine ⟨_, .inr (s3.seqT hq), _, i1, ?_⟩;walk_at "";rw [ev];refine ite2 (fun c5 => stop (by unfold prQ thQ; rw [ya8 ω]; simp)) fun c5 => ?_;exact ⟨s2.trans s3, ⟨_, rfl⟩, zbE hj hall (by unfold prQ thQ; rw [c3, ya9 ω]; rfl)⟩
 ·obtain ⟨s2, ⟨u3, rfl⟩, hall⟩ := hv;rw [lx, List.take_length] at hall;have s02 := s07.trans s2;have hP2 := hP7.same s2;walk_at "";refine .inl ⟨⟨_, SqL.of hP2.facts⟩, zdr (xs := ys) (fun i σ H3 => Same H2 H3 /\ (∃ u4 u5, σ = [some (.int W.size), some (.ref c), some (.ref f), u3, u4, u5]) /\ (W.fs.take i).all (ftQ W.size) = true) ⟨Same.refl _, ⟨_, _, rfl⟩, rfl⟩ (fun i σ H3 _ hv => SqL.of (hv.1 _ _ hP2.facts)) (fun j x σ H3 hx' hv => ?_) fun σ H3 hv => ?_⟩
  ·obtain ⟨s3, ⟨u4, u5, rfl⟩, hall2⟩ := hv;have hj : j < W.fs.length := by have := (yag.mp hx').1; omega
   have hd := (hP2.rf.2 j (rowD true W.fs[j]) x (by simp [hj]) hx').same s3;obtain ⟨q, x1, x2, rfl, hq, e1, e2⟩ := RepD.two hd;cases e1;obtain ⟨b, rfl, hb⟩ := RepD.intsT e2;walk_at "";obtain ⟨hn1, hn2⟩ := hB.nf _ (List.getElem_mem hj);refine ⟨_, .inr hq, _, i0, _, rfl, hn1, fun H4 s4 => ?_⟩;have stop : ∀ H5, Same H4 H5 -> ftQ W.size W.fs[j] = false -> Q (.bl false) H5 := fun H5 s5 e => kf H5 (((s02.trans s3).trans s4).trans s5) (by unfold fitQ fsQ; rw [zbS hj e]; simp);have hq4 := s4.seqT hq;have hb4 := s4.seqT hb;refine ⟨nmQ W.fs[j].1, rfl, ?_⟩;cases c3 : nmQ W.fs[j].1 with
   | false => rw [if_pos rfl]; exact stop _ (Same.refl _) (by unfold ftQ; rw [c3]; rfl)
   | true =>
   rw [if_neg (fun z => nomatch z)];refine ⟨_, .inr hq4, _, i1, ?_⟩;walk_at "";refine ⟨_, .inr hb4, ?_⟩;walk_at "t";rw [yaf];refine ite2 (fun c4 => stop _ (Same.refl _) (by unfold ftQ; rw [ya8 (show ¬ W.fs[j].2.length <= 3 by omega)]; simp)) fun c4 => ?_;refine ⟨_, .inr hq4, _, i1, ?_⟩;walk_at "";refine .inr ⟨⟨_, hb4⟩, zcq (xs := W.fs[j].2.map V.int) (fun i σ H5 => H5 = H4 /\ (∃ u5, σ = [some (.int W.size), some (.ref c), some (.ref f), u3, some (.ref q), u5]) /\ (W.fs[j].2.take i).all (thQ W.size) = true) ⟨rfl, ⟨_, rfl⟩, rfl⟩ (fun i σ H5 _ hv => hv.1 ▸ hb4) (fun i x σ H5 hx'' hv => ?_) fun σ H5 hv => ?_⟩
   ·obtain ⟨rfl, ⟨u5, rfl⟩, hall3⟩ := hv;have hi : i < W.fs[j].2.length := by have := (yag.mp hx'').1; simpa using this
    have ex : x = .int W.fs[j].2[i] := by
     rw [yav, yal hi] at hx'';cases hx''; rfl
    subst ex;walk_at "";have bad : ¬ (0 <= W.fs[j].2[i] /\ W.fs[j].2[i] < W.size) -> Q (.bl false) H5 := fun z => stop _ (Same.refl _) (by unfold ftQ; rw [zbS hi (by unfold thQ; exact ya8 z)]; simp);refine ite2 (fun c5 => bad ω) fun c5 => ite2 (fun c6 => bad ω) fun c6 => ?_;exact ⟨trivial, ⟨_, rfl⟩, zbE hi hall3 (by unfold thQ; exact ya9 ω)⟩
   ·obtain ⟨rfl, ⟨u5, rfl⟩, hall3⟩ := hv;rw [yaf, List.take_length] at hall3;walk_at "t";exact ⟨s3.trans s4, ⟨_, _, rfl⟩, zbE hj hall2 (by unfold ftQ; rw [c3, hall3, ya9 (show W.fs[j].2.length <= 3 by omega)]; rfl)⟩
  ·obtain ⟨s3, ⟨u4, u5, rfl⟩, hall2⟩ := hv;rw [ly, List.take_length] at hall2;walk_at "";have q := k H3 (s02.trans s3);unfold fitQ clQ fsQ at q;rw [hall, hall2, c1, c2, ya9 (show 1 <= W.size by omega)] at q;exact q
def plainS : Str := "bcdfghjklmnpqrstvwxz0123456789"
theorem zgr : ∀ c ∈ plainS.cps.toList, c ∈ sofS.cps.toList /\ c ≠ 97 := by decide +kernel
theorem zlz {f : Str} (hf : f = smallS \/ f = greatS) {j : Int} (hj : j ∈ ([1, 2, 3, 5, 6, 7, 9, 10] : List Int)) : ∃ c, atI f.cps.toList j = some c /\ c ∈ f.cps.toList /\ c ∉ [110, 97, 111, 116, 115] := by
 have all : ∀ j ∈ ([1, 2, 3, 5, 6, 7, 9, 10] : List Int), ((atI smallS.cps.toList j).any fun c => smallS.cps.toList.contains c && !([110, 97, 111, 116, 115] : List Nat).contains c) = true /\ ((atI greatS.cps.toList j).any fun c => greatS.cps.toList.contains c && !([110, 97, 111, 116, 115] : List Nat).contains c) = true := by decide +kernel
 obtain ⟨h1, h2⟩ := all j hj;have fin : ∀ {f : Str}, ((atI f.cps.toList j).any fun c => f.cps.toList.contains c && !([110, 97, 111, 116, 115] : List Nat).contains c) = true -> ∃ c, atI f.cps.toList j = some c /\ c ∈ f.cps.toList /\ c ∉ [110, 97, 111, 116, 115] := fun {f} h => by
  cases e : atI f.cps.toList j with
  | none => rw [e] at h; simp at h
  | some c =>
   rw [e] at h;simp only [Option.any_some, Bool.and_eq_true, List.contains_iff_mem, Bool.not_eq_true'] at h;exact ⟨c, rfl, h.1, by have := h.2; intro z; rw [<- List.contains_iff_mem] at z; rw [z] at this; cases this⟩
 rcases hf with rfl | rfl
 ·exact fin h1
 ·exact fin h2
theorem zi5 {f x : Str} {c : Nat} {r : List Nat} (e : x.cps.toList = c :: r) (hc : c ∈ f.cps.toList) (hc' : c ∉ [110, 97, 111, 116, 115]) (hr : ∀ d ∈ r, d ∈ plainS.cps.toList) (hl : r.length <= 7) : Nm f x := by
 refine ⟨c, r, e, hc, fun d hd => (zgr d (hr d hd)).1, hl, fun h => ?_⟩;have key : ∀ z ∈ keptW, (z.cps.toList.headD 0) ∈ [110, 97, 111, 116, 115] \/ (z.cps.toList.tail.headD 0) = 97 := by decide +kernel
 rcases key x h with q | q
 ·rw [e] at q; exact hc' q
 ·rw [e] at q;cases r with
  | nil => simp at q
  | cons d r =>
   have : d = 97 := q;exact (zgr d (hr d ς)).2 this
theorem zcV (T : Tx K mg D) : FnOk P w K mg Qd CX0 1 D.a_b2 D.d_b2 ["_law_number", "_law_firsts", "_law_turn"] zje := by
 refine T.F_b2.ok sc_b2 (fun vs H Q E h => ?_) (fun cdv A outer s H vs Q E hr h => ?_)
 ·obtain ⟨n, f, t, rfl, _⟩ := h; rfl
 obtain ⟨n, f, t, rfl, hf, k⟩ := h;have hu := hr.units;refine ⟨_, (zag (zax (i := 3) sc_b2.nd ρ (by walk_at "o") zal)
  (zag (zaS (zaq (zbo K hu) (zak zap (zak za7 (pv 0) zab) zab) zab (zaw _)) (zag (zax (i := 4) sc_b2.nd ρ (by walk_at "o") zal)
  (zag (zbG (i := 5) 1 [0, 4] ["_law_k", "_law_number", "_law_plain"] sc_b2.nd ρ ρ ⟨ρ,ρ,ρ,ρ,ρ,ρ,ρ⟩ ρ (zb2 ρ T.z_range (zaa zab zaf)) (fun _ _ _ _ => zaz (i := 0) (show List.Nodup (["_law_k", "_law_number", "_law_plain"] : List Str) by decide +kernel) ρ (Or.inl ρ) (Or.inr ρ)) (za0 δ) (fun _ _ _ _ => zbl) (fun _ _ _ _ => (za4 (ixA K) (pv 2) (zak zap (zak (zat K) (zak za7 (pv 1) zab) (zak zbm zab (pv 0))) zab) (fun _ _ => rfl))))
  (zag (zc1 (za4 (ixA K) (pv 1) (za4 (ixA K) (zbn (zaa zab (zaa zab (zaa zab (zaa zab (zaa zab (zaa zab (zaa zab (zaa zab zaf))))))))) (zak zap (zak za7 (pv 0) zab) zab) (fun _ _ => rfl)) (fun _ _ => rfl)) (zc0 (pv 5) zab zco))
  (zah (zar (zb9 K PySem.F.plainAttrs_str PySem.F.slot_str_join PySem.F.type_str_join (zdb K) zal (zaa (zaR (slB K) (pv 5) zbk (zbg (zak (zat K) zab (zak zap (pv 2) zab)))) zaf))))))) zay)
  (zag (zax (i := 6) sc_b2.nd ρ (by walk_at "o") (zak (zat K) zab (zak zap (pv 0) zab)))
  (zag (zax (i := 7) sc_b2.nd ρ (by walk_at "o") (zak zap (zak za7 (pv 0) zab) (pv 6)))
  (zag (zbG (i := 5) 1 [0, 3] ["_law_k", "_law_number", "_law_some"] sc_b2.nd ρ ρ ⟨ρ,ρ,ρ,ρ,ρ,ρ,ρ⟩ ρ (zb2 ρ T.z_range (zaa (pv 6) zaf)) (fun _ _ _ _ => zaz (i := 0) (show List.Nodup (["_law_k", "_law_number", "_law_some"] : List Str) by decide +kernel) ρ (Or.inl ρ) (Or.inr ρ)) (za0 δ) (fun _ _ _ _ => zbl) (fun _ _ _ _ => (za4 (ixA K) (pv 2) (zak zap (zak (zat K) (zak za7 (pv 1) zab) (zak zbm zab (pv 0))) zab) (fun _ _ => rfl))))
  (zag (zc1 (za4 (ixA K) (pv 1) (zak zap (zak za7 (pv 0) zab) zab) (fun _ _ => rfl)) (zc0 (pv 5) zab zco))
  (zag (zaS (zaq (zbo K hu) (pv 7) zab (zaw _)) (zah (zc1 (za4 (ixA K) (pv 1) (zak zap (zak (zat K) (zak za7 (pv 0) zab) (pv 2)) zab) (fun _ _ => rfl)) (zc0 (pv 5) zab zco))) (zah (zc1 (za4 (ixA K) (pv 3) (zak zap (zak (zat K) (zak (zat K) (zak za7 (pv 0) zab) (zak zbm zab (pv 7))) (pv 2)) zab) (fun _ _ => rfl)) (zc0 (pv 5) (pv 7) zco))))
  (zag (zax (i := 8) sc_b2.nd ρ (by walk_at "o") (zb9 K PySem.F.plainAttrs_str PySem.F.slot_str_join PySem.F.type_str_join (zdb K) zal (zaa (pv 5) zaf)))
  (zag (zaS (zaq (zhz K) (pv 8) (zbn (zaa zal (zaa zal (zaa zal (zaa zal (zaa zal (zaa zal (zaa zal zaf)))))))) ρ) (zah (zar (zak (zat K) (pv 8) zal))) zay)
  (zah (zar (pv 8)))))))))))), ?_⟩
 walk_at "S";walk_at "";have hfl : f.length = 26 := by rcases hf with rfl | rfl <;> decide +kernel
 refine ⟨cdiv,δ, ite2 (fun c0 => ?_) fun c0 => ?_⟩
 ·refine ⟨δ,δ, ?_⟩;refine zcp (fun i acc H2 => H2 = H /\ ∃ cs : List Nat, acc = cs.map (fun c => V.str ⟨#[c]⟩) /\ cs.length = i /\ ∀ c ∈ cs, c ∈ plainS.cps.toList) ⟨rfl, [], rfl, rfl,ς⟩ (fun i acc H2 hi hp => ?_) fun acc H2 hp p hn => ?_
  ·obtain ⟨rfl, cs, rfl, rfl, hcs⟩ := hp;refine ⟨zaG (by rw [yaf]; have : (Int.toNat 8) = 8 := rfl; omega), ?_⟩;walk_at "T";walk_at "";refine ⟨cdiv, zg7,δ, zao (by decide +kernel), zhQ (x := Str.ofString "bcdfghjklmnpqrstvwxz0123456789") δ (by decide +kernel) fun c hc => ⟨trivial, cs ++ [c],ς,ς, fun d hd => ?_⟩⟩;rcases yay.mp hd with q | q
   ·exact hcs d q
   ·rw [yah.mp q]; exact List.mem_of_mem_take hc
  obtain ⟨rfl, cs, rfl, hl, hcs⟩ := hp;have hl8 : cs.length = 8 := hl;refine ⟨zao δ, fun p1 hp1 => ⟨cdiv,δ, _, .inl (SqL.of zae), ?_⟩⟩;obtain ⟨j, hj, ej⟩ := zm1 (ts := [1, 2, 3, 5, 6, 7, 9, 10]) (i := n / 64 % 8) (yao _ δ) (yak _ δ);obtain ⟨c, ec, hc, hc'⟩ := zlz hf hj;refine ⟨_, ej, ?_⟩;walk_at "";refine ⟨zao ω, c, ec, ?_⟩;walk_at "t";have hne : p ≠ p1 := zaF zae hp1;refine ⟨_, 0, by rw [za6 hne]; exact zae, zdP δ (by rw [yaf]; omega), trivial, ?_⟩;have em : (cs.map fun c => V.str ⟨#[c]⟩).set 0 (V.str ⟨#[c]⟩) = (cs.set 0 c).map fun c => V.str ⟨#[c]⟩ := by simp only [List.map_set]
  rw [em];refine ⟨δ, _, .inl ⟨SqL.of zae, fun q hq => ?_⟩⟩;obtain ⟨m, hm, hm0, hm8⟩ : ∃ m : Nat, 1 + t % 8 = (m : Int) /\ 1 <= m /\ m <= 8 := ⟨(1 + t % 8).toNat,ω,ω,ω⟩
  rw [hm, zkc, <- List.map_take];have s5 : Same H2 (upd (upd (upd (upd H2 p (.lst (cs.map fun c => V.str ⟨#[c]⟩))) p1 (.lst [V.int 1, V.int 2, V.int 3, V.int 5, V.int 6, V.int 7, V.int 9, V.int 10])) p (.lst ((cs.set 0 c).map fun c => V.str ⟨#[c]⟩))) q (.lst (((cs.set 0 c).take m).map fun c => V.str ⟨#[c]⟩))) :=
   (((zad hn _).trans (zad hp1 _)).upd hn).trans (zad hq _)
  generalize hH5 : upd (upd (upd (upd H2 p (.lst (cs.map fun c => V.str ⟨#[c]⟩))) p1 (.lst [V.int 1, V.int 2, V.int 3, V.int 5, V.int 6, V.int 7, V.int 9, V.int 10])) p (.lst ((cs.set 0 c).map fun c => V.str ⟨#[c]⟩))) q (.lst (((cs.set 0 c).take m).map fun c => V.str ⟨#[c]⟩)) = H5 at s5;have Qe : ((cs.set 0 c).take m).length = m := by rw [ya3, List.length_set]; omega
  have hq5 : H5 q = some (.lst (((cs.set 0 c).take m).map fun c => V.str ⟨#[c]⟩)) := by rw [<- hH5, zae]
  have ht : ∃ r, (cs.set 0 c).take m = c :: r /\ ∀ d ∈ r, d ∈ plainS.cps.toList := by
   cases cs with
   | nil => simp at hl8
   | cons d0 cs =>
    obtain ⟨m', rfl⟩ : ∃ m', m = m' + 1 := ⟨m - 1,ω⟩
    exact ⟨cs.take m', rfl, fun d hd => hcs d (List.mem_cons_of_mem _ (List.mem_of_mem_take hd))⟩
  generalize (cs.set 0 c).take m = cs' at Qe hq5 ht;refine ⟨cs'.map fun c => ⟨#[c]⟩, .inl (SqL.of (by rw [hq5, List.map_map]; rfl)), by rw [zc5]; show cs'.length + _ * 0 <= _; omega, ?_⟩;obtain ⟨r, er, hr'⟩ := ht;have ex := zcK cs';refine k _ _ s5 (zi5 (c := c) (r := r) (by rw [ex, er]) hc hc' hr' ?_);have := congrArg List.length er;simp at this;omega
 ·have e8 : 0 <= n % 8 := yao _ δ;have e8' : n % 8 < 8 := yak _ δ;generalize hsz : 1 + n % 8 = sz;have hat0 : 0 <= n / 8 % sz := yao _ ω;have hat1 : n / 8 % sz < sz := yak _ ω;generalize n / 8 % sz = pl at hat0 hat1;refine ⟨δ, cdiv,ω,ω,ω, ?_⟩;refine zcp (fun i acc H2 => H2 = H /\ ∃ cs : List Nat, acc = cs.map (fun c => V.str ⟨#[c]⟩) /\ cs.length = i /\ ∀ c ∈ cs, c ∈ sofS.cps.toList) ⟨rfl, [], rfl, rfl,ς⟩ (fun i acc H2 hi hp => ?_) fun acc H2 hp p hn => ?_
  ·obtain ⟨rfl, cs, rfl, rfl, hcs⟩ := hp;refine ⟨zaG (by rw [yaf]; omega), ?_⟩;walk_at "T";walk_at "";refine ⟨cdiv, zg7,δ, zao (by decide +kernel), zhQ (x := Str.ofString "abcdefghijklmnopqrstuvwxyz0123456789") δ (by decide +kernel) fun c hc => ⟨trivial, cs ++ [c],ς,ς, fun d hd => ?_⟩⟩;rcases yay.mp hd with q | q
   ·exact hcs d q
   ·rw [yah.mp q]; exact List.mem_of_mem_take hc
  obtain ⟨rfl, cs, rfl, hl, hcs⟩ := hp;have hl1 : 1 <= cs.length := by omega
  have hl8 : cs.length <= 8 := by omega
  refine ⟨cdiv,δ, zao ω, zhQ δ ω fun c0 hc0 => ?_⟩;replace hc0 : c0 ∈ f.cps.toList := List.mem_of_mem_take hc0;walk_at "";refine ⟨_, 0, zae, zdP δ (by rw [yaf]; omega), ?_⟩;refine ite2 (fun hpl => ⟨cdiv,δ, zao ω, zhQ δ ω fun c1 hc1 => ?_⟩) fun hpl => ⟨cdiv, zg7,δ, zao (by decide +kernel), zhQ (x := Str.ofString "abcdefghijklmnopqrstuvwxyz0123456789") δ (by decide +kernel) fun c1 hc1 => ?_⟩
  all_goals (replace hc1 := List.mem_of_mem_take hc1)
  all_goals (walk_at "t")
  ·refine ⟨_, 0, zae, zdP δ (by rw [List.length_set, yaf]; omega), trivial, ?_⟩;have g := zm2 (f := f) (c0 := c0) hl1 hl8 hcs hc1;have em : ((cs.map fun c => V.str ⟨#[c]⟩).set 0 (V.str ⟨#[c0]⟩)).set 0 (V.str ⟨#[c1]⟩) = ((cs.set 0 c0).set 0 c1).map fun c => V.str ⟨#[c]⟩ := by simp only [List.map_set]
   have Qe : ((cs.set 0 c0).set 0 c1).length <= 8 := by simpa using hl8
   generalize (cs.set 0 c0).set 0 c1 = cs' at g em Qe;simp only [zgW, em];have s5 : Same H2 (upd H2 p (HO.lst (cs'.map fun c => V.str ⟨#[c]⟩))) := zad hn _;generalize hH5 : upd H2 p (HO.lst (cs'.map fun c => V.str ⟨#[c]⟩)) = H5 at s5;clear em;refine ⟨cs'.map fun c => ⟨#[c]⟩, .inl (SqL.of (by rw [<- hH5, zae, List.map_map]; rfl)), by rw [zc5]; show cs'.length + _ * 0 <= _; omega, (by show 7 <= sizeLine; decide), fun p1 hp1 => ?_⟩;have ex := zcK cs';generalize Txt.join "" (cs'.map fun c => (⟨#[c]⟩ : Str)) = x at ex;have hx8 : x.length <= 8 := by rw [<- za5, ex]; exact Qe
   have s6 := s5.trans (zad hp1 (.lst (keptW.map V.str)));refine ⟨_, .inl (SqL.of zae), rfl, zeJ keptW, ?_⟩;have ei : inV (V.str x) [V.str (Str.ofString "not"), V.str (Str.ofString "and"), V.str (Str.ofString "or"), V.str (Str.ofString "then"), V.str (Str.ofString "all"), V.str (Str.ofString "some"), V.str (Str.ofString "false")] = decide (x ∈ keptW) := zef x keptW;rw [ei];refine ite2 (fun c => ?_) fun c => ?_
   ·exact ⟨zao (by have : (Str.ofString "0").length = 1 := rfl; omega), k _ _ s6 (zeL g ex (ya7 c) rfl)⟩
   ·exact k _ _ s6 (zfW g ex fun q => c (ya9 q))
  ·refine ⟨_, pl.toNat, zae, zdP hat0 (by rw [List.length_set, yaf]; omega), trivial, ?_⟩;have g := zm3 (f := f) (c0 := c0) (j := pl.toNat) ω hl1 hl8 hcs hc0 hc1;have em : ((cs.map fun c => V.str ⟨#[c]⟩).set 0 (V.str ⟨#[c0]⟩)).set pl.toNat (V.str ⟨#[c1]⟩) = ((cs.set 0 c0).set pl.toNat c1).map fun c => V.str ⟨#[c]⟩ := by simp only [List.map_set]
   have Qe : ((cs.set 0 c0).set pl.toNat c1).length <= 8 := by simpa using hl8
   generalize (cs.set 0 c0).set pl.toNat c1 = cs' at g em Qe;simp only [zgW, em];have s5 : Same H2 (upd H2 p (HO.lst (cs'.map fun c => V.str ⟨#[c]⟩))) := zad hn _;generalize hH5 : upd H2 p (HO.lst (cs'.map fun c => V.str ⟨#[c]⟩)) = H5 at s5;clear em;refine ⟨cs'.map fun c => ⟨#[c]⟩, .inl (SqL.of (by rw [<- hH5, zae, List.map_map]; rfl)), by rw [zc5]; show cs'.length + _ * 0 <= _; omega, (by show 7 <= sizeLine; decide), fun p1 hp1 => ?_⟩;have ex := zcK cs';generalize Txt.join "" (cs'.map fun c => (⟨#[c]⟩ : Str)) = x at ex;have hx8 : x.length <= 8 := by rw [<- za5, ex]; exact Qe
   have s6 := s5.trans (zad hp1 (.lst (keptW.map V.str)));refine ⟨_, .inl (SqL.of zae), rfl, zeJ keptW, ?_⟩;have ei : inV (V.str x) [V.str (Str.ofString "not"), V.str (Str.ofString "and"), V.str (Str.ofString "or"), V.str (Str.ofString "then"), V.str (Str.ofString "all"), V.str (Str.ofString "some"), V.str (Str.ofString "false")] = decide (x ∈ keptW) := zef x keptW;rw [ei];refine ite2 (fun c => ?_) fun c => ?_
   ·exact ⟨zao (by have : (Str.ofString "0").length = 1 := rfl; omega), k _ _ s6 (zeL g ex (ya7 c) rfl)⟩
   ·exact k _ _ s6 (zfW g ex fun q => c (ya9 q))
def spTn : Sp := fun vs H Q _ => ∃ n t, vs = [.int n, .int t] /\ ∀ x H', Same H H' -> Nm smallS x -> Q (.str x) H'
theorem zcm (T : Tx K mg D) : FnOk P w K mg Qd CX0 2 D.a_a2 D.d_a2 ["_law_base", "_law_turn"] spTn := by
 have G_b2 := @zcV P w _ _ Qd _ T;refine T.F_a2.ok zdA (fun vs H Q E h => ?_) (fun cdv A outer s H vs Q E hr h => ?_)
 ·obtain ⟨n, t, rfl, _⟩ := h; rfl
 obtain ⟨n, t, rfl, k⟩ := h;have hu := hr.units;have hr_b2 : Room 1 _ := hr.mono δ;refine ⟨_, (zah (zar (YC G_b2 hr_b2 ρ T.m_b2 (zaa (zak za7 (pv 0) zab) (zaa zal (zaa (pv 1) zaf)))))), ?_⟩;walk_at "S";walk_at "";exact ⟨cdiv, _, _, _, rfl, .inl rfl, k⟩
theorem zi6 (T : Tx K mg D) : FnOk P w K mg Qd CX0 3 D.a_d3 D.d_d3 ["_law_base", "_law_turn"] spTn := by
 have G_b2 := @zcV P w _ _ Qd _ T;have G_a2 := @zcm P w _ _ Qd _ T;refine T.F_d3.ok ziy (fun vs H Q E h => ?_) (fun cdv A outer s H vs Q E hr h => ?_)
 ·obtain ⟨n, t, rfl, _⟩ := h; rfl
 obtain ⟨n, t, rfl, k⟩ := h;have hu := hr.units;have hr_b2 : Room 1 _ := hr.mono δ;have hr_a2 : Room 2 _ := hr.mono δ;refine ⟨_, (zag (zaS (zaq (zbo K hu) (zak zap (zak za7 (pv 0) zab) zab) zab (zaw _)) (zah (zar (YC G_a2 hr_a2 ρ T.m_a2 (zaa (pv 0) (zaa (pv 1) zaf))))) zay)
  (zah (zar (YC G_b2 hr_b2 ρ T.m_b2 (zaa (zak za7 (pv 0) zab) (zaa zal (zaa (pv 1) zaf))))))), ?_⟩
 walk_at "S";walk_at "";refine ⟨cdiv,δ, ite2 (fun c => ?_) fun c => ?_⟩
 ·exact ⟨_, _, rfl, k⟩
 ·exact ⟨cdiv, _, _, _, rfl, .inl rfl, k⟩
def zn4 (K : W.Frag) : Sp := fun vs H Q _ => ∃ (a : Addr) (ns : List Int), vs = [.ref a] /\ SqL K H a (ns.map V.int) /\ ∀ i, 1 <= i -> i <= 40 -> Q (.int i) H
theorem zfm (T : Tx K mg D) : FnOk P w K mg Qd CX0 2 D.a_c1 D.d_c1 ["_law_script"] (zn4 K) := by
 have G_b9 := @zbR P w _ _ Qd _ T;refine T.F_c1.ok zfh (fun vs H Q E h => ?_) (fun cdv A outer s H vs Q E hr h => ?_)
 ·obtain ⟨a, ns, rfl, _⟩ := h; rfl
 obtain ⟨a, ns, rfl, hS, k⟩ := h;have hu := hr.units;have hr_b9 : Room 1 _ := hr.mono δ;refine ⟨_, (zag (zaS (zaq (zbo K hu) (zak zap (YC G_b9 hr_b9 ρ T.m_b9 (zaa (pv 0) (zaa zab zaf))) zab) zab (zaw _)) (zah (zar (zak (zat K) zab (zak zap (zak za7 (YC G_b9 hr_b9 ρ T.m_b9 (zaa (pv 0) (zaa zab zaf))) zab) zab)))) zay)
  (zag (zaS (zaq (zbo K hu) (zak zap (YC G_b9 hr_b9 ρ T.m_b9 (zaa (pv 0) (zaa zab zaf))) zab) zab (zaw _)) (zah (zar (zak (zat K) zab (zak zap (zak za7 (YC G_b9 hr_b9 ρ T.m_b9 (zaa (pv 0) (zaa zab zaf))) zab) zab)))) zay)
  (zah (zar (zak (zat K) zab (zak zap (zak zap (YC G_b9 hr_b9 ρ T.m_b9 (zaa (pv 0) (zaa zab zaf))) zab) zab)))))), ?_⟩
 walk_at "S";walk_at "";refine ⟨a, ns, 0, rfl, hS,δ, ?_⟩;walk_at "";refine ⟨δ, ite2 (fun c1 => ?_) fun c1 => ?_⟩
 ·refine ⟨a, ns, 0, rfl, hS,δ, ?_⟩;walk_at "";exact ⟨cdiv,δ, k _ ω ω⟩
 refine ⟨a, ns, 0, rfl, hS,δ, ?_⟩;walk_at "";refine ⟨δ, ite2 (fun c2 => ?_) fun c2 => ?_⟩
 ·refine ⟨a, ns, 0, rfl, hS,δ, ?_⟩;walk_at "";exact ⟨cdiv,δ, k _ ω ω⟩
 refine ⟨a, ns, 0, rfl, hS,δ, ?_⟩;walk_at "";exact ⟨δ,δ, k _ ω ω⟩
def FtOk (n : Int) (f : Rw) : Prop := Nm smallS f.1 /\ f.2.length <= 3 /\ ∀ i ∈ f.2, 0 <= i /\ i < n
def zl0 (K : W.Frag) : Sp := fun vs H Q _ => ∃ (a : Addr) (ns : List Int) (k b n : Int), vs = [.ref a, .int k, .int b, .int n] /\ SqL K H a (ns.map V.int) /\ 0 <= k /\ k <= 100 /\ 1 <= n /\ n <= 40 /\
 ∀ (p : Addr) (ys : List V) (fs : List Rw) H', Same H H' -> SqT K H' p ys -> RepX K H' (fs.map (rowD true)) ys -> RisF fs -> (∀ f ∈ fs, FtOk n f) -> fs.length <= 100 -> Q (.ref p) H'
theorem zev (T : Tx K mg D) : FnOk P w K mg Qd CX0 4 D.a_b0 D.d_b0 ["_law_script", "_law_at", "_law_base", "_law_size"] (zl0 K) := by
 have G_b9 := @zbR P w _ _ Qd _ T;have G_c8 := @zcO P w _ _ Qd _ T;have G_d3 := @zi6 P w _ _ Qd _ T;refine T.F_b0.ok sc_b0 (fun vs H Q E h => ?_) (fun cdv A outer s H vs Q E hr h => ?_)
 ·obtain ⟨a, ns, k, b, n, rfl, _⟩ := h; rfl
 obtain ⟨a, ns, at', b, n, rfl, hS, h0, h1, n1, n40, k⟩ := h;have hu := hr.units;have hr_b9 : Room 1 _ := hr.mono δ;have hr_c8 : Room 1 _ := hr.mono δ;have hr_d3 : Room 3 _ := hr.mono δ;refine ⟨_, (zag (zax (i := 4) sc_b0.nd ρ (by walk_at "o") zhP)
  (zag (zax (i := 5) sc_b0.nd ρ (by walk_at "o") (zak zap (YC G_c8 hr_c8 ρ T.m_c8 (zaa (pv 0) (zaa (pv 1) zaf))) zab))
  (zag (zaS (zaq (zbo K hu) (zak zap (YC G_b9 hr_b9 ρ T.m_b9 (zaa (pv 0) (zaa zab zaf))) zab) zab (zaw _)) (zah (zax (i := 5) sc_b0.nd ρ (by walk_at "o") zab)) zay)
  (zag (zb8 PassesOwn.never ρ (zb2 ρ T.z_range (zaa (pv 5) zaf)) (zaz (i := 6) sc_b0.nd ρ (by walk_at "o"))
   (zag (zax (i := 7) sc_b0.nd ρ (by walk_at "o") (YC G_c8 hr_c8 ρ T.m_c8 (zaa (pv 0) (zaa (zak (zat K) (zak (zat K) (pv 1) zab) (pv 6)) zaf))))
  (zag (zax (i := 8) sc_b0.nd ρ (by walk_at "o") (zbn (zaa (zak zap (zak za7 (pv 7) zab) (pv 3)) (zaa (zak zap (zak za7 (zak za7 (pv 7) zab) (pv 3)) (pv 3)) (zaa (zak zap (zak za7 (zak za7 (zak za7 (pv 7) zab) (pv 3)) (pv 3)) (pv 3)) zaf)))))
  (zah (zc1 zbU (zc0 (pv 4) (zcv (zaa (YC G_d3 hr_d3 ρ T.m_d3 (zaa (pv 2) (zaa (zak zap (pv 7) zab) zaf))) (zaa (za9 (zaP K) ρ T.z_tuple ρ (zaa (zaR (slB K) (pv 8) zbk (zbg (zak zap (zak za7 (pv 7) zab) zab))) zaf)) zaf))) (zj0 P w K hu)))))))
  (zah (zar (za9 (zaP K) ρ T.z_tuple ρ (zaa (zas (zcT true K hu) ρ T.z_sorted ρ (zaa (za9 (zgK P w ρ) ρ T.z_list ρ (zaa (pv 4) zaf)) zaf)) zaf)))))))), ?_⟩
 walk_at "S";walk_at "";intro p hp;have s0 := zad hp (.dK []);refine ⟨a, ns, _, rfl, s0.seq hS, h0,ω, fun m m0 m1 => ?_⟩;walk_at "";refine ⟨δ, a, ns, 0, rfl, s0.seq hS,δ, ?_⟩;walk_at "";refine ⟨δ, ?_⟩;have m14 := yao m (show (14 : Int) ≠ 0 by decide);have m14' := yak m (show (0 : Int) < 14 by decide);refine ite2 (fun c => ⟨δ,δ, ?_⟩) fun c => ⟨ω,ω, ?_⟩
 all_goals
  refine zbZ (fun i σ H2 => Same H H2 /\ ∃ fs u5 u6 u7 u8, σ = [some (.ref a), some (.int at'), some (.int b), some (.int n), some (.ref p), u5, u6, u7, u8] /\ FdAt P w H2 p fs /\ (∀ z ∈ fs, RepD K H2 (rowD true z.1) (.ref z.2)) /\ (fs.map (·.1)).Nodup /\ (∀ z ∈ fs, FtOk n z.1) /\ fs.length <= i)
   ⟨s0, [], _, _, _, _, rfl, .inr ⟨rfl, zae⟩,ς,ς,ς,ς⟩ (fun i σ H2 hi hv => ?_) fun σ H2 hv => ?_
  ·obtain ⟨s2, fs, u5, u6, u7, u8, rfl, hF, hR, hN, hO, hL⟩ := hv;have hi100 : i < 100 := by have : (Int.toNat 100) = 100 := rfl; omega
   walk_at "";refine ⟨a, ns, _, rfl, s2.seq hS,ω,ω, fun q q0 q1 => ?_⟩;walk_at "";have e1 := yao (q / 16) (show n ≠ 0 by omega);have e2 := yak (q / 16) (show 0 < n by omega);have e3 := yao (q / 16 / n) (show n ≠ 0 by omega);have e4 := yak (q / 16 / n) (show 0 < n by omega);have e5 := yao (q / 16 / n / n) (show n ≠ 0 by omega);have e6 := yak (q / 16 / n / n) (show 0 < n by omega);refine ⟨cdiv,ω, cdiv, cdiv ω ω,ω, cdiv, cdiv ω ω, cdiv ω ω,ω, zao (show 3 <= 100000 by decide), fun p1 hp1 => ⟨δ, _, _, rfl, fun x H3 s3 hx => ?_⟩⟩;generalize q / 16 % n = i1 at *;generalize q / 16 / n % n = i2 at *;generalize q / 16 / n / n % n = i3 at *;have hL3 : H3 p1 = some (.lst (([i1, i2, i3] : List Int).map V.int)) := s3 _ _ zae;have e7 := yao (q / 3) (show (4 : Int) ≠ 0 by decide);have e8 := yak (q / 3) (show (0 : Int) < 4 by decide);obtain ⟨m', hm'⟩ : ∃ m' : Nat, q / 3 % 4 = m' := ⟨(q / 3 % 4).toNat,ω⟩
   refine ⟨cdiv,δ, _, .inl ⟨SqL.of hL3, fun q1 hq1 => ⟨_, .inl ⟨SqL.of zae, fun l hl => ⟨zao (show 2 <= 100000 by decide), fun p2 hp2 => ?_⟩⟩⟩⟩⟩;rw [hm', zkc, <- List.map_take] at *;have ht : ∀ j ∈ ([i1, i2, i3] : List Int).take m', 0 <= j /\ j < n := fun j hj => by
    have := List.mem_of_mem_take hj;simp only [List.mem_cons, List.not_mem_nil, or_false] at this;omega
   have hl3 : (([i1, i2, i3] : List Int).take m').length <= 3 := List.length_take_le' _ _;generalize ([i1, i2, i3] : List Int).take m' = th at *;have s6 := ((((zad hp1 _).trans s3).trans (zad hq1 (.lst (th.map V.int)))).trans (zad hl (.tup (th.map V.int)))).trans (zad hp2 (.tup [V.str x, V.ref l]));have hl6 : (upd (upd (upd H3 q1 (.lst (th.map V.int))) l (.tup (th.map V.int))) p2 (.tup [V.str x, V.ref l])) l = some (.tup (th.map V.int)) := zcJ hp2 zae;have hp6 : (upd (upd (upd H3 q1 (.lst (th.map V.int))) l (.tup (th.map V.int))) p2 (.tup [V.str x, V.ref l])) p2 = some (.tup [V.str x, V.ref l]) := zae;generalize upd (upd (upd H3 q1 (.lst (th.map V.int))) l (.tup (th.map V.int))) p2 (.tup [V.str x, V.ref l]) = H6 at s6 hl6 hp6;have hk : RepD K H6 (rowD true (x, th)) (.ref p2) := RepD.t2 (SqT.of hp6) (.str x) (RepD.ints (SqT.of hl6));have hF6 := hF.same s6;obtain ⟨u, hu6, hd6⟩ := hF6.dct;have Qe := zim fs (x, th) p2;refine ⟨(x, th), fs, hF6, hk, fun z hz => (hR z hz).same s6,ω, (s2.trans s6).upd hp, pFs fs (x, th) p2, _, _, _, _, rfl, .inl zae, zin (R := fun z => RepD K (upd H6 p _) (rowD true z.1) (.ref z.2)) (fun z hz => ((hR z hz).same s6).keepD hu6 hd6) (hk.keepD hu6 hd6), zj3 _ _ _ hN, zin (R := fun z => FtOk n z.1) hO ⟨hx, hl3, ht⟩,ω⟩
  ·obtain ⟨s2, fs, u5, u6, u7, u8, rfl, hF, hR, hN, hO, hL⟩ := hv;have hL100 : fs.length <= 100 := by have : (Int.toNat 100) = 100 := rfl; omega
   walk_at "";refine ⟨fs, hF, fun l hl => ⟨fs.map (fun f => (V.ref f.2, f.1)), by rw [List.map_map]; exact SqL.of zae, fun z hz => ⟨?_, fun z => nomatch z⟩, by rw [yaf]; omega, fun l1 zs' hl1 hp hs => ⟨_, .inl ⟨SqL.of zae, fun l2 hl2 => ?_⟩⟩⟩⟩
   ·obtain ⟨f, hf, rfl⟩ := ya6.mp hz;exact (hR f hf).same (zad hl _)
   ·have sn := ((zad hl (.lst (fs.map fun f => V.ref f.2))).trans (zad hl1 (.lst (zs'.map (·.1))))).trans (zad hl2 (.tup (zs'.map (·.1))));have p2 := hp.map (·.2);rw [List.map_map] at p2;have p3 : (zs'.map (·.2)).Perm (fs.map (·.1)) := p2;refine k l2 _ (zs'.map (·.2)) _ (s2.trans sn) (SqT.of zae) (RepX.ofZ fun z hz => ?_) (zlp hs p3 hN) (fun f hf => ?_) ?_
    ·obtain ⟨f, hf, rfl⟩ := ya6.mp (hp.mem_iff.mp hz);exact (hR f hf).same sn
    ·obtain ⟨g, hg, rfl⟩ := ya6.mp (p3.mem_iff.mp hf);exact hO g hg
    ·rw [p3.length_eq, yaf]; exact hL100
def zl1 (K : W.Frag) : Sp := fun vs H Q _ => ∃ (a : Addr) (ns : List Int) (b : Int), vs = [.ref a, .int b] /\ SqL K H a (ns.map V.int) /\
 ∀ (W : Wd) (r c f : Addr) (xs ys : List V) H', Same H H' -> RepW K H' W r c f xs ys -> W.Ok -> Q (.ref r) H'
theorem zew (T : Tx K mg D) : FnOk P w K mg Qd CX0 5 D.a_a6 D.d_a6 ["_law_script", "_law_base"] (zl1 K) := by
 have G_b9 := @zbR P w _ _ Qd _ T;have G_c8 := @zcO P w _ _ Qd _ T;have G_a2 := @zcm P w _ _ Qd _ T;have G_c1 := @zfm P w _ _ Qd _ T;have G_b0 := @zev P w _ _ Qd _ T;refine T.F_a6.ok sc_a6 (fun vs H Q E h => ?_) (fun cdv A outer s H vs Q E hr h => ?_)
 ·obtain ⟨a, ns, b, rfl, _⟩ := h; rfl
 obtain ⟨a, ns, b, rfl, hS, k⟩ := h;have hu := hr.units;have hr_b9 : Room 1 _ := hr.mono δ;have hr_c8 : Room 1 _ := hr.mono δ;have hr_a2 : Room 2 _ := hr.mono δ;have hr_c1 : Room 2 _ := hr.mono δ;have hr_b0 : Room 4 _ := hr.mono δ;refine ⟨_, (zag (zax (i := 2) sc_a6.nd ρ (by walk_at "o") (YC G_c1 hr_c1 ρ T.m_c1 (zaa (pv 0) zaf)))
  (zag (zax (i := 3) sc_a6.nd ρ (by walk_at "o") zhP)
  (zag (zb8 PassesOwn.never ρ (zb2 ρ T.z_range (zaa (zak zbm zab (za9 zd6 ρ T.z_int ρ (zaa (zbz (zbo K hu) (zak zap (YC G_b9 hr_b9 ρ T.m_b9 (zaa (pv 0) (zaa zab zaf))) zab) zab (zaw _)) zaf))) zaf)) (zaz (i := 4) sc_a6.nd ρ (by walk_at "o"))
   (zah (zc1 (zak zap (YC G_c8 hr_c8 ρ T.m_c8 (zaa (pv 0) (zaa (zak (zat K) zab (pv 4)) zaf))) (pv 2)) (zc0 (pv 3) (zak (zat K) zal (za9 zbN ρ T.z_str ρ (zaa (pv 4) zaf))) zkk))))
  (zag (zb8 PassesOwn.never ρ (zb2 ρ T.z_range (zaa zab zaf)) (zaz (i := 5) sc_a6.nd ρ (by walk_at "o"))
   (zah (zc1 (zak zap (YC G_c8 hr_c8 ρ T.m_c8 (zaa (pv 0) (zaa (zak (zat K) zab (pv 5)) zaf))) (pv 2)) (zc0 (pv 3) (YC G_a2 hr_a2 ρ T.m_a2 (zaa (pv 1) (zaa (pv 5) zaf))) zkk))))
  (zah (zar (zcv (zaa (pv 2) (zaa (za9 (zaP K) ρ T.z_tuple ρ (zaa (zas (zcT false K hu) ρ T.z_sorted ρ (zaa (zbJ 1 [3] ["_law_name", "_law_called"] ⟨ρ,ρ,ρ,ρ,ρ,ρ,ρ⟩ ρ (zoq (pv 3)) (fun _ _ _ _ => zaz (i := 0) (show List.Nodup (["_law_name", "_law_called"] : List Str) by decide +kernel) ρ (Or.inl ρ) (Or.inr ρ)) (za0 δ) (fun _ _ _ _ => zbl) (fun _ _ _ _ => (zcv (zaa (pv 0) (zaa (za4 zop (pv 1) (pv 0) (fun _ _ => rfl)) zaf))))) zaf)) zaf)) (zaa (YC G_b0 hr_b0 ρ T.m_b0 (zaa (pv 0) (zaa zab (zaa (pv 1) (zaa (pv 2) zaf))))) zaf)))))))))), ?_⟩
 walk_at "S";walk_at "";refine ⟨a, ns, rfl, hS, fun n n1 n40 => ?_⟩;walk_at "";intro p hp;have s0 := zad hp (.dK []);refine ⟨a, ns, 0, rfl, s0.seq hS,δ, ?_⟩;walk_at "";have hM : ∃ M : Nat, (36 * if cellI ns 0 % 18 = 17 then (1 : Int) else 0) = M /\ M <= 36 := by
  by_cases c : cellI ns 0 % 18 = 17
  ·exact ⟨36, by rw [if_pos c]; rfl,δ⟩
  ·exact ⟨0, by rw [if_neg c]; rfl,δ⟩
 obtain ⟨M, eM, hM⟩ := hM;refine ⟨δ, zg7, ?_⟩;rw [eM];refine ⟨ω,ω, ?_⟩
 let Go (l : List (Str × V)) : Prop := (l.map (·.1)).Nodup /\ ∀ q ∈ l, Nm smallS q.1 /\ ∃ t : Int, q.2 = .int t /\ 0 <= t /\ t < n
 refine zbZ (fun i σ H2 => Same H H2 /\ ∃ l u4 u5, σ = [some (.ref a), some (.int b), some (.int n), some (.ref p), u4, u5] /\ H2 p = some (.dK (dS l)) /\ Go l /\ l.length <= i)
  ⟨s0, [], _, _, rfl, zae, ⟨ς,ς⟩,ς⟩ (fun i σ H2 hi hv => ?_) fun σ H2 hv => ?_
 ·obtain ⟨s2, l, u4, u5, rfl, hp2, ⟨hN, hG⟩, hL⟩ := hv;rw [ya4] at hi;walk_at "";refine ⟨a, ns, _, rfl, s2.seq hS,ω,ω, fun q q0 q1 => ?_⟩;walk_at "";have e1 := yao q (show n ≠ 0 by omega);have e2 := yak q (show 0 < n by omega);rw [Int.zero_add];have hb := zos (zno i ω);have Qe := zep l (Str.ofString "n" ++ Str.ofString (toString (i : Int))) (V.int (q % n));refine ⟨ω, by rw [Int.natAbs_natCast]; exact Nat.lt_of_le_of_lt (Nat.log2_le_self _) ω, ?_, l, hp2,ω, s2.upd hp, _, _, _, rfl, zae, ⟨zfb _ _ _ hN, zgo (R := fun q => Nm smallS q.1 /\ ∃ t : Int, q.2 = .int t /\ 0 <= t /\ t < n) hG ⟨hb, _, rfl, e1, e2⟩⟩,ω⟩;obtain ⟨c, r, er, _, _, hr7, _⟩ := hb;have := Str.length_append (Str.ofString "n") (Str.ofString (toString (i : Int)));have l8 : (Str.ofString "n" ++ Str.ofString (toString (i : Int))).length <= 8 := by rw [<- za5, er]; simp; omega
  exact zao ω
 obtain ⟨s2, l, u4, u5, rfl, hp2, ⟨hN, hG⟩, hL⟩ := hv;rw [ya4] at hL;walk_at "";refine ⟨δ,δ, zbZ (fun i σ H3 => Same H H3 /\ ∃ l u4 u5, σ = [some (.ref a), some (.int b), some (.int n), some (.ref p), u4, u5] /\ H3 p = some (.dK (dS l)) /\ Go l /\ l.length <= 36 + i)
  ⟨s2, l, _, _, rfl, hp2, ⟨hN, hG⟩,ω⟩ (fun i σ H3 hi hv => ?_) fun σ H3 hv => ?_⟩
 ·obtain ⟨s3, l, u4, u5, rfl, hp3, ⟨hN, hG⟩, hL⟩ := hv;have hi4 : i < 4 := hi;walk_at "";refine ⟨a, ns, _, rfl, s3.seq hS,ω,ω, fun q q0 q1 => ?_⟩;walk_at "";have e1 := yao q (show n ≠ 0 by omega);have e2 := yak q (show 0 < n by omega);refine ⟨ω, _, _, rfl, fun x H4 s4 hx => ?_⟩;walk_at "t";have Qe := zep l x (V.int (q % n));exact ⟨l, s4 _ _ hp3,ω, (s3.trans s4).upd hp, _, _, _, rfl, zae, ⟨zfb _ _ _ hN, zgo (R := fun q => Nm smallS q.1 /\ ∃ t : Int, q.2 = .int t /\ 0 <= t /\ t < n) hG ⟨hx, _, rfl, e1, e2⟩⟩,ω⟩
 obtain ⟨s3, l, u4, u5, rfl, hp3, ⟨hN, hG⟩, hL⟩ := hv;have hL40 : l.length <= 40 := hL;walk_at "";refine ⟨p, l, rfl, hp3, fun o => ?_⟩;have sf : Same H (upd H3 p (.frz o (.dK (dS l)))) := s3.upd hp;have hpf : upd H3 p (.frz o (.dK (dS l))) p = some (.frz o (.dK (dS l))) := zae;generalize upd H3 p (.frz o (.dK (dS l))) = Hf at sf hpf;refine zlo (fun i acc H5 => Same Hf H5 /\ acc.length = i /\ RepX K H5 (((zcw (l.take i)).map prR).map (rowD false)) acc) ⟨Same.refl _, rfl, RepX.nil⟩ (fun i acc H5 _ hv => hv.1 _ _ hpf) (fun i z acc H5 hz hv => ?_) fun acc H5 hv q hq => ?_
 ·obtain ⟨s5, hal, hR5⟩ := hv;have hi : i < l.length := (yag.mp hz).1;refine ⟨zaG ω, ?_⟩;walk_at "T";walk_at "";obtain ⟨_, t, et, _, _⟩ := hG z (ya1 hz);refine ⟨l, _, .inr ⟨o, s5 _ _ hpf⟩, zj2 hN hz, zao (show 2 <= 100000 by decide), fun q1 hq1 => ⟨s5.trans (zad hq1 _), by simp [hal], ?_⟩⟩;rw [zfB l i z hz, ya0, ya0];refine (hR5.same (zad hq1 _)).snoc ?_;rw [et];exact RepD.t2 (SqT.of zae) (.str _) (.int _)
 obtain ⟨s5, hal, hR5⟩ := hv;rw [List.take_length] at hR5;walk_at "";obtain ⟨z1, z2, z3⟩ := RepX.zs (hR5.same (zad hq (.lst acc)));have hal' : ((zcw l).map prR).length = acc.length := by simp [zcw, hal]
 generalize hzs : acc.zip ((zcw l).map prR) = zs at z1 z2 z3;have hlz : zs.length = l.length := by rw [<- hzs, List.length_zip, hal']; omega
 have one : ∀ z ∈ zs, z.2.2.length = 1 := fun z hz => by
  have : z.2 ∈ (zcw l).map prR := z2 ▸ ya6.mpr ⟨z, hz, rfl⟩;obtain ⟨q, _, e⟩ := ya6.mp this;rw [<- e]; rfl
 refine ⟨zs, by rw [z1]; exact SqL.of zae, fun z hz => ⟨z3 z hz, fun _ => one z hz⟩,ω, fun l1 zs' hl1 hpm hs => ⟨_, .inl ⟨SqL.of zae, fun l2 hl2 => ?_⟩⟩⟩;have sn := ((zad hq (.lst acc)).trans (zad hl1 (.lst (zs'.map (·.1))))).trans (zad hl2 (.tup (zs'.map (·.1))));have hl2' : upd (upd (upd H5 q (.lst acc)) l1 (.lst (zs'.map (·.1)))) l2 (.tup (zs'.map (·.1))) l2 = some (.tup (zs'.map (·.1))) := zae;have s7 := (sf.trans s5).trans sn;have hrep : ∀ z ∈ zs', RepD K (upd (upd (upd H5 q (.lst acc)) l1 (.lst (zs'.map (·.1)))) l2 (.tup (zs'.map (·.1)))) (rowD false z.2) z.1 := fun z hz => ((z3 z (hpm.mem_iff.mp hz)).same (zad hl1 _)).same (zad hl2 _);generalize upd (upd (upd H5 q (.lst acc)) l1 (.lst (zs'.map (·.1)))) l2 (.tup (zs'.map (·.1))) = H7 at sn hl2' s7 hrep;refine ⟨a, ns, 11, b, n, rfl, s7.seq hS,δ,δ, n1, n40, fun r ys fs H8 s8 hr' hys hrf hft hlf => ⟨zao (show 3 <= 100000 by decide), fun t ht => ?_⟩⟩;have s9 := zad ht (.tup [V.int n, V.ref l2, V.ref r]);have ecs : (((zs'.map (·.2)).map rwP).map prR) = zs'.map (·.2) := by
  rw [List.map_map]
  conv => rhs; rw [<- List.map_id (zs'.map (·.2))]
  refine List.map_congr_left fun k hk => ?_;obtain ⟨z, hz, rfl⟩ := ya6.mp hk;exact zlq (one z (hpm.mem_iff.mp hz))
 have hnd : (zs'.map (·.2.1)).Nodup := by
  have p1 := hpm.map (fun z : V × Rw => z.2.1);refine p1.nodup_iff.mpr ?_;have : zs.map (fun z => z.2.1) = l.map (·.1) := by
   have e : zs.map (fun z => z.2.1) = (zs.map (·.2)).map (·.1) := by rw [List.map_map]; rfl
   rw [e, z2, zcw, List.map_map, List.map_map]; rfl
  rw [this]; exact hN
 refine k ⟨n, (zs'.map (·.2)).map rwP, fs⟩ t l2 r (zs'.map (·.1)) ys _ ((s7.trans s8).trans s9) ⟨SqT.of zae, (s8.trans s9).seqT (SqT.of hl2'), s9.seqT hr', ?_, hys.same s9⟩ ⟨n1, n40, zlr hs hnd, hrf, fun q hq' => ?_, hft, ?_, hlf⟩
 ·show RepX K _ ((((zs'.map (·.2)).map rwP).map prR).map (rowD false)) _;rw [ecs];exact (RepX.ofZ hrep).same (s8.trans s9)
 ·obtain ⟨k', hk', rfl⟩ := ya6.mp hq';obtain ⟨z, hz, rfl⟩ := ya6.mp hk';have : z.2 ∈ (zcw l).map prR := z2 ▸ ya6.mpr ⟨z, hpm.mem_iff.mp hz, rfl⟩;obtain ⟨pq, hpq, e⟩ := ya6.mp this;obtain ⟨lq, hlq, e2⟩ := ya6.mp hpq;obtain ⟨g1, t', g2, g3, g4⟩ := hG lq hlq;rw [<- e, <- e2, g2];exact ⟨g1, g3, g4⟩
 ·simp only [List.length_map];rw [hpm.length_eq]; omega
theorem zow {W : Wd} (h : W.Ok) {cs : List (Str × Int)} (hs : cs.Sublist W.cs) : (⟨W.size, cs, W.fs⟩ : Wd).Ok :=
 ⟨h.s1, h.s2, h.rc.sublist hs, h.rf, fun p hp => h.nm p (hs.subset hp), h.ft, yat hs.length_le h.lc, h.lf⟩
def zl2 (K : W.Frag) : Sp := fun vs H Q _ => ∃ (r c f : Addr) (q : Int) (W : Wd) (xs ys : List V), vs = [.ref r, .int q] /\ RepW K H W r c f xs ys /\ W.Ok /\
 ∀ (W' : Wd) (r c f : Addr) (xs ys : List V) H', Same H H' -> RepW K H' W' r c f xs ys -> W'.Ok -> W'.size = W.size -> Q (.ref r) H'
theorem zgT (T : Tx K mg D) : FnOk P w K mg Qd CX0 1 D.a_c6 D.d_c6 ["_law_world", "_law_cell"] (zl2 K) := by
 refine T.F_c6.ok sc_c6 (fun vs H Q E h => ?_) (fun cdv A outer s H vs Q E hr h => ?_)
 ·obtain ⟨r, c, f, q, W, xs, ys, rfl, _⟩ := h; rfl
 obtain ⟨r, c, f, q, W, xs, ys, rfl, hW, hO, k⟩ := h;have hu := hr.units;refine ⟨_, (zag (zbG (i := 2) 1 [0, 1] ["_law_k", "_law_world", "_law_cell"] sc_c6.nd ρ ρ ⟨ρ,ρ,ρ,ρ,ρ,ρ,ρ⟩ ρ (zb2 ρ T.z_range (zaa (zas (za3 K) ρ T.z_len yap (zaa (za4 (ixA K) (pv 0) zab (fun _ _ => rfl)) zaf)) zaf)) (fun _ _ _ _ => zaz (i := 0) (show List.Nodup (["_law_k", "_law_world", "_law_cell"] : List Str) by decide +kernel) ρ (Or.inl ρ) (Or.inr ρ)) (za0 δ) (fun _ _ _ _ => zdq (zaq (zbo K hu) (zak zap (zak za7 (pv 2) (za4 (ixA K) (zbn (zaa zab (zaa zab (zaa zab (zaa zab zaf))))) (zak zap (pv 0) zab) (fun _ _ => rfl))) zab) zab (zaw _))) (fun _ _ _ _ => (za4 (ixA K) (za4 (ixA K) (pv 1) zab (fun _ _ => rfl)) (pv 0) (fun _ _ => rfl))))
  (zah (zar (zcv (zaa (za4 (ixA K) (pv 0) zab (fun _ _ => rfl)) (zaa (za9 (zaP K) ρ T.z_tuple ρ (zaa (pv 2) zaf)) (zaa (za4 (ixA K) (pv 0) zab (fun _ _ => rfl)) zaf))))))), ?_⟩
 walk_at "S";walk_at "";have hlx : xs.length = W.cs.length := by have := hW.rc.1; simpa using this.symm
 have hl40 := hO.lc;refine ⟨_, .inr hW.top, _, i1, ?_⟩;walk_at "";refine ⟨_, .inr hW.called,ω,ω, ?_⟩;refine zcp (fun i acc H5 => Same H H5 /\ acc.length <= i /\ ∃ cs, cs.Sublist (W.cs.take i) /\ RepX K H5 ((cs.map prR).map (rowD false)) acc) ⟨Same.refl _,ς, [],ς, RepX.nil⟩ (fun i acc H5 hi hv => ?_) fun acc H5 hv p hp => ?_
 ·obtain ⟨s5, hal, cs, hsub, hR⟩ := hv;rw [ya4] at hi;refine ⟨zaG ω, ?_⟩;walk_at "T";walk_at "";refine ⟨zao δ, fun p1 hp1 => ⟨δ, _, .inl (SqL.of zae), ?_⟩⟩;obtain ⟨z, hz, ez⟩ := zm1 (ts := [1, 2, 4, 8]) (i := (0 + (i : Int)) % 4) (yao _ δ) (yak _ δ);refine ⟨_, ez, ?_⟩;walk_at "";have hz' : 0 < z /\ z < 1073741824 := by
   simp only [List.mem_cons, List.not_mem_nil, or_false] at hz;omega
  have s6 := s5.trans (zad hp1 (.lst [V.int 1, V.int 2, V.int 4, V.int 8]));have hR6 := hR.same (zad hp1 (.lst [V.int 1, V.int 2, V.int 4, V.int 8]));have hlt : i < W.cs.length := by omega
  have htk : W.cs.take (i + 1) = W.cs.take i ++ [W.cs[i]] := List.take_succ_eq_append_getElem hlt;refine ⟨cdiv hz'.1 hz'.2,δ, ite2 (fun c1 => ?_) fun c1 => ?_⟩
  ·refine ⟨_, .inr (s6.seqT hW.top), _, i1, ?_⟩;walk_at "";obtain ⟨x, hx⟩ : ∃ x, xs[i]? = some x := ⟨xs[i], yal ω⟩
   refine ⟨_, .inr (s6.seqT hW.called), x, at0 hx, s6, by simp; omega, cs ++ [W.cs[i]], by rw [htk]; exact hsub.append (List.Sublist.refl _), ?_⟩;rw [ya0, ya0];refine hR6.snoc ?_;exact (hW.rc.2 i _ x (by simp [hlt]) hx).same s6
  ·exact ⟨s6,ω, cs, by rw [htk]; exact hsub.trans (List.sublist_append_left _ _), hR6⟩
 obtain ⟨s5, hal, cs, hsub, hR⟩ := hv;walk_at "";have s6 := s5.trans (zad hp (.lst acc));refine ⟨_, .inr (s6.seqT hW.top), _, i0, _, .inl ⟨SqL.of zae, fun l hl => ?_⟩⟩;have s7 := s6.trans (zad hl (.tup acc));refine ⟨_, .inr (s7.seqT hW.top), _, i2, zao (show 3 <= 100000 by decide), fun p1 hp1 => ?_⟩;have s8 := s7.trans (zad hp1 (.tup [V.int W.size, V.ref l, V.ref f]));refine k ⟨W.size, cs, W.fs⟩ p1 l f acc ys _ s8 ⟨SqT.of zae, (zad hp1 _).seqT (SqT.of zae), s8.seqT hW.facts, ((hR.same (zad hp _)).same (zad hl _)).same (zad hp1 _), hW.rf.same s8⟩ (zow hO (hsub.trans (List.take_sublist _ _))) rfl
theorem zn5 : ∀ i : Nat, i < 41 -> numQ (tS i) = true /\ (tS i).length <= 2 := by decide +kernel
def rowS (r : List Str) : Str := Str.join " " r
def rowsW (W : Wd) : List (List Str) := ([[Str.ofString "things", tS W.size]] : List (List Str)) ++ W.cs.map (fun p => [p.1, Str.ofString "is", tS p.2]) ++ W.fs.map fun r => r.1 :: r.2.map tS
def txtL (rs : List (List Str)) : List Nat := rs.flatMap fun r => (rowS r).cps.toList ++ [10]
def wTxt (W : Wd) : Str := ⟨(txtL (rowsW W)).toArray⟩
theorem zex (W : Wd) : (wTxt W).cps.toList = txtL (rowsW W) := by unfold wTxt; simp
theorem zb7 (a b : Str) : (a ++ b).cps.toList = a.cps.toList ++ b.cps.toList := by rw [Str.cps_append, Array.toList_append]
theorem zbM (p : Str) {r : List Str} (h : r ≠ []) : (rowS (p :: r)).cps.toList = p.cps.toList ++ 32 :: (rowS r).cps.toList := zbL 32 p h
theorem zey (p : Str) : rowS [p] = p := rfl
theorem zjD (i : Int) : Str.ofString "things " ++ tS i = rowS [Str.ofString "things", tS i] := zbp (by rw [zb7, zbM _ ς, zey]; rfl)
theorem is_cps : (Str.ofString " is ").cps.toList = [32, 105, 115, 32] /\ (Str.ofString "is").cps.toList = [105, 115] /\ (Str.ofString " ").cps.toList = [32] /\ (Str.ofString "\n").cps.toList = [10] := by decide +kernel
theorem zjE (x : Str) (i : Int) : x ++ Str.ofString " is " ++ tS i = rowS [x, Str.ofString "is", tS i] := zbp (by
 rw [zb7, zb7, zbM _ ς, zbM _ ς, zey, is_cps.1, is_cps.2.1]; simp)
theorem zfn : ∀ {l : List Str} (t : Str), l ≠ [] -> rowS l ++ Str.ofString " " ++ t = rowS (l ++ [t])
 | [], _, h => absurd rfl h
 | [a], t, _ => zbp (by
  rw [zb7, zb7];show a.cps.toList ++ _ ++ _ = (rowS (a :: [t])).cps.toList;rw [zbM a ς, zey, is_cps.2.2.1]; simp)
 | a :: b :: l, t, _ => zbp (by
  have ih := congrArg (fun z : Str => z.cps.toList) (zfn (l := b :: l) t ς);simp only [zb7, is_cps.2.2.1] at ih;rw [zb7, zb7, zbM a ς, is_cps.2.2.1];show _ = (rowS (a :: (b :: l ++ [t]))).cps.toList;rw [zbM a ς, <- ih]; simp)
theorem zez : ∀ (l : List Str) (b : Nat), (∀ t ∈ l, t.length <= b) -> (rowS l).length <= l.length * (b + 1)
 | [], b, _ => by show 0 <= _; omega
 | [a], b, h => by have := h a ς; show a.length <= _; simp; omega
 | a :: c :: l, b, h => by
  have ih := zez (c :: l) b fun t ht => h t (List.mem_cons_of_mem _ ht);have h1 := h a ς;rw [<- za5, zbM a ς, yae, List.length_cons, za5, za5, List.length_cons, Nat.succ_mul];omega
theorem zgs (sep : Str) (ts : List Str) : (Txt.join sep ts) = Str.join sep ts := by
 show Builtin.Str.glued sep _ = _;rw [StrLaws.glued_eq_join]
theorem zn6 {ts : List Str} {b : Nat} (h : ∀ t ∈ ts, t.length <= b) : (ts.map fun t => t.length).sum <= ts.length * b := by
 induction ts with
 | nil => simp
 | cons t ts ih =>
  have h1 := h t ς;have h2 := ih fun u hu => h u (List.mem_cons_of_mem _ hu);rw [List.map_cons, List.sum_cons, List.length_cons, Nat.succ_mul];omega
def zox (K : W.Frag) : Sp := fun vs H Q _ => ∃ (r c f : Addr) (W : Wd) (xs ys : List V), vs = [.ref r] /\ RepW K H W r c f xs ys /\ W.Ok /\ ∀ H', Same H H' -> Q (.str (wTxt W)) H'
theorem zdC {i : Int} (h0 : 0 <= i) (h1 : i < 41) : (tS i).length <= 2 := by
 obtain ⟨n, rfl⟩ : ∃ n : Nat, i = n := ⟨i.toNat,ω⟩
 exact (zn5 n ω).2
theorem zfG {i : Int} (h0 : 0 <= i) (h1 : i < 41) : i.natAbs.log2 < 1920 := Nat.lt_of_le_of_lt (Nat.log2_le_self _) ω
def zdH (p : Str × Int) : List Str := [p.1, Str.ofString "is", tS p.2]
def zi7 (r : Rw) : List Str := r.1 :: r.2.map tS
theorem zgt {x : Str} (h : Nm smallS x) : x.length <= 8 := by
 obtain ⟨c, r, e, _, _, hl, _⟩ := h;rw [<- za5, e]; simp; omega
theorem zdi (W : Wd) : rowsW W = [[Str.ofString "things", tS W.size]] ++ W.cs.map zdH ++ W.fs.map zi7 := rfl
theorem zfo {W : Wd} (h : W.Ok) : ∀ r ∈ rowsW W, (rowS r).length <= 36 := fun r hr => by
 have b : ∀ t ∈ r, t.length <= 8 /\ r.length <= 4 := fun t ht => by
  rw [zdi] at hr;rcases yay.mp hr with hr | hr
  ·rcases yay.mp hr with hr | hr
   ·rw [yah.mp hr] at ht ⊢;have z := zdC (i := W.size) (by have := h.s1; omega) (by have := h.s2; omega);rcases yau.mp ht with rfl | ht
    ·exact ⟨δ,ς⟩
    ·rw [yah.mp ht]; exact ⟨ω,ς⟩
   ·obtain ⟨p, hp, rfl⟩ := ya6.mp hr;obtain ⟨n1, n2, n3⟩ := h.nm p hp;have z := zdC (i := p.2) n2 (by have := h.s2; omega);simp only [zdH, List.mem_cons, List.not_mem_nil, or_false] at ht;rcases ht with rfl | rfl | rfl
    ·exact ⟨zgt n1, by simp [zdH]⟩
    ·exact ⟨δ, by simp [zdH]⟩
    ·exact ⟨ω, by simp [zdH]⟩
  ·obtain ⟨f, hf, rfl⟩ := ya6.mp hr;obtain ⟨n1, n2, n3⟩ := h.ft f hf;have l4 : (zi7 f).length <= 4 := by simp [zi7]; omega
   rcases yau.mp ht with rfl | ht
   ·exact ⟨zgt n1, l4⟩
   ·obtain ⟨i, hi, rfl⟩ := ya6.mp ht;have := n3 i hi;exact ⟨yat (zdC this.1 (by have := h.s2; omega)) δ, l4⟩
 by_cases e : r = []
 ·subst e; show 0 <= 36; omega
 ·obtain ⟨t, ht⟩ := List.exists_mem_of_ne_nil r e;have h4 := (b t ht).2;have := zez r 8 fun t ht => (b t ht).1;have : r.length * (8 + 1) <= 36 := by omega
  omega
theorem zdY {W : Wd} (h : W.Ok) : (rowsW W).length <= 141 := by
 rw [zdi]; simp; have := h.lc; have := h.lf; omega
theorem zl3 : Str.ofString "\n" = (⟨#[10]⟩ : Str) := zbp is_cps.2.2.2
theorem zi8 : ∀ rs : List (List Str), rs ≠ [] -> (Str.join (Str.ofString "\n") (rs.map rowS) ++ Str.ofString "\n").cps.toList = txtL rs
 | [], h => absurd rfl h
 | [r], _ => by
  show (rowS r ++ Str.ofString "\n").cps.toList = _;rw [zb7, is_cps.2.2.2]; simp [txtL]
 | r :: q :: rs, _ => by
  have ih := zi8 (q :: rs) ς;have e : (Str.join (Str.ofString "\n") ((r :: q :: rs).map rowS)).cps.toList = (rowS r).cps.toList ++ 10 :: (Str.join (Str.ofString "\n") ((q :: rs).map rowS)).cps.toList := by
   rw [zl3]; exact zbL 10 (rowS r) ς
  rw [zb7] at ih ⊢;rw [e, List.append_assoc, List.cons_append, ih];simp [txtL]
theorem zfp (T : Tx K mg D) : FnOk P w K mg Qd CX0 1 D.a_c0 D.d_c0 ["_law_world"] (zox K) := by
 refine T.F_c0.ok sc_c0 (fun vs H Q E h => ?_) (fun cdv A outer s H vs Q E hr h => ?_)
 ·obtain ⟨r, c, f, W, xs, ys, rfl, _⟩ := h; rfl
 obtain ⟨r, c, f, W, xs, ys, rfl, hW, hO, k⟩ := h;have hu := hr.units;refine ⟨_, (zag (zax (i := 1) sc_c0.nd ρ (by walk_at "o") (zbn (zaa (zak (zat K) zal (za9 zbN ρ T.z_str ρ (zaa (za4 (ixA K) (pv 0) zab (fun _ _ => rfl)) zaf))) zaf)))
  (zag (zb8 PassesOwn.never ρ (zaT K (za4 (ixA K) (pv 0) zab (fun _ _ => rfl))) (zaz (i := 2) sc_c0.nd ρ (by walk_at "o"))
   (zah (zcG (zb9 K yar PySem.F.slot_list_append yaw zcr (pv 1) (zaa (zak (zat K) (zak (zat K) (za4 (ixA K) (pv 2) zab (fun _ _ => rfl)) zal) (za9 zbN ρ T.z_str ρ (zaa (za4 (ixA K) (pv 2) zab (fun _ _ => rfl)) zaf))) zaf)))))
  (zag (zb8 PassesOwn.never ρ (zaT K (za4 (ixA K) (pv 0) zab (fun _ _ => rfl))) (zaz (i := 3) sc_c0.nd ρ (by walk_at "o"))
   (zag (zax (i := 4) sc_c0.nd ρ (by walk_at "o") (za4 (ixA K) (pv 3) zab (fun _ _ => rfl)))
  (zag (zb8 PassesOwn.never ρ (zaT K (za4 (ixA K) (pv 3) zab (fun _ _ => rfl))) (zaz (i := 5) sc_c0.nd ρ (by walk_at "o"))
   (zah (zax (i := 4) sc_c0.nd ρ (by walk_at "o") (zak (zat K) (zak (zat K) (pv 4) zal) (za9 zbN ρ T.z_str ρ (zaa (pv 5) zaf))))))
  (zah (zcG (zb9 K yar PySem.F.slot_list_append yaw zcr (pv 1) (zaa (pv 4) zaf)))))))
  (zah (zar (zak (zat K) (zb9 K PySem.F.plainAttrs_str PySem.F.slot_str_join PySem.F.type_str_join (zdb K) zal (zaa (pv 1) zaf)) zal)))))), ?_⟩
 walk_at "S";walk_at "";have z1 := hO.s1;have z2 := hO.s2;have z3 := hO.lc;have z4 := hO.lf;have hz := zdC (i := W.size) ω ω;have lx : xs.length = W.cs.length := by have := hW.rc.1; simpa using this.symm
 have ly : ys.length = W.fs.length := by have := hW.rf.1; simpa using this.symm
 refine ⟨_, .inr hW.top, _, i0, _, rfl, zfG ω ω, zao (by have : (Str.ofString "things ").length = 7 := rfl; have : (Str.ofString (toString W.size)).length <= 2 := hz; omega), zao (show 1 <= 100000 by decide), fun p hp => ?_⟩;have e0 : V.str (Str.ofString "things " ++ Str.ofString (toString W.size)) = V.str (rowS [Str.ofString "things", tS W.size]) := congrArg V.str (zjD W.size);rw [e0];have s0 := zad hp (.lst [V.str (rowS [Str.ofString "things", tS W.size])]);refine ⟨_, .inr (s0.seqT hW.top), _, i1, ?_⟩;walk_at "";refine .inr ⟨⟨_, s0.seqT hW.called⟩, zcq (xs := xs) (fun i σ H2 => Same H H2 /\ (∃ u2, σ = [some (.ref r), some (.ref p), u2, none, none, none]) /\ H2 p = some (.lst ((([[Str.ofString "things", tS W.size]] ++ (W.cs.take i).map zdH).map rowS).map V.str))) ⟨s0, ⟨_, rfl⟩, zae⟩ (fun i σ H2 _ hv => hv.1.seqT hW.called) (fun j x σ H2 hx' hv => ?_) fun σ H2 hv => ?_⟩
 ·obtain ⟨s2, ⟨u2, rfl⟩, hp2⟩ := hv;have hj : j < W.cs.length := by have := (yag.mp hx').1; omega
  have hd := (hW.rc.2 j (rowD false (prR W.cs[j])) x (by simp [hj]) hx').same s2;obtain ⟨q, x1, x2, rfl, hq, e1, e2⟩ := RepD.two hd;cases e1;cases e2;obtain ⟨n1, n2, n3⟩ := hO.nm _ (List.getElem_mem hj);have l1 := zgt n1;have l2 := zdC (i := W.cs[j].2) n2 ω;walk_at "";have q1 : (prR W.cs[j]).1.length <= 8 := l1;have q2 : (Str.ofString (toString ((prR W.cs[j]).2.headD 0))).length <= 2 := l2;have q3 : (Str.ofString " is ").length = 4 := rfl;refine ⟨⟨_, SqL.of hp2⟩, _, .inr hq, _, i0, ?_⟩;walk_at "";refine ⟨zao ω, _, .inr hq, _, i1, _, rfl, zfG (show 0 <= W.cs[j].2 from n2) (show W.cs[j].2 < 41 by omega), ?_⟩;refine ⟨zao (by rw [Str.length_append]; omega), _, hp2, zaG (by simp; omega), s2.upd hp, ⟨_, rfl⟩, ?_⟩;have e1 : (prR W.cs[j]).1 ++ Str.ofString " is " ++ Str.ofString (toString ((prR W.cs[j]).2.headD 0)) = rowS (zdH W.cs[j]) := zjE W.cs[j].1 W.cs[j].2;rw [zae, List.take_succ_eq_append_getElem hj, e1];simp only [List.map_append, List.map_cons, List.map_nil, List.append_assoc]
  rfl
 obtain ⟨s2, ⟨u2, rfl⟩, hp2⟩ := hv;rw [lx, List.take_length] at hp2;walk_at "";refine ⟨_, .inr (s2.seqT hW.top), _, i2, ?_⟩;walk_at "";refine .inr ⟨⟨_, s2.seqT hW.facts⟩, zcq (xs := ys) (fun i σ H3 => Same H H3 /\ (∃ u3 u4 u5, σ = [some (.ref r), some (.ref p), u2, u3, u4, u5]) /\ H3 p = some (.lst ((([[Str.ofString "things", tS W.size]] ++ W.cs.map zdH ++ (W.fs.take i).map zi7).map rowS).map V.str))) ⟨s2, ⟨_, _, _, rfl⟩, by simpa using hp2⟩ (fun i σ H3 _ hv => hv.1.seqT hW.facts) (fun j x σ H3 hx' hv => ?_) fun σ H3 hv => ?_⟩
 ·obtain ⟨s3, ⟨u3, u4, u5, rfl⟩, hp3⟩ := hv;have hj : j < W.fs.length := by have := (yag.mp hx').1; omega
  have hd := (hW.rf.2 j (rowD true W.fs[j]) x (by simp [hj]) hx').same s3;obtain ⟨q, x1, x2, rfl, hq, e1, e2⟩ := RepD.two hd;cases e1;obtain ⟨b, rfl, hb⟩ := RepD.intsT e2;obtain ⟨n1, n2, n3⟩ := hO.ft _ (List.getElem_mem hj);have l1 := zgt n1;walk_at "";refine ⟨_, .inr hq, _, i0, ?_⟩;refine ⟨_, .inr hq, _, i1, ?_⟩;walk_at "";refine .inr ⟨⟨_, hb⟩, zcq (xs := W.fs[j].2.map V.int) (fun i σ H5 => H5 = H3 /\ ∃ u5, σ = [some (.ref r), some (.ref p), u2, some (.ref q), some (.str (rowS (W.fs[j].1 :: (W.fs[j].2.take i).map tS))), u5]) ⟨rfl, _, rfl⟩ (fun i σ H5 _ hv => hv.1 ▸ hb) (fun i x σ H5 hx hv => ?_) fun σ H5 hv => ?_⟩
  ·obtain ⟨rfl, u5, rfl⟩ := hv;have hi : i < W.fs[j].2.length := by have := (yag.mp hx).1; simpa using this
   have ev : x = V.int W.fs[j].2[i] := by
    rw [yav, yal hi] at hx;cases hx; rfl
   subst ev;obtain ⟨y1, y2⟩ := n3 _ (List.getElem_mem hi);have hrl : (rowS (W.fs[j].1 :: (W.fs[j].2.take i).map tS)).length <= 36 := by
    have h1 := zez (W.fs[j].1 :: (W.fs[j].2.take i).map tS) 8 fun t ht => by
     rcases yau.mp ht with rfl | ht
     ·exact l1
     ·obtain ⟨i, hi, rfl⟩ := ya6.mp ht;have := n3 i (List.mem_of_mem_take hi);exact yat (zdC this.1 ω) δ
    have h2 : (W.fs[j].1 :: (W.fs[j].2.take i).map tS).length <= 4 := by simp; omega
    have := Nat.mul_le_mul_right 9 h2;omega
   have hsp : (Str.ofString " ").length = 1 := rfl;have l2 : (Str.ofString (toString W.fs[j].2[i])).length <= 2 := zdC (i := W.fs[j].2[i]) y1 ω;walk_at "";refine ⟨zao ω, zfG y1 ω, zao (by rw [Str.length_append]; omega), trivial, some (V.int W.fs[j].2[i]), ?_⟩;have e := zfn (l := W.fs[j].1 :: (W.fs[j].2.take i).map tS) (tS W.fs[j].2[i]) ς;rw [List.take_succ_eq_append_getElem hi, ya0];exact congrArg (fun z => [some (V.ref r), some (V.ref p), u2, some (V.ref q), some (V.str z), some (V.int W.fs[j].2[i])]) e
  ·obtain ⟨rfl, u5, rfl⟩ := hv;rw [yaf, List.take_length];walk_at "";refine ⟨⟨_, SqL.of hp3⟩, _, hp3, zaG (by simp; omega), s3.upd hp, ⟨_, _, _, rfl⟩, ?_⟩;rw [zae, List.take_succ_eq_append_getElem hj];simp only [List.map_append, List.map_cons, List.map_nil, List.append_assoc]
   rfl
 obtain ⟨s3, ⟨u3, u4, u5, rfl⟩, hp3⟩ := hv;rw [ly, List.take_length] at hp3;have ek : ([[Str.ofString "things", tS W.size]] ++ W.cs.map zdH ++ W.fs.map zi7).map rowS = (rowsW W).map rowS := rfl;rw [ek] at hp3;have hmany := zdY hO;have hlong := zfo hO;walk_at "";have h8 : ∀ t ∈ (rowsW W).map rowS, t.length <= 37 := fun t ht => by
  obtain ⟨r, hr, rfl⟩ := ya6.mp ht;have := hlong r hr;omega
 have z8 := zn6 h8;rw [yaf] at z8;have l5 : (Str.ofString "\n").length = 1 := rfl;have zz := Nat.mul_le_mul_right 37 hmany;have hj := zjl (Str.ofString "\n") ((rowsW W).map rowS);rw [yaf, l5] at hj;refine ⟨trivial, (rowsW W).map rowS, .inl (SqL.of hp3), by rw [l5, yaf]; omega, zao ω, ?_⟩;rw [show Txt.join (Str.ofString "\n") ((rowsW W).map rowS) ++ Str.ofString "\n" = wTxt W from zbp (by rw [zgs, zex]; exact zi8 _ (by rw [zdi]; simp))];exact k _ s3
def Chr (x : Str) : Prop := ∀ c ∈ x.cps.toList, c < 1114112
def numI (x : Str) : Int := if numQ x then ((NumText.digitsVal x.cps.toList : Nat) : Int) else -1
theorem zn7 : ∀ c ∈ ("0123456789" : Str).cps.toList, 48 <= c /\ c <= 57 := by decide +kernel
theorem zgu {x : Str} (h : numQ x = true) : PySem.intText? x = some (numI x) /\ x.length <= 4 := by
 have h0 := h;unfold numQ at h
 by_cases c1 : x = ""
 ·rw [if_pos c1] at h; cases h
 rw [if_neg c1] at h
 by_cases c2 : (4 : Int) < x.length
 ·rw [if_pos c2] at h; cases h
 rw [if_neg c2] at h
 split at h
 ·cases h
 rw [List.all_eq_true] at h;have hne : x.cps.toList ≠ [] := fun e => c1 (zbp (e.trans rfl));have hd : NumText.AllDigits x.cps.toList := fun c hc => zn7 c (by have := h c hc; rw [zh8] at this; exact ya7 this);refine ⟨?_,ω⟩;rw [intText_digits hd hne ω];unfold numI;rw [if_pos h0]
theorem ze0 {x : Str} (h : numQ x = false) : numI x = -1 := by unfold numI; rw [if_neg (by rw [h]; exact yam)]
theorem zn8 : numQ "is" = false := by decide +kernel
def zoy (D : Defs) : Sp := fun vs H Q E => ∃ x : Str, vs = [.str x] /\ x.length <= 9000 /\ Chr x /\ ∀ H', Same H H' -> if numQ x = true then Q (.int (numI x)) H' else E (.ref D.x_NoWorld) none H'
theorem zbW (T : Tx K mg D) : FnOk P w K mg Qd (CXX P w) 2 D.a_a4 D.d_a4 ["run"] (zoy D) := by
 have G_b7 := @zfi P w _ _ Qd _ T;refine T.F_a4.okX zdG (fun vs H Q E h => ?_) (fun cdv A outer s H vs Q E hr h => ?_)
 ·obtain ⟨x, rfl, _⟩ := h; rfl
 obtain ⟨x, rfl, hx, hc, k⟩ := h;have hu := hr.units;have hr_b7 : Room 1 _ := hr.mono δ;refine ⟨_, (zag (zaS (zbY (zcd (YC G_b7 hr_b7 ρ T.m_b7 (zaa (pv 0) zaf)))) (zah (zdc zbO ρ zc7 T.x_NoWorld PySem.F.excBase_ValueError ρ (zaa (zlw (pv 0)) zaf))) zay)
  (zah (zar (za9 zd6 ρ T.z_int ρ (zaa (pv 0) zaf))))), ?_⟩
 walk_at "S";walk_at "";refine ⟨_, rfl, hx, fun H1 s1 => ?_⟩;have k1 := k H1 s1;cases c : numQ x with
 | false =>
  rw [c, if_neg (fun z => nomatch z)] at k1;rw [if_pos rfl];exact ⟨hx, hc, fun out _ => ⟨by show 1 <= sizeLine; rw [sizeLine_eq]; decide, k1⟩⟩
 | true =>
  rw [c, if_pos rfl] at k1;rw [if_neg (fun z => nomatch z)];obtain ⟨n1, n2⟩ := zgu c;exact ⟨_, n1,ω, k1⟩
def nrQ (rs : List Str) : Bool := decide (rs.length = 3) && decide (rs.getD 1 "" = "is")
def spNR (K : W.Frag) : Sp := fun vs H Q _ => ∃ (a : Addr) (rs : List Str), vs = [.ref a] /\ SqL K H a (rs.map V.str) /\ Q (.bl (nrQ rs)) H
theorem zdD (T : Tx K mg D) : FnOk P w K mg Qd CX0 1 D.a_a3 D.d_a3 ["row"] (spNR K) := by
 refine T.F_a3.ok zd9 (fun vs H Q E h => ?_) (fun cdv A outer s H vs Q E hr h => ?_)
 ·obtain ⟨a, rs, rfl, _⟩ := h; rfl
 obtain ⟨a, rs, rfl, hA, k⟩ := h;have hu := hr.units;refine ⟨_, (zah (zar (zcQ (zbz (zbo K hu) (zas (za3 K) ρ T.z_len yap (zaa (pv 0) zaf)) zab (zaw _)) (zdl (zbz (zbo K hu) (za4 (ixA K) (pv 0) zab (fun _ _ => rfl)) zal (zaw _)))))), ?_⟩;walk_at "S";walk_at "";refine ⟨_, .inl hA, ?_⟩;rw [yaf];unfold nrQ at k
 by_cases c : rs.length = 3
 ·rw [if_pos ω];refine ⟨_, .inl hA, _, zam (j := 1) (zbh ω), ?_⟩;walk_at "";rw [ya9 c, Bool.true_and] at k;exact k
 ·rw [if_neg ω];rw [ya8 c, Bool.false_and] at k;exact k
theorem zcn {r : List Str} {j : Nat} (h : j < r.length) : r.getD j "" ∈ r := by
 rw [List.getD_eq_getElem?_getD, yal h];exact List.getElem_mem h
def zgU (r : List Str) : Prop := r ≠ [] /\ r.length <= 9000 /\ ∀ t ∈ r, t.length <= 9000 /\ Chr t
def szQ (r : List Str) : Bool := decide (r.length = 2) && decide (r.getD 0 "" = "things") && numQ (r.getD 1 "")
def zoz (K : W.Frag) (D : Defs) : Sp := fun vs H Q E => ∃ (a : Addr) (r : List Str), vs = [.ref a] /\ SqL K H a (r.map V.str) /\ zgU r /\ ∀ H', Same H H' -> if szQ r = true then Q (.int (numI (r.getD 1 ""))) H' else E (.ref D.x_NoWorld) none H'
theorem zfq (T : Tx K mg D) : FnOk P w K mg Qd (CXX P w) 3 D.a_c2 D.d_c2 ["row"] (zoz K D) := by
 have G_a4 := @zbW P w _ _ Qd _ T;refine T.F_c2.okX zfe (fun vs H Q E h => ?_) (fun cdv A outer s H vs Q E hr h => ?_)
 ·obtain ⟨a, r, rfl, _⟩ := h; rfl
 obtain ⟨a, r, rfl, hA, hR, k⟩ := h;have hu := hr.units;have hr_a4 : Room 2 _ := hr.mono δ;refine ⟨_, (zag (zaS (PW.pt (zcu (zaq (zhy hu) (zas (za3 K) ρ T.z_len yap (zaa (pv 0) zaf)) zab (zaw _)) (zce (zaq (zhy hu) (za4 (ixA K) (pv 0) zab (fun _ _ => rfl)) zal (zaw _))))) (zah (zdc zbO ρ zc7 T.x_NoWorld PySem.F.excBase_ValueError ρ (zaa zal zaf))) zay)
  (zah (zar (zdd zbO zc7 G_a4 hr_a4 ρ T.m_a4.1 T.F_a4.kp T.m_a4.2.2 .nil (zaa (za4 (ixA K) (pv 0) zab (fun _ _ => rfl)) zaf))))), ?_⟩
 walk_at "S";walk_at "";have lost : szQ r = false -> [V.str (Str.ofString "the first row doesn't tell how many things there are")].length <= sizeLine /\ E (.ref D.x_NoWorld) none H := fun c => by
  have k1 := k H (Same.refl _);rw [c, if_neg (fun z => nomatch z)] at k1;exact ⟨by show 1 <= sizeLine; rw [sizeLine_eq]; decide, k1⟩
 refine ⟨_, .inl hA, ?_⟩;rw [yaf]
 by_cases c : r.length = 2
 ·rw [if_neg ω];refine ⟨_, .inl hA, _, zam (j := 0) (zbh ω), ?_⟩;walk_at ""
  by_cases c1 : r.getD 0 "" = "things"
  ·rw [if_neg (fun z => z c1)];obtain ⟨t1, t2⟩ := hR.2.2 (r.getD 1 "") (zcn ω);refine ⟨_, .inl hA, _, zam (j := 1) (zbh ω), _, rfl, t1, t2, fun H1 s1 => ?_⟩;have k1 := k H1 s1;have e : szQ r = numQ (r.getD 1 "") := by unfold szQ; rw [ya9 c, ya9 c1]; rfl
   rw [e] at k1;cases c2 : numQ (r.getD 1 "") with
   | true => rw [c2, if_pos rfl] at k1; rw [if_pos rfl]; exact k1
   | false => rw [c2, if_neg (fun z => nomatch z)] at k1; rw [if_neg (fun z => nomatch z)]; exact ⟨_, rfl, k1⟩
  ·rw [if_pos c1];exact lost (by unfold szQ; rw [ya8 c1]; simp)
 ·rw [if_pos ω];exact lost (by unfold szQ; rw [ya8 c]; rfl)
def fctR (r : List Str) : Rw := (r.getD 0 "", (r.drop 1).map numI)
def zo0 (K : W.Frag) (D : Defs) : Sp := fun vs H Q E => ∃ (a : Addr) (r : List Str), vs = [.ref a] /\ SqL K H a (r.map V.str) /\ zgU r /\ ∀ H', Same H H' -> if (r.drop 1).all numQ = true then ∀ p, RepD K H' (rowD true (fctR r)) (.ref p) -> Q (.ref p) H' else E (.ref D.x_NoWorld) none H'
theorem zfr (T : Tx K mg D) : FnOk P w K mg Qd (CXX P w) 3 D.a_b4 D.d_b4 ["row"] (zo0 K D) := by
 have G_a4 := @zbW P w _ _ Qd _ T;refine T.F_b4.okX zff (fun vs H Q E h => ?_) (fun cdv A outer s H vs Q E hr h => ?_)
 ·obtain ⟨a, r, rfl, _⟩ := h; rfl
 obtain ⟨a, r, rfl, hA, hR, k⟩ := h;have hu := hr.units;have hr_a4 : Room 2 _ := hr.mono δ;refine ⟨_, (zah (zar (zcv (zaa (za4 (ixA K) (pv 0) zab (fun _ _ => rfl)) (zaa (za9 (zaP K) ρ T.z_tuple ρ (zaa (zes 1 [] ["run"] zbO zc7 ⟨ρ,ρ,ρ,ρ,ρ,ρ,ρ⟩ ρ (zaT K (zaR (slB K) (pv 0) (zbg zab) zbk)) (fun _ _ _ _ => zaz (i := 0) (show List.Nodup (["run"] : List Str) by decide +kernel) ρ (Or.inl ρ) (Or.inr ρ)) (za0 δ) (fun _ _ _ _ => zbl) (fun _ _ _ _ => (zd8 G_a4 hr_a4 ρ T.m_a4.1 T.F_a4.kp T.m_a4.2.2 .nil (zaa (pv 0) zaf)))) zaf)) zaf))))), ?_⟩;walk_at "S";walk_at "";obtain ⟨hne, hrl, hrt⟩ := hR;obtain ⟨t0, tl, rfl⟩ : ∃ t0 tl, r = t0 :: tl := by
  cases r with
  | nil => exact absurd rfl hne
  | cons a l => exact ⟨a, l, rfl⟩
 have htl : tl.length <= 9000 := by simp at hrl; omega
 refine ⟨_, .inl hA, _, i0, _, .inl ⟨hA, fun q hq => ?_⟩⟩;rw [List.map_cons, zjs];have s0 := zad hq (.lst (tl.map V.str));have hq' : upd H q (.lst (tl.map V.str)) q = some (.lst (tl.map V.str)) := zae;generalize upd H q (.lst (tl.map V.str)) = H4 at s0 hq';refine .inl ⟨⟨_, SqL.of hq'⟩, zbe (xs := tl.map V.str) (fun i acc H5 => Same H4 H5 /\ acc = (tl.take i).map (fun t => V.int (numI t)) /\ (tl.take i).all numQ = true) ⟨Same.refl _, rfl, rfl⟩ (fun i acc H5 _ h => SqL.of (h.1 _ _ hq')) (fun i v acc H5 hv h => ?_) fun acc H5 h p1 hp1 => ?_⟩
 ·obtain ⟨s5, rfl, hall⟩ := h;have hi : i < tl.length := by have := (yag.mp hv).1; simpa using this
  have ev : v = V.str tl[i] := by
   rw [yav, yal hi] at hv;cases hv; rfl
  subst ev;obtain ⟨z1, z2⟩ := hrt tl[i] (List.mem_cons_of_mem _ (List.getElem_mem hi));refine ⟨zaG (by simp; omega), ?_⟩;walk_at "T";walk_at "";refine ⟨_, rfl, z1, z2, fun H6 s6 => ?_⟩;cases c : numQ tl[i] with
  | true =>
   rw [if_pos rfl];refine ⟨s5.trans s6, ?_, zbE hi hall c⟩;rw [List.take_succ_eq_append_getElem hi, ya0]; rfl
  | false =>
   rw [if_neg (fun z => nomatch z)];have k1 := k H6 ((s0.trans s5).trans s6);have e : ((t0 :: tl).drop 1).all numQ = false := zbS hi c;rw [e, if_neg (fun z => nomatch z)] at k1;exact ⟨_, rfl, k1⟩
 ·obtain ⟨s5, rfl, hall⟩ := h;rw [yaf, List.take_length] at hall ⊢;walk_at "";refine ⟨_, .inl ⟨SqL.of zae, fun l hl1 => ⟨zao (show 2 <= 100000 by decide), fun p hp => ?_⟩⟩⟩;have e : ((t0 :: tl).drop 1).all numQ = true := hall;have k1 := k _ ((s0.trans s5).trans ((zad hp1 (.lst (tl.map fun t => V.int (numI t)))).trans ((zad hl1 (.tup (tl.map fun t => V.int (numI t)))).trans (zad hp (.tup [V.str t0, V.ref l])))));rw [e, if_pos rfl] at k1;have hk : SqT K (upd (upd (upd H5 p1 (.lst (tl.map fun t => V.int (numI t)))) l (.tup (tl.map fun t => V.int (numI t)))) p (.tup [V.str t0, V.ref l])) l ((tl.map numI).map V.int) := by
   rw [List.map_map];exact SqT.of (zcJ hp zae)
  exact k1 p (RepD.t2 (SqT.of zae) (.str _) (RepD.ints hk))
def zbT (x : Str) : List Str := (Txt.split x " ").filter fun r : Str => !decide (r = "")
theorem zi9 (x : Str) : wd [] x.cps.toList = (zbT x).map fun t => t.cps.toList := by
 have e : Str.join " " (Txt.split x " ") = x := StrLaws.join_split x " ";have h := zhG (zga x " ") fun p hp => StrLaws.split_free x 32 p hp;rw [e] at h;exact h
theorem zl4 (xs : List V) {a b : Nat} (ha : a <= xs.length) (hb : b <= xs.length) : cutV xs (some (a : Int)) (some (b : Int)) = (xs.drop a).take (b - a) := by
 unfold cutV;rw [HT.sIx_nat, HT.sIx_nat, Nat.min_eq_left ha, Nat.min_eq_left hb]
theorem zdj (xs : List V) {a : Nat} (ha : a <= xs.length) : cutV xs (some (a : Int)) none = xs.drop a := by
 unfold cutV;rw [HT.sIx_nat, HT.sIx_none, Nat.min_eq_left ha];exact List.take_of_length_le ς
def RepRs (K : W.Frag) (H : Hp) (rs : List (List Str)) (vs : List V) : Prop := vs.length = rs.length /\ ∀ (k : Nat) (r : List Str), rs[k]? = some r -> ∃ q, vs[k]? = some (V.ref q) /\ SqL K H q (r.map V.str)
theorem RepRs.same {K : W.Frag} {H H' : Hp} {rs : List (List Str)} {vs : List V} (h : RepRs K H rs vs) (s : Same H H') : RepRs K H' rs vs := ⟨h.1, fun k r e => let ⟨q, a, b⟩ := h.2 k r e; ⟨q, a, s.seq b⟩⟩
theorem RepRs.snoc {K : W.Frag} {H : Hp} {rs : List (List Str)} {vs : List V} (h : RepRs K H rs vs) {r : List Str} {q : Addr} (hq : SqL K H q (r.map V.str)) : RepRs K H (rs ++ [r]) (vs ++ [.ref q]) := by
 refine ⟨by simp [h.1], fun k r' e => ?_⟩
 by_cases c : k < rs.length
 ·rw [ya5 c] at e;rw [ya5 (by rw [h.1]; exact c)];exact h.2 k r' e
 ·rw [List.getElem?_append_right ω] at e;rw [List.getElem?_append_right (by have := h.1; omega), h.1];have z : k - rs.length = 0 := by
   have := (yag.mp e).1;simp at this; omega
  rw [z] at e ⊢;cases e;exact ⟨q, rfl, hq⟩
theorem ziA {c : Prop} [Decidable c] {A X : Prop} (h : X) (hA : c -> X -> A) : if c then A else X := by
 by_cases e : c
 ·rw [if_pos e]; exact hA e h
 ·rw [if_neg e]; exact h
def namR (r : List Str) : Str × Int := (r.getD 0 "", numI (r.getD 2 ""))
def wOf (rs : List (List Str)) : Wd := ⟨numI ((rs.getD 0 []).getD 1 ""), ((rs.drop 1).takeWhile nrQ).map namR, ((rs.drop 1).dropWhile nrQ).map fctR⟩
def g0 (rs : List (List Str)) : Bool := decide ((rs.getD 0 []).length = 2) && decide ((rs.getD 0 []).getD 0 "" = "things")
def okR (rs : List (List Str)) : Bool := g0 rs && ((rs.drop 1).dropWhile nrQ).all (fun r => !nrQ r) && fitQ (wOf rs)
def rsOf (x : Str) : List (List Str) := (zb1 x).map zbT
theorem zjF {W : Wd} (h : W.size = -1) : fitQ W = false := by unfold fitQ; rw [h]; rfl
theorem zjG {W : Wd} {p : Str × Int} (hp : p ∈ W.cs) (h : p.2 = -1) : fitQ W = false := by
 have : W.cs.all (prQ W.size) = false := List.all_eq_false.mpr ⟨p, hp, by unfold prQ thQ; rw [h]; simp⟩;unfold fitQ clQ; rw [this]; simp
theorem zjH {W : Wd} {r : Rw} {i : Int} (hr : r ∈ W.fs) (hi : i ∈ r.2) (h : i = -1) : fitQ W = false := by
 have h1 : r.2.all (thQ W.size) = false := List.all_eq_false.mpr ⟨i, hi, by unfold thQ; rw [h]; simp⟩;have : W.fs.all (ftQ W.size) = false := List.all_eq_false.mpr ⟨r, hr, by unfold ftQ; rw [h1]; simp⟩;unfold fitQ fsQ; rw [this]; simp
theorem zn9 {r : List Str} (h : nrQ r = true) : (r.drop 1).all numQ = false := by
 unfold nrQ at h;rw [Bool.and_eq_true, decide_eq_true_eq, decide_eq_true_eq] at h
 match r, h with
 | [a, b, c], ⟨_, hb⟩ =>
  have hb' : b = "is" := hb;rw [hb'];show (numQ "is" && _) = false;rw [zn8]; rfl
 | [], ⟨hl, _⟩ => simp at hl
 | [_], ⟨hl, _⟩ => simp at hl
 | [_, _], ⟨hl, _⟩ => simp at hl
 | _ :: _ :: _ :: _ :: _, ⟨hl, _⟩ => simp at hl
theorem zgv {r : List Str} (h : nrQ r = true) : r.length = 3 := by
 unfold nrQ at h;rw [Bool.and_eq_true, decide_eq_true_eq] at h;exact h.1
theorem ziB {α : Type} (p : α -> Bool) : ∀ {l : List α} {a : α} {r : List α}, l.dropWhile p = a :: r -> p a = false
 | [], _, _, h => by simp at h
 | b :: l, a, r, h => by
  rw [List.dropWhile_cons] at h;cases c : p b with
  | true => rw [c, if_pos rfl] at h; exact ziB p h
  | false => rw [c, if_neg (fun z => nomatch z)] at h; cases h; exact c
theorem ze1 {x : Str} {c : Nat} {r : Str} (h : r ∈ Txt.split x ⟨#[c]⟩) {d : Nat} (hd : d ∈ r.cps.toList) : d ∈ x.cps.toList := by
 have e : Str.join ⟨#[c]⟩ (Txt.split x ⟨#[c]⟩) = x := StrLaws.join_split x ⟨#[c]⟩;have key : ∀ {l : List Str}, r ∈ l -> d ∈ (Str.join ⟨#[c]⟩ l).cps.toList := by
  intro l
  induction l with
  | nil => intro h; simp at h
  | cons a l ih =>
   intro h
   by_cases hl : l = []
   ·subst hl;rw [yah.mp h] at hd;exact hd
   ·rw [zbL c a hl];rcases yau.mp h with rfl | h
    ·exact List.mem_append_left _ hd
    ·exact List.mem_append_right _ (List.mem_cons_of_mem _ (ih h))
 have := key h;rw [e] at this;exact this
theorem zo1 : (" " : Str) = ⟨#[32]⟩ := zbp is_cps.2.2.1
theorem ziC {x : Str} (hx : x.length <= 8000) (hc : Chr x) : (rsOf x).length <= 8002 /\ ∀ r ∈ rsOf x, zgU r := by
 refine ⟨?_, fun r hr => ?_⟩
 ·unfold rsOf zb1;rw [yaf];have h1 := zbK x ⟨#[10]⟩;have h2 := List.length_filter_le (fun r : Str => !decide (Txt.stripChars r " " = "")) (Txt.split x ⟨#[10]⟩);omega
 ·obtain ⟨row, hrow, rfl⟩ := ya6.mp hr;obtain ⟨h1, h2⟩ := List.mem_filter.mp hrow;have hl := zcE h1;refine ⟨fun e => ?_, ?_, fun t ht => ?_⟩
  ·have hw : wd [] row.cps.toList = [] := by rw [zi9, e]; rfl
   have := (zd5 row).mpr hw;simp [this] at h2
  ·unfold zbT;have h1 := zbK row " ";have h2 := List.length_filter_le (fun r : Str => !decide (r = "")) (Txt.split row " ");omega
  ·have ht' := (List.mem_filter.mp ht).1;rw [zo1] at ht';exact ⟨yat (zcE ht') ω, fun c hc' => hc c (ze1 h1 (ze1 ht' hc'))⟩
def zo2 (K : W.Frag) (D : Defs) : Sp := fun vs H Q E => ∃ x : Str, vs = [.str x] /\ x.length <= 8000 /\ Chr x /\ (okR (rsOf x) = true -> ∀ (r c f : Addr) (xs ys : List V) H', Same H H' -> RepW K H' (wOf (rsOf x)) r c f xs ys -> Q (.ref r) H') /\ (okR (rsOf x) = false -> ∀ H', Same H H' -> E (.ref D.x_NoWorld) none H')
theorem zcF (T : Tx K mg D) : FnOk P w K mg Qd (CXX P w) 6 D.a_a8 D.d_a8 ["text"] (zo2 K D) := by
 have G_d0 := @zgQ P w _ _ Qd _ T;have G_c7 := @zgP P w _ _ Qd _ T;have G_c2 := @zfq P w _ _ Qd _ T;have G_a3 := @zdD P w _ _ Qd _ T;have G_a4 := @zbW P w _ _ Qd _ T;have G_b4 := @zfr P w _ _ Qd _ T;have G_b3 := @zfk P w _ _ Qd _ T;refine T.F_a8.okX sc_a8 (fun vs H Q E h => ?_) (fun cdv A outer s H vs Q E hr h => ?_)
 ·obtain ⟨x, rfl, _⟩ := h; rfl
 obtain ⟨x, rfl, hx, hcx, k, lost⟩ := h;have hu := hr.units;have hr_d0 : Room 1 _ := hr.mono δ;have hr_c7 : Room 1 _ := hr.mono δ;have hr_c2 : Room 3 _ := hr.mono δ;have hr_a3 : Room 1 _ := hr.mono δ;have hr_a4 : Room 2 _ := hr.mono δ;have hr_b4 : Room 3 _ := hr.mono δ;have hr_b3 : Room 5 _ := hr.mono δ;refine ⟨_, (zag (zbG (i := 1) 1 [] ["row"] sc_a8.nd ρ ρ ⟨ρ,ρ,ρ,ρ,ρ,ρ,ρ⟩ ρ (zaT K (YC G_d0 hr_d0 ρ T.m_d0 (zaa (pv 0) zaf))) (fun _ _ _ _ => zaz (i := 0) (show List.Nodup (["row"] : List Str) by decide +kernel) ρ (Or.inl ρ) (Or.inr ρ)) (za0 δ) (fun _ _ _ _ => zbl) (fun _ _ _ _ => (YC G_c7 hr_c7 ρ T.m_c7 (zaa (pv 0) zaf))))
  (zag (zaS (zaq (zbo K hu) (zas (za3 K) ρ T.z_len yap (zaa (pv 1) zaf)) zab (zaw _)) (zah (zdc zbO ρ zc7 T.x_NoWorld PySem.F.excBase_ValueError ρ (zaa zal zaf))) zay)
  (zag (zax (i := 2) sc_a8.nd ρ (by walk_at "o") (zdd zbO zc7 G_c2 hr_c2 ρ T.m_c2.1 T.F_c2.kp T.m_c2.2.2 .nil (zaa (za4 (ixA K) (pv 1) zab (fun _ _ => rfl)) zaf)))
  (zag (zax (i := 3) sc_a8.nd ρ (by walk_at "o") zab)
  (zag (ziO zhC (PW.pt (zfI (zaq zch (pv 3) (zas (za3 K) ρ T.z_len yap (zaa (pv 1) zaf)) (zaw _)) (zeb (zcd (YC G_a3 hr_a3 ρ T.m_a3 (zaa (za4 (ixA K) (pv 1) (pv 3) (fun _ _ => rfl)) zaf)))))) (zah (zlI (i := 3) sc_a8.nd ρ (by walk_at "o") zab zlJ)))
  (zag (zax (i := 4) sc_a8.nd ρ (by walk_at "o") (za9 (zaP K) ρ T.z_tuple ρ (zaa (zes 1 [] ["row"] zbO zc7 ⟨ρ,ρ,ρ,ρ,ρ,ρ,ρ⟩ ρ (zaT K (zaR (slB K) (pv 1) (zbg zab) (zbg (pv 3)))) (fun _ _ _ _ => zaz (i := 0) (show List.Nodup (["row"] : List Str) by decide +kernel) ρ (Or.inl ρ) (Or.inr ρ)) (za0 δ) (fun _ _ _ _ => zbl) (fun _ _ _ _ => (zcv (zaa (za4 (ixA K) (pv 0) zab (fun _ _ => rfl)) (zaa (zd8 G_a4 hr_a4 ρ T.m_a4.1 T.F_a4.kp T.m_a4.2.2 .nil (zaa (za4 (ixA K) (pv 0) zab (fun _ _ => rfl)) zaf)) zaf))))) zaf)))
  (zag (zax (i := 5) sc_a8.nd ρ (by walk_at "o") (za9 (zaP K) ρ T.z_tuple ρ (zaa (zes 1 [] ["row"] zbO zc7 ⟨ρ,ρ,ρ,ρ,ρ,ρ,ρ⟩ ρ (zaT K (zaR (slB K) (pv 1) (zbg (pv 3)) zbk)) (fun _ _ _ _ => zaz (i := 0) (show List.Nodup (["row"] : List Str) by decide +kernel) ρ (Or.inl ρ) (Or.inr ρ)) (za0 δ) (fun _ _ _ _ => zbl) (fun _ _ _ _ => (zd8 G_b4 hr_b4 ρ T.m_b4.1 T.F_b4.kp T.m_b4.2.2 .nil (zaa (pv 0) zaf)))) zaf)))
  (zag (zax (i := 6) sc_a8.nd ρ (by walk_at "o") (zcv (zaa (pv 2) (zaa (pv 4) (zaa (pv 5) zaf)))))
  (zag (zaS (zbY (zcd (YC G_b3 hr_b3 ρ T.m_b3 (zaa (pv 6) zaf)))) (zah (zdc zbO ρ zc7 T.x_NoWorld PySem.F.excBase_ValueError ρ (zaa zal zaf))) zay)
  (zah (zar (pv 6)))))))))))), ?_⟩
 walk_at "S";walk_at "";refine ⟨_, rfl,ω, fun p0 H0 s0 hp0 => ?_⟩;walk_at "t";obtain ⟨hmany, hOk⟩ := ziC hx hcx;have hgl : (zb1 x).length = (rsOf x).length := by unfold rsOf; rw [yaf]
 refine .inl ⟨⟨_, SqL.of hp0⟩, zbe (xs := (zb1 x).map V.str) (fun i acc H5 => Same H0 H5 /\ RepRs K H5 (((zb1 x).take i).map zbT) acc) ⟨Same.refl _, rfl, fun k r e => by simp at e⟩ (fun i acc H5 _ hv => SqL.of (hv.1 _ _ hp0)) (fun i v acc H5 hv' hv => ?_) fun acc H5 hv p1 hp1 => ?_⟩
 ·obtain ⟨s5, hA⟩ := hv;have hi : i < (zb1 x).length := by have := (yag.mp hv').1; simpa using this
  have ev : v = V.str (zb1 x)[i] := by
   rw [yav, yal hi] at hv';cases hv'; rfl
  subst ev;have hml : (zb1 x)[i].length <= x.length := zcE (List.mem_filter.mp (List.getElem_mem hi)).1;refine ⟨zaG (by have := hA.1; simp at this; omega), ?_⟩;walk_at "T";walk_at "";refine ⟨_, rfl,ω, fun q H6 s6 _ hq => ⟨s5.trans s6, ?_⟩⟩;rw [List.take_succ_eq_append_getElem hi, ya0];exact (hA.same s6).snoc (SqL.of hq)
 obtain ⟨s5, hA⟩ := hv;rw [yaf, List.take_length] at hA;have s01 := (s0.trans s5).trans (zad hp1 (.lst acc));have hA1 : RepRs K _ (rsOf x) acc := RepRs.same hA (zad hp1 (.lst acc));have hL : upd H5 p1 (.lst acc) p1 = some (.lst acc) := zae;generalize upd H5 p1 (.lst acc) = H1 at s01 hA1 hL;have hal := hA1.1;walk_at "";refine ⟨acc, .inl (SqL.of hL), ?_⟩
 by_cases c0 : rsOf x = []
 ·rw [if_pos (by rw [hal, c0]; rfl)];exact ⟨by show 1 <= sizeLine; rw [sizeLine_eq]; decide, lost (by unfold okR g0; rw [c0]; rfl) H1 s01⟩
 rw [if_neg (fun z => c0 (List.eq_nil_of_length_eq_zero ω))];obtain ⟨r0, tl, hrs⟩ : ∃ r0 tl, rsOf x = r0 :: tl := by
  cases h : rsOf x with
  | nil => exact absurd h c0
  | cons a l => exact ⟨a, l, rfl⟩
 obtain ⟨q0, e0, hq0⟩ := hA1.2 0 r0 (by rw [hrs]; rfl);refine ⟨acc, .inl (SqL.of hL), _, zam (j := 0) e0, q0, r0, rfl, hq0, hOk r0 (by rw [hrs]; simp), fun H2 s2 => ?_⟩;have s02 := s01.trans s2;cases c1 : szQ r0 with
 | false =>
  rw [if_neg (fun z => nomatch z)];refine ⟨_, rfl, lost ?_ H2 s02⟩
  by_cases c2 : g0 (rsOf x) = true
  ·have c3 : numQ (r0.getD 1 "") = false := by
    unfold g0 at c2;rw [hrs] at c2;unfold szQ at c1;have : (decide (r0.length = 2) && decide (r0.getD 0 "" = "things")) = true := c2;rw [this] at c1;simpa using c1
   unfold okR;rw [zjF (W := wOf (rsOf x)) (by unfold wOf; rw [hrs]; exact ze0 c3)];simp
  ·unfold okR;rw [Bool.eq_false_iff.mpr c2]; rfl
 | true =>
 rw [if_pos rfl];have hA2 := hA1.same s2;have hL2 := s2 _ _ hL;have htd : tl.takeWhile nrQ ++ tl.dropWhile nrQ = tl := List.takeWhile_append_dropWhile;have hwO : wOf (rsOf x) = ⟨numI (r0.getD 1 ""), (tl.takeWhile nrQ).map namR, (tl.dropWhile nrQ).map fctR⟩ := by rw [hrs]; rfl
 have hoR : okR (rsOf x) = (g0 (rsOf x) && (tl.dropWhile nrQ).all (fun r => !nrQ r) && fitQ (wOf (rsOf x))) := by unfold okR; rw [hrs]; rfl
 have htw : ∀ r ∈ tl.takeWhile nrQ, nrQ r = true := fun r hr => List.all_eq_true.mp List.all_takeWhile r hr;have hdw : ∀ a r, tl.dropWhile nrQ = a :: r -> nrQ a = false := fun a r h => ziB nrQ h;generalize tl.takeWhile nrQ = tw at htd hwO htw;generalize tl.dropWhile nrQ = dw at htd hwO hoR hdw;have hin : ∀ r, r ∈ tw \/ r ∈ dw -> zgU r := fun r hr => hOk r (by rw [hrs, <- htd]; simp; rcases hr with h | h <;> simp [h]);have Qe : acc.length = 1 + tw.length + dw.length := by rw [hal, hrs, <- htd]; simp; omega
 have row1 : ∀ {j : Nat} (h : j < tw.length), (rsOf x)[1 + j]? = some tw[j] := fun {j} h => by
  rw [hrs, <- htd, Nat.add_comm, List.getElem?_cons_succ, ya5 h, yal h]
 have row2 : ∀ {j : Nat} (h : j < dw.length), (rsOf x)[1 + tw.length + j]? = some dw[j] := fun {j} h => by
  rw [hrs, <- htd, show 1 + tw.length + j = (tw.length + j) + 1 by omega, List.getElem?_cons_succ, List.getElem?_append_right ω, show tw.length + j - tw.length = j by omega, yal h]
 have hfn : ∀ r ∈ tw, numQ (r.getD 2 "") = false -> okR (rsOf x) = false := fun r hr hn => by
  rw [hoR, zjG (p := namR r) (by rw [hwO]; exact ya6.mpr ⟨r, hr, rfl⟩) (ze0 hn)]; simp
 have hff : ∀ r ∈ dw, (r.drop 1).all numQ = false -> okR (rsOf x) = false := fun r hr hn => by
  obtain ⟨t, ht, hq⟩ := List.all_eq_false.mp hn;rw [hoR, zjH (r := fctR r) (i := numI t) (by rw [hwO]; exact ya6.mpr ⟨r, hr, rfl⟩) (ya6.mpr ⟨t, ht, rfl⟩) (ze0 (Bool.eq_false_iff.mpr hq))]; simp
 refine ⟨fun m σ H3 => H3 = H2 /\ ∃ j : Nat, m + j = tw.length /\ σ = [some (.str x), some (.ref p1), some (.int (numI (r0.getD 1 ""))), some (.int (1 + (j : Int))), none, none, none], ⟨tw.length, rfl, 0, rfl, rfl⟩, fun m σ H3 hv => ?_⟩;obtain ⟨rfl, j, hm, rfl⟩ := hv;walk_at "";refine ⟨acc, .inl (SqL.of hL2), ?_⟩
 by_cases hj : j < tw.length
 ·obtain ⟨q, eq, hq⟩ := hA2.2 (1 + j) _ (row1 hj);rw [if_pos ω];refine ⟨acc, .inl (SqL.of hL2), _, by rw [show (1 + (j : Int)) = ((1 + j : Nat) : Int) by omega]; exact zam eq, q, tw[j], rfl, hq, true, congrArg V.bl (htw _ (List.getElem_mem hj)), ?_⟩;rw [if_pos rfl];refine ⟨fun σ' H' => H' = H3 /\ σ' = [some (.str x), some (.ref p1), some (.int (numI (r0.getD 1 ""))), some (.int (1 + ((j + 1 : Nat) : Int))), none, none, none], fun σ' H' hv => ⟨m - 1,ω, hv.1, j + 1,ω, hv.2⟩, _, rfl, ?_⟩;walk_at "";exact ⟨trivial, by rw [show 1 + (j : Int) + 1 = 1 + ((j + 1 : Nat) : Int) by omega]⟩
 have ej : j = tw.length := by omega
 subst ej;refine ziA ?_ fun hc hX => ?_
 rotate_left
 ·have h0 : 0 < dw.length := by omega
  obtain ⟨q, eq, hq⟩ := hA2.2 (1 + tw.length + 0) _ (row2 h0);refine ⟨acc, .inl (SqL.of hL2), _, by rw [show (1 + (tw.length : Int)) = ((1 + tw.length + 0 : Nat) : Int) by omega]; exact zam eq, q, _, rfl, hq, false, congrArg V.bl ?_, ?_⟩
  ·exact hdw _ _ (List.drop_eq_getElem_cons h0)
  ·rw [if_neg (fun z => nomatch z)];exact hX
 refine ⟨acc, .inl ⟨SqL.of hL2, fun q1 hq1 => ?_⟩⟩;have ec1 : cutV acc (some 1) (some (1 + (tw.length : Int))) = (acc.drop 1).take tw.length := by
  have := zl4 acc (a := 1) (b := 1 + tw.length) ω ω;rw [show 1 + tw.length - 1 = tw.length by omega] at this;rw [<- this]; rfl
 rw [ec1];have s3 := zad hq1 (.lst ((acc.drop 1).take tw.length));have hq1' : upd H3 q1 (.lst ((acc.drop 1).take tw.length)) q1 = some (.lst ((acc.drop 1).take tw.length)) := zae;generalize upd H3 q1 (.lst ((acc.drop 1).take tw.length)) = H4 at s3 hq1';have hl1 : ((acc.drop 1).take tw.length).length = tw.length := by rw [ya3, List.length_drop]; omega
 refine .inl ⟨⟨_, SqL.of hq1'⟩, zbe (xs := (acc.drop 1).take tw.length) (fun i acc5 H5 => Same H4 H5 /\ RepX K H5 ((((tw.take i).map namR).map prR).map (rowD false)) acc5) ⟨Same.refl _, RepX.nil⟩ (fun i _ H5 _ hv => SqL.of (hv.1 _ _ hq1')) (fun i v acc5 H5 hv' hv => ?_) fun acc5 H5 hv p3 hp3 => ?_⟩
 ·obtain ⟨s5', hX⟩ := hv;have hi : i < tw.length := by have := (yag.mp hv').1; omega
  obtain ⟨q, eq, hq⟩ := hA2.2 (1 + i) _ (row1 hi);have ev : v = .ref q := by
   rw [List.getElem?_take, if_pos hi, List.getElem?_drop, eq] at hv';cases hv'; rfl
  subst ev;have h3 := zgv (htw _ (List.getElem_mem hi));have hro := hin _ (.inl (List.getElem_mem hi));have hq5 := (s3.trans s5').seq hq;refine ⟨zaG (by have := hX.1; simp at this; omega), ?_⟩;walk_at "T";walk_at "";obtain ⟨z1, z2⟩ := hro.2.2 (tw[i].getD 2 "") (zcn ω);refine ⟨_, .inl hq5, _, zam (j := 0) (zbh ω), _, .inl hq5, _, zam (j := 2) (zbh ω), _, rfl, z1, z2, fun H6 s6 => ?_⟩;cases c2 : numQ (tw[i].getD 2 "") with
  | false =>
   rw [if_neg (fun z => nomatch z)];exact ⟨_, rfl, lost (hfn _ (List.getElem_mem hi) c2) H6 (((s02.trans s3).trans s5').trans s6)⟩
  | true =>
  rw [if_pos rfl];refine ⟨zao (show 2 <= 100000 by decide), fun q2 hq2 => ⟨(s5'.trans s6).trans (zad hq2 _), ?_⟩⟩;rw [List.take_succ_eq_append_getElem hi, ya0, ya0, ya0];exact (hX.same (s6.trans (zad hq2 _))).snoc (RepD.t2 (SqT.of zae) (.str _) (.int _))
 obtain ⟨s5', hX⟩ := hv;rw [hl1, List.take_length] at hX;have hXl : acc5.length = tw.length := by have := hX.1; simpa using this.symm
 walk_at "";refine ⟨_, .inl ⟨SqL.of zae, fun p4 hp4 => ⟨acc, .inl ⟨SqL.of ((zad hp4 _) _ _ ((zad hp3 _) _ _ (s5' _ _ (s3 _ _ hL2)))), fun q5 hq5 => ?_⟩⟩⟩⟩;have ec2 : cutV acc (some (1 + (tw.length : Int))) none = acc.drop (1 + tw.length) := by
  have := zdj acc (a := 1 + tw.length) ω;rw [<- this, show ((1 + tw.length : Nat) : Int) = 1 + (tw.length : Int) by omega]
 rw [ec2];have s45 := ((s5'.trans (zad hp3 (.lst acc5))).trans (zad hp4 (.tup acc5))).trans (zad hq5 (.lst (acc.drop (1 + tw.length))));have hX5 := hX.same (((zad hp3 (.lst acc5)).trans (zad hp4 (.tup acc5))).trans (zad hq5 (.lst (acc.drop (1 + tw.length)))));have hp4' : upd (upd (upd H5 p3 (.lst acc5)) p4 (.tup acc5)) q5 (.lst (acc.drop (1 + tw.length))) p4 = some (.tup acc5) := (zad hq5 _) _ _ zae;have hq5' : upd (upd (upd H5 p3 (.lst acc5)) p4 (.tup acc5)) q5 (.lst (acc.drop (1 + tw.length))) q5 = some (.lst (acc.drop (1 + tw.length))) := zae;generalize upd (upd (upd H5 p3 (.lst acc5)) p4 (.tup acc5)) q5 (.lst (acc.drop (1 + tw.length))) = H7 at s45 hX5 hp4' hq5';have hl2 : (acc.drop (1 + tw.length)).length = dw.length := by rw [List.length_drop]; omega
 refine .inl ⟨⟨_, SqL.of hq5'⟩, zbe (xs := acc.drop (1 + tw.length)) (fun i acc8 H8 => Same H7 H8 /\ RepX K H8 (((dw.take i).map fctR).map (rowD true)) acc8 /\ (dw.take i).all (fun r => (r.drop 1).all numQ) = true) ⟨Same.refl _, RepX.nil, rfl⟩ (fun i _ H8 _ hv => SqL.of (hv.1 _ _ hq5')) (fun i v acc8 H8 hv' hv => ?_) fun acc8 H8 hv p6 hp6 => ?_⟩
 ·obtain ⟨s8, hY, hall⟩ := hv;have hi : i < dw.length := by have := (yag.mp hv').1; omega
  obtain ⟨q, eq, hq⟩ := hA2.2 (1 + tw.length + i) _ (row2 hi);have ev : v = .ref q := by
   rw [List.getElem?_drop, eq] at hv';cases hv'; rfl
  subst ev;have hq8 := ((s3.trans s45).trans s8).seq hq;refine ⟨zaG (by have := hY.1; simp at this; omega), ?_⟩;walk_at "T";walk_at "";refine ⟨q, dw[i], rfl, hq8, hin _ (.inr (List.getElem_mem hi)), fun H9 s9 => ?_⟩;cases c2 : (dw[i].drop 1).all numQ with
  | false =>
   rw [if_neg (fun z => nomatch z)];exact ⟨_, rfl, lost (hff _ (List.getElem_mem hi) c2) H9 ((((s02.trans s3).trans s45).trans s8).trans s9)⟩
  | true =>
  rw [if_pos rfl];refine fun q9 hq9 => ⟨s8.trans s9, ?_, zbE (f := fun r : List Str => (r.drop 1).all numQ) hi hall c2⟩
  rw [List.take_succ_eq_append_getElem hi, ya0, ya0];exact (hY.same s9).snoc hq9
 obtain ⟨s8, hY, hall⟩ := hv;rw [hl2, List.take_length] at hY hall;have hYl : acc8.length = dw.length := by have := hY.1; simpa using this.symm
 walk_at "";refine ⟨_, .inl ⟨SqL.of zae, fun p7 hp7 => ⟨zao (show 3 <= 100000 by decide), fun p8 hp8 => ?_⟩⟩⟩;have sE := ((zad hp6 (.lst acc8)).trans (zad hp7 (.tup acc8))).trans (zad hp8 (.tup [V.int (numI (r0.getD 1 "")), V.ref p4, V.ref p7]));have hW' : RepW K (upd (upd (upd H8 p6 (.lst acc8)) p7 (.tup acc8)) p8 (.tup [V.int (numI (r0.getD 1 "")), V.ref p4, V.ref p7])) (wOf (rsOf x)) p8 p4 p7 acc5 acc8 := by
  rw [hwO];exact ⟨SqT.of zae, (s8.trans sE).seqT (SqT.of hp4'), SqT.of ((zad hp8 _) _ _ zae), hX5.same (s8.trans sE), hY.same sE⟩
 generalize upd (upd (upd H8 p6 (.lst acc8)) p7 (.tup acc8)) p8 (.tup [V.int (numI (r0.getD 1 "")), V.ref p4, V.ref p7]) = HE at sE hW';have hB : Bnd (wOf (rsOf x)) := by
  rw [hwO];refine ⟨by simp; omega, by simp; omega, fun p hp => ?_, fun p hp => ?_⟩
  ·obtain ⟨r, hr, rfl⟩ := ya6.mp hp;have h3 := zgv (htw _ hr);exact ((hin r (.inl hr)).2.2 _ (zcn ω)).1
  ·obtain ⟨r, hr, rfl⟩ := ya6.mp hp;obtain ⟨a1, a2, a3⟩ := hin r (.inr hr);have hpos : 0 < r.length := by
    cases r with
    | nil => exact absurd rfl a1
    | cons a l => simp
   exact ⟨(a3 _ (zcn hpos)).1, by show ((r.drop 1).map numI).length <= 9000; rw [yaf, List.length_drop]; omega⟩
 have sAll := (((s02.trans s3).trans s45).trans s8).trans sE;refine ⟨p8, p4, p7, _, acc5, acc8, rfl, hW', hB, fun HF sF => ⟨fitQ (wOf (rsOf x)), rfl, ?_⟩⟩;have hg0 : g0 (rsOf x) = true := by
  unfold g0;rw [hrs];unfold szQ at c1;rw [Bool.and_eq_true] at c1;exact c1.1
 have hnn : dw.all (fun r => !nrQ r) = true := List.all_eq_true.mpr fun r hr => by
  cases c3 : nrQ r with
  | false => rfl
  | true =>
   have h1 := List.all_eq_true.mp hall r hr;rw [zn9 c3] at h1; cases h1
 rw [hg0, hnn] at hoR;cases c2 : fitQ (wOf (rsOf x)) with
 | false =>
  rw [if_pos rfl];rw [c2] at hoR;exact ⟨by show 1 <= sizeLine; rw [sizeLine_eq]; decide, lost hoR HF (sAll.trans sF)⟩
 | true =>
  rw [if_neg (fun z => nomatch z)];rw [c2] at hoR;exact k hoR p8 p4 p7 acc5 acc8 HF (sAll.trans sF) (hW'.same sF)
theorem zdI (T : Tx K mg D) : FnOk P w K mg Qd CX0 1 D.a_a5 D.d_a5 ["_law_word_here"] (fun vs H Q _ => ∃ x : Str, vs = [.str x] /\ x.length <= 9000 /\ Q (.int (numI x)) H) := by
  refine T.F_a5.ok sc_a5 (fun vs H Q E h => ?_) (fun cdv A outer s H vs Q E hr h => ?_)
  · obtain ⟨x, rfl, _⟩ := h; rfl
  obtain ⟨x, rfl, hx, k⟩ := h;have hu := hr.units;refine ⟨_, (zag (zaS (PW.pt (zcu (zbY (zfK zch zch zab (zas (za3 K) ρ T.z_len yap (zaa (pv 0) zaf)) zab)) (zce (PW.pt (zfI (zaq (zbo K hu) (za4 (ixA K) (pv 0) zab (fun _ _ => rfl)) zal (zaw _)) (zeb (zaq zft (zas (za3 K) ρ T.z_len yap (zaa (pv 0) zaf)) zab (zaw _)))))))) (zah (zar (zlM zjO zab))) zay)
    (zag (zb8 PassesOwn.never ρ (zaT K (pv 0)) (zaz (i := 1) sc_a5.nd ρ (by walk_at "o"))
      (zah (zaS (zaq (zci K) (pv 1) zal ρ) (zah (zar (zlM zjO zab))) zay)))
    (zah (zar (za9 zd6 ρ T.z_int ρ (zaa (pv 0) zaf)))))), ?_⟩
  walk_at "S";walk_at "";have hz : x.length <= sizeLine := zao ω;have neg : numQ x = false -> rU (fun i => V.int (-i)) (V.int 1) H Q := fun e => ⟨1, rfl, by rw [ze0 e] at k; exact k⟩
  have e0 : x.length = 0 -> x = "" := fun e => zbp (List.eq_nil_of_length_eq_zero (by rw [za5]; exact e));refine ⟨hz, ite2 (fun c1 => ite2 (fun c2 => neg ?_) fun c2 => ⟨hz, _, zgp (fun e => ?_), ite2 (fun c3 => ⟨hz, ite2 (fun c4 => neg ?_) fun c4 => ?_⟩) fun c3 => ?_⟩) fun c1 => neg ?_⟩
  · unfold numQ
    by_cases c : x = ""
    · rw [if_pos c]
    · rw [if_neg c, if_pos ω]
  · rw [e] at c1;have : ("" : Str).length = 0 := rfl;omega
  · unfold numQ
    by_cases c : x = ""
    · rw [if_pos c]
    · rw [if_neg c]
      by_cases c' : (4 : Int) < x.length
      · rw [if_pos c']
      · have hx0 : ¬ x = "0" := fun e => by rw [e] at c4; exact absurd c4 δ
        rw [if_neg c', if_pos ⟨c3, hx0⟩]
  rotate_left
  rotate_left
  · unfold numQ;rw [if_pos (e0 ω)]
  all_goals
    have hn : numQ x = x.cps.toList.all fun c => inS ⟨#[c]⟩ "0123456789" := by
      unfold numQ;rw [if_neg (fun e => by rw [e] at c1; have : ("" : Str).length = 0 := rfl; omega), if_neg ω, if_neg (fun z => ?_)]
      first
        | exact c3 z.1
        | (refine z.2 (zbp ?_)
           have h1 : x.cps.toList.length = 1 := by rw [za5]; omega
           obtain ⟨c, hc⟩ := List.length_eq_one_iff.mp h1;have h2 := congrArg (fun y : Str => y.cps.toList) c3;rw [hc] at h2 ⊢;exact h2)
    refine zfT (fun i σ H2 => H2 = H /\ (∃ u1, σ = [some (.str x), u1]) /\ (x.cps.toList.take i).all (fun c => inS ⟨#[c]⟩ "0123456789") = true) ⟨rfl, ⟨_, rfl⟩, rfl⟩ (fun i c σ H2 hc hv => ?_) fun σ H2 hv => ?_
    · obtain ⟨rfl, ⟨u1, rfl⟩, hall⟩ := hv;have hi : i < x.cps.toList.length := (yag.mp hc).1;have ec := (yag.mp hc).2;walk_at "";cases c4 : inS ⟨#[c]⟩ (Str.ofString "0123456789") with
      | false =>
        rw [if_pos rfl];exact neg (by rw [hn]; exact zbS hi (by rw [ec]; exact c4))
      | true =>
        rw [if_neg (fun z => nomatch z)];exact ⟨trivial, ⟨_, rfl⟩, zbE hi hall (by rw [ec]; exact c4)⟩
    · obtain ⟨rfl, ⟨u1, rfl⟩, hall⟩ := hv;rw [List.take_length] at hall;rw [hall] at hn;walk_at "";obtain ⟨n1, n2⟩ := zgu hn;exact ⟨_, n1,ω, k⟩
theorem RepD.strsL {K : W.Frag} {H : Hp} {a : Addr} {ts : List Str} (h : SqL K H a (ts.map V.str)) : RepD K H (.lst (ts.map Dt.str)) (.ref a) :=
 .lst h ς fun j d x h1 h2 => by
  rw [yav] at h1 h2;cases c : ts[j]? with
  | none => rw [c] at h1; cases h1
  | some t => rw [c] at h1 h2; cases h1; cases h2; exact .str _
theorem RepRs.repD {K : W.Frag} {H : Hp} {a : Addr} {rs : List (List Str)} {vs : List V} (h : RepRs K H rs vs) (s : SqL K H a vs) : RepD K H (.lst (rs.map fun r => .lst (r.map Dt.str))) (.ref a) :=
 .lst s (by simp [h.1]) fun j d x h1 h2 => by
  rw [yav] at h1;cases c : rs[j]? with
  | none => rw [c] at h1; cases h1
  | some r =>
   rw [c] at h1;cases h1;obtain ⟨q, e, hq⟩ := h.2 j r c;rw [e] at h2; cases h2;exact RepD.strsL hq
theorem deps_strs : ∀ r : List Str, Dt.deps (r.map Dt.str) = 0
 | [] => by simp [Dt.deps]
 | a :: r => by simp [Dt.deps, Dt.dep, deps_strs r]
theorem zgw : ∀ rs : List (List Str), Dt.deps (rs.map fun r => Dt.lst (r.map Dt.str)) <= 1
 | [] => by simp [Dt.deps]
 | r :: rs => by
  have := zgw rs;simp only [List.map_cons, Dt.deps, Dt.dep, deps_strs];omega
theorem RepD.rowKeep {K : W.Frag} {H : Hp} {f : Bool} {k : Rw} {v : V} {p : Addr} {us zs : List V} (h : RepD K H (rowD f k) v) (hp : H p = some (.lst us)) : RepD K (upd H p (.lst zs)) (rowD f k) v := by
 cases f with
 | false =>
  obtain ⟨q, x1, x2, rfl, hq, e1, e2⟩ := RepD.two h;cases e1;cases e2;exact RepD.t2 (hq.keepL hp) (.str _) (.int _)
 | true =>
  obtain ⟨q, x1, x2, rfl, hq, e1, e2⟩ := RepD.two h;cases e1;obtain ⟨b, rfl, hb⟩ := RepD.intsT e2;exact RepD.t2 (hq.keepL hp) (.str _) (RepD.ints (hb.keepL hp))
theorem RepX.rowKeep {K : W.Frag} {H : Hp} {f : Bool} {ks : List Rw} {xs : List V} {p : Addr} {us zs : List V} (h : RepX K H (ks.map (rowD f)) xs) (hp : H p = some (.lst us)) : RepX K (upd H p (.lst zs)) (ks.map (rowD f)) xs := by
 refine ⟨h.1, fun j d x e1 e2 => ?_⟩;have hj := h.2 j d x e1 e2;rw [yav] at e1;cases c : ks[j]? with
 | none => rw [c] at e1; cases e1
 | some k =>
  rw [c] at e1;cases e1;exact RepD.rowKeep hj hp
theorem zdZ : ∀ ks : List Rw, Dt.deps (ks.map (rowD true)) <= 2
 | [] => by simp [Dt.deps]
 | a :: l => by
  have := zdZ l;have z : ∀ l : List Int, Dt.deps (l.map Dt.int) = 0 := fun l => by
   induction l with
   | nil => simp [Dt.deps]
   | cons a l ih => simp [Dt.deps, Dt.dep, ih]
  rw [List.map_cons, Dt.deps];have : Dt.dep (rowD true a) <= 2 := by simp [rowD, Dt.dep, Dt.deps, z]
  omega
theorem ziD (x : Str) : ((Txt.split x ⟨#[10]⟩).map zbT).filter (fun r => !decide (r = [])) = rsOf x := by
 unfold rsOf zb1
 induction Txt.split x ⟨#[10]⟩ with
 | nil => rfl
 | cons r l ih =>
  have e : zbT r = [] ↔ Txt.stripChars r " " = "" := by
   rw [zd5, zi9];simp
  rw [List.map_cons, List.filter_cons, List.filter_cons]
  by_cases c : zbT r = []
  ·rw [if_neg (by simp [c]), if_neg (by simp [e.mp c])]; exact ih
  ·rw [if_pos (by simp [c]), if_pos (by simpa using fun z => c (e.mpr z)), List.map_cons, ih]
theorem zl5 {α : Type} {p : α -> Bool} {l : List α} (a : α) : (l.dropWhile p = [] -> p a = true -> (l ++ [a]).takeWhile p = l.takeWhile p ++ [a] /\ (l ++ [a]).dropWhile p = []) /\ (p a = false -> (l ++ [a]).takeWhile p = l.takeWhile p /\ (l ++ [a]).dropWhile p = l.dropWhile p ++ [a]) := by
 induction l with
 | nil => exact ⟨fun _ h => by simp [h], fun h => by simp [h]⟩
 | cons b l ih =>
  obtain ⟨i1, i2⟩ := ih;cases c : p b with
  | true =>
   have e1 : (b :: l).dropWhile p = l.dropWhile p := by rw [List.dropWhile_cons, if_pos c]
   have e2 : (b :: l).takeWhile p = b :: l.takeWhile p := by rw [List.takeWhile_cons, if_pos c]
   have e3 : (b :: l ++ [a]).dropWhile p = (l ++ [a]).dropWhile p := by rw [List.cons_append, List.dropWhile_cons, if_pos c]
   have e4 : (b :: l ++ [a]).takeWhile p = b :: (l ++ [a]).takeWhile p := by rw [List.cons_append, List.takeWhile_cons, if_pos c]
   refine ⟨fun h1 h2 => ?_, fun h => ?_⟩
   ·rw [e1] at h1;obtain ⟨j1, j2⟩ := i1 h1 h2;rw [e4, e3, e2, j1, j2]; exact ⟨rfl, rfl⟩
   ·obtain ⟨j1, j2⟩ := i2 h;rw [e4, e3, e2, e1, j1, j2]; exact ⟨rfl, rfl⟩
  | false =>
   have e1 : (b :: l).dropWhile p = b :: l := by rw [List.dropWhile_cons, if_neg (by rw [c]; exact yam)]
   have e2 : (b :: l).takeWhile p = [] := by rw [List.takeWhile_cons, if_neg (by rw [c]; exact yam)]
   have e3 : (b :: l ++ [a]).dropWhile p = b :: l ++ [a] := by rw [List.cons_append, List.dropWhile_cons, if_neg (by rw [c]; exact yam)]
   have e4 : (b :: l ++ [a]).takeWhile p = [] := by rw [List.cons_append, List.takeWhile_cons, if_neg (by rw [c]; exact yam)]
   refine ⟨fun h1 _ => ?_, fun h => ?_⟩
   ·rw [e1] at h1; cases h1
   ·rw [e4, e3, e2, e1]; exact ⟨rfl, rfl⟩
theorem ziE {α : Type} {p : α -> Bool} : ∀ {l : List α} (m : List α), l.dropWhile p ≠ [] -> (l ++ m).dropWhile p = l.dropWhile p ++ m
 | [], m, h => absurd rfl h
 | b :: l, m, h => by
  cases c : p b with
  | true =>
   rw [List.dropWhile_cons, if_pos c] at h ⊢;rw [List.cons_append, List.dropWhile_cons, if_pos c];exact ziE m h
  | false =>
   rw [List.cons_append, List.dropWhile_cons, List.dropWhile_cons, if_neg (by rw [c]; exact yam), if_neg (by rw [c]; exact yam)]; rfl
def spWI (K : W.Frag) : Sp := fun vs H Q _ => ∃ x : Str, vs = [.str x] /\ x.length <= 8000 /\ Chr x /\ (okR (rsOf x) = true -> ∀ (r c f : Addr) (xs ys : List V) H', Same H H' -> RepW K H' (wOf (rsOf x)) r c f xs ys -> Q (.ref r) H') /\ (okR (rsOf x) = false -> ∀ H', Same H H' -> Q .non H')
theorem ze2 (T : Tx K mg D) : FnOk P w K mg Qd CX0 3 D.a_a7 D.d_a7 ["_law_text"] (spWI K) := by
 have G_a5 := @zdI P w _ _ Qd _ T;have G_d2 := @zi4 P w _ _ Qd _ T;refine T.F_a7.ok sc_a7 (fun vs H Q E h => ?_) (fun cdv A outer s H vs Q E hr h => ?_)
 ·obtain ⟨x, rfl, _⟩ := h; rfl
 obtain ⟨x, rfl, hx, hcx, k, lost⟩ := h;have hu := hr.units;have hr_a5 : Room 1 _ := hr.mono δ;have hr_d2 : Room 2 _ := hr.mono δ;refine ⟨_, (zag (zbG (i := 1) 1 [] ["_law_row"] sc_a7.nd ρ ρ ⟨ρ,ρ,ρ,ρ,ρ,ρ,ρ⟩ ρ (zaT K (zb9 K PySem.F.plainAttrs_str PySem.F.slot_str_split PySem.F.type_str_split zc6 (pv 0) (zaa zal zaf))) (fun _ _ _ _ => zaz (i := 0) (show List.Nodup (["_law_row"] : List Str) by decide +kernel) ρ (Or.inl ρ) (Or.inr ρ)) (za0 δ) (fun _ _ _ _ => zbl) (fun _ _ _ _ => (zbJ 1 [] ["_law_word_here"] ⟨ρ,ρ,ρ,ρ,ρ,ρ,ρ⟩ ρ (zaT K (zb9 K PySem.F.plainAttrs_str PySem.F.slot_str_split PySem.F.type_str_split zc6 (pv 0) (zaa zal zaf))) (fun _ _ _ _ => zaz (i := 0) (show List.Nodup (["_law_word_here"] : List Str) by decide +kernel) ρ (Or.inl ρ) (Or.inr ρ)) (za0 δ) (fun _ _ _ _ => zdq (zaq (zdw K hu) (pv 0) zal (zaw _))) (fun _ _ _ _ => (pv 0)))))
  (zag (zbG (i := 1) 1 [] ["_law_row"] sc_a7.nd ρ ρ ⟨ρ,ρ,ρ,ρ,ρ,ρ,ρ⟩ ρ (zaT K (pv 1)) (fun _ _ _ _ => zaz (i := 0) (show List.Nodup (["_law_row"] : List Str) by decide +kernel) ρ (Or.inl ρ) (Or.inr ρ)) (za0 δ) (fun _ _ _ _ => zdq (zaq (zdw K hu) (pv 0) (zbn zaf) (zaw _))) (fun _ _ _ _ => (pv 0)))
  (zag (zaS (PW.pt (zcu (zaq (zdv K hu) (pv 1) (zbn zaf) (zaw _)) (zcu (zaq (zdw K hu) (zas (za3 K) ρ T.z_len yap (zaa (za4 (ixA K) (pv 1) zab (fun _ _ => rfl)) zaf)) zab (zaw _)) (zce (zaq (zdw K hu) (za4 (ixA K) (za4 (ixA K) (pv 1) zab (fun _ _ => rfl)) zab (fun _ _ => rfl)) zal (zaw _)))))) (zah (zar zgY)) zay)
  (zag (zax (i := 2) sc_a7.nd ρ (by walk_at "o") (zbn zaf))
  (zag (zax (i := 3) sc_a7.nd ρ (by walk_at "o") (zbn zaf))
  (zag (zb8 PassesOwn.never ρ (zaT K (zaR (slB K) (pv 1) (zbg zab) zbk)) (zaz (i := 4) sc_a7.nd ρ (by walk_at "o"))
   (zah (zaS (PW.pt (zfI (zaq (zdv K hu) (zas (za3 K) ρ T.z_len yap (zaa (pv 4) zaf)) zab (zaw _)) (zeb (zaq (zdv K hu) (za4 (ixA K) (pv 4) zab (fun _ _ => rfl)) zal (zaw _))))) (zag (zcG (zb9 K yar PySem.F.slot_list_append yaw zcr (pv 2) (zaa (zcv (zaa (za4 (ixA K) (pv 4) zab (fun _ _ => rfl)) (zaa (YC G_a5 hr_a5 ρ T.m_a5 (zaa (za4 (ixA K) (pv 4) zab (fun _ _ => rfl)) zaf)) zaf))) zaf)))
  (zah (zaS (zaq (zdw K hu) (pv 3) (zbn zaf) (zaw _)) (zah (zar zgY)) zay))) (zah (zcG (zb9 K yar PySem.F.slot_list_append yaw zcr (pv 3) (zaa (zcv (zaa (za4 (ixA K) (pv 4) zab (fun _ _ => rfl)) (zaa (za9 (zaP K) ρ T.z_tuple ρ (zaa (zbJ 1 [] ["_law_word_here"] ⟨ρ,ρ,ρ,ρ,ρ,ρ,ρ⟩ ρ (zaT K (zaR (slB K) (pv 4) (zbg zab) zbk)) (fun _ _ _ _ => zaz (i := 0) (show List.Nodup (["_law_word_here"] : List Str) by decide +kernel) ρ (Or.inl ρ) (Or.inr ρ)) (za0 δ) (fun _ _ _ _ => zbl) (fun _ _ _ _ => (YC G_a5 hr_a5 ρ T.m_a5 (zaa (pv 0) zaf)))) zaf)) zaf))) zaf)))))))
  (zag (zax (i := 5) sc_a7.nd ρ (by walk_at "o") (YC G_a5 hr_a5 ρ T.m_a5 (zaa (za4 (ixA K) (za4 (ixA K) (pv 1) zab (fun _ _ => rfl)) zab (fun _ _ => rfl)) zaf)))
  (zag (zaS (zbY (zcd (YC G_d2 hr_d2 ρ T.m_d2 (zaa (pv 5) (zaa (pv 2) (zaa (pv 3) zaf)))))) (zah (zar zgY)) zay)
  (zah (zar (zcv (zaa (pv 5) (zaa (za9 (zaP K) ρ T.z_tuple ρ (zaa (pv 2) zaf)) (zaa (za9 (zaP K) ρ T.z_tuple ρ (zaa (pv 3) zaf)) zaf)))))))))))))), ?_⟩
 walk_at "S";walk_at "";rw [zl3];refine ⟨trivial,δ,ω, fun p0 hp0 => ?_⟩;have hsz : (Txt.split x ⟨#[10]⟩).length <= 8002 := yat (zbK _ _) ω;have s0 := zad hp0 (.lst ((Txt.split x ⟨#[10]⟩).map V.str));have hp0' : upd H p0 (.lst ((Txt.split x ⟨#[10]⟩).map V.str)) p0 = some (.lst ((Txt.split x ⟨#[10]⟩).map V.str)) := zae;generalize upd H p0 (.lst ((Txt.split x ⟨#[10]⟩).map V.str)) = H0 at s0 hp0';refine .inl ⟨⟨_, SqL.of hp0'⟩, zbe (xs := (Txt.split x ⟨#[10]⟩).map V.str) (fun i acc H5 => Same H0 H5 /\ RepRs K H5 (((Txt.split x ⟨#[10]⟩).take i).map zbT) acc) ⟨Same.refl _, rfl, fun k r e => by simp at e⟩ (fun i acc H5 _ hv => SqL.of (hv.1 _ _ hp0')) (fun i v acc H5 hv' hv => ?_) fun acc H5 hv p1 hp1 => ?_⟩
 ·obtain ⟨s5, hA⟩ := hv;have hi : i < (Txt.split x ⟨#[10]⟩).length := by have := (yag.mp hv').1; simpa using this
  have ev : v = V.str (Txt.split x ⟨#[10]⟩)[i] := by
   rw [yav, yal hi] at hv';cases hv'; rfl
  subst ev;have hml := zcE (List.getElem_mem hi);refine ⟨zaG (by have := hA.1; simp at this; omega), ?_⟩;rw [List.take_succ_eq_append_getElem hi];generalize (Txt.split x ⟨#[10]⟩)[i] = row at hml;walk_at "T";walk_at "";refine ⟨trivial,δ,ω, fun p hp => .inl ⟨⟨_, SqL.of zae⟩, ?_⟩⟩;have hsz2 : (Txt.split row " ").length <= 8002 := yat (zbK _ _) ω;refine zbe (xs := (Txt.split row " ").map V.str) (fun i acc Hc => Hc = upd H5 p (.lst ((Txt.split row " ").map V.str)) /\ acc = (((Txt.split row " ").take i).filter fun r : Str => !decide (r = "")).map V.str) ⟨rfl, rfl⟩ (fun i acc Hc _ h => h.1 ▸ SqL.of zae) (fun i v acc Hc hv h => ?_) fun acc2 Hc h p2 hp2 => ?_
  ·obtain ⟨rfl, rfl⟩ := h;have hi2 : i < (Txt.split row " ").length := by have := (yag.mp hv).1; simpa using this
   have ev : v = V.str (Txt.split row " ")[i] := by
    rw [yav, yal hi2] at hv;cases hv; rfl
   subst ev;refine ⟨zaG (by rw [yaf]; refine yat (List.length_filter_le _ _) ?_; rw [ya3]; omega), ?_⟩;rw [List.take_succ_eq_append_getElem hi2, List.filter_append, ya0];walk_at "T";walk_at "";refine ite2 (fun c => ⟨trivial, ?_⟩) fun c => ⟨trivial, ?_⟩
   ·simp [c]
   ·simp [c]
  ·obtain ⟨rfl, rfl⟩ := h;rw [yaf, List.take_length];have sN := (zad hp (.lst ((Txt.split row " ").map V.str))).trans (zad hp2 (.lst ((zbT row).map V.str)));refine ⟨s5.trans sN, ?_⟩;rw [ya0];exact (hA.same sN).snoc (SqL.of zae)
 obtain ⟨s5, hA⟩ := hv;rw [yaf, List.take_length] at hA;have s01 := (s0.trans s5).trans (zad hp1 (.lst acc));have hA1 : RepRs K _ ((Txt.split x ⟨#[10]⟩).map zbT) acc := hA.same (zad hp1 (.lst acc));have hL : upd H5 p1 (.lst acc) p1 = some (.lst acc) := zae;generalize upd H5 p1 (.lst acc) = H1 at s01 hA1 hL;have hal := hA1.1;rw [yaf] at hal;walk_at "";refine .inl ⟨⟨_, SqL.of hL⟩, zbe (xs := acc) (fun i acc2 H6 => Same H1 H6 /\ RepRs K H6 ((((Txt.split x ⟨#[10]⟩).map zbT).take i).filter fun r => !decide (r = [])) acc2) ⟨Same.refl _, rfl, fun k r e => by simp at e⟩ (fun i acc2 H6 _ hv => SqL.of (hv.1 _ _ hL)) (fun i v acc2 H6 hv' hv => ?_) fun acc2 H6 hv p2 hp2 => ?_⟩
 ·obtain ⟨s6, hB⟩ := hv;have hi : i < ((Txt.split x ⟨#[10]⟩).map zbT).length := by rw [yaf, <- hal]; exact (yag.mp hv').1
  obtain ⟨q, eq, hq⟩ := hA1.2 i _ (yal hi);rw [eq] at hv';cases hv';have hi8 : i <= 8002 := by rw [yaf] at hi; omega
  refine ⟨zaG (by have h1 := hB.1; have h2 := List.length_filter_le (fun r : List Str => !decide (r = [])) (((Txt.split x ⟨#[10]⟩).map zbT).take i); rw [ya3] at h2; omega), ?_⟩;rw [List.take_succ_eq_append_getElem hi, List.filter_append];generalize ((Txt.split x ⟨#[10]⟩).map zbT)[i] = r at hq;walk_at "T";walk_at "";refine ⟨zao δ, fun p hp => ?_⟩;have sP := zad hp (.lst []);refine ⟨_, _, RepD.strsL (sP.seq (s6.seq hq)), RepD.strsL (ts := []) (SqL.of zae), by simp only [Dt.dep, deps_strs]; omega, ?_⟩
  by_cases c : r = []
  ·subst c;rw [if_neg (fun z => z rfl)];exact ⟨s6.trans sP, by simpa using hB.same sP⟩
  ·rw [if_pos (by simpa using c)];refine ⟨s6.trans sP, ?_⟩;have e : List.filter (fun r : List Str => !decide (r = [])) [r] = [r] := by simp [c]
   rw [e];exact (hB.same sP).snoc (sP.seq (s6.seq hq))
 obtain ⟨s6, hB⟩ := hv;rw [List.take_of_length_le (by rw [yaf]; omega), ziD] at hB;have s02 := s01.trans (s6.trans (zad hp2 (.lst acc2)));have hB2 := hB.same (zad hp2 (.lst acc2));have hL2 : upd H6 p2 (.lst acc2) p2 = some (.lst acc2) := zae;generalize upd H6 p2 (.lst acc2) = H2 at s02 hB2 hL2;obtain ⟨hmany, hOk⟩ := ziC hx hcx;have hbl := hB2.1;walk_at "";refine ⟨zao δ, fun p hp => ?_⟩;have sP := zad hp (.lst []);refine ⟨_, _, (hB2.same sP).repD (sP.seq (SqL.of hL2)), RepD.strsL (ts := []) (SqL.of zae), by simp only [Dt.dep]; have := zgw (rsOf x); omega, ?_⟩
 by_cases c0 : rsOf x = []
 ·rw [if_pos (by rw [c0]; rfl)];exact lost (by unfold okR g0; rw [c0]; rfl) _ (s02.trans sP)
 rw [if_neg (by simpa using c0)];have s03 := s02.trans sP;have hB3 := hB2.same sP;have hL3 := sP _ _ hL2;generalize upd H2 p (.lst []) = H3 at s03 hB3 hL3;obtain ⟨r0, tl, hrs⟩ : ∃ r0 tl, rsOf x = r0 :: tl := by
  cases h : rsOf x with
  | nil => exact absurd h c0
  | cons a l => exact ⟨a, l, rfl⟩
 obtain ⟨q0, e0, hq0⟩ := hB3.2 0 r0 (by rw [hrs]; rfl);have hg0 : g0 (rsOf x) = (decide (r0.length = 2) && decide (r0.getD 0 "" = "things")) := by unfold g0; rw [hrs]; rfl
 refine ⟨acc2, .inl (SqL.of hL3), _, zam (j := 0) e0, ?_⟩;walk_at "";refine ⟨_, .inl hq0, ?_⟩;rw [yaf]
 by_cases c1 : r0.length = 2
 rotate_left
 ·rw [if_pos ω];exact lost (by unfold okR; rw [hg0, ya8 c1]; rfl) _ s03
 rw [if_neg ω];refine ⟨acc2, .inl (SqL.of hL3), _, zam (j := 0) e0, ?_⟩;walk_at "";refine ⟨_, .inl hq0, _, zam (j := 0) (zbh ω), ?_⟩;walk_at ""
 by_cases c2 : r0.getD 0 "" = "things"
 rotate_left
 ·rw [if_pos c2];exact lost (by unfold okR; rw [hg0, ya8 c2]; simp) _ s03
 rw [if_neg (fun z => z c2)];refine ⟨zao δ, fun pc hpc => ⟨zao δ, fun pf hpf => ?_⟩⟩;have s04 := (s03.trans (zad hpc (.lst []))).trans (zad hpf (.lst []));have hB4 := hB3.same ((zad hpc (.lst [])).trans (zad hpf (.lst [])));have hL4 := ((zad hpc (.lst [])).trans (zad hpf (.lst []))) _ _ hL3;have hc4 : upd (upd H3 pc (.lst [])) pf (.lst []) pc = some (.lst []) := zcJ hpf zae;have hf4 : upd (upd H3 pc (.lst [])) pf (.lst []) pf = some (.lst []) := zae;have npc : H pc = none := s03.free hpc;have npf : H pf = none := (s03.trans (zad hpc (.lst []))).free hpf;have ncf : pc ≠ pf := fun e => by rw [e] at hpc; have h1 : upd H3 pc (.lst []) pc = none := e ▸ hpf; rw [zae] at h1; cases h1
 refine ⟨acc2, .inl ⟨SqL.of hL4, fun q1 hq1 => ?_⟩⟩;have ec : cutV acc2 (some 1) none = acc2.drop 1 := zdj acc2 (a := 1) (by rw [hbl, hrs]; simp);rw [ec];have s35 := ((zad hpc (.lst [])).trans (zad hpf (.lst []))).trans (zad hq1 (.lst (acc2.drop 1)));have hc5 := (zad hq1 (.lst (acc2.drop 1))) _ _ hc4;have hf5 := (zad hq1 (.lst (acc2.drop 1))) _ _ hf4;have nqc : q1 ≠ pc := fun e => by rw [e, hc4] at hq1; cases hq1
 have nqf : q1 ≠ pf := fun e => by rw [e, hf4] at hq1; cases hq1
 have hq1' : upd (upd (upd H3 pc (.lst [])) pf (.lst [])) q1 (.lst (acc2.drop 1)) q1 = some (.lst (acc2.drop 1)) := zae;have npf3 : H3 pf = none := (zad hpc (.lst [])).free hpf;generalize upd (upd (upd H3 pc (.lst [])) pf (.lst [])) q1 (.lst (acc2.drop 1)) = H5' at s35 hc5 hf5 hq1';have hlt : (acc2.drop 1).length = tl.length := by rw [List.length_drop, hbl, hrs]; simp
 have htl : tl.length <= 8002 := by rw [hrs] at hmany; simp at hmany; omega
 refine .inl ⟨⟨_, SqL.of hq1'⟩, zdr (xs := acc2.drop 1) (fun i σ H7 => ∃ xs ys u4, σ = [some (.str x), some (.ref p2), some (.ref pc), some (.ref pf), u4, none] /\ Same H3 H7 /\ H7 q1 = some (.lst (acc2.drop 1)) /\ H7 pc = some (.lst xs) /\ H7 pf = some (.lst ys) /\ RepX K H7 (((((tl.take i).takeWhile nrQ).map namR).map prR).map (rowD false)) xs /\ RepX K H7 ((((tl.take i).dropWhile nrQ).map fctR).map (rowD true)) ys /\ ((tl.take i).dropWhile nrQ).all (fun r => !nrQ r) = true) ⟨[], [], _, rfl, s35, hq1', hc5, hf5, RepX.nil, RepX.nil, rfl⟩ (fun i σ H7 _ hv => by obtain ⟨_, _, _, _, _, h1, _⟩ := hv; exact SqL.of h1) (fun i v σ H7 hv' hv => ?_) fun σ H7 hv => ?_⟩
 ·obtain ⟨xs, ys, u4, rfl, s7, h1, h2, h3, hX, hY, hall⟩ := hv;have hi : i < tl.length := by have := (yag.mp hv').1; omega
  obtain ⟨q, eq, hq⟩ := hB3.2 (1 + i) tl[i] (by rw [hrs, Nat.add_comm, List.getElem?_cons_succ, yal hi]);rw [List.getElem?_drop, eq] at hv';cases hv';have hq7 := s7.seq hq;have hro : zgU tl[i] := hOk _ (by rw [hrs]; exact List.mem_cons_of_mem _ (List.getElem_mem hi));have hxl : xs.length <= 8002 := by have h := hX.1; simp only [List.length_map] at h; have := (List.takeWhile_sublist nrQ (l := tl.take i)).length_le; rw [ya3] at this; omega
  have hyl : ys.length <= 8002 := by have h := hY.1; simp only [List.length_map] at h; have := (List.dropWhile_sublist nrQ (l := tl.take i)).length_le; rw [ya3] at this; omega
  obtain ⟨tw1, tw2⟩ := zl5 (p := nrQ) (l := tl.take i) tl[i];have etk := List.take_succ_eq_append_getElem hi;walk_at "";refine ⟨_, .inl hq7, ?_⟩;rw [yaf];have hnr : nrQ tl[i] = (decide (tl[i].length = 3) && decide (tl[i].getD 1 "" = "is")) := rfl;have esp : tl = tl.take i ++ tl[i] :: tl.drop (i + 1) := by rw [<- List.drop_eq_getElem_cons hi, List.take_append_drop]
  cases c : nrQ tl[i] with
  | true =>
   have l3 := zgv c;have c1' : tl[i].getD 1 "" = "is" := by rw [hnr, Bool.and_eq_true] at c; exact ya7 c.2
   rw [if_pos ω];refine ⟨_, .inl hq7, _, zam (j := 1) (zbh ω), ?_⟩;walk_at "";rw [if_pos c1'];refine ⟨⟨_, SqL.of h2⟩, _, .inl hq7, _, zam (j := 0) (zbh ω), _, .inl hq7, _, zam (j := 2) (zbh ω), _, rfl, (hro.2.2 _ (zcn ω)).1, zao (show 2 <= 100000 by decide), fun q2 hq2 => ⟨_, (zad hq2 _) _ _ h2, zaG ω, zao δ, fun q3 hq3 => ?_⟩⟩;have sA := zad hq2 (.tup [V.str (tl[i].getD 0 ""), V.int (numI (tl[i].getD 2 ""))]);have hXa := (hX.same sA).snoc (d := rowD false (prR (namR tl[i]))) (RepD.t2 (SqT.of zae) (.str _) (.int _));have eX : (((((tl.take i).takeWhile nrQ).map namR).map prR).map (rowD false)) ++ [rowD false (prR (namR tl[i]))] = (((((tl.take i).takeWhile nrQ) ++ [tl[i]]).map namR).map prR).map (rowD false) := by simp only [List.map_append]; rfl
   rw [eX] at hXa;have hYa := hY.same sA;have h1a := sA _ _ h1;have h2a := sA _ _ h2;have h3a := sA _ _ h3;have s7a := s7.trans sA;generalize upd H7 q2 (.tup [V.str (tl[i].getD 0 ""), V.int (numI (tl[i].getD 2 ""))]) = Ha at *;have hXb := RepX.rowKeep (zs := xs ++ [V.ref q2]) hXa h2a;have hYb := RepX.rowKeep (zs := xs ++ [V.ref q2]) hYa h2a;have h1b : upd Ha pc (.lst (xs ++ [V.ref q2])) q1 = some (.lst (acc2.drop 1)) := by rw [za6 nqc]; exact h1a
   have h2b : upd Ha pc (.lst (xs ++ [V.ref q2])) pc = some (.lst (xs ++ [V.ref q2])) := zae;have h3b : upd Ha pc (.lst (xs ++ [V.ref q2])) pf = some (.lst ys) := by rw [za6 (Ne.symm ncf)]; exact h3a
   have s7b : Same H3 (upd Ha pc (.lst (xs ++ [V.ref q2]))) := s7a.upd hpc;generalize upd Ha pc (.lst (xs ++ [V.ref q2])) = Hb at *;have sC := zad hq3 (.lst []);have hYc := hYb.same sC;refine ⟨_, _, RepD.lst (SqL.of (sC _ _ h3b)) hYc.1 hYc.2, RepD.strsL (ts := []) (SqL.of zae), by simp only [Dt.dep]; have := zdZ (((tl.take i).dropWhile nrQ).map fctR); omega, ?_⟩
   by_cases hd : (tl.take i).dropWhile nrQ = []
   ·rw [if_neg (by rw [hd]; exact fun z => z rfl)];obtain ⟨j1, j2⟩ := tw1 hd c;refine ⟨xs ++ [V.ref q2], ys, _, rfl, s7b.trans sC, sC _ _ h1b, sC _ _ h2b, sC _ _ h3b, ?_, ?_, ?_⟩
    ·rw [etk, j1]; exact hXb.same sC
    ·rw [etk, j2, <- hd]; exact hYc
    ·rw [etk, j2]; rfl
   ·rw [if_pos (by simpa using hd)];refine lost ?_ _ (s03.trans (s7b.trans sC));have e1 : ((rsOf x).drop 1).dropWhile nrQ = (tl.take i).dropWhile nrQ ++ tl[i] :: tl.drop (i + 1) := by
     rw [hrs];show tl.dropWhile nrQ = _
     conv => lhs; rw [esp]
     exact ziE _ hd
    have e2 : (((rsOf x).drop 1).dropWhile nrQ).all (fun r => !nrQ r) = false := List.all_eq_false.mpr ⟨tl[i], by rw [e1]; exact List.mem_append_right _ (List.mem_cons_self ..), by rw [c]; exact fun z => nomatch z⟩;unfold okR;rw [e2]; simp
  | false =>
   obtain ⟨j1, j2⟩ := tw2 c;have hpos : 0 < tl[i].length := by
    obtain ⟨z, _⟩ := hro;cases hz : tl[i] with
    | nil => exact absurd hz z
    | cons a l => simp
   by_cases c3 : tl[i].length = 3
   ·rw [if_pos ω];have c1' : ¬ tl[i].getD 1 "" = "is" := fun z => by rw [hnr, ya9 c3, ya9 z] at c; cases c
    refine ⟨_, .inl hq7, _, zam (j := 1) (zbh ω), ?_⟩;walk_at "";rw [if_neg c1'];refine ⟨⟨_, SqL.of h3⟩, _, .inl hq7, _, zam (j := 0) (zbh hpos), _, .inl ⟨hq7, fun q2 hq2 => ?_⟩⟩;rw [show cutV (tl[i].map V.str) (some 1) none = (tl[i].drop 1).map V.str from (zdj _ (a := 1) (by rw [yaf]; omega)).trans (List.map_drop ..).symm];have sA := zad hq2 (.lst ((tl[i].drop 1).map V.str));have hq2' : upd H7 q2 (.lst ((tl[i].drop 1).map V.str)) q2 = some (.lst ((tl[i].drop 1).map V.str)) := zae;generalize upd H7 q2 (.lst ((tl[i].drop 1).map V.str)) = Ha at sA hq2';refine .inl ⟨⟨_, SqL.of hq2'⟩, zbe (xs := (tl[i].drop 1).map V.str) (fun j acc H8 => H8 = Ha /\ acc = ((tl[i].drop 1).take j).map fun t => V.int (numI t)) ⟨rfl, rfl⟩ (fun j acc H8 _ h => h.1 ▸ SqL.of hq2') (fun j v acc H8 hv h => ?_) fun acc H8 h p5 hp5 => ?_⟩
    ·obtain ⟨rfl, rfl⟩ := h;have hj : j < (tl[i].drop 1).length := by have := (yag.mp hv).1; simpa using this
     have ev : v = V.str (tl[i].drop 1)[j] := by
      rw [yav, yal hj] at hv;cases hv; rfl
     subst ev;have hjl : j <= 9000 := by have := hro.2.1; rw [List.length_drop] at hj; omega
     refine ⟨zaG (by rw [yaf, ya3]; omega), ?_⟩;walk_at "T";walk_at "";refine ⟨_, rfl, (hro.2.2 _ (List.mem_of_mem_drop (List.getElem_mem hj))).1, trivial, ?_⟩;rw [List.take_succ_eq_append_getElem hj, ya0]; rfl
    obtain ⟨rfl, rfl⟩ := h;rw [yaf, List.take_length];walk_at "";refine ⟨_, .inl ⟨SqL.of zae, fun p6 hp6 => ⟨zao (show 2 <= 100000 by decide), fun p7 hp7 => ?_⟩⟩⟩;have sB := (zad hp5 (.lst ((tl[i].drop 1).map fun t => V.int (numI t)))).trans ((zad hp6 (.tup ((tl[i].drop 1).map fun t => V.int (numI t)))).trans (zad hp7 (.tup [V.str (tl[i].getD 0 ""), V.ref p6])));have hk : SqT K (upd (upd (upd H8 p5 (.lst ((tl[i].drop 1).map fun t => V.int (numI t)))) p6 (.tup ((tl[i].drop 1).map fun t => V.int (numI t)))) p7 (.tup [V.str (tl[i].getD 0 ""), V.ref p6])) p6 (((tl[i].drop 1).map numI).map V.int) := by
     rw [List.map_map];exact SqT.of (zcJ hp7 zae)
    have hYa := (hY.same (sA.trans sB)).snoc (d := rowD true (fctR tl[i])) (RepD.t2 (SqT.of zae) (.str _) (RepD.ints hk));have eY : ((((tl.take i).dropWhile nrQ).map fctR).map (rowD true)) ++ [rowD true (fctR tl[i])] = ((((tl.take i).dropWhile nrQ) ++ [tl[i]]).map fctR).map (rowD true) := by simp only [List.map_append]; rfl
    rw [eY] at hYa;have hXa := hX.same (sA.trans sB);have h1a := (sA.trans sB) _ _ h1;have h2a := (sA.trans sB) _ _ h2;have h3a := (sA.trans sB) _ _ h3;have s7a := s7.trans (sA.trans sB);generalize upd (upd (upd H8 p5 (.lst ((tl[i].drop 1).map fun t => V.int (numI t)))) p6 (.tup ((tl[i].drop 1).map fun t => V.int (numI t)))) p7 (.tup [V.str (tl[i].getD 0 ""), V.ref p6]) = Hc at *;refine ⟨ys, h3a, zaG ω, xs, ys ++ [V.ref p7], _, rfl, s7a.upd npf3, by rw [za6 nqf]; exact h1a, by rw [za6 ncf]; exact h2a, zae, ?_, ?_, ?_⟩
    ·rw [etk, j1]; exact RepX.rowKeep hXa h3a
    ·rw [etk, j2]; exact RepX.rowKeep hYa h3a
    ·rw [etk, j2, List.all_append, hall]; simp [c]
   ·rw [if_neg ω];refine ⟨⟨_, SqL.of h3⟩, _, .inl hq7, _, zam (j := 0) (zbh hpos), _, .inl ⟨hq7, fun q2 hq2 => ?_⟩⟩;rw [show cutV (tl[i].map V.str) (some 1) none = (tl[i].drop 1).map V.str from (zdj _ (a := 1) (by rw [yaf]; omega)).trans (List.map_drop ..).symm];have sA := zad hq2 (.lst ((tl[i].drop 1).map V.str));have hq2' : upd H7 q2 (.lst ((tl[i].drop 1).map V.str)) q2 = some (.lst ((tl[i].drop 1).map V.str)) := zae;generalize upd H7 q2 (.lst ((tl[i].drop 1).map V.str)) = Ha at sA hq2';refine .inl ⟨⟨_, SqL.of hq2'⟩, zbe (xs := (tl[i].drop 1).map V.str) (fun j acc H8 => H8 = Ha /\ acc = ((tl[i].drop 1).take j).map fun t => V.int (numI t)) ⟨rfl, rfl⟩ (fun j acc H8 _ h => h.1 ▸ SqL.of hq2') (fun j v acc H8 hv h => ?_) fun acc H8 h p5 hp5 => ?_⟩
    ·obtain ⟨rfl, rfl⟩ := h;have hj : j < (tl[i].drop 1).length := by have := (yag.mp hv).1; simpa using this
     have ev : v = V.str (tl[i].drop 1)[j] := by
      rw [yav, yal hj] at hv;cases hv; rfl
     subst ev;have hjl : j <= 9000 := by have := hro.2.1; rw [List.length_drop] at hj; omega
     refine ⟨zaG (by rw [yaf, ya3]; omega), ?_⟩;walk_at "T";walk_at "";refine ⟨_, rfl, (hro.2.2 _ (List.mem_of_mem_drop (List.getElem_mem hj))).1, trivial, ?_⟩;rw [List.take_succ_eq_append_getElem hj, ya0]; rfl
    obtain ⟨rfl, rfl⟩ := h;rw [yaf, List.take_length];walk_at "";refine ⟨_, .inl ⟨SqL.of zae, fun p6 hp6 => ⟨zao (show 2 <= 100000 by decide), fun p7 hp7 => ?_⟩⟩⟩;have sB := (zad hp5 (.lst ((tl[i].drop 1).map fun t => V.int (numI t)))).trans ((zad hp6 (.tup ((tl[i].drop 1).map fun t => V.int (numI t)))).trans (zad hp7 (.tup [V.str (tl[i].getD 0 ""), V.ref p6])));have hk : SqT K (upd (upd (upd H8 p5 (.lst ((tl[i].drop 1).map fun t => V.int (numI t)))) p6 (.tup ((tl[i].drop 1).map fun t => V.int (numI t)))) p7 (.tup [V.str (tl[i].getD 0 ""), V.ref p6])) p6 (((tl[i].drop 1).map numI).map V.int) := by
     rw [List.map_map];exact SqT.of (zcJ hp7 zae)
    have hYa := (hY.same (sA.trans sB)).snoc (d := rowD true (fctR tl[i])) (RepD.t2 (SqT.of zae) (.str _) (RepD.ints hk));have eY : ((((tl.take i).dropWhile nrQ).map fctR).map (rowD true)) ++ [rowD true (fctR tl[i])] = ((((tl.take i).dropWhile nrQ) ++ [tl[i]]).map fctR).map (rowD true) := by simp only [List.map_append]; rfl
    rw [eY] at hYa;have hXa := hX.same (sA.trans sB);have h1a := (sA.trans sB) _ _ h1;have h2a := (sA.trans sB) _ _ h2;have h3a := (sA.trans sB) _ _ h3;have s7a := s7.trans (sA.trans sB);generalize upd (upd (upd H8 p5 (.lst ((tl[i].drop 1).map fun t => V.int (numI t)))) p6 (.tup ((tl[i].drop 1).map fun t => V.int (numI t)))) p7 (.tup [V.str (tl[i].getD 0 ""), V.ref p6]) = Hc at *;refine ⟨ys, h3a, zaG ω, xs, ys ++ [V.ref p7], _, rfl, s7a.upd npf3, by rw [za6 nqf]; exact h1a, by rw [za6 ncf]; exact h2a, zae, ?_, ?_, ?_⟩
    ·rw [etk, j1]; exact RepX.rowKeep hXa h3a
    ·rw [etk, j2]; exact RepX.rowKeep hYa h3a
    ·rw [etk, j2, List.all_append, hall]; simp [c]
 obtain ⟨xs, ys, u4, rfl, s7, h1, h2, h3, hX, hY, hall⟩ := hv;rw [hlt, List.take_length] at hX hY hall;have hq07 := s7.seq hq0;walk_at "";refine ⟨acc2, .inl (SqL.of (s7 _ _ hL3)), _, zam (j := 0) e0, ?_⟩;walk_at "";refine ⟨_, .inl hq07, _, zam (j := 1) (zbh ω), _, rfl, ((hOk r0 (by rw [hrs]; simp)).2.2 _ (zcn ω)).1, ?_⟩;have hwO : wOf (rsOf x) = ⟨numI (r0.getD 1 ""), (tl.takeWhile nrQ).map namR, (tl.dropWhile nrQ).map fctR⟩ := by rw [hrs]; rfl
 have hoR : okR (rsOf x) = fitQ (wOf (rsOf x)) := by
  have e : ((rsOf x).drop 1).dropWhile nrQ = tl.dropWhile nrQ := by rw [hrs]; rfl
  unfold okR;rw [e, hall, hg0, ya9 c1, ya9 c2]; rfl
 have hB7 : Bnd (wOf (rsOf x)) := by
  have t1 := (List.takeWhile_sublist nrQ (l := tl)).length_le;have t2 := (List.dropWhile_sublist nrQ (l := tl)).length_le;have hin : ∀ r ∈ tl, zgU r := fun r hr => hOk r (by rw [hrs]; exact List.mem_cons_of_mem _ hr);rw [hwO];refine ⟨by simp; omega, by simp; omega, fun p hp => ?_, fun p hp => ?_⟩
  ·obtain ⟨r, hr, rfl⟩ := ya6.mp hp;have h3 := zgv (List.all_eq_true.mp List.all_takeWhile r hr);exact ((hin r ((List.takeWhile_sublist nrQ).subset hr)).2.2 _ (zcn ω)).1
  ·obtain ⟨r, hr, rfl⟩ := ya6.mp hp;obtain ⟨a1, a2, a3⟩ := hin r ((List.dropWhile_sublist nrQ).subset hr);have hpos : 0 < r.length := by
    cases r with
    | nil => exact absurd rfl a1
    | cons a l => simp
   exact ⟨(a3 _ (zcn hpos)).1, by show ((r.drop 1).map numI).length <= 9000; rw [yaf, List.length_drop]; omega⟩
 have hP : RepP K H7 (wOf (rsOf x)) pc pf xs ys := by rw [hwO]; exact ⟨h2, h3, hX, hY⟩
 refine ⟨pc, pf, wOf (rsOf x), xs, ys, by rw [hwO], hP, hB7, fun H8 s8 => ⟨fitQ (wOf (rsOf x)), rfl, ?_⟩⟩;have s08 := s03.trans (s7.trans s8);have hP8 := hP.same s8;cases cf : fitQ (wOf (rsOf x)) with
 | false =>
  rw [if_pos rfl];exact lost (by rw [hoR, cf]) H8 s08
 | true =>
  rw [if_neg (fun z => nomatch z)];refine ⟨xs, .inl ⟨SqL.of hP8.called, fun l1 hl1 => ⟨ys, .inl ⟨SqL.of ((zad hl1 _) _ _ hP8.facts), fun l2 hl2 => ⟨zao (show 3 <= 100000 by decide), fun p9 hp9 => ?_⟩⟩⟩⟩⟩;have sE := ((zad hl1 (.tup xs)).trans (zad hl2 (.tup ys))).trans (zad hp9 (.tup [V.int (numI (r0.getD 1 "")), V.ref l1, V.ref l2]));refine k (by rw [hoR, cf]) p9 l1 l2 xs ys _ (s08.trans sE) ?_;have hP9 := hP8.same sE;have e1 : (wOf (rsOf x)).size = numI (r0.getD 1 "") := by rw [hwO]
  exact ⟨by rw [e1]; exact SqT.of zae, SqT.of (zcJ hp9 (zcJ hl2 zae)), SqT.of (zcJ hp9 zae), hP9.rc, hP9.rf⟩
theorem zcP (T : Tx K mg D) : zjo P w K mg Qd 1 D.a_a1 D.d_a1 ["_law_e"] (fun vs H Q _ => ∃ e, vs = [.ref e] /\ H e = some (ExcO e D.x_NoWorld) /\ ∀ H', Same H H' -> Q (.bl true) H') := by
 refine T.F_a1.okH sc_a1 (fun vs H Q E h => ?_) (fun cdv A outer s H vs Q hr h => ?_)
 ·obtain ⟨e, rfl, _⟩ := h; rfl
 obtain ⟨e, rfl, he, k⟩ := h;have hu : (A.deeper (PyProof.Rows.envOfC "_law_of_one_class" (zac za2) s.heap.objs.size D.a_a1 cdv)).units + 64 < cLine := by have := hr.un; omega
 refine ⟨_, (zag (zax (i := 1) sc_a1.nd ρ (by walk_at "o") (zbn (zaa (zas (zb0 K) ρ T.z_isinstance ρ (zaa (pv 0) (zaa (zby (v := .ref D.x_NoBox) ρ T.x_NoBox.1 rfl) zaf))) (zaa (zas (zb0 K) ρ T.z_isinstance ρ (zaa (pv 0) (zaa (zby (v := .ref D.x_NoLines) ρ T.x_NoLines.1 rfl) zaf))) (zaa (zas (zb0 K) ρ T.z_isinstance ρ (zaa (pv 0) (zaa (zby (v := .ref D.x_NoName) ρ T.x_NoName.1 rfl) zaf))) (zaa (zas (zb0 K) ρ T.z_isinstance ρ (zaa (pv 0) (zaa (zby (v := .ref D.x_NoStatement) ρ T.x_NoStatement.1 rfl) zaf))) zaf))))))
  (zag (zax (i := 1) sc_a1.nd ρ (by walk_at "o") (zak (zat K) (pv 1) (zbn (zaa (zas (zb0 K) ρ T.z_isinstance ρ (zaa (pv 0) (zaa (zby (v := .ref D.x_NotShut) ρ T.x_NotShut.1 rfl) zaf))) (zaa (zas (zb0 K) ρ T.z_isinstance ρ (zaa (pv 0) (zaa (zby (v := .ref D.x_NoWorld) ρ T.x_NoWorld.1 rfl) zaf))) zaf)))))
  (zah (zar (zcQ (zas (zb0 K) ρ T.z_isinstance ρ (zaa (pv 0) (zaa (zgZ (v := .ty "ValueError") ρ T.z_ValueError ρ ρ) zaf))) (zdl (zbz (zbo K hu) (zb9 K yar PySem.F.slot_list_count PySem.F.type_list_count (zhO K) (pv 1) (zaa zbU zaf)) zab (zaw _)))))))), ?_⟩
 walk_at "S";walk_at "";refine ⟨e, _, D.x_NoWorld, false, rfl, he, zca T.x_NoWorld, .inl ⟨_, rfl, T.i_NoWorld_NoBox⟩, ?_⟩;refine ⟨e, _, D.x_NoWorld, false, rfl, he, zca T.x_NoWorld, .inl ⟨_, rfl, T.i_NoWorld_NoLines⟩, ?_⟩;refine ⟨e, _, D.x_NoWorld, false, rfl, he, zca T.x_NoWorld, .inl ⟨_, rfl, T.i_NoWorld_NoName⟩, ?_⟩;refine ⟨e, _, D.x_NoWorld, false, rfl, he, zca T.x_NoWorld, .inl ⟨_, rfl, T.i_NoWorld_NoStatement⟩, zao (show 4 <= 100000 by decide), fun p hp => ?_⟩;have s1 := zad hp (.lst [V.bl false, V.bl false, V.bl false, V.bl false]);refine ⟨e, _, D.x_NoWorld, false, rfl, s1 _ _ he, zca T.x_NoWorld, .inl ⟨_, rfl, T.i_NoWorld_NotShut⟩, ?_⟩;refine ⟨e, _, D.x_NoWorld, true, rfl, s1 _ _ he, zca T.x_NoWorld, .inl ⟨_, rfl, T.i_NoWorld_NoWorld⟩, zao (show 2 <= 100000 by decide), fun p1 hp1 => ?_⟩;have s2 := zad hp1 (.lst [V.bl false, V.bl true]);refine ⟨_, _, .inl ⟨s2 _ _ zae, zae, zao (show 6 <= 100000 by decide), fun r hr => ?_⟩⟩;have s3 := zad hr (.lst ([V.bl false, V.bl false, V.bl false, V.bl false] ++ [V.bl false, V.bl true]));refine ⟨e, _, D.x_NoWorld, true, rfl, s3 _ _ (s2 _ _ (s1 _ _ he)), zca T.x_NoWorld, .inr ⟨_, rfl, T.i_NoWorld_ValueError⟩, true, rfl, ?_⟩;rw [if_pos rfl];refine ⟨⟨_, SqL.of zae⟩, _, SqL.of zae, rfl, rfl, ?_⟩;exact k _ ((s1.trans s2).trans s3)
def ziF (K : W.Frag) : Sp := fun vs H Q _ => ∃ x : Str, vs = [.str x] /\ x.length <= 8000 /\ Chr x /\ okR (rsOf x) = false /\ ∀ H', Same H H' -> Q (.bl true) H'
theorem zfs (T : Tx K mg D) : FnOk P w K mg Qd CX0 7 D.a_b5 D.d_b5 ["_law_text"] (ziF K) := by
 have G_a8 := @zcF P w _ _ Qd _ T;have G_a1 := @zcP P w _ _ Qd _ T;refine T.F_b5.ok sc_b5 (fun vs H Q E h => ?_) (fun cdv A outer s H vs Q E hr h => ?_)
 ·obtain ⟨x, rfl, _⟩ := h; rfl
 obtain ⟨x, rfl, hx, hcx, hno, k⟩ := h;have hu := hr.units;have hr_a8 : Room 6 _ := hr.mono δ;have hr_a1 {v : Option Value} : RoomH 1 ((A.deeper (PyProof.Rows.envOfC "_law_refused" (zac zaQ) s.heap.objs.size D.a_b5 cdv)).mark v) := ((hr.mono (by decide : 1 <= 6)).h).mark _;refine ⟨_, (zag (zax (i := 1) sc_b5.nd ρ (by walk_at "o") zbU)
  (zag (zjW (Fnc.wish zbO _) (fun G Qa E Fn ho hp => (zah (zcG (zdd Fn ho G_a8 hr_a8 ρ T.m_a8.1 T.F_a8.kp T.m_a8.2.2 .nil (zaa (pv 0) zaf))))) (zmE (Fnc.wish zbO _) ρ T.x_NoWorld.1 (fun Qa e => (zah (zax (i := 1) sc_b5.nd ρ (by walk_at "o") zbU))) zjX) zay)
  (zag (zjW (Fnc.wish zbO _) (fun G Qa E Fn ho hp => (zah (zcG (zdd Fn ho G_a8 hr_a8 ρ T.m_a8.1 T.F_a8.kp T.m_a8.2.2 .nil (zaa (pv 0) zaf))))) (zoe (i := 2) (Fnc.wish zbO _) sc_b5.nd ρ ρ ρ T.x_BoxError.1 (fun Qa e => (zah (zar (zcQ (pv 1) (zdl (zjq G_a1 hr_a1 ρ T.m_a1.1 T.F_a1.kp T.m_a1.2.2 .nil (zaa (pv 2) zaf))))))) zjX) zay)
  (zah (zar zbU))))), ?_⟩
 walk_at "S";walk_at "";refine ⟨fun C σ' H' => C = D.x_NoWorld /\ σ' = [some (.str x), some (.bl false), none] /\ Same H H', ⟨x, rfl, hx, hcx, (fun e => by rw [hno] at e; cases e), fun _ H1 s1 => ⟨_, rfl, rfl, rfl, s1⟩⟩, ?_⟩
 rintro C σ' H1 ⟨rfl, rfl, s1⟩
 refine ⟨true, T.v_NoWorld_NoWorld, ?_⟩;rw [if_pos rfl];walk_at "";refine ⟨fun C σ' H' => C = D.x_NoWorld /\ σ' = [some (.str x), some (.bl true), none] /\ Same H H', ⟨x, rfl, hx, hcx, (fun e => by rw [hno] at e; cases e), fun _ H2 s2 => ⟨_, rfl, rfl, rfl, s1.trans s2⟩⟩, ?_⟩
 rintro C σ' H2 ⟨rfl, rfl, s2⟩
 refine ⟨true, T.v_NoWorld_BoxError, ?_⟩;rw [if_pos rfl];intro e he;walk_at "";exact ⟨e, rfl, zae, fun H3 s3 => k H3 ((s2.trans (zad he _)).trans s3)⟩
def oddS : List Str := ["", " ", "\n", "things", "things 0\n", "things 01\n", "things 1 2\n", "thing 1\n", "Things 1\n", "a is 0\n", "things 2\na is 2\n", "things 2\nb is 0\na is 1\n", "things 2\na is 0\na is 1\n", "things 1\np\na is 0\n", "things 1\nis is 0\nis 0\n", "things 1\na is\n", "things 1\na is 0 0\n", "things 1\nthings 0\n", "things 1\np 0 0 0 0\n", "things 10000\n", "things +2\n", "things\t2\n", "things 1_0\n", "things 2\np 1\t\n"]
theorem znA : ∀ y ∈ oddS, y.length <= 100 /\ ∀ c ∈ y.cps.toList, c < 1114112 := by decide +kernel
theorem ze3 (T : Tx K mg D) : FnOk P w K mg Qd CX0 1 D.a_a9 D.d_a9 ["_law_cell"] (fun vs H Q _ => ∃ n : Int, vs = [.int n] /\ ∀ (y : Str) H', Same H H' -> y.length <= 100 -> Chr y -> Q (.str y) H') := by
 refine T.F_a9.ok sc_a9 (fun vs H Q E h => ?_) (fun cdv A outer s H vs Q E hr h => ?_)
 ·obtain ⟨n, rfl, _⟩ := h; rfl
 obtain ⟨n, rfl, k⟩ := h;have hu := hr.units;refine ⟨_, (zag (zax (i := 1) sc_a9.nd ρ (by walk_at "o") (zbn (zaa zal (zaa zal (zaa zal (zaa zal (zaa zal (zaa zal (zaa zal (zaa zal (zaa zal (zaa zal zaf))))))))))))
  (zag (zax (i := 1) sc_a9.nd ρ (by walk_at "o") (zak (zat K) (pv 1) (zbn (zaa zal (zaa zal (zaa zal zaf))))))
  (zag (zax (i := 1) sc_a9.nd ρ (by walk_at "o") (zak (zat K) (pv 1) (zbn (zaa zal zaf))))
  (zag (zax (i := 1) sc_a9.nd ρ (by walk_at "o") (zak (zat K) (pv 1) (zbn (zaa zal (zaa zal (zaa zal (zaa zal zaf)))))))
  (zag (zax (i := 1) sc_a9.nd ρ (by walk_at "o") (zak (zat K) (pv 1) (zbn (zaa zal (zaa zal (zaa zal (zaa zal zaf)))))))
  (zag (zax (i := 1) sc_a9.nd ρ (by walk_at "o") (zak (zat K) (pv 1) (zbn (zaa zal (zaa zal zaf)))))
  (zah (zar (za4 (ixA K) (pv 1) (zak zap (pv 0) zab) (fun _ _ => rfl)))))))))), ?_⟩
 walk_at "S";walk_at "";refine ⟨zao δ, fun p hp => ?_⟩;refine ⟨zao δ, fun p1 hp1 => ⟨_, _, .inl ⟨zcJ hp1 zae, zae, zao δ, fun r1 hr1 => ?_⟩⟩⟩;refine ⟨zao δ, fun p2 hp2 => ⟨_, _, .inl ⟨zcJ hp2 zae, zae, zao δ, fun r2 hr2 => ?_⟩⟩⟩;refine ⟨zao δ, fun p3 hp3 => ⟨_, _, .inl ⟨zcJ hp3 zae, zae, zao δ, fun r3 hr3 => ?_⟩⟩⟩;refine ⟨zao δ, fun p4 hp4 => ⟨_, _, .inl ⟨zcJ hp4 zae, zae, zao δ, fun r4 hr4 => ?_⟩⟩⟩;refine ⟨zao δ, fun p5 hp5 => ⟨_, _, .inl ⟨zcJ hp5 zae, zae, zao δ, fun r5 hr5 => ?_⟩⟩⟩;obtain ⟨j, hj, ej⟩ : ∃ j : Nat, j < 24 /\ n % 24 = (j : Int) := ⟨(n % 24).toNat,ω,ω⟩
 have hj' : j < oddS.length := hj;rw [ej];refine ⟨δ, oddS.map V.str, .inl (SqL.of zae), _, zam (j := j) (by rw [yav, yal hj']; rfl), ?_⟩;obtain ⟨y1, y2⟩ := znA oddS[j] (List.getElem_mem hj');refine k oddS[j] _ ?_ y1 y2;exact (((((((((((zad hp _).trans (zad hp1 _)).trans (zad hr1 _)).trans (zad hp2 _)).trans (zad hr2 _)).trans (zad hp3 _)).trans (zad hr3 _)).trans (zad hp4 _)).trans (zad hr4 _)).trans (zad hp5 _)).trans (zad hr5 _))
theorem zbX {a b : TS} {Dd : Ends} {σ : St} {H : Hp} (R : St -> Hp -> Prop) (ha : ∀ N : St -> Hp -> Prop, (∀ σ' H', R σ' H' -> N σ' H') -> a { Dd with nx := N } σ H) (hb : ∀ σ' H', R σ' H' -> b Dd σ' H') : tSeq a b Dd σ H := ha _ hb
theorem zdE (c : Nat) : ∀ {ps : List Str}, ps ≠ [] -> (Str.join ⟨#[c]⟩ ps).length + 1 = (ps.map fun t => t.length).sum + ps.length
 | [], h => absurd rfl h
 | [a], _ => by show a.length + 1 = _; simp
 | a :: b :: l, _ => by
  have ih := zdE c (ps := b :: l) ς;have e := congrArg List.length (zbL c a (r := b :: l) ς);rw [yae, List.length_cons, za5, za5, za5] at e;rw [List.map_cons, List.sum_cons, List.length_cons];omega
theorem join_mem (c : Nat) {d : Nat} : ∀ {ps : List Str}, d ∈ (Str.join ⟨#[c]⟩ ps).cps.toList -> d = c \/ ∃ t ∈ ps, d ∈ t.cps.toList
 | [], h => by
  have e : (Str.join ⟨#[c]⟩ []).cps.toList = [] := rfl;rw [e] at h; cases h
 | [a], h => .inr ⟨a,ς, h⟩
 | a :: b :: l, h => by
  rw [zbL c a (r := b :: l) ς] at h;rcases yay.mp h with h | h
  ·exact .inr ⟨a,ς, h⟩
  ·rcases yau.mp h with h | h
   ·exact .inl h
   ·rcases join_mem c h with h | ⟨t, ht, h⟩
    ·exact .inl h
    ·exact .inr ⟨t, List.mem_cons_of_mem _ ht, h⟩
theorem ziG {l : List Nat} {z : Str} (e : z.cps.toList = l) (h : ∀ c ∈ l, c < 1114112) : Chr z := fun c hc => h c (e ▸ hc)
theorem signs_ok : (∀ c ∈ (Str.ofString " 0123456789abcdefghijklmnopqrstuvwxyzAZ\n\n.-|\t+_").cps.toList, c < 1114112) /\ (∀ c ∈ (Str.ofString "\t+_ 01").cps.toList, c < 1114112) /\ (Str.ofString " 0123456789abcdefghijklmnopqrstuvwxyzAZ\n\n.-|\t+_").cps.toList.length = 47 /\ (Str.ofString "\t+_ 01").cps.toList.length = 6 := by decide +kernel
theorem ziH {t : Str} {m i : Int} {n : Nat} (hn : t.cps.toList.length = n) (h0 : 0 <= i) (h1 : i < n) (hc : ∀ c ∈ t.cps.toList, c < 1114112) : ∃ c, atI t.cps.toList i = some c /\ Chr ⟨#[c]⟩ := by
 obtain ⟨j, rfl⟩ : ∃ j : Nat, i = j := ⟨i.toNat,ω⟩
 have hj : j < t.cps.toList.length := by omega
 refine ⟨_, zam (yal hj), fun c h => ?_⟩;have : c = t.cps.toList[j] := by simpa using h
 rw [this];exact hc _ (List.getElem_mem hj)
def zjI (K : W.Frag) : Sp := fun vs H Q _ => ∃ (x : Str) (n : Int), vs = [.str x, .int n] /\ x.length <= 7000 /\ Chr x /\ 0 <= n /\ n < 2147483647 /\ ∀ (y : Str) H', Same H H' -> y.length <= x.length + 1 -> Chr y -> Q (.str y) H'
theorem zfH (T : Tx K mg D) : FnOk P w K mg Qd CX0 1 D.a_c4 D.d_c4 ["_law_text", "_law_cell"] (zjI K) := by
 refine T.F_c4.ok sc_c4 (fun vs H Q E h => ?_) (fun cdv A outer s H vs Q E hr h => ?_)
 ·obtain ⟨x, n, rfl, _⟩ := h; rfl
 obtain ⟨x, n, rfl, hx, hcx, n0, n1, k⟩ := h;have hu := hr.units;refine ⟨_, (zag (zax (i := 2) sc_c4.nd ρ (by walk_at "o") (zak zap (zak zap (zak zbm (pv 1) zab) zab) zab))
  (zag (zax (i := 3) sc_c4.nd ρ (by walk_at "o") (zak zap (zak zap (zak zbm (pv 1) zab) zab) (zak (zat K) (zas (za3 K) ρ T.z_len yap (zaa (pv 0) zaf)) zab)))
  (zag (zax (i := 4) sc_c4.nd ρ (by walk_at "o") (za4 (ixA K) zal (zak zap (zak zap (zak zbm (pv 1) zab) zab) zab) (fun _ _ => rfl)))
  (zag (zaS (zaq (zbo K hu) (zak zap (zak zap (zak zbm (pv 1) zab) zab) zab) zab (zaw _)) (zah (zax (i := 4) sc_c4.nd ρ (by walk_at "o") (za4 (ixA K) zal (zak zap (zak zap (zak zbm (pv 1) zab) zab) zab) (fun _ _ => rfl)))) zay)
  (zag (zaS (zaq (zbo K hu) (pv 2) zab (zaw _)) (zah (zar (zak (zat K) (zak (zat K) (zaR (slB K) (pv 0) zbk (zbg (pv 3))) (pv 4)) (zaR (slB K) (pv 0) (zbg (pv 3)) zbk)))) zay)
  (zag (zaS (zaq (zbo K hu) (pv 2) zab (zaw _)) (zah (zar (zak (zat K) (zak (zat K) (zaR (slB K) (pv 0) zbk (zbg (pv 3))) (pv 4)) (zaR (slB K) (pv 0) (zbg (zak (zat K) (pv 3) zab)) zbk)))) zay)
  (zag (zaS (zaq (zbo K hu) (pv 2) zab (zaw _)) (zah (zar (zak (zat K) (zaR (slB K) (pv 0) zbk (zbg (pv 3))) (zaR (slB K) (pv 0) (zbg (zak (zat K) (pv 3) zab)) zbk)))) zay)
  (zag (zax (i := 5) sc_c4.nd ρ (by walk_at "o") (zb9 K PySem.F.plainAttrs_str PySem.F.slot_str_split PySem.F.type_str_split zc6 (pv 0) (zaa zal zaf)))
  (zag (zax (i := 6) sc_c4.nd ρ (by walk_at "o") (zak zap (zak zap (zak zbm (pv 1) zab) zab) (zas (za3 K) ρ T.z_len yap (zaa (pv 5) zaf))))
  (zag (zax (i := 7) sc_c4.nd ρ (by walk_at "o") (zak zap (zak zap (zak zbm (pv 1) zab) zab) (zas (za3 K) ρ T.z_len yap (zaa (pv 5) zaf))))
  (zag (zax (i := 8) sc_c4.nd ρ (by walk_at "o") (za4 (ixA K) (pv 5) (pv 6) (fun _ _ => rfl)))
  (zag (zc1 (za4 (ixA K) (pv 5) (pv 7) (fun _ _ => rfl)) (zc0 (pv 5) (pv 6) zco))
  (zag (zc1 (pv 8) (zc0 (pv 5) (pv 7) zco))
  (zah (zar (zb9 K PySem.F.plainAttrs_str PySem.F.slot_str_join PySem.F.type_str_join (zdb K) zal (zaa (pv 5) zaf))))))))))))))))), ?_⟩
 walk_at "S";have m5 : 0 <= n * 48271 % 10007 % 5 := yao _ δ;obtain ⟨a, ha, ea⟩ : ∃ a : Nat, a <= x.length /\ n * 48271 % 10009 % ((x.length : Int) + 1) = (a : Int) := by
  have h1 := yao (n * 48271 % 10009) (show (x.length : Int) + 1 ≠ 0 by omega);have h2 := yak (n * 48271 % 10009) (show (0 : Int) < (x.length : Int) + 1 by omega);exact ⟨(n * 48271 % 10009 % ((x.length : Int) + 1)).toNat,ω,ω⟩
 refine zbX (fun σ' H' => H' = H /\ ∃ wy : Int, σ' = [some (.str x), some (.int n), some (.int wy), none, none, none, none, none, none]) (fun N hN => ?_) fun σ' H1 hv => ?_
 ·walk_at "";exact ⟨zeI,δ,δ, hN _ _ ⟨rfl, _, rfl⟩⟩
 obtain ⟨rfl, wy, rfl⟩ := hv;refine zbX (fun σ' H' => H' = H1 /\ σ' = [some (.str x), some (.int n), some (.int wy), some (.int (a : Int)), none, none, none, none, none]) (fun N hN => ?_) fun σ' H1 hv => ?_
 ·walk_at "";rw [ea];exact ⟨zeI,δ, zao ω,ω, hN _ _ ⟨rfl, rfl⟩⟩
 obtain ⟨rfl, rfl⟩ := hv;refine zbX (fun σ' H' => H' = H1 /\ ∃ z : Str, σ' = [some (.str x), some (.int n), some (.int wy), some (.int (a : Int)), some (.str z), none, none, none, none] /\ z.length <= 1 /\ Chr z) (fun N hN => ?_) fun σ' H1 hv => ?_
 ·walk_at "";obtain ⟨c, hc1, hc2⟩ := ziH (m := 0) (i := n * 48271 % 10037 % 47) signs_ok.2.2.1 (yao _ δ) (yak _ δ) signs_ok.1;exact ⟨zeI,δ,δ, zao δ, c, hc1, hN _ _ ⟨rfl, _, rfl, yai _, hc2⟩⟩
 obtain ⟨rfl, z, rfl, hz, hcz⟩ := hv;refine zbX (fun σ' H' => H' = H1 /\ ∃ z : Str, σ' = [some (.str x), some (.int n), some (.int wy), some (.int (a : Int)), some (.str z), none, none, none, none] /\ z.length <= 1 /\ Chr z) (fun N hN => ?_) fun σ' H1 hv => ?_
 ·walk_at "";obtain ⟨c, hc1, hc2⟩ := ziH (m := 0) (i := n * 48271 % 10037 % 6) signs_ok.2.2.2 (yao _ δ) (yak _ δ) signs_ok.2.1;exact ⟨zeI,δ,δ, ite2 (fun _ => ⟨zeI,δ,δ, zao δ, c, hc1, hN _ _ ⟨rfl, _, rfl, yai _, hc2⟩⟩) fun _ => hN _ _ ⟨rfl, _, rfl, hz, hcz⟩⟩
 obtain ⟨rfl, z, rfl, hz, hcz⟩ := hv;walk_at "";have t1 := zjh x a;have t2 := zcL x a;have t3 := zcL x (a + 1);rw [show ((a + 1 : Nat) : Int) = (a : Int) + 1 by omega] at t3;have hlx := za5 x;have l1 : (Txt.slice x none (some (a : Int))).length = a := by rw [<- za5, t1, ya3]; omega
 have l2 : (Txt.slice x (some (a : Int)) none).length = x.length - a := by rw [<- za5, t2, List.length_drop, hlx]
 have l3 : (Txt.slice x (some ((a : Int) + 1)) none).length = x.length - (a + 1) := by rw [<- za5, t3, List.length_drop, hlx]
 have h1 : Chr (Txt.slice x none (some (a : Int))) := ziG t1 fun c hc => hcx c (List.mem_of_mem_take hc);have h2 : Chr (Txt.slice x (some (a : Int)) none) := ziG t2 fun c hc => hcx c (List.mem_of_mem_drop hc);have h3 : Chr (Txt.slice x (some ((a : Int) + 1)) none) := ziG t3 fun c hc => hcx c (List.mem_of_mem_drop hc);have cat : ∀ {u v : Str}, Chr u -> Chr v -> Chr (u ++ v) := fun {u v} hu hv c hc => by
  rw [zb7] at hc;rcases yay.mp hc with h | h
  ·exact hu c h
  ·exact hv c h
 have hz1 : x.length <= sizeLine := zao ω;refine ite2 (fun _ => ⟨hz1, zao ω, hz1, zao (by rw [Str.length_append]; omega), k _ _ (Same.refl _) (by rw [Str.length_append, Str.length_append]; omega) (cat (cat h1 hcz) h2)⟩) fun _ => ?_;refine ite2 (fun _ => ⟨hz1, zao ω, hz1, zao (by rw [Str.length_append]; omega), k _ _ (Same.refl _) (by rw [Str.length_append, Str.length_append]; omega) (cat (cat h1 hcz) h3)⟩) fun _ => ?_;refine ite2 (fun _ => ⟨hz1, hz1, zao ω, k _ _ (Same.refl _) (by rw [Str.length_append]; omega) (cat h1 h3)⟩) fun _ => ?_;rw [zl3];refine ⟨trivial,δ,ω, fun p hp => ?_⟩;have hne := zga x ⟨#[10]⟩;have ejn : Str.join ⟨#[10]⟩ (Txt.split x ⟨#[10]⟩) = x := StrLaws.join_split x ⟨#[10]⟩;have hjl := zdE 10 hne;rw [ejn] at hjl;have hmem : ∀ t ∈ Txt.split x ⟨#[10]⟩, Chr t := fun t ht c hc => hcx c (ze1 ht hc);generalize Txt.split x ⟨#[10]⟩ = ps at hne hjl hmem;have hpos : 0 < ps.length := List.length_pos_iff.mpr hne;have hpm : ((ps.map V.str).length : Int) = ps.length := by rw [yaf]
 obtain ⟨i, hi, ei⟩ : ∃ i : Nat, i < ps.length /\ n * 48271 % 10039 % (ps.length : Int) = i := by
  have h1 := yao (n * 48271 % 10039) (show (ps.length : Int) ≠ 0 by omega);have h2 := yak (n * 48271 % 10039) (show (0 : Int) < ps.length by omega);exact ⟨(n * 48271 % 10039 % (ps.length : Int)).toNat,ω,ω⟩
 obtain ⟨j, hj, ej⟩ : ∃ i : Nat, i < ps.length /\ n * 48271 % 10061 % (ps.length : Int) = i := by
  have h1 := yao (n * 48271 % 10061) (show (ps.length : Int) ≠ 0 by omega);have h2 := yak (n * 48271 % 10061) (show (0 : Int) < ps.length by omega);exact ⟨(n * 48271 % 10061 % (ps.length : Int)).toNat,ω,ω⟩
 have gi : atI (ps.map V.str) (n * 48271 % 10039 % ((ps.map V.str).length : Int)) = some (V.str ps[i]) := by
  rw [hpm, ei]; exact zam (by rw [yav, yal hi]; rfl)
 have gj : atI (ps.map V.str) (n * 48271 % 10061 % ((ps.map V.str).length : Int)) = some (V.str ps[j]) := by
  rw [hpm, ej]; exact zam (by rw [yav, yal hj]; rfl)
 have hq : SqL K (upd H1 p (.lst (ps.map V.str))) p (ps.map V.str) := SqL.of zae;refine ⟨zeI,δ, _, .inl hq, by rw [hpm]; omega, zeI,δ, _, .inl hq, by rw [hpm]; omega, _, .inl hq, _, gi, _, .inl hq, _, gj, _, i, zae, by rw [hpm, ei, yaf]; exact zdP ω ω, _, j, zae, by rw [hpm, ej, List.length_set, yaf]; exact zdP ω ω, trivial, (ps.set i ps[j]).set j ps[i], .inl ?_, ?_, ?_⟩
 ·rw [List.map_set, List.map_set]; exact SqL.of zae
 ·have hpe := List.set_set_perm hi hj;have hsum := (hpe.map (fun t : Str => t.length)).sum_nat;have : (⟨#[10]⟩ : Str).length = 1 := rfl;rw [this, hsum, List.length_set, List.length_set];omega
 ·have hpe := List.set_set_perm hi hj;have hsum := (hpe.map (fun t : Str => t.length)).sum_nat;rw [zgs];refine k _ _ ((((Same.refl _).upd hp).upd hp).upd hp) ?_ fun c hc => ?_
  ·have := zdE 10 (ps := (ps.set i ps[j]).set j ps[i]) (fun e => hne (List.eq_nil_of_length_eq_zero (by have := congrArg List.length e; rwa [List.length_set, List.length_set] at this)));rw [hsum, List.length_set, List.length_set] at this;omega
  ·rcases join_mem 10 hc with h | ⟨t, ht, h⟩
   ·omega
   ·exact hmem t (hpe.mem_iff.mp ht) c h
theorem znB : ∀ i : Nat, i < 41 -> ∀ c ∈ (tS i).cps.toList, c < 1114112 := by decide +kernel
theorem ziI : ∀ c ∈ sofS.cps.toList, c < 1114112 := by decide +kernel
theorem kw_chr : (∀ c ∈ (Str.ofString "things").cps.toList, c < 1114112) /\ (∀ c ∈ (Str.ofString "is").cps.toList, c < 1114112) /\ (∀ c ∈ (Str.ofString " 1").cps.toList, c < 1114112) /\ (∀ c ∈ (Str.ofString " 0 0").cps.toList, c < 1114112) /\ (∀ c ∈ (Str.ofString "  2 ").cps.toList, c < 1114112) := by decide +kernel
theorem zkq {x : Str} (h : Nm smallS x) : Chr x := fun d hd => by
 obtain ⟨c, r, e, h1, h2, _⟩ := h;rw [e] at hd;rcases yau.mp hd with rfl | hd
 ·exact ziI _ (zeK _ h1)
 ·exact ziI _ (h2 _ hd)
theorem ziJ {i : Int} (h0 : 0 <= i) (h1 : i < 41) : Chr (tS i) := by
 obtain ⟨n, rfl⟩ : ∃ n : Nat, i = n := ⟨i.toNat,ω⟩
 exact znB n ω
theorem zjJ {W : Wd} (h : W.Ok) : Chr (wTxt W) := fun c hc => by
 rw [zex] at hc;obtain ⟨r, hr, hc⟩ := List.mem_flatMap.mp hc;rcases yay.mp hc with hc | hc
 ·rcases join_mem 32 hc with rfl | ⟨t, ht, hc⟩
  ·decide
  ·rw [zdi] at hr;rcases yay.mp hr with hr | hr
   ·rcases yay.mp hr with hr | hr
    ·rw [yah.mp hr] at ht;rcases yau.mp ht with rfl | ht
     ·exact kw_chr.1 c hc
     ·rw [yah.mp ht] at hc;exact ziJ (by have := h.s1; omega) (by have := h.s2; omega) c hc
    ·obtain ⟨p, hp, rfl⟩ := ya6.mp hr;obtain ⟨n1, n2, n3⟩ := h.nm p hp;simp only [zdH, List.mem_cons, List.not_mem_nil, or_false] at ht;rcases ht with rfl | rfl | rfl
     ·exact zkq n1 c hc
     ·exact kw_chr.2.1 c hc
     ·exact ziJ n2 (by have := h.s2; omega) c hc
   ·obtain ⟨f, hf, rfl⟩ := ya6.mp hr;obtain ⟨n1, n2, n3⟩ := h.ft f hf;rcases yau.mp ht with rfl | ht
    ·exact zkq n1 c hc
    ·obtain ⟨i, hi, rfl⟩ := ya6.mp ht;have := n3 i hi;exact ziJ this.1 (by have := h.s2; omega) c hc
 ·have : c = 10 := by simpa using hc
  omega
theorem zjK {W : Wd} (h : W.Ok) : (wTxt W).length <= 5217 := by
 have key : ∀ rs : List (List Str), (∀ r ∈ rs, (rowS r).length <= 36) -> (txtL rs).length <= rs.length * 37 := by
  intro rs
  induction rs with
  | nil => intro _; simp [txtL]
  | cons r rs ih =>
   intro h;have h1 := h r ς;have h2 := ih fun q hq => h q (List.mem_cons_of_mem _ hq);have e : txtL (r :: rs) = ((rowS r).cps.toList ++ [10]) ++ txtL rs := by simp [txtL]
   rw [e, yae, yae, za5, List.length_cons, List.length_cons, List.length_nil];omega
 have h1 := key (rowsW W) (zfo h);have h2 := zdY h;rw [<- za5, zex];omega
theorem zl6 (x : Str) (a : Int) : (Txt.slice x none (some a)).length + (Txt.slice x (some a) none).length <= x.length := by
 rw [<- za5, <- za5 (Txt.slice x (some a) none), zcj, zcj, ya3, ya3, List.length_drop, List.length_drop, HT.sIx_none, HT.sIx_none, za5];have : HT.sIx x.length x.length (some a) = HT.sIx x.length 0 (some a) := rfl;omega
theorem ziK {x : Str} (h : Chr x) (lo hi : Option Int) : Chr (Txt.slice x lo hi) := fun c hc => by
 rw [zcj] at hc;exact h c (List.mem_of_mem_drop (List.mem_of_mem_take hc))
theorem ziL {u v : Str} (hu : Chr u) (hv : Chr v) : Chr (u ++ v) := fun c hc => by
 rw [zb7] at hc;rcases yay.mp hc with h | h
 ·exact hu c h
 ·exact hv c h
theorem ok_law (T : Tx K mg D) : FnOk P w K mg Qd CX0 9 D.a_d5 D.d_d5 ["_law_script"] (zh1 K) := by
 have G_c8 := @zcO P w _ _ Qd _ T;have G_b9 := @zbR P w _ _ Qd _ T;have G_a6 := @zew P w _ _ Qd _ T;have G_c6 := @zgT P w _ _ Qd _ T;have G_c0 := @zfp P w _ _ Qd _ T;have G_c4 := @zfH P w _ _ Qd _ T;have G_a9 := @ze3 P w _ _ Qd _ T;have G_a7 := @ze2 P w _ _ Qd _ T;have G_b5 := @zfs P w _ _ Qd _ T;have G_a8 := @zcF P w _ _ Qd _ T;refine T.F_d5.ok sc_d5 (fun vs H Q E h => ?_) (fun cdv A outer s H vs Q E hr h => ?_)
 ·obtain ⟨a, ns, rfl, _⟩ := h; rfl
 obtain ⟨a, ns, rfl, hS, _, k⟩ := h;have hu := hr.units;have hr_c8 : Room 1 _ := hr.mono δ;have hr_b9 : Room 1 _ := hr.mono δ;have hr_a6 : Room 5 _ := hr.mono δ;have hr_c6 : Room 1 _ := hr.mono δ;have hr_c0 : Room 1 _ := hr.mono δ;have hr_c4 : Room 1 _ := hr.mono δ;have hr_a9 : Room 1 _ := hr.mono δ;have hr_a7 : Room 3 _ := hr.mono δ;have hr_b5 : Room 7 _ := hr.mono δ;have hr_a8 : Room 6 _ := hr.mono δ;refine ⟨_, (zag (zax (i := 1) sc_d5.nd ρ (by walk_at "o") (YC G_c8 hr_c8 ρ T.m_c8 (zaa (pv 0) (zaa zab zaf))))
  (zag (zax (i := 2) sc_d5.nd ρ (by walk_at "o") (YC G_c0 hr_c0 ρ T.m_c0 (zaa (YC G_c6 hr_c6 ρ T.m_c6 (zaa (YC G_a6 hr_a6 ρ T.m_a6 (zaa (pv 0) (zaa (pv 1) zaf))) (zaa (zak zap (YC G_c8 hr_c8 ρ T.m_c8 (zaa (pv 0) (zaa zab zaf))) zab) zaf))) zaf)))
  (zag (zax (i := 3) sc_d5.nd ρ (by walk_at "o") (pv 2))
  (zag (zb8 PassesOwn.never ρ (zb2 ρ T.z_range (zaa (zak (zat K) zab (zak zap (YC G_b9 hr_b9 ρ T.m_b9 (zaa (pv 0) (zaa zab zaf))) zab)) zaf)) (zaz (i := 4) sc_d5.nd ρ (by walk_at "o"))
   (zah (zax (i := 3) sc_d5.nd ρ (by walk_at "o") (YC G_c4 hr_c4 ρ T.m_c4 (zaa (pv 3) (zaa (YC G_c8 hr_c8 ρ T.m_c8 (zaa (pv 0) (zaa (zak (zat K) zab (pv 4)) zaf))) zaf))))))
  (zag (zaS (zaq (zdv K hu) (zak zap (YC G_b9 hr_b9 ρ T.m_b9 (zaa (pv 0) (zaa zab zaf))) zab) zab (zaw _)) (zah (zax (i := 3) sc_d5.nd ρ (by walk_at "o") (YC G_a9 hr_a9 ρ T.m_a9 (zaa (zak za7 (YC G_b9 hr_b9 ρ T.m_b9 (zaa (pv 0) (zaa zab zaf))) zab) zaf)))) zay)
  (zag (zaS (zaq (zdv K hu) (zak zap (YC G_b9 hr_b9 ρ T.m_b9 (zaa (pv 0) (zaa zab zaf))) zab) zab (zaw _)) (zag (zax (i := 5) sc_d5.nd ρ (by walk_at "o") (zb9 K PySem.F.plainAttrs_str PySem.F.slot_str_find PySem.F.type_str_find zlx (pv 2) (zaa zal zaf)))
  (zah (zax (i := 3) sc_d5.nd ρ (by walk_at "o") (zak (zat K) (zak (zat K) (zaR (slB K) (pv 2) zbk (zbg (pv 5))) (za4 (ixA K) (zbn (zaa zal (zaa zal (zaa zal zaf)))) (zak zap (zak za7 (YC G_b9 hr_b9 ρ T.m_b9 (zaa (pv 0) (zaa zab zaf))) zab) zab) (fun _ _ => rfl))) (zaR (slB K) (pv 2) (zbg (pv 5)) zbk))))) zay)
  (zag (zax (i := 6) sc_d5.nd ρ (by walk_at "o") (YC G_a7 hr_a7 ρ T.m_a7 (zaa (pv 3) zaf)))
  (zag (zaS (zlD (zlC (pv 6))) (zah (zar (YC G_b5 hr_b5 ρ T.m_b5 (zaa (pv 3) zaf)))) zay)
  (zag (zaS (zaq zft (za4 (ixA K) (pv 6) zab (fun _ _ => rfl)) zab (zaw _)) (zah (zar zbU)) zay)
  (zag (zax (i := 7) sc_d5.nd ρ (by walk_at "o") (zan G_a8 hr_a8 ρ T.m_a8.1 T.F_a8.kp T.m_a8.2.2 .nil zot (zaa (pv 3) zaf)))
  (zah (zar (zcQ (zas (zg9 K "tuple") ρ T.z_isinstance ρ (zaa (pv 7) (zaa (zgZ (v := .ty "tuple") ρ T.z_tuple ρ ρ) zaf))) (zdl (zbz (zdv K hu) (pv 7) (pv 6) (zaw _)))))))))))))))), ?_⟩
 walk_at "S";refine zbX (fun σ' H' => H' = H /\ ∃ n : Int, σ' = [some (.ref a), some (.int n), none, none, none, none, none, none]) (fun N hN => ?_) fun σ' H1 hv => ?_
 ·walk_at "";exact ⟨a, ns, 3, rfl, hS,δ,δ, fun b b0 b1 => hN _ _ ⟨rfl, _, rfl⟩⟩
 obtain ⟨rfl, b, rfl⟩ := hv;refine zbX (fun σ' H' => Same H1 H' /\ ∃ y : Str, σ' = [some (.ref a), some (.int b), some (.str y), none, none, none, none, none] /\ y.length <= 5217 /\ Chr y) (fun N hN => ?_) fun σ' H2 hv => ?_
 ·walk_at "";refine ⟨a, ns, b, rfl, hS, fun W0 r0 c0 f0 xs0 ys0 H2 s2 hW0 hO0 => ⟨a, ns, 50, rfl, s2.seq hS,δ,δ, fun m m0 m1 => ?_⟩⟩;walk_at "";refine ⟨δ, r0, c0, f0, _, W0, xs0, ys0, rfl, hW0, hO0, fun W r c f xs ys H3 s3 hW hO _ => ⟨r, c, f, W, xs, ys, rfl, hW, hO, fun H4 s4 => ?_⟩⟩;exact hN _ _ ⟨(s2.trans s3).trans s4, _, rfl, zjK hO, zjJ hO⟩
 obtain ⟨s2, y, rfl, hy, hcy⟩ := hv;refine zbX (fun σ' H' => H' = H2 /\ σ' = [some (.ref a), some (.int b), some (.str y), some (.str y), none, none, none, none]) (fun N hN => ?_) fun σ' H2 hv => ?_
 ·walk_at "";exact hN _ _ ⟨rfl, rfl⟩
 obtain ⟨rfl, rfl⟩ := hv;refine zbX (fun σ' H' => Same H1 H' /\ ∃ (z : Str) (u4 : Option V), σ' = [some (.ref a), some (.int b), some (.str y), some (.str z), u4, none, none, none] /\ z.length <= 5219 /\ Chr z) (fun N hN => ?_) fun σ' H3 hv => ?_
 ·walk_at "";refine ⟨a, ns, 1, rfl, s2.seq hS,δ, ?_⟩;walk_at "";have b0 := yao (cellI ns 1) (show (2 : Int) ≠ 0 by decide);have b1 := yak (cellI ns 1) (show (0 : Int) < 2 by decide);refine ⟨δ,ω,ω, zbZ (fun i σ H' => Same H1 H' /\ ∃ (z : Str) (u4 : Option V), σ = [some (.ref a), some (.int b), some (.str y), some (.str z), u4, none, none, none] /\ z.length <= 5217 + i /\ Chr z) ⟨s2, y, _, rfl, hy, hcy⟩ (fun i σ H' hi hv => ?_) fun σ H' hv => ?_⟩
  ·obtain ⟨s3, z, u4, rfl, hz, hcz⟩ := hv;walk_at "";refine ⟨a, ns, _, rfl, s3.seq hS,ω,ω, fun n n0 n1 => ⟨z, n, rfl,ω, hcz, n0,ω, fun x H4 s4 hx hcx => ⟨s3.trans s4, x, _, rfl,ω, hcx⟩⟩⟩
  ·obtain ⟨s3, z, u4, rfl, hz, hcz⟩ := hv;exact hN _ _ ⟨s3, z, u4, rfl,ω, hcz⟩
 obtain ⟨s3, z, u4, rfl, hz, hcz⟩ := hv;refine zbX (fun σ' H' => Same H1 H' /\ ∃ (z : Str) (u4 : Option V), σ' = [some (.ref a), some (.int b), some (.str y), some (.str z), u4, none, none, none] /\ z.length <= 5219 /\ Chr z) (fun N hN => ?_) fun σ' H4 hv => ?_
 ·walk_at "";refine ⟨a, ns, 2, rfl, s3.seq hS,δ, ?_⟩;walk_at "";refine ⟨δ, ite2 (fun _ => ?_) fun _ => hN _ _ ⟨s3, z, u4, rfl, hz, hcz⟩⟩;refine ⟨a, ns, 2, rfl, s3.seq hS,δ, ?_⟩;walk_at "";exact ⟨cdiv, fun x H4 s4 hx hcx => hN _ _ ⟨s3.trans s4, x, u4, rfl,ω, hcx⟩⟩
 obtain ⟨s4, z, u4, rfl, hz, hcz⟩ := hv;refine zbX (fun σ' H' => Same H1 H' /\ ∃ (z : Str) (u4 u5 : Option V), σ' = [some (.ref a), some (.int b), some (.str y), some (.str z), u4, u5, none, none] /\ z.length <= 5230 /\ Chr z) (fun N hN => ?_) fun σ' H5 hv => ?_
 ·walk_at "";refine ⟨a, ns, 2, rfl, s4.seq hS,δ, ?_⟩;walk_at "";refine ⟨δ, ite2 (fun _ => ?_) fun _ => hN _ _ ⟨s4, z, u4, none, rfl,ω, hcz⟩⟩;have hyz : y.length <= sizeLine := zao ω;refine ⟨trivial, hyz, zao (show 3 <= 100000 by decide), fun p hp => ?_⟩;have s5 := zad hp (.lst [V.str (Str.ofString " 1"), V.str (Str.ofString " 0 0"), V.str (Str.ofString "  2 ")]);refine ⟨a, ns, 2, rfl, (s4.trans s5).seq hS,δ, ?_⟩;walk_at "";obtain ⟨j, hj, ej⟩ : ∃ j : Nat, j < 3 /\ cellI ns 2 / 12 % 3 = (j : Int) := by
   have h1 := yao (cellI ns 2 / 12) (show (3 : Int) ≠ 0 by decide);have h2 := yak (cellI ns 2 / 12) (show (0 : Int) < 3 by decide);exact ⟨(cellI ns 2 / 12 % 3).toNat,ω,ω⟩
  rw [ej];have hsum := zl6 y (Txt.find y (Str.ofString "\n"));have key : ∀ t : Str, t.length <= 4 -> Chr t -> N [some (V.ref a), some (V.int b), some (V.str y), some (V.str (Txt.slice y none (some (Txt.find y (Str.ofString "\n"))) ++ t ++ Txt.slice y (some (Txt.find y (Str.ofString "\n"))) none)), u4, some (V.int (Txt.find y (Str.ofString "\n"))), none, none] (upd H4 p (HO.lst [V.str (Str.ofString " 1"), V.str (Str.ofString " 0 0"), V.str (Str.ofString "  2 ")])) := fun t h1 h2 =>
   hN _ _ ⟨s4.trans s5, _, u4, _, rfl, by rw [Str.length_append, Str.length_append]; omega, ziL (ziL (ziK hcy _ _) h2) (ziK hcy _ _)⟩
  refine ⟨cdiv,δ, _, .inl (SqL.of zae), ?_⟩;have l1 : (Str.ofString " 1").length = 2 := rfl;have l2 : (Str.ofString " 0 0").length = 4 := rfl;have l3 : (Str.ofString "  2 ").length = 4 := rfl
  match j, hj with
  | 0, _ =>
   refine ⟨_, i0, ?_⟩;walk_at "";exact ⟨zao ω, hyz, zao (by rw [Str.length_append]; omega), key _ ω kw_chr.2.2.1⟩
  | 1, _ =>
   refine ⟨_, i1, ?_⟩;walk_at "";exact ⟨zao ω, hyz, zao (by rw [Str.length_append]; omega), key _ ω kw_chr.2.2.2.1⟩
  | 2, _ =>
   refine ⟨_, i2, ?_⟩;walk_at "";exact ⟨zao ω, hyz, zao (by rw [Str.length_append]; omega), key _ ω kw_chr.2.2.2.2⟩
 obtain ⟨s5, z, u4, u5, rfl, hz, hcz⟩ := hv;walk_at "";refine ⟨z, rfl,ω, hcz, fun hok r c f xs ys H6 s6 hW => ?_, fun hno H6 s6 => ?_⟩
 rotate_left
 ·walk_at "";exact ⟨z, rfl,ω, hcz, hno, fun H7 _ => k _⟩
 ·walk_at "";rw [if_neg (fun e => nomatch e)];refine ⟨_, .inr hW.top, _, i0, ?_⟩;walk_at "";refine ite2 (fun _ => k _) fun _ => ⟨z, rfl,ω, hcz, fun _ r' c' f' xs' ys' H7 s7 hW' => ?_, (fun e => by rw [hok] at e; cases e)⟩
  walk_at "t";refine ⟨_, true, .tup hW'.top, rfl, ?_⟩;rw [if_pos rfl];refine ⟨_, _, hW'.repD, (hW.same s7).repD, Wd.dep _, ?_⟩;rw [ya9 rfl];exact k _
end
local macro_rules | `(tactic| walk_at "b1") => `(tactic| exact fun _ _ _ _ _ _ us hl => match us, hl with | [_], _ => rfl)
local macro_rules | `(tactic| walk_at "b2") => `(tactic| exact fun _ _ _ _ _ _ us hl => match us, hl with | [_, _], _ => rfl)
abbrev LK (K : W.Frag) (f : Addr) (oc : Value) (od : Option Addr) (n q : Str) (s : Stmt) (kV dc pm : Value) (an : Option Addr) (cd ct : Value) (sl : Array (Option Value)) : Prop := K.lookup f = some ⟨oc, od, .func (W.fnOf n q (zaj s) (zai s) (zac s) .none kV dc pm an cd ct), sl⟩
abbrev NI (K : W.Frag) (n : Str) (f : Addr) : Prop := W.nsIn K mainGlobals n = some (some (.ref f))
abbrev CI (K : W.Frag) (c : Value) (n : Str) : Prop := W.codeIn K c n = true
abbrev KI (K : W.Frag) (f : Addr) : Prop := W.keepIn K (.ref f) = true
abbrev TL (K : W.Frag) (a : Addr) (d : Option Addr) (x : Array Value) (n : Nat) (s : Array (Option Value)) : Prop := K.lookup a = some ⟨.type "tuple", d, .seq x n, s⟩
theorem all_mk {l : W.OpenLaw} {w : World} {K : W.Frag} {h : Heap} {mg : Str -> Option Value} {fa : Addr} (X : K.In h) (G : h.Ns mainGlobals mg) (hfa : mg "law" = some (.ref fa)) 
  (a0 : NI K "rows_in" f0) (l0 : LK K f0 oc0 od0 "rows_in" "rows_in" zbr kV0 dc0 pm0 an0 cd0 ct0 sl0) (c0 : CI K cd0 "rows_in") (k0 : KI K f0)
  (a1 : NI K "runs_in" f1) (l1 : LK K f1 oc1 od1 "runs_in" "runs_in" zbs kV1 dc1 pm1 an1 cd1 ct1 sl1) (c1 : CI K cd1 "runs_in") (k1 : KI K f1)
  (a2 : NI K "is_number" f2) (l2 : LK K f2 oc2 od2 "is_number" "is_number" zaU kV2 dc2 pm2 an2 cd2 ct2 sl2) (c2 : CI K cd2 "is_number") (k2 : KI K f2)
  (a3 : NI K "begins_and_goes_on" f3) (l3 : LK K f3 oc3 od3 "begins_and_goes_on" "begins_and_goes_on" zav kV3 dc3 pm3 an3 cd3 ct3 sl3) (c3 : CI K cd3 "begins_and_goes_on") (k3 : KI K f3)
  (a4 : NI K "is_name" f4) (l4 : LK K f4 oc4 od4 "is_name" "is_name" zbt kV4 dc4 pm4 an4 cd4 ct4 sl4) (c4 : CI K cd4 "is_name") (k4 : KI K f4)
  (a5 : NI K "is_word" f5) (l5 : LK K f5 oc5 od5 "is_word" "is_word" zbu kV5 dc5 pm5 an5 cd5 ct5 sl5) (c5 : CI K cd5 "is_word") (k5 : KI K f5)
  (a6 : NI K "fit_world" f6) (l6 : LK K f6 oc6 od6 "fit_world" "fit_world" zaV kV6 dc6 pm6 an6 cd6 ct6 sl6) (c6 : CI K cd6 "fit_world") (k6 : KI K f6)
  (a7 : NI K "fit_called" f7) (l7 : LK K f7 oc7 od7 "fit_called" "fit_called" zaJ kV7 dc7 pm7 an7 cd7 ct7 sl7) (c7 : CI K cd7 "fit_called") (k7 : KI K f7)
  (a8 : NI K "fit_facts" f8) (l8 : LK K f8 oc8 od8 "fit_facts" "fit_facts" zaW kV8 dc8 pm8 an8 cd8 ct8 sl8) (c8 : CI K cd8 "fit_facts") (k8 : KI K f8)
  (a9 : NI K "is_thing" f9) (l9 : LK K f9 oc9 od9 "is_thing" "is_thing" zbi kV9 dc9 pm9 an9 cd9 ct9 sl9) (c9 : CI K cd9 "is_thing") (k9 : KI K f9)
  (a10 : NI K "rises" f10) (l10 : LK K f10 oc10 od10 "rises" "rises" zcc kV10 dc10 pm10 an10 cd10 ct10 sl10) (c10 : CI K cd10 "rises") (k10 : KI K f10)
  (a11 : NI K "read_world" f11) (l11 : LK K f11 oc11 od11 "read_world" "read_world" zaK kV11 dc11 pm11 an11 cd11 ct11 sl11) (c11 : CI K cd11 "read_world") (k11 : KI K f11)
  (a12 : NI K "read_size" f12) (l12 : LK K f12 oc12 od12 "read_size" "read_size" zaX kV12 dc12 pm12 an12 cd12 ct12 sl12) (c12 : CI K cd12 "read_size") (k12 : KI K f12)
  (a13 : NI K "is_names_row" f13) (l13 : LK K f13 oc13 od13 "is_names_row" "is_names_row" zaC kV13 dc13 pm13 an13 cd13 ct13 sl13) (c13 : CI K cd13 "is_names_row") (k13 : KI K f13)
  (a14 : NI K "read_fact" f14) (l14 : LK K f14 oc14 od14 "read_fact" "read_fact" zaY kV14 dc14 pm14 an14 cd14 ct14 sl14) (c14 : CI K cd14 "read_fact") (k14 : KI K f14)
  (a15 : NI K "read_number" f15) (l15 : LK K f15 oc15 od15 "read_number" "read_number" zaH kV15 dc15 pm15 an15 cd15 ct15 sl15) (c15 : CI K cd15 "read_number") (k15 : KI K f15)
  (a16 : NI K "_law_cell_at" f16) (l16 : LK K f16 oc16 od16 "_law_cell_at" "_law_cell_at" zaZ kV16 dc16 pm16 an16 cd16 ct16 sl16) (c16 : CI K cd16 "_law_cell_at") (k16 : KI K f16)
  (a17 : NI K "_law_mixed" f17) (l17 : LK K f17 oc17 od17 "_law_mixed" "_law_mixed" zbv kV17 dc17 pm17 an17 cd17 ct17 sl17) (c17 : CI K cd17 "_law_mixed") (k17 : KI K f17)
  (a18 : NI K "_law_name_by" f18) (l18 : LK K f18 oc18 od18 "_law_name_by" "_law_name_by" zba kV18 dc18 pm18 an18 cd18 ct18 sl18) (c18 : CI K cd18 "_law_name_by") (k18 : KI K f18)
  (a19 : NI K "_law_thing_name" f19) (l19 : LK K f19 oc19 od19 "_law_thing_name" "_law_thing_name" zaD kV19 dc19 pm19 an19 cd19 ct19 sl19) (c19 : CI K cd19 "_law_thing_name") (k19 : KI K f19)
  (a20 : NI K "_law_word" f20) (l20 : LK K f20 oc20 od20 "_law_word" "_law_word" zbC kV20 dc20 pm20 an20 cd20 ct20 sl20) (c20 : CI K cd20 "_law_word") (k20 : KI K f20)
  (a21 : NI K "_law_facts_by" f21) (l21 : LK K f21 oc21 od21 "_law_facts_by" "_law_facts_by" zaL kV21 dc21 pm21 an21 cd21 ct21 sl21) (c21 : CI K cd21 "_law_facts_by") (k21 : KI K f21)
  (a22 : NI K "_law_size_by" f22) (l22 : LK K f22 oc22 od22 "_law_size_by" "_law_size_by" zbb kV22 dc22 pm22 an22 cd22 ct22 sl22) (c22 : CI K cd22 "_law_size_by") (k22 : KI K f22)
  (a23 : NI K "_law_world_by" f23) (l23 : LK K f23 oc23 od23 "_law_world_by" "_law_world_by" zaM kV23 dc23 pm23 an23 cd23 ct23 sl23) (c23 : CI K cd23 "_law_world_by") (k23 : KI K f23)
  (a24 : NI K "_law_fewer" f24) (l24 : LK K f24 oc24 od24 "_law_fewer" "_law_fewer" zbw kV24 dc24 pm24 an24 cd24 ct24 sl24) (c24 : CI K cd24 "_law_fewer") (k24 : KI K f24)
  (a25 : NI K "_law_is_name" f25) (l25 : LK K f25 oc25 od25 "_law_is_name" "_law_is_name" zbc kV25 dc25 pm25 an25 cd25 ct25 sl25) (c25 : CI K cd25 "_law_is_name") (k25 : KI K f25)
  (a26 : NI K "_law_rises" f26) (l26 : LK K f26 oc26 od26 "_law_rises" "_law_rises" zbx kV26 dc26 pm26 an26 cd26 ct26 sl26) (c26 : CI K cd26 "_law_rises") (k26 : KI K f26)
  (a27 : NI K "_law_fits" f27) (l27 : LK K f27 oc27 od27 "_law_fits" "_law_fits" zbD kV27 dc27 pm27 an27 cd27 ct27 sl27) (c27 : CI K cd27 "_law_fits") (k27 : KI K f27)
  (a28 : NI K "_law_text_of" f28) (l28 : LK K f28 oc28 od28 "_law_text_of" "_law_text_of" zbd kV28 dc28 pm28 an28 cd28 ct28 sl28) (c28 : CI K cd28 "_law_text_of") (k28 : KI K f28)
  (a29 : NI K "_law_number_in" f29) (l29 : LK K f29 oc29 od29 "_law_number_in" "_law_number_in" zaI kV29 dc29 pm29 an29 cd29 ct29 sl29) (c29 : CI K cd29 "_law_number_in") (k29 : KI K f29)
  (a30 : NI K "_law_world_in" f30) (l30 : LK K f30 oc30 od30 "_law_world_in" "_law_world_in" zaN kV30 dc30 pm30 an30 cd30 ct30 sl30) (c30 : CI K cd30 "_law_world_in") (k30 : KI K f30)
  (a31 : NI K "_law_spoilt" f31) (l31 : LK K f31 oc31 od31 "_law_spoilt" "_law_spoilt" zbj kV31 dc31 pm31 an31 cd31 ct31 sl31) (c31 : CI K cd31 "_law_spoilt") (k31 : KI K f31)
  (a32 : NI K "_law_odd_text" f32) (l32 : LK K f32 oc32 od32 "_law_odd_text" "_law_odd_text" zaO kV32 dc32 pm32 an32 cd32 ct32 sl32) (c32 : CI K cd32 "_law_odd_text") (k32 : KI K f32)
  (a33 : NI K "_law_of_one_class" f33) (l33 : LK K f33 oc33 od33 "_law_of_one_class" "_law_of_one_class" za2 kV33 dc33 pm33 an33 cd33 ct33 sl33) (c33 : CI K cd33 "_law_of_one_class") (k33 : KI K f33)
  (a34 : NI K "_law_refused" f34) (l34 : LK K f34 oc34 od34 "_law_refused" "_law_refused" zaQ kV34 dc34 pm34 an34 cd34 ct34 sl34) (c34 : CI K cd34 "_law_refused") (k34 : KI K f34)
  (a35 : NI K "law" f35) (l35 : LK K f35 oc35 od35 "law" "law" zet kV35 dc35 pm35 an35 cd35 ct35 sl35) (c35 : CI K cd35 "law") (k35 : KI K f35)
  (g0 : W.nsIn K mainGlobals "FIGURES" = some (some (.str "0123456789" t0)))
  (g1 : W.nsIn K mainGlobals "MOST_FIGURES" = some (some (.int 4 t1)))
  (g2 : W.nsIn K mainGlobals "SMALL" = some (some (.str "abcdefghijklmnopqrstuvwxyz" t2)))
  (g3 : W.nsIn K mainGlobals "SMALL_OR_FIGURE" = some (some (.str "abcdefghijklmnopqrstuvwxyz0123456789" t3)))
  (g4 : W.nsIn K mainGlobals "KEPT_WORDS" = some (some (.ref p4))) (q4 : TL K p4 dd4 #[Value.str "not" u4_0, Value.str "and" u4_1, Value.str "or" u4_2, Value.str "then" u4_3, Value.str "all" u4_4, Value.str "some" u4_5, Value.str "false" u4_6] nn4 ss4)
  (g5 : W.nsIn K mainGlobals "MOST_SIGNS" = some (some (.int 8 t5)))
  (g6 : W.nsIn K mainGlobals "MOST_THINGS_OF_A_FACT" = some (some (.int 3 t6)))
  {xnm0 xq0 : Str} {xC0 xN0 : Addr} {xbs0 : List Value} {xh0 : Bool} {xsn0 : List Str} {xsu0 : List Value} {xab0 : Bool} {xco0 : Option Bool} {xdd0 xod0 : Option Addr} {xka0 xkb0 xkc0 xkd0 xke0 : Option Value} {xoc0 : Value} {xes0 : List DictEntry} {xep0 : Nat} {xsl0 : Array (Option Value)}
  (xa0 : W.nsIn K mainGlobals "BoxError" = some (some (.ref xC0))) (xl0 : K.lookup xC0 = some (excClassObj xnm0 xq0 xC0 xN0 xbs0 ([.type "ValueError", .type "Exception", .type "BaseException", .type "object"]) xh0 xsn0 xsu0 xab0 xco0 xdd0 xka0 xkb0 xkc0 xkd0 xke0 "ValueError.__new__"))
  (xn0 : K.lookup xN0 = some ⟨xoc0, xod0, .dict (List.toArray xes0) xep0, xsl0⟩) (xy0 : (xes0.all fun e => match e.key with | .str _ _ => true | _ => false) = true) (xp0 : W.nsIn K xN0 "__init__" = some none) (xr0 : W.nsIn K xN0 "__getattribute__" = some none) (xu0 : W.nsIn K xN0 "__getattr__" = some none) (xv0 : W.nsIn K xN0 "__class__" = some none)
  {xnm1 xq1 : Str} {xC1 xN1 : Addr} {xbs1 : List Value} {xh1 : Bool} {xsn1 : List Str} {xsu1 : List Value} {xab1 : Bool} {xco1 : Option Bool} {xdd1 xod1 : Option Addr} {xka1 xkb1 xkc1 xkd1 xke1 : Option Value} {xoc1 : Value} {xes1 : List DictEntry} {xep1 : Nat} {xsl1 : Array (Option Value)}
  (xa1 : W.nsIn K mainGlobals "NoStatement" = some (some (.ref xC1))) (xl1 : K.lookup xC1 = some (excClassObj xnm1 xq1 xC1 xN1 xbs1 (Value.ref xC0 :: [.type "ValueError", .type "Exception", .type "BaseException", .type "object"]) xh1 xsn1 xsu1 xab1 xco1 xdd1 xka1 xkb1 xkc1 xkd1 xke1 "ValueError.__new__"))
  (xn1 : K.lookup xN1 = some ⟨xoc1, xod1, .dict (List.toArray xes1) xep1, xsl1⟩) (xy1 : (xes1.all fun e => match e.key with | .str _ _ => true | _ => false) = true) (xp1 : W.nsIn K xN1 "__init__" = some none) (xr1 : W.nsIn K xN1 "__getattribute__" = some none) (xu1 : W.nsIn K xN1 "__getattr__" = some none) (xv1 : W.nsIn K xN1 "__class__" = some none)
  {xnm2 xq2 : Str} {xC2 xN2 : Addr} {xbs2 : List Value} {xh2 : Bool} {xsn2 : List Str} {xsu2 : List Value} {xab2 : Bool} {xco2 : Option Bool} {xdd2 xod2 : Option Addr} {xka2 xkb2 xkc2 xkd2 xke2 : Option Value} {xoc2 : Value} {xes2 : List DictEntry} {xep2 : Nat} {xsl2 : Array (Option Value)}
  (xa2 : W.nsIn K mainGlobals "NoName" = some (some (.ref xC2))) (xl2 : K.lookup xC2 = some (excClassObj xnm2 xq2 xC2 xN2 xbs2 (Value.ref xC0 :: [.type "ValueError", .type "Exception", .type "BaseException", .type "object"]) xh2 xsn2 xsu2 xab2 xco2 xdd2 xka2 xkb2 xkc2 xkd2 xke2 "ValueError.__new__"))
  (xn2 : K.lookup xN2 = some ⟨xoc2, xod2, .dict (List.toArray xes2) xep2, xsl2⟩) (xy2 : (xes2.all fun e => match e.key with | .str _ _ => true | _ => false) = true) (xp2 : W.nsIn K xN2 "__init__" = some none) (xr2 : W.nsIn K xN2 "__getattribute__" = some none) (xu2 : W.nsIn K xN2 "__getattr__" = some none) (xv2 : W.nsIn K xN2 "__class__" = some none)
  {xnm3 xq3 : Str} {xC3 xN3 : Addr} {xbs3 : List Value} {xh3 : Bool} {xsn3 : List Str} {xsu3 : List Value} {xab3 : Bool} {xco3 : Option Bool} {xdd3 xod3 : Option Addr} {xka3 xkb3 xkc3 xkd3 xke3 : Option Value} {xoc3 : Value} {xes3 : List DictEntry} {xep3 : Nat} {xsl3 : Array (Option Value)}
  (xa3 : W.nsIn K mainGlobals "NoWorld" = some (some (.ref xC3))) (xl3 : K.lookup xC3 = some (excClassObj xnm3 xq3 xC3 xN3 xbs3 (Value.ref xC0 :: [.type "ValueError", .type "Exception", .type "BaseException", .type "object"]) xh3 xsn3 xsu3 xab3 xco3 xdd3 xka3 xkb3 xkc3 xkd3 xke3 "ValueError.__new__"))
  (xn3 : K.lookup xN3 = some ⟨xoc3, xod3, .dict (List.toArray xes3) xep3, xsl3⟩) (xy3 : (xes3.all fun e => match e.key with | .str _ _ => true | _ => false) = true) (xp3 : W.nsIn K xN3 "__init__" = some none) (xr3 : W.nsIn K xN3 "__getattribute__" = some none) (xu3 : W.nsIn K xN3 "__getattr__" = some none) (xv3 : W.nsIn K xN3 "__class__" = some none)
  {xnm4 xq4 : Str} {xC4 xN4 : Addr} {xbs4 : List Value} {xh4 : Bool} {xsn4 : List Str} {xsu4 : List Value} {xab4 : Bool} {xco4 : Option Bool} {xdd4 xod4 : Option Addr} {xka4 xkb4 xkc4 xkd4 xke4 : Option Value} {xoc4 : Value} {xes4 : List DictEntry} {xep4 : Nat} {xsl4 : Array (Option Value)}
  (xa4 : W.nsIn K mainGlobals "NoBox" = some (some (.ref xC4))) (xl4 : K.lookup xC4 = some (excClassObj xnm4 xq4 xC4 xN4 xbs4 (Value.ref xC0 :: [.type "ValueError", .type "Exception", .type "BaseException", .type "object"]) xh4 xsn4 xsu4 xab4 xco4 xdd4 xka4 xkb4 xkc4 xkd4 xke4 "ValueError.__new__"))
  (xn4 : K.lookup xN4 = some ⟨xoc4, xod4, .dict (List.toArray xes4) xep4, xsl4⟩) (xy4 : (xes4.all fun e => match e.key with | .str _ _ => true | _ => false) = true) (xp4 : W.nsIn K xN4 "__init__" = some none) (xr4 : W.nsIn K xN4 "__getattribute__" = some none) (xu4 : W.nsIn K xN4 "__getattr__" = some none) (xv4 : W.nsIn K xN4 "__class__" = some none)
  {xnm5 xq5 : Str} {xC5 xN5 : Addr} {xbs5 : List Value} {xh5 : Bool} {xsn5 : List Str} {xsu5 : List Value} {xab5 : Bool} {xco5 : Option Bool} {xdd5 xod5 : Option Addr} {xka5 xkb5 xkc5 xkd5 xke5 : Option Value} {xoc5 : Value} {xes5 : List DictEntry} {xep5 : Nat} {xsl5 : Array (Option Value)}
  (xa5 : W.nsIn K mainGlobals "NoLines" = some (some (.ref xC5))) (xl5 : K.lookup xC5 = some (excClassObj xnm5 xq5 xC5 xN5 xbs5 (Value.ref xC0 :: [.type "ValueError", .type "Exception", .type "BaseException", .type "object"]) xh5 xsn5 xsu5 xab5 xco5 xdd5 xka5 xkb5 xkc5 xkd5 xke5 "ValueError.__new__"))
  (xn5 : K.lookup xN5 = some ⟨xoc5, xod5, .dict (List.toArray xes5) xep5, xsl5⟩) (xy5 : (xes5.all fun e => match e.key with | .str _ _ => true | _ => false) = true) (xp5 : W.nsIn K xN5 "__init__" = some none) (xr5 : W.nsIn K xN5 "__getattribute__" = some none) (xu5 : W.nsIn K xN5 "__getattr__" = some none) (xv5 : W.nsIn K xN5 "__class__" = some none)
  {xnm6 xq6 : Str} {xC6 xN6 : Addr} {xbs6 : List Value} {xh6 : Bool} {xsn6 : List Str} {xsu6 : List Value} {xab6 : Bool} {xco6 : Option Bool} {xdd6 xod6 : Option Addr} {xka6 xkb6 xkc6 xkd6 xke6 : Option Value} {xoc6 : Value} {xes6 : List DictEntry} {xep6 : Nat} {xsl6 : Array (Option Value)}
  (xa6 : W.nsIn K mainGlobals "NotShut" = some (some (.ref xC6))) (xl6 : K.lookup xC6 = some (excClassObj xnm6 xq6 xC6 xN6 xbs6 (Value.ref xC0 :: [.type "ValueError", .type "Exception", .type "BaseException", .type "object"]) xh6 xsn6 xsu6 xab6 xco6 xdd6 xka6 xkb6 xkc6 xkd6 xke6 "ValueError.__new__"))
  (xn6 : K.lookup xN6 = some ⟨xoc6, xod6, .dict (List.toArray xes6) xep6, xsl6⟩) (xy6 : (xes6.all fun e => match e.key with | .str _ _ => true | _ => false) = true) (xp6 : W.nsIn K xN6 "__init__" = some none) (xr6 : W.nsIn K xN6 "__getattribute__" = some none) (xu6 : W.nsIn K xN6 "__getattr__" = some none) (xv6 : W.nsIn K xN6 "__class__" = some none)
  (xm_NoWorld_NoWorld : W.mroIn K xC3 (.ref xC3) = some true) (xi_NoWorld_NoWorld : W.kitOne K (.ref xC3) (.ref xC3) = some true)
  (xm_NoWorld_BoxError : W.mroIn K xC3 (.ref xC0) = some true) (xi_NoWorld_BoxError : W.kitOne K (.ref xC3) (.ref xC0) = some true)
  (xm_NoWorld_NoBox : W.mroIn K xC3 (.ref xC4) = some false) (xi_NoWorld_NoBox : W.kitOne K (.ref xC3) (.ref xC4) = some false)
  (xm_NoWorld_NoLines : W.mroIn K xC3 (.ref xC5) = some false) (xi_NoWorld_NoLines : W.kitOne K (.ref xC3) (.ref xC5) = some false)
  (xm_NoWorld_NoName : W.mroIn K xC3 (.ref xC2) = some false) (xi_NoWorld_NoName : W.kitOne K (.ref xC3) (.ref xC2) = some false)
  (xm_NoWorld_NoStatement : W.mroIn K xC3 (.ref xC1) = some false) (xi_NoWorld_NoStatement : W.kitOne K (.ref xC3) (.ref xC1) = some false)
  (xm_NoWorld_NotShut : W.mroIn K xC3 (.ref xC6) = some false) (xi_NoWorld_NotShut : W.kitOne K (.ref xC3) (.ref xC6) = some false)
  (xi_NoWorld_ValueError : W.kitOne K (.ref xC3) (.type "ValueError") = some true)
  (z_ValueError : W.nsIn K mainGlobals "ValueError" = some none)
  (z_all : W.nsIn K mainGlobals "all" = some none)
  (z_int : W.nsIn K mainGlobals "int" = some none)
  (z_isinstance : W.nsIn K mainGlobals "isinstance" = some none)
  (z_len : W.nsIn K mainGlobals "len" = some none)
  (z_list : W.nsIn K mainGlobals "list" = some none)
  (z_range : W.nsIn K mainGlobals "range" = some none)
  (z_sorted : W.nsIn K mainGlobals "sorted" = some none)
  (z_str : W.nsIn K mainGlobals "str" = some none)
  (z_tuple : W.nsIn K mainGlobals "tuple" = some none)
  (OK : ∀ (P : Program) (D : Defs) (base : Heap), Tx K mg D -> FnOk P w K mg base CX0 9 D.a_d5 D.d_d5 ["_law_script"] (zh1 K)) :
  ∃ fd : FuncData, (∀ (s : Shared) (v : Value), BindsTo s fd ⟨[v], []⟩ [("_law_script", v)]) /\ ∀ base : Heap, K.In base -> base.Ns mainGlobals mg -> FnOk l.prog w K mg base CX0 9 fa fd ["_law_script"] (zh1 K) := by
 have e := hfa.symm.trans (W.mg_of X G a35);cases e;have F0 := zaB (st := zbr) l0 c0 k0;have F1 := zaB (st := zbs) l1 c1 k1;have F2 := zaB (st := zaU) l2 c2 k2;have F3 := zaB (st := zav) l3 c3 k3;have F4 := zaB (st := zbt) l4 c4 k4;have F5 := zaB (st := zbu) l5 c5 k5;have F6 := zaB (st := zaV) l6 c6 k6;have F7 := zaB (st := zaJ) l7 c7 k7;have F8 := zaB (st := zaW) l8 c8 k8;have F9 := zaB (st := zbi) l9 c9 k9;have F10 := zaB (st := zcc) l10 c10 k10;have F11 := zaB (st := zaK) l11 c11 k11;have F12 := zaB (st := zaX) l12 c12 k12;have F13 := zaB (st := zaC) l13 c13 k13;have F14 := zaB (st := zaY) l14 c14 k14;have F15 := zaB (st := zaH) l15 c15 k15;have F16 := zaB (st := zaZ) l16 c16 k16;have F17 := zaB (st := zbv) l17 c17 k17;have F18 := zaB (st := zba) l18 c18 k18;have b18 := F18.binds (ps := ["_law_number", "_law_firsts", "_law_turn"]) fun _ _ _ _ _ _ us hl => match us, hl with | [_, _, _], _ => rfl
 have F19 := zaB (st := zaD) l19 c19 k19;have F20 := zaB (st := zbC) l20 c20 k20;have F21 := zaB (st := zaL) l21 c21 k21;have b21 := F21.binds (ps := ["_law_script", "_law_at", "_law_base", "_law_size"]) fun _ _ _ _ _ _ us hl => match us, hl with | [_, _, _, _], _ => rfl
 have F22 := zaB (st := zbb) l22 c22 k22;have F23 := zaB (st := zaM) l23 c23 k23;have F24 := zaB (st := zbw) l24 c24 k24;have F25 := zaB (st := zbc) l25 c25 k25;have F26 := zaB (st := zbx) l26 c26 k26;have F27 := zaB (st := zbD) l27 c27 k27;have b27 := F27.binds (ps := ["_law_size", "_law_called", "_law_facts"]) fun _ _ _ _ _ _ us hl => match us, hl with | [_, _, _], _ => rfl
 have F28 := zaB (st := zbd) l28 c28 k28;have F29 := zaB (st := zaI) l29 c29 k29;have F30 := zaB (st := zaN) l30 c30 k30;have F31 := zaB (st := zbj) l31 c31 k31;have F32 := zaB (st := zaO) l32 c32 k32;have F33 := zaB (st := za2) l33 c33 k33;have F34 := zaB (st := zaQ) l34 c34 k34;have F35 := zaB (st := zet) l35 c35 k35;have T : Tx K mg ⟨f0, _, f1, _, f2, _, f3, _, f4, _, f5, _, f6, _, f7, _, f8, _, f9, _, f10, _, f11, _, f12, _, f13, _, f14, _, f15, _, f16, _, f17, _, f18, _, f19, _, f20, _, f21, _, f22, _, f23, _, f24, _, f25, _, f26, _, f27, _, f28, _, f29, _, f30, _, f31, _, f32, _, f33, _, f34, _, f35, _, p4, xC0, xC1, xC2, xC3, xC4, xC5, xC6⟩ := ⟨F0, ⟨W.mg_of X G a0, k0, F0.binds (by walk_at "b1")⟩, F1, ⟨W.mg_of X G a1, k1, F1.binds (by walk_at "b1")⟩, F2, ⟨W.mg_of X G a2, k2, F2.binds (by walk_at "b1")⟩, F3, ⟨W.mg_of X G a3, k3, F3.binds (by walk_at "b2")⟩, F4, ⟨W.mg_of X G a4, k4, F4.binds (by walk_at "b1")⟩, F5, ⟨W.mg_of X G a5, k5, F5.binds (by walk_at "b1")⟩, F6, ⟨W.mg_of X G a6, k6, F6.binds (by walk_at "b1")⟩, F7, ⟨W.mg_of X G a7, k7, F7.binds (by walk_at "b2")⟩, F8, ⟨W.mg_of X G a8, k8, F8.binds (by walk_at "b2")⟩, F9, ⟨W.mg_of X G a9, k9, F9.binds (by walk_at "b2")⟩, F10, ⟨W.mg_of X G a10, k10, F10.binds (by walk_at "b1")⟩, F11, ⟨W.mg_of X G a11, k11, F11.binds (by walk_at "b1")⟩, F12, ⟨W.mg_of X G a12, k12, F12.binds (by walk_at "b1")⟩, F13, ⟨W.mg_of X G a13, k13, F13.binds (by walk_at "b1")⟩, F14, ⟨W.mg_of X G a14, k14, F14.binds (by walk_at "b1")⟩, F15, ⟨W.mg_of X G a15, k15, F15.binds (by walk_at "b1")⟩, F16, ⟨W.mg_of X G a16, k16, F16.binds (by walk_at "b2")⟩, F17, ⟨W.mg_of X G a17, k17, F17.binds (by walk_at "b2")⟩, F18, ⟨W.mg_of X G a18, k18, b18⟩, F19, ⟨W.mg_of X G a19, k19, F19.binds (by walk_at "b2")⟩, F20, ⟨W.mg_of X G a20, k20, F20.binds (by walk_at "b2")⟩, F21, ⟨W.mg_of X G a21, k21, b21⟩, F22, ⟨W.mg_of X G a22, k22, F22.binds (by walk_at "b1")⟩, F23, ⟨W.mg_of X G a23, k23, F23.binds (by walk_at "b2")⟩, F24, ⟨W.mg_of X G a24, k24, F24.binds (by walk_at "b2")⟩, F25, ⟨W.mg_of X G a25, k25, F25.binds (by walk_at "b1")⟩, F26, ⟨W.mg_of X G a26, k26, F26.binds (by walk_at "b1")⟩, F27, ⟨W.mg_of X G a27, k27, b27⟩, F28, ⟨W.mg_of X G a28, k28, F28.binds (by walk_at "b1")⟩, F29, ⟨W.mg_of X G a29, k29, F29.binds (by walk_at "b1")⟩, F30, ⟨W.mg_of X G a30, k30, F30.binds (by walk_at "b1")⟩, F31, ⟨W.mg_of X G a31, k31, F31.binds (by walk_at "b2")⟩, F32, ⟨W.mg_of X G a32, k32, F32.binds (by walk_at "b1")⟩, F33, ⟨W.mg_of X G a33, k33, F33.binds (by walk_at "b1")⟩, F34, ⟨W.mg_of X G a34, k34, F34.binds (by walk_at "b1")⟩, F35, ⟨W.mg_of X G a35, k35, F35.binds (by walk_at "b1")⟩, ⟨_, W.mg_of X G g0⟩, ⟨_, W.mg_of X G g1⟩, ⟨_, W.mg_of X G g2⟩, ⟨_, W.mg_of X G g3⟩, W.mg_of X G g4, fun H => .inr ⟨_, _, _, q4, rfl, rfl, (by show 7 <= sizeLine; decide), (.cons ⟨_, rfl⟩ (.cons ⟨_, rfl⟩ (.cons ⟨_, rfl⟩ (.cons ⟨_, rfl⟩ (.cons ⟨_, rfl⟩ (.cons ⟨_, rfl⟩ (.cons ⟨_, rfl⟩ .nil)))))))⟩, ⟨_, W.mg_of X G g5⟩, ⟨_, W.mg_of X G g6⟩, W.mg_none_of X G z_ValueError, W.mg_none_of X G z_all, W.mg_none_of X G z_int, W.mg_none_of X G z_isinstance, W.mg_none_of X G z_len, W.mg_none_of X G z_list, W.mg_none_of X G z_range, W.mg_none_of X G z_sorted, W.mg_none_of X G z_str, W.mg_none_of X G z_tuple, zog (W.mg_of X G xa0) xl0 ⟨⟨_, _, _, _, _, xn0, xy0⟩, xp0, xr0, xu0, xv0⟩, zgE (W.mg_of X G xa1) xl1 ⟨⟨_, _, _, _, _, xn1, xy1⟩, xp1, xr1, xu1, xv1⟩ xl0 ⟨⟨_, _, _, _, _, xn0, xy0⟩, xp0, xr0, xu0, xv0⟩, zgE (W.mg_of X G xa2) xl2 ⟨⟨_, _, _, _, _, xn2, xy2⟩, xp2, xr2, xu2, xv2⟩ xl0 ⟨⟨_, _, _, _, _, xn0, xy0⟩, xp0, xr0, xu0, xv0⟩, zgE (W.mg_of X G xa3) xl3 ⟨⟨_, _, _, _, _, xn3, xy3⟩, xp3, xr3, xu3, xv3⟩ xl0 ⟨⟨_, _, _, _, _, xn0, xy0⟩, xp0, xr0, xu0, xv0⟩, zgE (W.mg_of X G xa4) xl4 ⟨⟨_, _, _, _, _, xn4, xy4⟩, xp4, xr4, xu4, xv4⟩ xl0 ⟨⟨_, _, _, _, _, xn0, xy0⟩, xp0, xr0, xu0, xv0⟩, zgE (W.mg_of X G xa5) xl5 ⟨⟨_, _, _, _, _, xn5, xy5⟩, xp5, xr5, xu5, xv5⟩ xl0 ⟨⟨_, _, _, _, _, xn0, xy0⟩, xp0, xr0, xu0, xv0⟩, zgE (W.mg_of X G xa6) xl6 ⟨⟨_, _, _, _, _, xn6, xy6⟩, xp6, xr6, xu6, xv6⟩ xl0 ⟨⟨_, _, _, _, _, xn0, xy0⟩, xp0, xr0, xu0, xv0⟩, zcz xl3 xl3 rfl xm_NoWorld_NoWorld, xi_NoWorld_NoWorld, zcz xl3 xl0 rfl xm_NoWorld_BoxError, xi_NoWorld_BoxError, zcz xl3 xl4 rfl xm_NoWorld_NoBox, xi_NoWorld_NoBox, zcz xl3 xl5 rfl xm_NoWorld_NoLines, xi_NoWorld_NoLines, zcz xl3 xl2 rfl xm_NoWorld_NoName, xi_NoWorld_NoName, zcz xl3 xl1 rfl xm_NoWorld_NoStatement, xi_NoWorld_NoStatement, zcz xl3 xl6 rfl xm_NoWorld_NotShut, xi_NoWorld_NotShut, xi_NoWorld_ValueError⟩
 exact ⟨_, fun s v => .of_eq rfl, fun base _ _ => OK l.prog _ base T⟩
theorem walk {l : W.OpenLaw} {q : Program} {loose : List Str} {XP : (Str -> Option Value) -> Heap -> Prop} {YP : World -> Heap -> Prop} {d : DefRec} {K : Params -> W.Frag} (hn : l.most = some 63) (hdf : d.params.defaults = [])
  (hY : ∀ (w : World) (h : Heap), YP w h -> (K w.params).In h)
  (F : ∀ (w : World) (mg : Str -> Option Value) (fa : Addr) (h : Heap), (K w.params).In h -> h.Ns mainGlobals mg -> mg d.name = some (.ref fa) ->
   ∃ fd : FuncData, (∀ (s : Shared) (u : Value), BindsTo s fd ⟨[u], []⟩ [("_law_script", u)]) /\ ∀ base : Heap, (K w.params).In base -> base.Ns mainGlobals mg -> FnOk l.prog w (K w.params) mg base CX0 9 fa fd ["_law_script"] (zh1 (K w.params))) :
  W.WalkO q loose XP YP l.row.toRowW d [] (fun f vs => PySem.call f vs) :=
 L2.walk_of (n := 63) (k := 9) (x := "_law_script") (CX := fun _ => CX0) (sp := fun w => zh1 (K w.params)) hn δ hdf ⟨rfl,δ,δ, rfl⟩ hY F (fun _ _ a ns hl _ hS => ⟨a, ns, rfl, hS, hl, fun _ => rfl⟩) fun _ _ _ _ _ z => z
end K17
namespace PySem.W.Fast
def tw6048640060491147576 := 0
def tw9713727429794515279 := 0
def tw4652752152133808138 := 0
def tw7123818187554645577 := 0
def tw6136658660500374645 := 0
def tw349498099285306289 := 0
def tw3550197716423300060 := 0
def tw5767054977375418884 := 0
def tw12717081514303859914 := 0
def tw14031362753378747608 := 0
def tw5129431660590499241 := 0
def tw9443041840241524504 := 0
def tw13049500901852947483 := 0
def tw16870934981228062601 := 0
def tw4789613220030295540 := 0
def tw4524540207630656628 := 0
def tw16220021821046183623 := 0
def tw16791748600701259375 := 0
def tw676949393854279673 := 0
def tw8840369363794042171 := 0
def tw10505072008861860635 := 0
def tw17028097768441106954 := 0
def tw5441611839942304312 := 0
def tw9527189607771010435 := 0
def tw11389064470463806720 := 0
def tw5629975713459515202 := 0
def tw453677101631157946 := 0
def tw4746367456047897731 := 0
def tw5399573419479175004 := 0
def tw17801706681598286654 := 0
def tw8277098578380032371 := 0
def tw17500085696513118253 := 0
def tw18121507026978017625 := 0
def tw18136804820340673831 := 0
def tw16141415292489178973 := 0
def tw5064291406822524366 := 0
def tw8763727312796065411 := 0
def tw1877218515755570836 := 0
def tw5701256990867484313 := 0
def tw1138632167576668852 := 0
def tw11690219112964348104 := 0
def tw737799223168845000 := 0
def tw12373251004871495897 := 0
def tw930261178252321651 := 0
def tw8358328710763962581 := 0
def tw12517911429666854380 := 0
def tw3453610098099081763 := 0
def tw10549199541307195776 := 0
def tw13675019496245817326 := 0
def tw13755562933258300186 := 0
def tw18025490293885967718 := 0
def tw10015855213237482017 := 0
def tw10810675508638755566 := 0
def tw15847891573435728402 := 0
def tw17314920388435891786 := 0
def tw950116369955712519 := 0
def tw16417869539046962920 := 0
def tw1529426390962004180 := 0
def tw12954672070541163214 := 0
def tw11094281652197867745 := 0
def tw14143083371139227618 := 0
def tw17340092002549166180 := 0
def tw1163214753788459177 := 0
def tw13935116558155492604 := 0
def tw18079480534154310228 := 0
def tw5067997241660251865 := 0
def tw3781902716114383763 := 0
def tw1389693296664084668 := 0
def tw5706719649652594471 := 0
def tw10219539434416754098 := 0
def tw3556387485261122956 := 0
def tw583305269570841556 := 0
def tw5735631214510233784 := 0
def tw3944171281947662741 := 0
def tw17143857465010934975 := 0
def tw9733043446031907689 := 0
def tw11632381853363196371 := 0
def tw7694657746013200201 := 0
def tw1241506499616071537 := 0
def tw16923431282351269915 := 0
def tw2446741437807083455 := 0
def tw9826686372511296551 := 0
def tw364794464049556724 := 0
def tw16057118842574793355 := 0
def tw11702234200822648560 := 0
def tw16920103948464527937 := 0
def tw17423370847404796254 := 0
def tw17788962742180911290 := 0
def tw9121265138245987245 := 0
def tw8769010104618231136 := 0
def tw11760380429221181362 := 0
def tw4677088984416588948 := 0
def tw17645616752191547288 := 0
def tw11995519034694913594 := 0
def tw14804654235330752976 := 0
def tw12080802570374344929 := 0
def tw16381955167997109264 := 0
def tw7291647202944304529 := 0
def tw13548166176271823790 := 0
def tw8449032282381169220 := 0
def tw2397085983913636230 := 0
def tw11102054633327098489 := 0
def tw9543715943225421986 := 0
def tw16127135535864707985 := 0
def tw6664426570230695056 := 0
def tw5833972812273531720 := 0
def tw6345785760821905699 := 0
def tw6744806157176347231 := 0
def tw11764208807151344057 := 0
def tw8976553849321071347 := 0
def tw13247061434469619767 := 0
def tw16505031167730099540 := 0
def tw15892174474729984788 := 0
def tw7597268899916148107 := 0
def tw16841860544967911627 := 0
def tw16766758079318804383 := 0
def tw15448309049221414682 := 0
def tw17519333466504777066 := 0
def tw1216498605904882792 := 0
def tw10551184255870663232 := 0
def tw1930792637786093652 := 0
def tw14162115696312374206 := 0
def tw46147436741355417 := 0
def tw12047262942865905638 := 0
def tw11371056252047085878 := 0
def tw14831708288876048410 := 0
def tw2614141237713207078 := 0
def tw4342533837527473023 := 0
def tw17530384969726407690 := 0
def tw8903709657132463722 := 0
def tw13319488898074746763 := 0
def tw70201479358195802 := 0
def tw10188134719203697828 := 0
end PySem.W.Fast
open PySem PySem.W PyProof.Rows
set_option maxRecDepth 100000 in
set_option maxHeartbeats 0 in
theorem PySem.Challenge.cw_boxproof_k17_texts_of_worlds_read_holds : PySem.Challenge.rw_boxproof_k17_texts_of_worlds_read.Holds := by
 w_on; o_law; k_head; (case hw => w_witness2)
 k_fill
 refine K17.walk (l := PySem.Challenge.rw_boxproof_k17_texts_of_worlds_read) rfl rfl (fun w h Y => W.kIn_of Y) ?F
 case F =>
  intro w mg fa h KX G hmg;refine' K17.all_mk KX G hmg ?Xa0 ?Xl0 ?Xc0 ?Xk0 ?Xa1 ?Xl1 ?Xc1 ?Xk1 ?Xa2 ?Xl2 ?Xc2 ?Xk2 ?Xa3 ?Xl3 ?Xc3 ?Xk3 ?Xa4 ?Xl4 ?Xc4 ?Xk4 ?Xa5 ?Xl5 ?Xc5 ?Xk5 ?Xa6 ?Xl6 ?Xc6 ?Xk6 ?Xa7 ?Xl7 ?Xc7 ?Xk7 ?Xa8 ?Xl8 ?Xc8 ?Xk8 ?Xa9 ?Xl9 ?Xc9 ?Xk9 ?Xa10 ?Xl10 ?Xc10 ?Xk10 ?Xa11 ?Xl11 ?Xc11 ?Xk11 ?Xa12 ?Xl12 ?Xc12 ?Xk12 ?Xa13 ?Xl13 ?Xc13 ?Xk13 ?Xa14 ?Xl14 ?Xc14 ?Xk14 ?Xa15 ?Xl15 ?Xc15 ?Xk15 ?Xa16 ?Xl16 ?Xc16 ?Xk16 ?Xa17 ?Xl17 ?Xc17 ?Xk17 ?Xa18 ?Xl18 ?Xc18 ?Xk18 ?Xa19 ?Xl19 ?Xc19 ?Xk19 ?Xa20 ?Xl20 ?Xc20 ?Xk20 ?Xa21 ?Xl21 ?Xc21 ?Xk21 ?Xa22 ?Xl22 ?Xc22 ?Xk22 ?Xa23 ?Xl23 ?Xc23 ?Xk23 ?Xa24 ?Xl24 ?Xc24 ?Xk24 ?Xa25 ?Xl25 ?Xc25 ?Xk25 ?Xa26 ?Xl26 ?Xc26 ?Xk26 ?Xa27 ?Xl27 ?Xc27 ?Xk27 ?Xa28 ?Xl28 ?Xc28 ?Xk28 ?Xa29 ?Xl29 ?Xc29 ?Xk29 ?Xa30 ?Xl30 ?Xc30 ?Xk30 ?Xa31 ?Xl31 ?Xc31 ?Xk31 ?Xa32 ?Xl32 ?Xc32 ?Xk32 ?Xa33 ?Xl33 ?Xc33 ?Xk33 ?Xa34 ?Xl34 ?Xc34 ?Xk34 ?Xa35 ?Xl35 ?Xc35 ?Xk35 ?Xg0 ?Xg1 ?Xg2 ?Xg3 ?Xg4 ?Xq4 ?Xg5 ?Xg6 ?Xxa0 ?Xxl0 ?Xxn0 ?Xxy0 ?Xxp0 ?Xxr0 ?Xxu0 ?Xxv0 ?Xxa1 ?Xxl1 ?Xxn1 ?Xxy1 ?Xxp1 ?Xxr1 ?Xxu1 ?Xxv1 ?Xxa2 ?Xxl2 ?Xxn2 ?Xxy2 ?Xxp2 ?Xxr2 ?Xxu2 ?Xxv2 ?Xxa3 ?Xxl3 ?Xxn3 ?Xxy3 ?Xxp3 ?Xxr3 ?Xxu3 ?Xxv3 ?Xxa4 ?Xxl4 ?Xxn4 ?Xxy4 ?Xxp4 ?Xxr4 ?Xxu4 ?Xxv4 ?Xxa5 ?Xxl5 ?Xxn5 ?Xxy5 ?Xxp5 ?Xxr5 ?Xxu5 ?Xxv5 ?Xxa6 ?Xxl6 ?Xxn6 ?Xxy6 ?Xxp6 ?Xxr6 ?Xxu6 ?Xxv6 ?Xxm_NoWorld_NoWorld ?Xxi_NoWorld_NoWorld ?Xxm_NoWorld_BoxError ?Xxi_NoWorld_BoxError ?Xxm_NoWorld_NoBox ?Xxi_NoWorld_NoBox ?Xxm_NoWorld_NoLines ?Xxi_NoWorld_NoLines ?Xxm_NoWorld_NoName ?Xxi_NoWorld_NoName ?Xxm_NoWorld_NoStatement ?Xxi_NoWorld_NoStatement ?Xxm_NoWorld_NotShut ?Xxi_NoWorld_NotShut ?Xxi_NoWorld_ValueError ?Xz_ValueError ?Xz_all ?Xz_int ?Xz_isinstance ?Xz_len ?Xz_list ?Xz_range ?Xz_sorted ?Xz_str ?Xz_tuple ?XOK
  case Xa0|Xa1|Xa2|Xa3|Xa4|Xa5|Xa6|Xa7|Xa8|Xa9|Xa10|Xa11|Xa12|Xa13|Xa14|Xa15|Xa16|Xa17|Xa18|Xa19|Xa20|Xa21|Xa22|Xa23|Xa24|Xa25|Xa26|Xa27|Xa28|Xa29|Xa30|Xa31|Xa32|Xa33|Xa34|Xa35=>(unfold K17.NI;k_is)
  case Xl0|Xl1|Xl2|Xl3|Xl4|Xl5|Xl6|Xl7|Xl8|Xl9|Xl10|Xl11|Xl12|Xl13|Xl14|Xl15|Xl16|Xl17|Xl18|Xl19|Xl20|Xl21|Xl22|Xl23|Xl24|Xl25|Xl26|Xl27|Xl28|Xl29|Xl30|Xl31|Xl32|Xl33|Xl34|Xl35=>(unfold K17.LK;k_is)
  case Xc0|Xc1|Xc2|Xc3|Xc4|Xc5|Xc6|Xc7|Xc8|Xc9|Xc10|Xc11|Xc12|Xc13|Xc14|Xc15|Xc16|Xc17|Xc18|Xc19|Xc20|Xc21|Xc22|Xc23|Xc24|Xc25|Xc26|Xc27|Xc28|Xc29|Xc30|Xc31|Xc32|Xc33|Xc34|Xc35=>(unfold K17.CI;k_is)
  case Xk0|Xk1|Xk2|Xk3|Xk4|Xk5|Xk6|Xk7|Xk8|Xk9|Xk10|Xk11|Xk12|Xk13|Xk14|Xk15|Xk16|Xk17|Xk18|Xk19|Xk20|Xk21|Xk22|Xk23|Xk24|Xk25|Xk26|Xk27|Xk28|Xk29|Xk30|Xk31|Xk32|Xk33|Xk34|Xk35=>(unfold K17.KI;k_is)
  case Xg0|Xg1|Xg2|Xg3|Xg4|Xg5|Xg6|Xxa0|Xxl0|Xxn0|Xxp0|Xxr0|Xxu0|Xxv0|Xxa1|Xxl1|Xxn1|Xxp1|Xxr1|Xxu1|Xxv1|Xxa2|Xxl2|Xxn2|Xxp2|Xxr2|Xxu2|Xxv2|Xxa3|Xxl3|Xxn3|Xxp3|Xxr3|Xxu3|Xxv3|Xxa4|Xxl4|Xxn4|Xxp4|Xxr4|Xxu4|Xxv4|Xxa5|Xxl5|Xxn5|Xxp5|Xxr5|Xxu5|Xxv5|Xxa6|Xxl6|Xxn6|Xxp6|Xxr6|Xxu6|Xxv6|Xxm_NoWorld_NoWorld|Xxm_NoWorld_BoxError|Xxm_NoWorld_NoBox|Xxm_NoWorld_NoLines|Xxm_NoWorld_NoName|Xxm_NoWorld_NoStatement|Xxm_NoWorld_NotShut|Xz_ValueError|Xz_all|Xz_int|Xz_isinstance|Xz_len|Xz_list|Xz_range|Xz_sorted|Xz_str|Xz_tuple=>k_is
  case Xq4=>(unfold K17.TL;k_is)
  (case Xxy0 => rfl)
  (case Xxy1 => rfl)
  (case Xxy2 => rfl)
  (case Xxy3 => rfl)
  (case Xxy4 => rfl)
  (case Xxy5 => rfl)
  (case Xxy6 => rfl)
  (case Xxi_NoWorld_NoWorld => kit_is)
  (case Xxi_NoWorld_BoxError => kit_is)
  (case Xxi_NoWorld_NoBox => kit_is)
  (case Xxi_NoWorld_NoLines => kit_is)
  (case Xxi_NoWorld_NoName => kit_is)
  (case Xxi_NoWorld_NoStatement => kit_is)
  (case Xxi_NoWorld_NotShut => kit_is)
  (case Xxi_NoWorld_ValueError => kit_is)
  case XOK => exact fun P D base T => K17.ok_law T
#print axioms PySem.Challenge.cw_boxproof_k17_texts_of_worlds_read_holds